/-
 Proved: the law RxTells of glosslaw4 returns true for every expression as it lies in memory, every two rows of numbers and every two bools, and leaves them as they were (P4.1, P4.2). The tied card, no condition.
-/
import Derived.Test.YtikmgckefbjbkaaGreatDoorM6
import Derived.Test.YtikmgckefbjbkaaGreatDoorM5
import Derived.Deep.CutBlock
import Derived.Test.YtikmgckefbjbkaaGreatDoorM3
import Derived.ProofKit
import Derived.OpenShut
import Derived.ChangeSame
import Derived.Test.YtikmgckefbjbkaaGreatDoorRows
import Derived.Test.YtikmgckefbjbkaaGreatDoorChecked
import Derived.HandedShaped
import Derived.Shelf.Vars
import Derived.LaidMore
import Derived.LaidHandle
import Derived.LaidLaws
import Derived.Stop.Joined
import Derived.Test.YtikmgckefbjbkaaGreatDoorTie
import Derived.Test.YtikmgckefbjbkaaGreatDoorCards
import Derived.Below
import Derived.WalkKit
import Derived.ShutString
import Derived.ChangeOld
import Derived.SevenTiedAt

/-! ### RefAnc -/

namespace Go.Proofs.YtikmgckefbjbkaaGreatDoor
open Go.RowKit Go.Proofs.YtikmgckefbjbkaaGreatDoor.Ref

structure AnchSaid (r : Rx) : Prop where
 all : ∀ (first last : Bool) (ok : Nat → Prop) (v : Value) (w : World), Is w ok r v → Calls Tryz.prog 31 #[v, .bool first, .bool last] w fun e w' => e = .returned (.bool (anch r first last)) ∧ Kp w w'

set_option maxHeartbeats 2000000 in
set_option maxRecDepth 100000 in
theorem Anch_step (k mn mx m : Int) (t : W4) (kids : List Rx) (H : ∀ r, r ∈ kids → AnchSaid r) (hS : kids.length ≤ 1000000) : AnchSaid (.mk k mn mx m t kids) := by
 refine ⟨fun first last ok v w hI => ?_⟩
 obtain ⟨ad, l, c, rfl, hr⟩ := hI.row
 have hle := hr.ln
 have hlc := hr.cp
 subst hle
 obtain ⟨L, hL⟩ : ∃ L, kids.length = L := ⟨_, rfl⟩
 rw [hL] at hr hlc hS ⊢
 have HL := hid hL
 have RR := hid hr
 have HH := hid H
 clear hI hr H hL
 obtain ⟨G, hG⟩ : ∃ G, anch (.mk k mn mx m t kids) first last = G := ⟨_, rfl⟩
 rw [hG]
 have HG := hid hG
 clear hG
 go_enter Tryz.func31, Tryz.ntmps31
 go_upto_region 1 with fail
 refine opq (fun W0 => W0.heap[w.heap.size]? = some (rxo k mn mx m t (.slice ad L c)) ∧ Kp w W0 ∧ RowAt W0 ok kids ad L c) ⟨by (first | exact last_at _ _ _ (by simp) | (refine bl_alloc ?_ _; first | exact last_at _ _ _ (by simp) | (refine bl_alloc ?_ _; first | exact last_at _ _ _ (by simp) | (refine bl_alloc ?_ _; exact last_at _ _ _ (by simp))))), by exact (by repeat (first | exact Kp.refl _ | refine Kp.alloc ?_ _ | refine Kp.drew ?_ | refine Kp.drewN _ ?_)), by exact RR.out.kp (by repeat (first | exact Kp.refl _ | refine Kp.alloc ?_ _ | refine Kp.drew ?_ | refine Kp.drewN _ ?_))⟩ ?_
 rintro W0 ⟨xA0, xK0, xR0⟩
 have A0 : Hid (W0.heap[w.heap.size]? = some (rxo k mn mx m t (.slice ad L c))) := xA0
 have K0 : Hid (Kp w W0) := xK0
 have R0 : Hid (RowAt W0 ok kids ad L c) := xR0
 clear xA0 xK0 xR0
 clear RR
 obtain ⟨a0, a1, a2, a3, a4, a5, a6, a7, a8⟩ := cells9c A0.out
 by_cases k7 : k = 7
 ·
  subst k7
  have E : Hid (G = first) := by show _ = _; rw [← HG.out, anch]; rfl
  go_wp2_with fail
  go_ret
  exact ⟨by rw [E.out]; rfl, K0.out⟩
 have k7b : (k == 7) = false := by simp [k7]
 by_cases k8 : k = 8
 ·
  subst k8
  have E : Hid (G = last) := by show _ = _; rw [← HG.out, anch]; rfl
  go_wp2_with fail
  go_ret
  exact ⟨by rw [E.out]; rfl, K0.out⟩
 have k8b : (k == 8) = false := by simp [k8]
 by_cases k5 : k = 5
 ·
  subst k5
  by_cases h1 : L = 1
  ·
   subst h1
   obtain ⟨r, hr⟩ : ∃ r, kids = [r] := by
    have := HL.out
    match kids, this with
    | [r], _ => exact ⟨r, rfl⟩
   subst hr
   have HE : Hid (anch r true true = G) := by show _ = _; rw [← HG.out, anch]; simp [anchG]
   obtain ⟨bb, oo, kk, mn', mx', mm, tt, ad', ll, cc, e1, hbb, i1, ce1⟩ := R0.out.at 0 r rfl
   subst e1
   have TS := hid (HH.out r List.mem_cons_self).all
   have I1 := hid i1
   rw [Nat.zero_mul, Nat.add_zero] at ce1
   have CE1 := hid ce1
   clear i1 ce1
   obtain ⟨x0, x1, x2, x3, x4, x5, x6, x7, x8⟩ := cells_of_is CE1.out
   go_wp2_with fail
   refine (TS.out true true ok _ _ I1.out).mono ?_
   rintro e W2 ⟨rfl, k2⟩
   have K2 := hid (K0.out.trans k2)
   clear k2
   rw [HE.out]
   go_wp2_with fail
   go_ret
   exact ⟨rfl, K2.out⟩
  ·
   have h1b : ((L : Int) == 1) = false := by rw [beq_eq_false_iff_ne]; omega
   have h1c : ¬ (L : Int) = 1 := by omega
   have E : Hid (G = false) := by
    show _ = _
    rw [← HG.out, anch]
    have := HL.out
    match kids, this with
    | [], _ => rfl
    | [r], e => exact absurd e (by simp; omega)
    | a :: b :: l, _ => rfl
   go_wp2_with fail
   go_ret
   exact ⟨by rw [E.out]; rfl, K0.out⟩
 have k5b : (k == 5) = false := by simp [k5]
 have HE : Hid (anchL (k == 2) first last kids true = G) := by show _ = _; rw [← HG.out, anch, if_neg k7, if_neg k8, if_neg k5]
 go_wp2_with fail
 clear a0 a1 a2 a3 a4 a5 a6 a7 a8
 go_loopg [33] L (fun gg i wr => ∃ q : Nat, q + gg = L ∧ i = .int .i64 (q : Int) ∧ anchL (k == 2) first last (kids.drop q) (decide (q = 0)) = G ∧ Kp W0 wr)
 case atStart => exact ⟨0, by omega, rfl, by rw [List.drop_zero]; exact HE.out, Kp.refl _⟩
 case round =>
  obtain ⟨q, hq, rfl, hA, hK⟩ := hrel
  have HA := hid hA
  have K := hid hK
  clear hA hK
  by_cases hlt : q < L
  ·
   have gkw : IntKind.i64.wrap ((q : Int) + 1) = (q : Int) + 1 := by rw [IntKind.wrap_i64]; omega
   have ga : (q : Int) < (L : Int) := by omega
   have g0 : (0 : Int) ≤ (q : Int) := by omega
   obtain ⟨r, hr⟩ : ∃ r, kids[q]? = some r := ⟨_, List.getElem?_eq_getElem (by rw [HL.out]; exact hlt)⟩
   obtain ⟨bb, oo, kk, mn', mx', mm, tt, ad', ll, cc, e1, hbb, i1, ce1⟩ := (R0.out.kp K.out).at q r hr
   subst e1
   have TS := hid (HH.out r (List.mem_of_getElem? hr)).all
   have HRQ := hid hr
   have I1 := hid i1
   have CE1 := hid ce1
   clear hr i1 ce1
   obtain ⟨x0, x1, x2, x3, x4, x5, x6, x7, x8⟩ := cells_of_is CE1.out
   go_upto_region 11 with fail
   clear x0 x1 x2 x3 x4 x5 x6 x7 x8
   refine opq (fun W => W.heap[wr.heap.size]? = some (rxo kk mn' mx' mm tt (.slice ad' ll cc)) ∧ Kp wr W) ⟨by exact last_at _ _ _ (by simp), by exact (Kp.refl _).alloc _⟩ ?_
   rintro W1 ⟨y1, y2⟩
   have A1 := hid y1
   have K1 := hid y2
   clear y1 y2
   have HX : Hid (G = (anch r (first && decide (q = 0) && (k == 2)) (last && decide (q + 1 = L) && (k == 2)) && anchL (k == 2) first last (kids.drop (q + 1)) (decide (q + 1 = 0)))) := by
    show _ = _
    rw [← HA.out, List.drop_eq_getElem_cons (by rw [HL.out]; exact hlt), anchL, (List.getElem?_eq_some_iff.1 HRQ.out).2]
    have e1 : (kids.drop (q + 1)).isEmpty = decide (q + 1 = L) := by
     rw [Bool.eq_iff_iff, List.isEmpty_iff, List.drop_eq_nil_iff, HL.out, decide_eq_true_eq]
     omega
    rw [e1, show decide (q + 1 = 0) = false from decide_eq_false (by omega)]
   by_cases hk2 : k = 2
   ·
    subst hk2
    cases first with
    | false =>
     cases last with
     | false =>
      have HX2 : Hid (G = (anch r false false && anchL true false false (kids.drop (q + 1)) (decide (q + 1 = 0)))) := by
       show _ = _
       have h := HX.out
       simpa using h
      clear HX
      obtain ⟨a0, a1, a2, a3, a4, a5, a6, a7, a8⟩ := cells9c A1.out
      have z0 := bl_cell (bl_kp (bl_kp A0.out K.out) K1.out) 0 _ rfl
      have z1 := bl_cell (bl_kp (bl_kp A0.out K.out) K1.out) 1 _ rfl
      have z2 := bl_cell (bl_kp (bl_kp A0.out K.out) K1.out) 2 _ rfl
      have z3 := bl_cell (bl_kp (bl_kp A0.out K.out) K1.out) 3 _ rfl
      have z4 := bl_cell (bl_kp (bl_kp A0.out K.out) K1.out) 4 _ rfl
      have z5 := bl_cell (bl_kp (bl_kp A0.out K.out) K1.out) 5 _ rfl
      have z6 := bl_cell (bl_kp (bl_kp A0.out K.out) K1.out) 6 _ rfl
      have z7 := bl_cell (bl_kp (bl_kp A0.out K.out) K1.out) 7 _ rfl
      have z8 := bl_cell (bl_kp (bl_kp A0.out K.out) K1.out) 8 _ rfl
      go_wp2_with fail
      clear a0 a1 a2 a3 a4 a5 a6 a7 a8
      clear z0 z1 z2 z3 z4 z5 z6 z7 z8
      refine (TS.out false false ok _ _ (I1.out.kp K1.out)).mono ?_
      rintro e W2 ⟨rfl, k2'⟩
      have K2 := hid (K.out.trans (K1.out.trans k2'))
      clear k2'
      cases hv : anch r false false with
      | false =>
       have E : Hid (G = false) := by show _ = _; rw [HX2.out, hv]; rfl
       go_wp2_with fail
       go_ret
       exact ⟨by rw [E.out]; rfl, K0.out.trans K2.out⟩
      | true =>
       have E : Hid (anchL true false false (kids.drop (q + 1)) (decide (q + 1 = 0)) = G) := by show _ = _; rw [HX2.out, hv, Bool.true_and]
       go_wp2_with fail
       go_roundg (gk - 1)
       case measure => omega
       case rel => exact ⟨q + 1, by omega, by go_num, E.out, K2.out⟩
     | true =>
      by_cases hqL : q + 1 = L
      ·
       have lw : IntKind.i64.wrap ((L : Int) - 1) = (L : Int) - 1 := by rw [IntKind.wrap_i64]; omega
       have qLi : ((q : Int) == (L : Int) - 1) = true := by rw [beq_iff_eq]; omega
       have HX2 : Hid (G = (anch r false true && anchL true false true (kids.drop (q + 1)) (decide (q + 1 = 0)))) := by
        show _ = _
        have h := HX.out
        rw [show decide (q + 1 = L) = true from decide_eq_true hqL] at h
        simpa using h
       clear HX
       obtain ⟨a0, a1, a2, a3, a4, a5, a6, a7, a8⟩ := cells9c A1.out
       have z0 := bl_cell (bl_kp (bl_kp A0.out K.out) K1.out) 0 _ rfl
       have z1 := bl_cell (bl_kp (bl_kp A0.out K.out) K1.out) 1 _ rfl
       have z2 := bl_cell (bl_kp (bl_kp A0.out K.out) K1.out) 2 _ rfl
       have z3 := bl_cell (bl_kp (bl_kp A0.out K.out) K1.out) 3 _ rfl
       have z4 := bl_cell (bl_kp (bl_kp A0.out K.out) K1.out) 4 _ rfl
       have z5 := bl_cell (bl_kp (bl_kp A0.out K.out) K1.out) 5 _ rfl
       have z6 := bl_cell (bl_kp (bl_kp A0.out K.out) K1.out) 6 _ rfl
       have z7 := bl_cell (bl_kp (bl_kp A0.out K.out) K1.out) 7 _ rfl
       have z8 := bl_cell (bl_kp (bl_kp A0.out K.out) K1.out) 8 _ rfl
       go_wp2_with fail
       clear a0 a1 a2 a3 a4 a5 a6 a7 a8
       clear z0 z1 z2 z3 z4 z5 z6 z7 z8
       refine (TS.out false true ok _ _ (I1.out.kp K1.out)).mono ?_
       rintro e W2 ⟨rfl, k2'⟩
       have K2 := hid (K.out.trans (K1.out.trans k2'))
       clear k2'
       cases hv : anch r false true with
       | false =>
        have E : Hid (G = false) := by show _ = _; rw [HX2.out, hv]; rfl
        go_wp2_with fail
        go_ret
        exact ⟨by rw [E.out]; rfl, K0.out.trans K2.out⟩
       | true =>
        have E : Hid (anchL true false true (kids.drop (q + 1)) (decide (q + 1 = 0)) = G) := by show _ = _; rw [HX2.out, hv, Bool.true_and]
        go_wp2_with fail
        go_roundg (gk - 1)
        case measure => omega
        case rel => exact ⟨q + 1, by omega, by go_num, E.out, K2.out⟩
      ·
       have lw : IntKind.i64.wrap ((L : Int) - 1) = (L : Int) - 1 := by rw [IntKind.wrap_i64]; omega
       have qLi : ((q : Int) == (L : Int) - 1) = false := by rw [beq_eq_false_iff_ne]; omega
       have qLj : ¬ (q : Int) = (L : Int) - 1 := by omega
       have HX2 : Hid (G = (anch r false false && anchL true false true (kids.drop (q + 1)) (decide (q + 1 = 0)))) := by
        show _ = _
        have h := HX.out
        rw [show decide (q + 1 = L) = false from decide_eq_false hqL] at h
        simpa using h
       clear HX
       obtain ⟨a0, a1, a2, a3, a4, a5, a6, a7, a8⟩ := cells9c A1.out
       have z0 := bl_cell (bl_kp (bl_kp A0.out K.out) K1.out) 0 _ rfl
       have z1 := bl_cell (bl_kp (bl_kp A0.out K.out) K1.out) 1 _ rfl
       have z2 := bl_cell (bl_kp (bl_kp A0.out K.out) K1.out) 2 _ rfl
       have z3 := bl_cell (bl_kp (bl_kp A0.out K.out) K1.out) 3 _ rfl
       have z4 := bl_cell (bl_kp (bl_kp A0.out K.out) K1.out) 4 _ rfl
       have z5 := bl_cell (bl_kp (bl_kp A0.out K.out) K1.out) 5 _ rfl
       have z6 := bl_cell (bl_kp (bl_kp A0.out K.out) K1.out) 6 _ rfl
       have z7 := bl_cell (bl_kp (bl_kp A0.out K.out) K1.out) 7 _ rfl
       have z8 := bl_cell (bl_kp (bl_kp A0.out K.out) K1.out) 8 _ rfl
       go_wp2_with fail
       clear a0 a1 a2 a3 a4 a5 a6 a7 a8
       clear z0 z1 z2 z3 z4 z5 z6 z7 z8
       refine (TS.out false false ok _ _ (I1.out.kp K1.out)).mono ?_
       rintro e W2 ⟨rfl, k2'⟩
       have K2 := hid (K.out.trans (K1.out.trans k2'))
       clear k2'
       cases hv : anch r false false with
       | false =>
        have E : Hid (G = false) := by show _ = _; rw [HX2.out, hv]; rfl
        go_wp2_with fail
        go_ret
        exact ⟨by rw [E.out]; rfl, K0.out.trans K2.out⟩
       | true =>
        have E : Hid (anchL true false true (kids.drop (q + 1)) (decide (q + 1 = 0)) = G) := by show _ = _; rw [HX2.out, hv, Bool.true_and]
        go_wp2_with fail
        go_roundg (gk - 1)
        case measure => omega
        case rel => exact ⟨q + 1, by omega, by go_num, E.out, K2.out⟩
    | true =>
     by_cases hq0 : q = 0
     ·
      cases last with
      | false =>
       have q0i : ((q : Int) == 0) = true := by simp [hq0]
       have q0j : (q : Int) = 0 := by omega
       have HX2 : Hid (G = (anch r true false && anchL true true false (kids.drop (q + 1)) (decide (q + 1 = 0)))) := by
        show _ = _
        have h := HX.out
        rw [show decide (q = 0) = true from decide_eq_true hq0] at h
        simpa using h
       clear HX
       obtain ⟨a0, a1, a2, a3, a4, a5, a6, a7, a8⟩ := cells9c A1.out
       have z0 := bl_cell (bl_kp (bl_kp A0.out K.out) K1.out) 0 _ rfl
       have z1 := bl_cell (bl_kp (bl_kp A0.out K.out) K1.out) 1 _ rfl
       have z2 := bl_cell (bl_kp (bl_kp A0.out K.out) K1.out) 2 _ rfl
       have z3 := bl_cell (bl_kp (bl_kp A0.out K.out) K1.out) 3 _ rfl
       have z4 := bl_cell (bl_kp (bl_kp A0.out K.out) K1.out) 4 _ rfl
       have z5 := bl_cell (bl_kp (bl_kp A0.out K.out) K1.out) 5 _ rfl
       have z6 := bl_cell (bl_kp (bl_kp A0.out K.out) K1.out) 6 _ rfl
       have z7 := bl_cell (bl_kp (bl_kp A0.out K.out) K1.out) 7 _ rfl
       have z8 := bl_cell (bl_kp (bl_kp A0.out K.out) K1.out) 8 _ rfl
       go_wp2_with fail
       clear a0 a1 a2 a3 a4 a5 a6 a7 a8
       clear z0 z1 z2 z3 z4 z5 z6 z7 z8
       refine (TS.out true false ok _ _ (I1.out.kp K1.out)).mono ?_
       rintro e W2 ⟨rfl, k2'⟩
       have K2 := hid (K.out.trans (K1.out.trans k2'))
       clear k2'
       cases hv : anch r true false with
       | false =>
        have E : Hid (G = false) := by show _ = _; rw [HX2.out, hv]; rfl
        go_wp2_with fail
        go_ret
        exact ⟨by rw [E.out]; rfl, K0.out.trans K2.out⟩
       | true =>
        have E : Hid (anchL true true false (kids.drop (q + 1)) (decide (q + 1 = 0)) = G) := by show _ = _; rw [HX2.out, hv, Bool.true_and]
        go_wp2_with fail
        go_roundg (gk - 1)
        case measure => omega
        case rel => exact ⟨q + 1, by omega, by go_num, E.out, K2.out⟩
      | true =>
       by_cases hqL : q + 1 = L
       ·
        have q0i : ((q : Int) == 0) = true := by simp [hq0]
        have q0j : (q : Int) = 0 := by omega
        have lw : IntKind.i64.wrap ((L : Int) - 1) = (L : Int) - 1 := by rw [IntKind.wrap_i64]; omega
        have qLi : ((q : Int) == (L : Int) - 1) = true := by rw [beq_iff_eq]; omega
        have HX2 : Hid (G = (anch r true true && anchL true true true (kids.drop (q + 1)) (decide (q + 1 = 0)))) := by
         show _ = _
         have h := HX.out
         rw [show decide (q = 0) = true from decide_eq_true hq0] at h
         rw [show decide (q + 1 = L) = true from decide_eq_true hqL] at h
         simpa using h
        clear HX
        obtain ⟨a0, a1, a2, a3, a4, a5, a6, a7, a8⟩ := cells9c A1.out
        have z0 := bl_cell (bl_kp (bl_kp A0.out K.out) K1.out) 0 _ rfl
        have z1 := bl_cell (bl_kp (bl_kp A0.out K.out) K1.out) 1 _ rfl
        have z2 := bl_cell (bl_kp (bl_kp A0.out K.out) K1.out) 2 _ rfl
        have z3 := bl_cell (bl_kp (bl_kp A0.out K.out) K1.out) 3 _ rfl
        have z4 := bl_cell (bl_kp (bl_kp A0.out K.out) K1.out) 4 _ rfl
        have z5 := bl_cell (bl_kp (bl_kp A0.out K.out) K1.out) 5 _ rfl
        have z6 := bl_cell (bl_kp (bl_kp A0.out K.out) K1.out) 6 _ rfl
        have z7 := bl_cell (bl_kp (bl_kp A0.out K.out) K1.out) 7 _ rfl
        have z8 := bl_cell (bl_kp (bl_kp A0.out K.out) K1.out) 8 _ rfl
        go_wp2_with fail
        clear a0 a1 a2 a3 a4 a5 a6 a7 a8
        clear z0 z1 z2 z3 z4 z5 z6 z7 z8
        refine (TS.out true true ok _ _ (I1.out.kp K1.out)).mono ?_
        rintro e W2 ⟨rfl, k2'⟩
        have K2 := hid (K.out.trans (K1.out.trans k2'))
        clear k2'
        cases hv : anch r true true with
        | false =>
         have E : Hid (G = false) := by show _ = _; rw [HX2.out, hv]; rfl
         go_wp2_with fail
         go_ret
         exact ⟨by rw [E.out]; rfl, K0.out.trans K2.out⟩
        | true =>
         have E : Hid (anchL true true true (kids.drop (q + 1)) (decide (q + 1 = 0)) = G) := by show _ = _; rw [HX2.out, hv, Bool.true_and]
         go_wp2_with fail
         go_roundg (gk - 1)
         case measure => omega
         case rel => exact ⟨q + 1, by omega, by go_num, E.out, K2.out⟩
       ·
        have q0i : ((q : Int) == 0) = true := by simp [hq0]
        have q0j : (q : Int) = 0 := by omega
        have lw : IntKind.i64.wrap ((L : Int) - 1) = (L : Int) - 1 := by rw [IntKind.wrap_i64]; omega
        have qLi : ((q : Int) == (L : Int) - 1) = false := by rw [beq_eq_false_iff_ne]; omega
        have qLj : ¬ (q : Int) = (L : Int) - 1 := by omega
        have HX2 : Hid (G = (anch r true false && anchL true true true (kids.drop (q + 1)) (decide (q + 1 = 0)))) := by
         show _ = _
         have h := HX.out
         rw [show decide (q = 0) = true from decide_eq_true hq0] at h
         rw [show decide (q + 1 = L) = false from decide_eq_false hqL] at h
         simpa using h
        clear HX
        obtain ⟨a0, a1, a2, a3, a4, a5, a6, a7, a8⟩ := cells9c A1.out
        have z0 := bl_cell (bl_kp (bl_kp A0.out K.out) K1.out) 0 _ rfl
        have z1 := bl_cell (bl_kp (bl_kp A0.out K.out) K1.out) 1 _ rfl
        have z2 := bl_cell (bl_kp (bl_kp A0.out K.out) K1.out) 2 _ rfl
        have z3 := bl_cell (bl_kp (bl_kp A0.out K.out) K1.out) 3 _ rfl
        have z4 := bl_cell (bl_kp (bl_kp A0.out K.out) K1.out) 4 _ rfl
        have z5 := bl_cell (bl_kp (bl_kp A0.out K.out) K1.out) 5 _ rfl
        have z6 := bl_cell (bl_kp (bl_kp A0.out K.out) K1.out) 6 _ rfl
        have z7 := bl_cell (bl_kp (bl_kp A0.out K.out) K1.out) 7 _ rfl
        have z8 := bl_cell (bl_kp (bl_kp A0.out K.out) K1.out) 8 _ rfl
        go_wp2_with fail
        clear a0 a1 a2 a3 a4 a5 a6 a7 a8
        clear z0 z1 z2 z3 z4 z5 z6 z7 z8
        refine (TS.out true false ok _ _ (I1.out.kp K1.out)).mono ?_
        rintro e W2 ⟨rfl, k2'⟩
        have K2 := hid (K.out.trans (K1.out.trans k2'))
        clear k2'
        cases hv : anch r true false with
        | false =>
         have E : Hid (G = false) := by show _ = _; rw [HX2.out, hv]; rfl
         go_wp2_with fail
         go_ret
         exact ⟨by rw [E.out]; rfl, K0.out.trans K2.out⟩
        | true =>
         have E : Hid (anchL true true true (kids.drop (q + 1)) (decide (q + 1 = 0)) = G) := by show _ = _; rw [HX2.out, hv, Bool.true_and]
         go_wp2_with fail
         go_roundg (gk - 1)
         case measure => omega
         case rel => exact ⟨q + 1, by omega, by go_num, E.out, K2.out⟩
     ·
      cases last with
      | false =>
       have q0i : ((q : Int) == 0) = false := by simp [hq0]
       have q0j : ¬ (q : Int) = 0 := by omega
       have HX2 : Hid (G = (anch r false false && anchL true true false (kids.drop (q + 1)) (decide (q + 1 = 0)))) := by
        show _ = _
        have h := HX.out
        rw [show decide (q = 0) = false from decide_eq_false hq0] at h
        simpa using h
       clear HX
       obtain ⟨a0, a1, a2, a3, a4, a5, a6, a7, a8⟩ := cells9c A1.out
       have z0 := bl_cell (bl_kp (bl_kp A0.out K.out) K1.out) 0 _ rfl
       have z1 := bl_cell (bl_kp (bl_kp A0.out K.out) K1.out) 1 _ rfl
       have z2 := bl_cell (bl_kp (bl_kp A0.out K.out) K1.out) 2 _ rfl
       have z3 := bl_cell (bl_kp (bl_kp A0.out K.out) K1.out) 3 _ rfl
       have z4 := bl_cell (bl_kp (bl_kp A0.out K.out) K1.out) 4 _ rfl
       have z5 := bl_cell (bl_kp (bl_kp A0.out K.out) K1.out) 5 _ rfl
       have z6 := bl_cell (bl_kp (bl_kp A0.out K.out) K1.out) 6 _ rfl
       have z7 := bl_cell (bl_kp (bl_kp A0.out K.out) K1.out) 7 _ rfl
       have z8 := bl_cell (bl_kp (bl_kp A0.out K.out) K1.out) 8 _ rfl
       go_wp2_with fail
       clear a0 a1 a2 a3 a4 a5 a6 a7 a8
       clear z0 z1 z2 z3 z4 z5 z6 z7 z8
       refine (TS.out false false ok _ _ (I1.out.kp K1.out)).mono ?_
       rintro e W2 ⟨rfl, k2'⟩
       have K2 := hid (K.out.trans (K1.out.trans k2'))
       clear k2'
       cases hv : anch r false false with
       | false =>
        have E : Hid (G = false) := by show _ = _; rw [HX2.out, hv]; rfl
        go_wp2_with fail
        go_ret
        exact ⟨by rw [E.out]; rfl, K0.out.trans K2.out⟩
       | true =>
        have E : Hid (anchL true true false (kids.drop (q + 1)) (decide (q + 1 = 0)) = G) := by show _ = _; rw [HX2.out, hv, Bool.true_and]
        go_wp2_with fail
        go_roundg (gk - 1)
        case measure => omega
        case rel => exact ⟨q + 1, by omega, by go_num, E.out, K2.out⟩
      | true =>
       by_cases hqL : q + 1 = L
       ·
        have q0i : ((q : Int) == 0) = false := by simp [hq0]
        have q0j : ¬ (q : Int) = 0 := by omega
        have lw : IntKind.i64.wrap ((L : Int) - 1) = (L : Int) - 1 := by rw [IntKind.wrap_i64]; omega
        have qLi : ((q : Int) == (L : Int) - 1) = true := by rw [beq_iff_eq]; omega
        have HX2 : Hid (G = (anch r false true && anchL true true true (kids.drop (q + 1)) (decide (q + 1 = 0)))) := by
         show _ = _
         have h := HX.out
         rw [show decide (q = 0) = false from decide_eq_false hq0] at h
         rw [show decide (q + 1 = L) = true from decide_eq_true hqL] at h
         simpa using h
        clear HX
        obtain ⟨a0, a1, a2, a3, a4, a5, a6, a7, a8⟩ := cells9c A1.out
        have z0 := bl_cell (bl_kp (bl_kp A0.out K.out) K1.out) 0 _ rfl
        have z1 := bl_cell (bl_kp (bl_kp A0.out K.out) K1.out) 1 _ rfl
        have z2 := bl_cell (bl_kp (bl_kp A0.out K.out) K1.out) 2 _ rfl
        have z3 := bl_cell (bl_kp (bl_kp A0.out K.out) K1.out) 3 _ rfl
        have z4 := bl_cell (bl_kp (bl_kp A0.out K.out) K1.out) 4 _ rfl
        have z5 := bl_cell (bl_kp (bl_kp A0.out K.out) K1.out) 5 _ rfl
        have z6 := bl_cell (bl_kp (bl_kp A0.out K.out) K1.out) 6 _ rfl
        have z7 := bl_cell (bl_kp (bl_kp A0.out K.out) K1.out) 7 _ rfl
        have z8 := bl_cell (bl_kp (bl_kp A0.out K.out) K1.out) 8 _ rfl
        go_wp2_with fail
        clear a0 a1 a2 a3 a4 a5 a6 a7 a8
        clear z0 z1 z2 z3 z4 z5 z6 z7 z8
        refine (TS.out false true ok _ _ (I1.out.kp K1.out)).mono ?_
        rintro e W2 ⟨rfl, k2'⟩
        have K2 := hid (K.out.trans (K1.out.trans k2'))
        clear k2'
        cases hv : anch r false true with
        | false =>
         have E : Hid (G = false) := by show _ = _; rw [HX2.out, hv]; rfl
         go_wp2_with fail
         go_ret
         exact ⟨by rw [E.out]; rfl, K0.out.trans K2.out⟩
        | true =>
         have E : Hid (anchL true true true (kids.drop (q + 1)) (decide (q + 1 = 0)) = G) := by show _ = _; rw [HX2.out, hv, Bool.true_and]
         go_wp2_with fail
         go_roundg (gk - 1)
         case measure => omega
         case rel => exact ⟨q + 1, by omega, by go_num, E.out, K2.out⟩
       ·
        have q0i : ((q : Int) == 0) = false := by simp [hq0]
        have q0j : ¬ (q : Int) = 0 := by omega
        have lw : IntKind.i64.wrap ((L : Int) - 1) = (L : Int) - 1 := by rw [IntKind.wrap_i64]; omega
        have qLi : ((q : Int) == (L : Int) - 1) = false := by rw [beq_eq_false_iff_ne]; omega
        have qLj : ¬ (q : Int) = (L : Int) - 1 := by omega
        have HX2 : Hid (G = (anch r false false && anchL true true true (kids.drop (q + 1)) (decide (q + 1 = 0)))) := by
         show _ = _
         have h := HX.out
         rw [show decide (q = 0) = false from decide_eq_false hq0] at h
         rw [show decide (q + 1 = L) = false from decide_eq_false hqL] at h
         simpa using h
        clear HX
        obtain ⟨a0, a1, a2, a3, a4, a5, a6, a7, a8⟩ := cells9c A1.out
        have z0 := bl_cell (bl_kp (bl_kp A0.out K.out) K1.out) 0 _ rfl
        have z1 := bl_cell (bl_kp (bl_kp A0.out K.out) K1.out) 1 _ rfl
        have z2 := bl_cell (bl_kp (bl_kp A0.out K.out) K1.out) 2 _ rfl
        have z3 := bl_cell (bl_kp (bl_kp A0.out K.out) K1.out) 3 _ rfl
        have z4 := bl_cell (bl_kp (bl_kp A0.out K.out) K1.out) 4 _ rfl
        have z5 := bl_cell (bl_kp (bl_kp A0.out K.out) K1.out) 5 _ rfl
        have z6 := bl_cell (bl_kp (bl_kp A0.out K.out) K1.out) 6 _ rfl
        have z7 := bl_cell (bl_kp (bl_kp A0.out K.out) K1.out) 7 _ rfl
        have z8 := bl_cell (bl_kp (bl_kp A0.out K.out) K1.out) 8 _ rfl
        go_wp2_with fail
        clear a0 a1 a2 a3 a4 a5 a6 a7 a8
        clear z0 z1 z2 z3 z4 z5 z6 z7 z8
        refine (TS.out false false ok _ _ (I1.out.kp K1.out)).mono ?_
        rintro e W2 ⟨rfl, k2'⟩
        have K2 := hid (K.out.trans (K1.out.trans k2'))
        clear k2'
        cases hv : anch r false false with
        | false =>
         have E : Hid (G = false) := by show _ = _; rw [HX2.out, hv]; rfl
         go_wp2_with fail
         go_ret
         exact ⟨by rw [E.out]; rfl, K0.out.trans K2.out⟩
        | true =>
         have E : Hid (anchL true true true (kids.drop (q + 1)) (decide (q + 1 = 0)) = G) := by show _ = _; rw [HX2.out, hv, Bool.true_and]
         go_wp2_with fail
         go_roundg (gk - 1)
         case measure => omega
         case rel => exact ⟨q + 1, by omega, by go_num, E.out, K2.out⟩
   ·
    cases first with
    | false =>
     cases last with
     | false =>
      have k2i : (k == 2) = false := by simp [hk2]
      have HX2 : Hid (G = (anch r false false && anchL (k == 2) false false (kids.drop (q + 1)) (decide (q + 1 = 0)))) := by
       show _ = _
       have h := HX.out
       simpa [k2i] using h
      clear HX
      obtain ⟨a0, a1, a2, a3, a4, a5, a6, a7, a8⟩ := cells9c A1.out
      have z0 := bl_cell (bl_kp (bl_kp A0.out K.out) K1.out) 0 _ rfl
      have z1 := bl_cell (bl_kp (bl_kp A0.out K.out) K1.out) 1 _ rfl
      have z2 := bl_cell (bl_kp (bl_kp A0.out K.out) K1.out) 2 _ rfl
      have z3 := bl_cell (bl_kp (bl_kp A0.out K.out) K1.out) 3 _ rfl
      have z4 := bl_cell (bl_kp (bl_kp A0.out K.out) K1.out) 4 _ rfl
      have z5 := bl_cell (bl_kp (bl_kp A0.out K.out) K1.out) 5 _ rfl
      have z6 := bl_cell (bl_kp (bl_kp A0.out K.out) K1.out) 6 _ rfl
      have z7 := bl_cell (bl_kp (bl_kp A0.out K.out) K1.out) 7 _ rfl
      have z8 := bl_cell (bl_kp (bl_kp A0.out K.out) K1.out) 8 _ rfl
      go_wp2_with fail
      clear a0 a1 a2 a3 a4 a5 a6 a7 a8
      clear z0 z1 z2 z3 z4 z5 z6 z7 z8
      refine (TS.out false false ok _ _ (I1.out.kp K1.out)).mono ?_
      rintro e W2 ⟨rfl, k2'⟩
      have K2 := hid (K.out.trans (K1.out.trans k2'))
      clear k2'
      cases hv : anch r false false with
      | false =>
       have E : Hid (G = false) := by show _ = _; rw [HX2.out, hv]; rfl
       go_wp2_with fail
       go_ret
       exact ⟨by rw [E.out]; rfl, K0.out.trans K2.out⟩
      | true =>
       have E : Hid (anchL (k == 2) false false (kids.drop (q + 1)) (decide (q + 1 = 0)) = G) := by show _ = _; rw [HX2.out, hv, Bool.true_and]
       go_wp2_with fail
       go_roundg (gk - 1)
       case measure => omega
       case rel => exact ⟨q + 1, by omega, by go_num, E.out, K2.out⟩
     | true =>
      by_cases hqL : q + 1 = L
      ·
       have lw : IntKind.i64.wrap ((L : Int) - 1) = (L : Int) - 1 := by rw [IntKind.wrap_i64]; omega
       have qLi : ((q : Int) == (L : Int) - 1) = true := by rw [beq_iff_eq]; omega
       have k2i : (k == 2) = false := by simp [hk2]
       have HX2 : Hid (G = (anch r false false && anchL (k == 2) false true (kids.drop (q + 1)) (decide (q + 1 = 0)))) := by
        show _ = _
        have h := HX.out
        rw [show decide (q + 1 = L) = true from decide_eq_true hqL] at h
        simpa [k2i] using h
       clear HX
       obtain ⟨a0, a1, a2, a3, a4, a5, a6, a7, a8⟩ := cells9c A1.out
       have z0 := bl_cell (bl_kp (bl_kp A0.out K.out) K1.out) 0 _ rfl
       have z1 := bl_cell (bl_kp (bl_kp A0.out K.out) K1.out) 1 _ rfl
       have z2 := bl_cell (bl_kp (bl_kp A0.out K.out) K1.out) 2 _ rfl
       have z3 := bl_cell (bl_kp (bl_kp A0.out K.out) K1.out) 3 _ rfl
       have z4 := bl_cell (bl_kp (bl_kp A0.out K.out) K1.out) 4 _ rfl
       have z5 := bl_cell (bl_kp (bl_kp A0.out K.out) K1.out) 5 _ rfl
       have z6 := bl_cell (bl_kp (bl_kp A0.out K.out) K1.out) 6 _ rfl
       have z7 := bl_cell (bl_kp (bl_kp A0.out K.out) K1.out) 7 _ rfl
       have z8 := bl_cell (bl_kp (bl_kp A0.out K.out) K1.out) 8 _ rfl
       go_wp2_with fail
       clear a0 a1 a2 a3 a4 a5 a6 a7 a8
       clear z0 z1 z2 z3 z4 z5 z6 z7 z8
       refine (TS.out false false ok _ _ (I1.out.kp K1.out)).mono ?_
       rintro e W2 ⟨rfl, k2'⟩
       have K2 := hid (K.out.trans (K1.out.trans k2'))
       clear k2'
       cases hv : anch r false false with
       | false =>
        have E : Hid (G = false) := by show _ = _; rw [HX2.out, hv]; rfl
        go_wp2_with fail
        go_ret
        exact ⟨by rw [E.out]; rfl, K0.out.trans K2.out⟩
       | true =>
        have E : Hid (anchL (k == 2) false true (kids.drop (q + 1)) (decide (q + 1 = 0)) = G) := by show _ = _; rw [HX2.out, hv, Bool.true_and]
        go_wp2_with fail
        go_roundg (gk - 1)
        case measure => omega
        case rel => exact ⟨q + 1, by omega, by go_num, E.out, K2.out⟩
      ·
       have lw : IntKind.i64.wrap ((L : Int) - 1) = (L : Int) - 1 := by rw [IntKind.wrap_i64]; omega
       have qLi : ((q : Int) == (L : Int) - 1) = false := by rw [beq_eq_false_iff_ne]; omega
       have qLj : ¬ (q : Int) = (L : Int) - 1 := by omega
       have k2i : (k == 2) = false := by simp [hk2]
       have HX2 : Hid (G = (anch r false false && anchL (k == 2) false true (kids.drop (q + 1)) (decide (q + 1 = 0)))) := by
        show _ = _
        have h := HX.out
        rw [show decide (q + 1 = L) = false from decide_eq_false hqL] at h
        simpa [k2i] using h
       clear HX
       obtain ⟨a0, a1, a2, a3, a4, a5, a6, a7, a8⟩ := cells9c A1.out
       have z0 := bl_cell (bl_kp (bl_kp A0.out K.out) K1.out) 0 _ rfl
       have z1 := bl_cell (bl_kp (bl_kp A0.out K.out) K1.out) 1 _ rfl
       have z2 := bl_cell (bl_kp (bl_kp A0.out K.out) K1.out) 2 _ rfl
       have z3 := bl_cell (bl_kp (bl_kp A0.out K.out) K1.out) 3 _ rfl
       have z4 := bl_cell (bl_kp (bl_kp A0.out K.out) K1.out) 4 _ rfl
       have z5 := bl_cell (bl_kp (bl_kp A0.out K.out) K1.out) 5 _ rfl
       have z6 := bl_cell (bl_kp (bl_kp A0.out K.out) K1.out) 6 _ rfl
       have z7 := bl_cell (bl_kp (bl_kp A0.out K.out) K1.out) 7 _ rfl
       have z8 := bl_cell (bl_kp (bl_kp A0.out K.out) K1.out) 8 _ rfl
       go_wp2_with fail
       clear a0 a1 a2 a3 a4 a5 a6 a7 a8
       clear z0 z1 z2 z3 z4 z5 z6 z7 z8
       refine (TS.out false false ok _ _ (I1.out.kp K1.out)).mono ?_
       rintro e W2 ⟨rfl, k2'⟩
       have K2 := hid (K.out.trans (K1.out.trans k2'))
       clear k2'
       cases hv : anch r false false with
       | false =>
        have E : Hid (G = false) := by show _ = _; rw [HX2.out, hv]; rfl
        go_wp2_with fail
        go_ret
        exact ⟨by rw [E.out]; rfl, K0.out.trans K2.out⟩
       | true =>
        have E : Hid (anchL (k == 2) false true (kids.drop (q + 1)) (decide (q + 1 = 0)) = G) := by show _ = _; rw [HX2.out, hv, Bool.true_and]
        go_wp2_with fail
        go_roundg (gk - 1)
        case measure => omega
        case rel => exact ⟨q + 1, by omega, by go_num, E.out, K2.out⟩
    | true =>
     by_cases hq0 : q = 0
     ·
      cases last with
      | false =>
       have q0i : ((q : Int) == 0) = true := by simp [hq0]
       have q0j : (q : Int) = 0 := by omega
       have k2i : (k == 2) = false := by simp [hk2]
       have HX2 : Hid (G = (anch r false false && anchL (k == 2) true false (kids.drop (q + 1)) (decide (q + 1 = 0)))) := by
        show _ = _
        have h := HX.out
        rw [show decide (q = 0) = true from decide_eq_true hq0] at h
        simpa [k2i] using h
       clear HX
       obtain ⟨a0, a1, a2, a3, a4, a5, a6, a7, a8⟩ := cells9c A1.out
       have z0 := bl_cell (bl_kp (bl_kp A0.out K.out) K1.out) 0 _ rfl
       have z1 := bl_cell (bl_kp (bl_kp A0.out K.out) K1.out) 1 _ rfl
       have z2 := bl_cell (bl_kp (bl_kp A0.out K.out) K1.out) 2 _ rfl
       have z3 := bl_cell (bl_kp (bl_kp A0.out K.out) K1.out) 3 _ rfl
       have z4 := bl_cell (bl_kp (bl_kp A0.out K.out) K1.out) 4 _ rfl
       have z5 := bl_cell (bl_kp (bl_kp A0.out K.out) K1.out) 5 _ rfl
       have z6 := bl_cell (bl_kp (bl_kp A0.out K.out) K1.out) 6 _ rfl
       have z7 := bl_cell (bl_kp (bl_kp A0.out K.out) K1.out) 7 _ rfl
       have z8 := bl_cell (bl_kp (bl_kp A0.out K.out) K1.out) 8 _ rfl
       go_wp2_with fail
       clear a0 a1 a2 a3 a4 a5 a6 a7 a8
       clear z0 z1 z2 z3 z4 z5 z6 z7 z8
       refine (TS.out false false ok _ _ (I1.out.kp K1.out)).mono ?_
       rintro e W2 ⟨rfl, k2'⟩
       have K2 := hid (K.out.trans (K1.out.trans k2'))
       clear k2'
       cases hv : anch r false false with
       | false =>
        have E : Hid (G = false) := by show _ = _; rw [HX2.out, hv]; rfl
        go_wp2_with fail
        go_ret
        exact ⟨by rw [E.out]; rfl, K0.out.trans K2.out⟩
       | true =>
        have E : Hid (anchL (k == 2) true false (kids.drop (q + 1)) (decide (q + 1 = 0)) = G) := by show _ = _; rw [HX2.out, hv, Bool.true_and]
        go_wp2_with fail
        go_roundg (gk - 1)
        case measure => omega
        case rel => exact ⟨q + 1, by omega, by go_num, E.out, K2.out⟩
      | true =>
       by_cases hqL : q + 1 = L
       ·
        have q0i : ((q : Int) == 0) = true := by simp [hq0]
        have q0j : (q : Int) = 0 := by omega
        have lw : IntKind.i64.wrap ((L : Int) - 1) = (L : Int) - 1 := by rw [IntKind.wrap_i64]; omega
        have qLi : ((q : Int) == (L : Int) - 1) = true := by rw [beq_iff_eq]; omega
        have k2i : (k == 2) = false := by simp [hk2]
        have HX2 : Hid (G = (anch r false false && anchL (k == 2) true true (kids.drop (q + 1)) (decide (q + 1 = 0)))) := by
         show _ = _
         have h := HX.out
         rw [show decide (q = 0) = true from decide_eq_true hq0] at h
         rw [show decide (q + 1 = L) = true from decide_eq_true hqL] at h
         simpa [k2i] using h
        clear HX
        obtain ⟨a0, a1, a2, a3, a4, a5, a6, a7, a8⟩ := cells9c A1.out
        have z0 := bl_cell (bl_kp (bl_kp A0.out K.out) K1.out) 0 _ rfl
        have z1 := bl_cell (bl_kp (bl_kp A0.out K.out) K1.out) 1 _ rfl
        have z2 := bl_cell (bl_kp (bl_kp A0.out K.out) K1.out) 2 _ rfl
        have z3 := bl_cell (bl_kp (bl_kp A0.out K.out) K1.out) 3 _ rfl
        have z4 := bl_cell (bl_kp (bl_kp A0.out K.out) K1.out) 4 _ rfl
        have z5 := bl_cell (bl_kp (bl_kp A0.out K.out) K1.out) 5 _ rfl
        have z6 := bl_cell (bl_kp (bl_kp A0.out K.out) K1.out) 6 _ rfl
        have z7 := bl_cell (bl_kp (bl_kp A0.out K.out) K1.out) 7 _ rfl
        have z8 := bl_cell (bl_kp (bl_kp A0.out K.out) K1.out) 8 _ rfl
        go_wp2_with fail
        clear a0 a1 a2 a3 a4 a5 a6 a7 a8
        clear z0 z1 z2 z3 z4 z5 z6 z7 z8
        refine (TS.out false false ok _ _ (I1.out.kp K1.out)).mono ?_
        rintro e W2 ⟨rfl, k2'⟩
        have K2 := hid (K.out.trans (K1.out.trans k2'))
        clear k2'
        cases hv : anch r false false with
        | false =>
         have E : Hid (G = false) := by show _ = _; rw [HX2.out, hv]; rfl
         go_wp2_with fail
         go_ret
         exact ⟨by rw [E.out]; rfl, K0.out.trans K2.out⟩
        | true =>
         have E : Hid (anchL (k == 2) true true (kids.drop (q + 1)) (decide (q + 1 = 0)) = G) := by show _ = _; rw [HX2.out, hv, Bool.true_and]
         go_wp2_with fail
         go_roundg (gk - 1)
         case measure => omega
         case rel => exact ⟨q + 1, by omega, by go_num, E.out, K2.out⟩
       ·
        have q0i : ((q : Int) == 0) = true := by simp [hq0]
        have q0j : (q : Int) = 0 := by omega
        have lw : IntKind.i64.wrap ((L : Int) - 1) = (L : Int) - 1 := by rw [IntKind.wrap_i64]; omega
        have qLi : ((q : Int) == (L : Int) - 1) = false := by rw [beq_eq_false_iff_ne]; omega
        have qLj : ¬ (q : Int) = (L : Int) - 1 := by omega
        have k2i : (k == 2) = false := by simp [hk2]
        have HX2 : Hid (G = (anch r false false && anchL (k == 2) true true (kids.drop (q + 1)) (decide (q + 1 = 0)))) := by
         show _ = _
         have h := HX.out
         rw [show decide (q = 0) = true from decide_eq_true hq0] at h
         rw [show decide (q + 1 = L) = false from decide_eq_false hqL] at h
         simpa [k2i] using h
        clear HX
        obtain ⟨a0, a1, a2, a3, a4, a5, a6, a7, a8⟩ := cells9c A1.out
        have z0 := bl_cell (bl_kp (bl_kp A0.out K.out) K1.out) 0 _ rfl
        have z1 := bl_cell (bl_kp (bl_kp A0.out K.out) K1.out) 1 _ rfl
        have z2 := bl_cell (bl_kp (bl_kp A0.out K.out) K1.out) 2 _ rfl
        have z3 := bl_cell (bl_kp (bl_kp A0.out K.out) K1.out) 3 _ rfl
        have z4 := bl_cell (bl_kp (bl_kp A0.out K.out) K1.out) 4 _ rfl
        have z5 := bl_cell (bl_kp (bl_kp A0.out K.out) K1.out) 5 _ rfl
        have z6 := bl_cell (bl_kp (bl_kp A0.out K.out) K1.out) 6 _ rfl
        have z7 := bl_cell (bl_kp (bl_kp A0.out K.out) K1.out) 7 _ rfl
        have z8 := bl_cell (bl_kp (bl_kp A0.out K.out) K1.out) 8 _ rfl
        go_wp2_with fail
        clear a0 a1 a2 a3 a4 a5 a6 a7 a8
        clear z0 z1 z2 z3 z4 z5 z6 z7 z8
        refine (TS.out false false ok _ _ (I1.out.kp K1.out)).mono ?_
        rintro e W2 ⟨rfl, k2'⟩
        have K2 := hid (K.out.trans (K1.out.trans k2'))
        clear k2'
        cases hv : anch r false false with
        | false =>
         have E : Hid (G = false) := by show _ = _; rw [HX2.out, hv]; rfl
         go_wp2_with fail
         go_ret
         exact ⟨by rw [E.out]; rfl, K0.out.trans K2.out⟩
        | true =>
         have E : Hid (anchL (k == 2) true true (kids.drop (q + 1)) (decide (q + 1 = 0)) = G) := by show _ = _; rw [HX2.out, hv, Bool.true_and]
         go_wp2_with fail
         go_roundg (gk - 1)
         case measure => omega
         case rel => exact ⟨q + 1, by omega, by go_num, E.out, K2.out⟩
     ·
      cases last with
      | false =>
       have q0i : ((q : Int) == 0) = false := by simp [hq0]
       have q0j : ¬ (q : Int) = 0 := by omega
       have k2i : (k == 2) = false := by simp [hk2]
       have HX2 : Hid (G = (anch r false false && anchL (k == 2) true false (kids.drop (q + 1)) (decide (q + 1 = 0)))) := by
        show _ = _
        have h := HX.out
        rw [show decide (q = 0) = false from decide_eq_false hq0] at h
        simpa [k2i] using h
       clear HX
       obtain ⟨a0, a1, a2, a3, a4, a5, a6, a7, a8⟩ := cells9c A1.out
       have z0 := bl_cell (bl_kp (bl_kp A0.out K.out) K1.out) 0 _ rfl
       have z1 := bl_cell (bl_kp (bl_kp A0.out K.out) K1.out) 1 _ rfl
       have z2 := bl_cell (bl_kp (bl_kp A0.out K.out) K1.out) 2 _ rfl
       have z3 := bl_cell (bl_kp (bl_kp A0.out K.out) K1.out) 3 _ rfl
       have z4 := bl_cell (bl_kp (bl_kp A0.out K.out) K1.out) 4 _ rfl
       have z5 := bl_cell (bl_kp (bl_kp A0.out K.out) K1.out) 5 _ rfl
       have z6 := bl_cell (bl_kp (bl_kp A0.out K.out) K1.out) 6 _ rfl
       have z7 := bl_cell (bl_kp (bl_kp A0.out K.out) K1.out) 7 _ rfl
       have z8 := bl_cell (bl_kp (bl_kp A0.out K.out) K1.out) 8 _ rfl
       go_wp2_with fail
       clear a0 a1 a2 a3 a4 a5 a6 a7 a8
       clear z0 z1 z2 z3 z4 z5 z6 z7 z8
       refine (TS.out false false ok _ _ (I1.out.kp K1.out)).mono ?_
       rintro e W2 ⟨rfl, k2'⟩
       have K2 := hid (K.out.trans (K1.out.trans k2'))
       clear k2'
       cases hv : anch r false false with
       | false =>
        have E : Hid (G = false) := by show _ = _; rw [HX2.out, hv]; rfl
        go_wp2_with fail
        go_ret
        exact ⟨by rw [E.out]; rfl, K0.out.trans K2.out⟩
       | true =>
        have E : Hid (anchL (k == 2) true false (kids.drop (q + 1)) (decide (q + 1 = 0)) = G) := by show _ = _; rw [HX2.out, hv, Bool.true_and]
        go_wp2_with fail
        go_roundg (gk - 1)
        case measure => omega
        case rel => exact ⟨q + 1, by omega, by go_num, E.out, K2.out⟩
      | true =>
       by_cases hqL : q + 1 = L
       ·
        have q0i : ((q : Int) == 0) = false := by simp [hq0]
        have q0j : ¬ (q : Int) = 0 := by omega
        have lw : IntKind.i64.wrap ((L : Int) - 1) = (L : Int) - 1 := by rw [IntKind.wrap_i64]; omega
        have qLi : ((q : Int) == (L : Int) - 1) = true := by rw [beq_iff_eq]; omega
        have k2i : (k == 2) = false := by simp [hk2]
        have HX2 : Hid (G = (anch r false false && anchL (k == 2) true true (kids.drop (q + 1)) (decide (q + 1 = 0)))) := by
         show _ = _
         have h := HX.out
         rw [show decide (q = 0) = false from decide_eq_false hq0] at h
         rw [show decide (q + 1 = L) = true from decide_eq_true hqL] at h
         simpa [k2i] using h
        clear HX
        obtain ⟨a0, a1, a2, a3, a4, a5, a6, a7, a8⟩ := cells9c A1.out
        have z0 := bl_cell (bl_kp (bl_kp A0.out K.out) K1.out) 0 _ rfl
        have z1 := bl_cell (bl_kp (bl_kp A0.out K.out) K1.out) 1 _ rfl
        have z2 := bl_cell (bl_kp (bl_kp A0.out K.out) K1.out) 2 _ rfl
        have z3 := bl_cell (bl_kp (bl_kp A0.out K.out) K1.out) 3 _ rfl
        have z4 := bl_cell (bl_kp (bl_kp A0.out K.out) K1.out) 4 _ rfl
        have z5 := bl_cell (bl_kp (bl_kp A0.out K.out) K1.out) 5 _ rfl
        have z6 := bl_cell (bl_kp (bl_kp A0.out K.out) K1.out) 6 _ rfl
        have z7 := bl_cell (bl_kp (bl_kp A0.out K.out) K1.out) 7 _ rfl
        have z8 := bl_cell (bl_kp (bl_kp A0.out K.out) K1.out) 8 _ rfl
        go_wp2_with fail
        clear a0 a1 a2 a3 a4 a5 a6 a7 a8
        clear z0 z1 z2 z3 z4 z5 z6 z7 z8
        refine (TS.out false false ok _ _ (I1.out.kp K1.out)).mono ?_
        rintro e W2 ⟨rfl, k2'⟩
        have K2 := hid (K.out.trans (K1.out.trans k2'))
        clear k2'
        cases hv : anch r false false with
        | false =>
         have E : Hid (G = false) := by show _ = _; rw [HX2.out, hv]; rfl
         go_wp2_with fail
         go_ret
         exact ⟨by rw [E.out]; rfl, K0.out.trans K2.out⟩
        | true =>
         have E : Hid (anchL (k == 2) true true (kids.drop (q + 1)) (decide (q + 1 = 0)) = G) := by show _ = _; rw [HX2.out, hv, Bool.true_and]
         go_wp2_with fail
         go_roundg (gk - 1)
         case measure => omega
         case rel => exact ⟨q + 1, by omega, by go_num, E.out, K2.out⟩
       ·
        have q0i : ((q : Int) == 0) = false := by simp [hq0]
        have q0j : ¬ (q : Int) = 0 := by omega
        have lw : IntKind.i64.wrap ((L : Int) - 1) = (L : Int) - 1 := by rw [IntKind.wrap_i64]; omega
        have qLi : ((q : Int) == (L : Int) - 1) = false := by rw [beq_eq_false_iff_ne]; omega
        have qLj : ¬ (q : Int) = (L : Int) - 1 := by omega
        have k2i : (k == 2) = false := by simp [hk2]
        have HX2 : Hid (G = (anch r false false && anchL (k == 2) true true (kids.drop (q + 1)) (decide (q + 1 = 0)))) := by
         show _ = _
         have h := HX.out
         rw [show decide (q = 0) = false from decide_eq_false hq0] at h
         rw [show decide (q + 1 = L) = false from decide_eq_false hqL] at h
         simpa [k2i] using h
        clear HX
        obtain ⟨a0, a1, a2, a3, a4, a5, a6, a7, a8⟩ := cells9c A1.out
        have z0 := bl_cell (bl_kp (bl_kp A0.out K.out) K1.out) 0 _ rfl
        have z1 := bl_cell (bl_kp (bl_kp A0.out K.out) K1.out) 1 _ rfl
        have z2 := bl_cell (bl_kp (bl_kp A0.out K.out) K1.out) 2 _ rfl
        have z3 := bl_cell (bl_kp (bl_kp A0.out K.out) K1.out) 3 _ rfl
        have z4 := bl_cell (bl_kp (bl_kp A0.out K.out) K1.out) 4 _ rfl
        have z5 := bl_cell (bl_kp (bl_kp A0.out K.out) K1.out) 5 _ rfl
        have z6 := bl_cell (bl_kp (bl_kp A0.out K.out) K1.out) 6 _ rfl
        have z7 := bl_cell (bl_kp (bl_kp A0.out K.out) K1.out) 7 _ rfl
        have z8 := bl_cell (bl_kp (bl_kp A0.out K.out) K1.out) 8 _ rfl
        go_wp2_with fail
        clear a0 a1 a2 a3 a4 a5 a6 a7 a8
        clear z0 z1 z2 z3 z4 z5 z6 z7 z8
        refine (TS.out false false ok _ _ (I1.out.kp K1.out)).mono ?_
        rintro e W2 ⟨rfl, k2'⟩
        have K2 := hid (K.out.trans (K1.out.trans k2'))
        clear k2'
        cases hv : anch r false false with
        | false =>
         have E : Hid (G = false) := by show _ = _; rw [HX2.out, hv]; rfl
         go_wp2_with fail
         go_ret
         exact ⟨by rw [E.out]; rfl, K0.out.trans K2.out⟩
        | true =>
         have E : Hid (anchL (k == 2) true true (kids.drop (q + 1)) (decide (q + 1 = 0)) = G) := by show _ = _; rw [HX2.out, hv, Bool.true_and]
         go_wp2_with fail
         go_roundg (gk - 1)
         case measure => omega
         case rel => exact ⟨q + 1, by omega, by go_num, E.out, K2.out⟩
  ·
   have ga : ¬ (q : Int) < (L : Int) := by omega
   have E : Hid (G = true) := by
    show _ = _
    rw [← HA.out, List.drop_eq_nil_of_le (by rw [HL.out]; omega), anchL]
   go_wp2_with fail
   go_ret
   exact ⟨by rw [E.out]; rfl, K0.out.trans K.out⟩
theorem Anch_any : ∀ a, RxOk a → AnchSaid a
 | .mk k mn mx n s kids, h => by
  unfold RxOk at h
  exact Anch_step k mn mx n s kids (fun a ha => Anch_any a (h.2.2 a ha)) h.1
termination_by a => SizeOf.sizeOf a
decreasing_by
 have := List.sizeOf_lt_of_mem ha
 simp
 omega
end Go.Proofs.YtikmgckefbjbkaaGreatDoor

/-! ### RefRt -/

namespace Go.Proofs.YtikmgckefbjbkaaGreatDoor
open Go.RowKit Go.Proofs.YtikmgckefbjbkaaGreatDoor.Ref

set_option maxHeartbeats 2000000 in
set_option maxRecDepth 100000 in
theorem refR_any (r : Rx) (ere : Bool) (hB : nds r ≤ 100000) (hM : MeasSaid r) (hA : AltSaid r) (hN : AnchSaid r) (ok : Nat → Prop) (k mn mx m : Int) (t : W4) (ad : Option Addr) (l c : Nat) (w : World) (hI : Is w ok r (rxv k mn mx m t (.slice ad l c))) :
  Calls Tryz.prog 14 #[rxv k mn mx m t (.slice ad l c), .bool ere] w fun e w' => e = .returned (.bool (refRight ere r)) ∧ Kp w w' := by
 obtain ⟨G, hG⟩ : ∃ G, refRight ere r = G := ⟨_, rfl⟩
 rw [hG]
 have MS := hid (fun (w : World) (v : Value) (h : Is w ok r v) => hM.all 0 ok v w (by omega) h)
 clear hB
 unfold refRight at hG
 obtain ⟨tl, htl⟩ : ∃ tl, meas r 0 = tl := ⟨_, rfl⟩
 rw [htl] at MS hG
 obtain ⟨N, D, O, V⟩ := tl
 simp only at MS hG
 have HG := hid hG
 have AS := hid (fun (w : World) (v : Value) (h : Is w ok r v) => hA.all ok v w h)
 have NS := hid (fun (w : World) (v : Value) (h : Is w ok r v) => hN.all true true ok v w h)
 obtain ⟨a, ha⟩ : ∃ a, altR r = a := ⟨_, rfl⟩
 obtain ⟨b, hb⟩ : ∃ b, anch r true true = b := ⟨_, rfl⟩
 rw [ha] at AS HG
 rw [hb] at NS HG
 have I0 := hid hI
 clear hM hA hN hG htl ha hb hI
 go_enter Tryz.func14, Tryz.ntmps14
 go_upto_region 1 with fail
 refine opq (fun W0 => W0.heap[w.heap.size]? = some (rxo k mn mx m t (.slice ad l c)) ∧ Kp w W0 ∧ Is W0 ok r (rxv k mn mx m t (.slice ad l c))) ⟨by (first | exact last_at _ _ _ (by simp) | (refine bl_alloc ?_ _; first | exact last_at _ _ _ (by simp) | (refine bl_alloc ?_ _; first | exact last_at _ _ _ (by simp) | (refine bl_alloc ?_ _; exact last_at _ _ _ (by simp))))), by exact (by repeat (first | exact Kp.refl _ | refine Kp.alloc ?_ _ | refine Kp.drew ?_ | refine Kp.drewN _ ?_)), by exact I0.out.kp (by repeat (first | exact Kp.refl _ | refine Kp.alloc ?_ _ | refine Kp.drew ?_ | refine Kp.drewN _ ?_))⟩ ?_
 rintro W0 ⟨xA0, xK0, xI1⟩
 have A0 : Hid (W0.heap[w.heap.size]? = some (rxo k mn mx m t (.slice ad l c))) := xA0
 have K0 : Hid (Kp w W0) := xK0
 have I1 : Hid (Is W0 ok r (rxv k mn mx m t (.slice ad l c))) := xI1
 clear xA0 xK0 xI1
 obtain ⟨a0, a1, a2, a3, a4, a5, a6, a7, a8⟩ := cells9c A0.out
 go_wp2_with fail
 refine (MS.out _ _ I1.out).mono ?_
 rintro e W1 ⟨rfl, k1⟩
 clear a0 a1 a2 a3 a4 a5 a6 a7 a8
 have A1 := hid (bl_kp A0.out k1)
 have K1 := hid (K0.out.trans k1)
 have I2 := hid (I1.out.kp k1)
 clear k1 A0 K0 I0 I1 MS
 go_upto_region 2 with fail
 refine opq (fun W2 => W2.heap[W1.heap.size]? = some (tlo (N : Int) (D : Int) O) ∧ W2.heap[w.heap.size]? = some (rxo k mn mx m t (.slice ad l c)) ∧ Kp w W2 ∧ Is W2 ok r (rxv k mn mx m t (.slice ad l c))) ⟨by (first | exact last_at _ _ _ (by simp) | (refine bl_alloc ?_ _; first | exact last_at _ _ _ (by simp) | (refine bl_alloc ?_ _; first | exact last_at _ _ _ (by simp) | (refine bl_alloc ?_ _; exact last_at _ _ _ (by simp))))), by exact bl_kp A1.out (by repeat (first | exact Kp.refl _ | refine Kp.alloc ?_ _ | refine Kp.drew ?_ | refine Kp.drewN _ ?_)), by exact K1.out.trans (by repeat (first | exact Kp.refl _ | refine Kp.alloc ?_ _ | refine Kp.drew ?_ | refine Kp.drewN _ ?_)), by exact I2.out.kp (by repeat (first | exact Kp.refl _ | refine Kp.alloc ?_ _ | refine Kp.drew ?_ | refine Kp.drewN _ ?_))⟩ ?_
 rintro W2 ⟨xT2, xA2, xK2, xI3⟩
 have T2 : Hid (W2.heap[W1.heap.size]? = some (tlo (N : Int) (D : Int) O)) := xT2
 have A2 : Hid (W2.heap[w.heap.size]? = some (rxo k mn mx m t (.slice ad l c))) := xA2
 have K2 : Hid (Kp w W2) := xK2
 have I3 : Hid (Is W2 ok r (rxv k mn mx m t (.slice ad l c))) := xI3
 clear xT2 xA2 xK2 xI3
 clear A1 K1 I2
 have t0 := bl_cell T2.out 0 _ rfl
 have t1 := bl_cell T2.out 1 _ rfl
 have t3 := bl_cell T2.out 3 _ rfl
 obtain ⟨a0, a1, a2, a3, a4, a5, a6, a7, a8⟩ := cells9c A2.out
 cases O with
 | false =>
  have EG : Hid (G = false) := by show _ = _; rw [← HG.out]; simp []
  go_wp2_with fail
  go_ret
  exact ⟨by rw [EG.out]; rfl, K2.out⟩
 | true =>
 by_cases h1 : N ≤ 40
 case neg =>
  have h1i : ¬ (N : Int) ≤ 40 := by omega
  have EG : Hid (G = false) := by show _ = _; rw [← HG.out]; simp [h1]
  go_wp2_with fail
  go_ret
  exact ⟨by rw [EG.out]; rfl, K2.out⟩
 have h1i : (N : Int) ≤ 40 := by omega
 by_cases h2 : D ≤ 6
 case neg =>
  have h2i : ¬ (D : Int) ≤ 6 := by omega
  have EG : Hid (G = false) := by show _ = _; rw [← HG.out]; simp [h2]
  go_wp2_with fail
  go_ret
  exact ⟨by rw [EG.out]; rfl, K2.out⟩
 have h2i : (D : Int) ≤ 6 := by omega
 by_cases h3 : V ≤ 3
 case neg =>
  have h3i : ¬ (V : Int) ≤ 3 := by omega
  have EG : Hid (G = false) := by show _ = _; rw [← HG.out]; simp [h3]
  go_wp2_with fail
  go_ret
  exact ⟨by rw [EG.out]; rfl, K2.out⟩
 have h3i : (V : Int) ≤ 3 := by omega
 cases ere with
 | true =>
  have EG : Hid (G = true) := by show _ = _; rw [← HG.out]; simp [h1, h2, h3]
  go_wp2_with fail
  go_ret
  exact ⟨by rw [EG.out]; rfl, K2.out⟩
 | false =>
 go_wp2_with fail
 refine (AS.out _ _ I3.out).mono ?_
 rintro e W3 ⟨rfl, k3⟩
 clear a0 a1 a2 a3 a4 a5 a6 a7 a8
 have A3 := hid (bl_kp A2.out k3)
 have K3 := hid (K2.out.trans k3)
 have I4 := hid (I3.out.kp k3)
 clear k3 A2 K2 I3 t0 t1 t3
 have K2 := K3
 cases a with
 | true =>
  have EG : Hid (G = false) := by show _ = _; rw [← HG.out]; simp []
  go_wp2_with fail
  go_ret
  exact ⟨by rw [EG.out]; rfl, K2.out⟩
 | false =>
 have EG : Hid (G = b) := by show _ = _; rw [← HG.out]; simp [h1, h2, h3]
 obtain ⟨a0, a1, a2, a3, a4, a5, a6, a7, a8⟩ := cells9c A3.out
 go_wp2_with fail
 refine (NS.out _ _ I4.out).mono ?_
 rintro e W4w ⟨rfl, k4⟩
 have K4 := hid (K3.out.trans k4)
 clear k4
 go_wp2_with fail
 go_ret
 exact ⟨by rw [EG.out]; rfl, K4.out⟩
end Go.Proofs.YtikmgckefbjbkaaGreatDoor

/-! ### RefMea -/

namespace Go.Proofs.YtikmgckefbjbkaaGreatDoor
open Go.RowKit Go.Proofs.YtikmgckefbjbkaaGreatDoor.Ref

theorem tl_ret2 {fn : Func} {p u : Tmp} (h : fn.results = #[.cell p 64, .tmp u]) (tmps : Array Value) (w : World) (S : Nat) (cs : Array Value) (x : Value) (hp : tmps.getD p undef = .pointer (some ⟨S, 0, none⟩)) (hu : tmps.getD u undef = x) (hA : w.heap[S]? = some (.cells cs 64)) (hc : cs.size = 4) : (results fn tmps).run Tryz.prog w = .ok (.tuple #[.agg cs, x]) w := by
 rw [results_cell_tmp h, hp, hu]
 have := run_loadVar_row (P := Tryz.prog) w S 64 64 cs (0, 0) _ hA Tryz.underlying64 rfl (by rw [hc]; kernel_rfl)
 simp [asAddr, Result.andThen, this]
theorem nds_pos : ∀ r : Rx, 1 ≤ nds r
 | .mk k mn mx m s kids => by rw [nds]; omega
theorem len_ndss : ∀ l : List Rx, l.length ≤ ndss l
 | [] => Nat.zero_le _
 | r :: l => by
  have h1 := nds_pos r
  have h2 := len_ndss l
  rw [ndss, List.length_cons]
  omega
set_option maxHeartbeats 30000000 in
set_option maxRecDepth 100000 in
theorem Meas_step (k mn mx m : Int) (t : W4) (kids : List Rx) (H : ∀ r, r ∈ kids → MeasSaid r) : MeasSaid (.mk k mn mx m t kids) := by
 refine ⟨fun h ok v w hB hI => ?_⟩
 have hS : kids.length ≤ 100000 := by
  have h1 := len_ndss kids
  rw [show nds (.mk k mn mx m t kids) = 1 + ndss kids from by rw [nds]] at hB
  omega
 obtain ⟨ad, l, c, rfl, hr⟩ := hI.row
 have hle := hr.ln
 have hlc := hr.cp
 subst hle
 obtain ⟨L, hL⟩ : ∃ L, kids.length = L := ⟨_, rfl⟩
 rw [hL] at hr hlc hS ⊢
 have HL := hid hL
 have RR := hid hr
 have HH := hid H
 clear hI hr H hL
 have hh : h ≤ 100000 := by omega
 obtain ⟨TL, hTL⟩ : ∃ TL, meas (.mk k mn mx m t kids) h = TL := ⟨_, rfl⟩
 rw [hTL]
 have HTL := hid hTL
 clear hTL
 obtain ⟨HB, hHB⟩ : ∃ HB, headOk k mn mx m t L h = HB := ⟨_, rfl⟩
 have HHB := hid hHB
 obtain ⟨E, hE⟩ : ∃ E, (t == W4.z) = E := ⟨_, rfl⟩
 have es : ∀ w, (Op.equalIn 10000 24 (.agg #[.int .u64 (t.a : Int), .int .u64 (t.b : Int), .int .u64 (t.c : Int), .int .u64 (t.d : Int)]) (.agg #[.int .u64 0, .int .u64 0, .int .u64 0, .int .u64 0])).run Tryz.prog w = .ok E w := fun w => by
  rw [← hE, w4_eq]
  exact eq_vv _ _ _ _ _ _ _ _ w
 have HE := hid hE
 clear hHB hE
 go_enter Tryz.func29, Tryz.ntmps29
 go_upto_region 2 with fail
 refine opq (fun W0 => W0.heap[w.heap.size]? = some (rxo k mn mx m t (.slice ad L c)) ∧ W0.heap[(w.heap.size + 1)]? = some (tlo 0 0 false) ∧ W0.heap[(w.heap.size + 1 + 1)]? = some (tlo 1 0 true) ∧ Kp w W0 ∧ RowAt W0 ok kids ad L c) ⟨by exact bl_alloc (bl_alloc (last_of _ _) _) _, by exact bl_alloc (last_at _ _ _ (by simp)) _, by exact last_at _ _ _ (by simp), by exact (by repeat (first | exact Kp.refl _ | refine Kp.alloc ?_ _ | refine Kp.drew ?_ | refine Kp.drewN _ ?_)), by exact RR.out.kp (by repeat (first | exact Kp.refl _ | refine Kp.alloc ?_ _ | refine Kp.drew ?_ | refine Kp.drewN _ ?_))⟩ ?_
 rintro W0 ⟨xA0, xR4, xT6, xK0, xR0⟩
 have A0 : Hid (W0.heap[w.heap.size]? = some (rxo k mn mx m t (.slice ad L c))) := xA0
 have R4 : Hid (W0.heap[(w.heap.size + 1)]? = some (tlo 0 0 false)) := xR4
 have T6 : Hid (W0.heap[(w.heap.size + 1 + 1)]? = some (tlo 1 0 true)) := xT6
 have K0 : Hid (Kp w W0) := xK0
 have R0 : Hid (RowAt W0 ok kids ad L c) := xR0
 clear xA0 xR4 xT6 xK0 xR0
 obtain ⟨a0, a1, a2, a3, a4, a5, a6, a7, a8⟩ := cells9c A0.out
 have b3 := bl_cell T6.out 3 _ rfl
 have fb3 := bl_frozen T6.out 3
 have b1 := bl_cell T6.out 1 _ rfl
 have fb1 := bl_frozen T6.out 1
 have gh : IntKind.i64.wrap ((h : Int) + 1) = (h : Int) + 1 := by rw [IntKind.wrap_i64]; omega
 go_upto_block 0 with fail
 go_cut [0, 1, 7] from 15 to 223 (fun _ v _ wc => HeadD k h HB (w.heap.size + 1 + 1) W0 v wc)
 case first =>
  have W4z : (t == W4.z) = E := HE.out
  by_cases k1 : k = 1
  ·
   subst k1
   as_aux_lemma =>
    by_cases cL : L = 0
    ·
     have cLi : (L : Int) = 0 := by omega
     have cLb : ((L : Int) == 0) = true := beq_iff_eq.2 (by omega)
     by_cases cE : E = false
     ·
      subst cE
      by_cases cmn : mn = 0
      ·
       have cmnb : (mn == 0) = true := by simp [cmn]
       by_cases cmx : mx = 0
       ·
        have cmxb : (mx == 0) = true := by simp [cmx]
        by_cases cm : m = 0
        ·
         have cmb : (m == 0) = true := by simp [cm]
         have EH : Hid (HB = true) := by
          show _ = _
          rw [← HHB.out]
          unfold headOk
          simp only [W4z]
          simp [cL, cmn, cmx, cm]
         go_wp2_with fail
         go_meet
         case rel =>
          rw [EH.out]
          exact ⟨⟨rfl, bl_put T6.out _, (Ks.refl _ _).set 3 _⟩⟩
        ·
         have cmb : (m == 0) = false := by simp [cm]
         have EH : Hid (HB = false) := by
          show _ = _
          rw [← HHB.out]
          unfold headOk
          simp only [W4z]
          simp [cL, cmn, cmx, cm]
         go_wp2_with fail
         go_meet
         case rel =>
          rw [EH.out]
          exact ⟨⟨rfl, bl_put T6.out _, (Ks.refl _ _).set 3 _⟩⟩
       ·
        have cmxb : (mx == 0) = false := by simp [cmx]
        have EH : Hid (HB = false) := by
         show _ = _
         rw [← HHB.out]
         unfold headOk
         simp only [W4z]
         simp [cL, cmn, cmx]
        go_wp2_with fail
        go_meet
        case rel =>
         rw [EH.out]
         exact ⟨⟨rfl, bl_put T6.out _, (Ks.refl _ _).set 3 _⟩⟩
      ·
       have cmnb : (mn == 0) = false := by simp [cmn]
       have EH : Hid (HB = false) := by
        show _ = _
        rw [← HHB.out]
        unfold headOk
        simp only [W4z]
        simp [cL, cmn]
       go_wp2_with fail
       go_meet
       case rel =>
        rw [EH.out]
        exact ⟨⟨rfl, bl_put T6.out _, (Ks.refl _ _).set 3 _⟩⟩
     ·
      obtain rfl : E = true := by
       cases E with
       | true => rfl
       | false => exact absurd rfl cE
      clear cE
      have EH : Hid (HB = false) := by
       show _ = _
       rw [← HHB.out]
       unfold headOk
       simp only [W4z]
       simp [cL]
      go_wp2_with fail
      go_meet
      case rel =>
       rw [EH.out]
       exact ⟨⟨rfl, bl_put T6.out _, (Ks.refl _ _).set 3 _⟩⟩
    ·
     have cLi : ¬ (L : Int) = 0 := by omega
     have cLb : ((L : Int) == 0) = false := beq_eq_false_iff_ne.2 (by omega)
     have EH : Hid (HB = false) := by
      show _ = _
      rw [← HHB.out]
      unfold headOk
      simp only [W4z]
      simp [cL]
     go_wp2_with fail
     go_meet
     case rel =>
      rw [EH.out]
      exact ⟨⟨rfl, bl_put T6.out _, (Ks.refl _ _).set 3 _⟩⟩
  have k1b : (k == 1) = false := by simp [k1]
  by_cases k2 : k = 2
  ·
   subst k2
   as_aux_lemma =>
    by_cases cL : ¬ L = 1
    ·
     have cLi : ¬ (L : Int) = 1 := by omega
     have cLb : ((L : Int) != 1) = true := bne_iff_ne.2 (by omega)
     by_cases cE : E = true
     ·
      subst cE
      by_cases cmn : mn = 0
      ·
       have cmnb : (mn == 0) = true := by simp [cmn]
       by_cases cmx : mx = 0
       ·
        have cmxb : (mx == 0) = true := by simp [cmx]
        by_cases cm : m = 0
        ·
         have cmb : (m == 0) = true := by simp [cm]
         have EH : Hid (HB = true) := by
          show _ = _
          rw [← HHB.out]
          unfold headOk
          simp only [W4z]
          simp [cL, cmn, cmx, cm]
         go_wp2_with fail
         go_meet
         case rel =>
          rw [EH.out]
          exact ⟨⟨rfl, bl_put T6.out _, (Ks.refl _ _).set 3 _⟩⟩
        ·
         have cmb : (m == 0) = false := by simp [cm]
         have EH : Hid (HB = false) := by
          show _ = _
          rw [← HHB.out]
          unfold headOk
          simp only [W4z]
          simp [cL, cmn, cmx, cm]
         go_wp2_with fail
         go_meet
         case rel =>
          rw [EH.out]
          exact ⟨⟨rfl, bl_put T6.out _, (Ks.refl _ _).set 3 _⟩⟩
       ·
        have cmxb : (mx == 0) = false := by simp [cmx]
        have EH : Hid (HB = false) := by
         show _ = _
         rw [← HHB.out]
         unfold headOk
         simp only [W4z]
         simp [cL, cmn, cmx]
        go_wp2_with fail
        go_meet
        case rel =>
         rw [EH.out]
         exact ⟨⟨rfl, bl_put T6.out _, (Ks.refl _ _).set 3 _⟩⟩
      ·
       have cmnb : (mn == 0) = false := by simp [cmn]
       have EH : Hid (HB = false) := by
        show _ = _
        rw [← HHB.out]
        unfold headOk
        simp only [W4z]
        simp [cL, cmn]
       go_wp2_with fail
       go_meet
       case rel =>
        rw [EH.out]
        exact ⟨⟨rfl, bl_put T6.out _, (Ks.refl _ _).set 3 _⟩⟩
     ·
      obtain rfl : E = false := by
       cases E with
       | false => rfl
       | true => exact absurd rfl cE
      clear cE
      have EH : Hid (HB = false) := by
       show _ = _
       rw [← HHB.out]
       unfold headOk
       simp only [W4z]
       simp
      go_wp2_with fail
      go_meet
      case rel =>
       rw [EH.out]
       exact ⟨⟨rfl, bl_put T6.out _, (Ks.refl _ _).set 3 _⟩⟩
    ·
     have cLi : (L : Int) = 1 := by omega
     have cLb : ((L : Int) != 1) = false := by rw [cLi]; rfl
     have EH : Hid (HB = false) := by
      show _ = _
      rw [← HHB.out]
      unfold headOk
      simp only [W4z]
      simp [cL]
     go_wp2_with fail
     go_meet
     case rel =>
      rw [EH.out]
      exact ⟨⟨rfl, bl_put T6.out _, (Ks.refl _ _).set 3 _⟩⟩
  have k2b : (k == 2) = false := by simp [k2]
  by_cases k3 : k = 3
  ·
   subst k3
   as_aux_lemma =>
    by_cases cL : 2 ≤ L
    ·
     have cLi : (2 : Int) ≤ (L : Int) := by omega
     by_cases cE : E = true
     ·
      subst cE
      by_cases cmn : mn = 0
      ·
       have cmnb : (mn == 0) = true := by simp [cmn]
       by_cases cmx : mx = 0
       ·
        have cmxb : (mx == 0) = true := by simp [cmx]
        by_cases cm : m = 0
        ·
         have cmb : (m == 0) = true := by simp [cm]
         have EH : Hid (HB = true) := by
          show _ = _
          rw [← HHB.out]
          unfold headOk
          simp only [W4z]
          simp [cL, cmn, cmx, cm]
         go_wp2_with fail
         go_meet
         case rel =>
          rw [EH.out]
          exact ⟨⟨rfl, bl_put T6.out _, (Ks.refl _ _).set 3 _⟩⟩
        ·
         have cmb : (m == 0) = false := by simp [cm]
         have EH : Hid (HB = false) := by
          show _ = _
          rw [← HHB.out]
          unfold headOk
          simp only [W4z]
          simp [cL, cmn, cmx, cm]
         go_wp2_with fail
         go_meet
         case rel =>
          rw [EH.out]
          exact ⟨⟨rfl, bl_put T6.out _, (Ks.refl _ _).set 3 _⟩⟩
       ·
        have cmxb : (mx == 0) = false := by simp [cmx]
        have EH : Hid (HB = false) := by
         show _ = _
         rw [← HHB.out]
         unfold headOk
         simp only [W4z]
         simp [cL, cmn, cmx]
        go_wp2_with fail
        go_meet
        case rel =>
         rw [EH.out]
         exact ⟨⟨rfl, bl_put T6.out _, (Ks.refl _ _).set 3 _⟩⟩
      ·
       have cmnb : (mn == 0) = false := by simp [cmn]
       have EH : Hid (HB = false) := by
        show _ = _
        rw [← HHB.out]
        unfold headOk
        simp only [W4z]
        simp [cL, cmn]
       go_wp2_with fail
       go_meet
       case rel =>
        rw [EH.out]
        exact ⟨⟨rfl, bl_put T6.out _, (Ks.refl _ _).set 3 _⟩⟩
     ·
      obtain rfl : E = false := by
       cases E with
       | false => rfl
       | true => exact absurd rfl cE
      clear cE
      have EH : Hid (HB = false) := by
       show _ = _
       rw [← HHB.out]
       unfold headOk
       simp only [W4z]
       simp [cL]
      go_wp2_with fail
      go_meet
      case rel =>
       rw [EH.out]
       exact ⟨⟨rfl, bl_put T6.out _, (Ks.refl _ _).set 3 _⟩⟩
    ·
     have cLi : ¬ (2 : Int) ≤ (L : Int) := by omega
     have EH : Hid (HB = false) := by
      show _ = _
      rw [← HHB.out]
      unfold headOk
      simp only [W4z]
      simp [cL]
     go_wp2_with fail
     go_meet
     case rel =>
      rw [EH.out]
      exact ⟨⟨rfl, bl_put T6.out _, (Ks.refl _ _).set 3 _⟩⟩
  have k3b : (k == 3) = false := by simp [k3]
  by_cases k4 : k = 4
  ·
   subst k4
   as_aux_lemma =>
    by_cases cL : L = 1
    ·
     have cLi : (L : Int) = 1 := by omega
     have cLb : ((L : Int) == 1) = true := beq_iff_eq.2 (by omega)
     by_cases cE : E = true
     ·
      subst cE
      by_cases cm : m = 0
      ·
       have cmb : (m == 0) = true := by simp [cm]
       by_cases c0 : (0 : Int) ≤ mn
       ·
        by_cases c20 : mn ≤ (20 : Int)
        ·
         by_cases cx20 : mx ≤ (20 : Int)
         ·
          by_cases cq : mx = -1
          ·
           have cqb : (mx == -1) = true := by simp [cq]
           have EH : Hid (HB = true) := by
            show _ = _
            rw [← HHB.out]
            unfold headOk
            simp only [W4z]
            simp [cL, cm, c0, c20, cq]
           go_wp2_with fail
           go_meet
           case rel =>
            rw [EH.out]
            exact ⟨⟨rfl, bl_put T6.out _, (Ks.refl _ _).set 3 _⟩⟩
          ·
           have cqb : (mx == -1) = false := by simp [cq]
           by_cases cw : mn ≤ mx
           ·
            by_cases cv : (1 : Int) ≤ mx
            ·
             have EH : Hid (HB = true) := by
              show _ = _
              rw [← HHB.out]
              unfold headOk
              simp only [W4z]
              simp [cL, cm, c0, c20, cx20, cw, cv]
             go_wp2_with fail
             go_meet
             case rel =>
              rw [EH.out]
              exact ⟨⟨rfl, bl_put T6.out _, (Ks.refl _ _).set 3 _⟩⟩
            ·
             have EH : Hid (HB = false) := by
              show _ = _
              rw [← HHB.out]
              unfold headOk
              simp only [W4z]
              simp [cL, cm, c0, c20, cx20, cq, cw, cv]
             go_wp2_with fail
             go_meet
             case rel =>
              rw [EH.out]
              exact ⟨⟨rfl, bl_put T6.out _, (Ks.refl _ _).set 3 _⟩⟩
           ·
            have EH : Hid (HB = false) := by
             show _ = _
             rw [← HHB.out]
             unfold headOk
             simp only [W4z]
             simp [cL, cm, c0, c20, cx20, cq, cw]
            go_wp2_with fail
            go_meet
            case rel =>
             rw [EH.out]
             exact ⟨⟨rfl, bl_put T6.out _, (Ks.refl _ _).set 3 _⟩⟩
         ·
          have EH : Hid (HB = false) := by
           show _ = _
           rw [← HHB.out]
           unfold headOk
           simp only [W4z]
           simp [cL, cm, c0, c20, cx20]
          go_wp2_with fail
          go_meet
          case rel =>
           rw [EH.out]
           exact ⟨⟨rfl, bl_put T6.out _, (Ks.refl _ _).set 3 _⟩⟩
        ·
         have EH : Hid (HB = false) := by
          show _ = _
          rw [← HHB.out]
          unfold headOk
          simp only [W4z]
          simp [cL, cm, c0, c20]
         go_wp2_with fail
         go_meet
         case rel =>
          rw [EH.out]
          exact ⟨⟨rfl, bl_put T6.out _, (Ks.refl _ _).set 3 _⟩⟩
       ·
        have EH : Hid (HB = false) := by
         show _ = _
         rw [← HHB.out]
         unfold headOk
         simp only [W4z]
         simp [cL, cm, c0]
        go_wp2_with fail
        go_meet
        case rel =>
         rw [EH.out]
         exact ⟨⟨rfl, bl_put T6.out _, (Ks.refl _ _).set 3 _⟩⟩
      ·
       have cmb : (m == 0) = false := by simp [cm]
       have EH : Hid (HB = false) := by
        show _ = _
        rw [← HHB.out]
        unfold headOk
        simp only [W4z]
        simp [cL, cm]
       go_wp2_with fail
       go_meet
       case rel =>
        rw [EH.out]
        exact ⟨⟨rfl, bl_put T6.out _, (Ks.refl _ _).set 3 _⟩⟩
     ·
      obtain rfl : E = false := by
       cases E with
       | false => rfl
       | true => exact absurd rfl cE
      clear cE
      have EH : Hid (HB = false) := by
       show _ = _
       rw [← HHB.out]
       unfold headOk
       simp only [W4z]
       simp [cL]
      go_wp2_with fail
      go_meet
      case rel =>
       rw [EH.out]
       exact ⟨⟨rfl, bl_put T6.out _, (Ks.refl _ _).set 3 _⟩⟩
    ·
     have cLi : ¬ (L : Int) = 1 := by omega
     have cLb : ((L : Int) == 1) = false := beq_eq_false_iff_ne.2 (by omega)
     have EH : Hid (HB = false) := by
      show _ = _
      rw [← HHB.out]
      unfold headOk
      simp only [W4z]
      simp [cL]
     go_wp2_with fail
     go_meet
     case rel =>
      rw [EH.out]
      exact ⟨⟨rfl, bl_put T6.out _, (Ks.refl _ _).set 3 _⟩⟩
  have k4b : (k == 4) = false := by simp [k4]
  by_cases k5 : k = 5
  ·
   subst k5
   as_aux_lemma =>
    by_cases cL : L = 1
    ·
     have cLi : (L : Int) = 1 := by omega
     have cLb : ((L : Int) == 1) = true := beq_iff_eq.2 (by omega)
     by_cases cE : E = true
     ·
      subst cE
      by_cases cmn : mn = 0
      ·
       have cmnb : (mn == 0) = true := by simp [cmn]
       by_cases cmx : mx = 0
       ·
        have cmxb : (mx == 0) = true := by simp [cmx]
        by_cases cn : m = ((h + 1 : Nat) : Int)
        ·
         have cnb : (m == (h : Int) + 1) = true := by rw [beq_iff_eq]; omega
         have cnj : m = (h : Int) + 1 := by omega
         have EH : Hid (HB = true) := by
          show _ = _
          rw [← HHB.out]
          unfold headOk
          simp only [W4z]
          simp [cL, cmn, cmx, cnj]
         go_wp2_with fail
         go_meet
         case rel =>
          rw [EH.out]
          exact ⟨⟨(by show Value.int .i64 ((h : Int) + 1) = Value.int .i64 ((h + 1 : Nat) : Int); rw [Int.natCast_add]; rfl), bl_put (bl_put T6.out _) _, ((Ks.refl _ _).set 3 _).set 1 _⟩⟩
        ·
         have cnb : (m == (h : Int) + 1) = false := by rw [beq_eq_false_iff_ne]; omega
         have cnj : ¬ m = (h : Int) + 1 := by omega
         have EH : Hid (HB = false) := by
          show _ = _
          rw [← HHB.out]
          unfold headOk
          simp only [W4z]
          simp [cL, cmn, cmx, cnj]
         go_wp2_with fail
         go_meet
         case rel =>
          rw [EH.out]
          exact ⟨⟨(by show Value.int .i64 ((h : Int) + 1) = Value.int .i64 ((h + 1 : Nat) : Int); rw [Int.natCast_add]; rfl), bl_put (bl_put T6.out _) _, ((Ks.refl _ _).set 3 _).set 1 _⟩⟩
       ·
        have cmxb : (mx == 0) = false := by simp [cmx]
        have EH : Hid (HB = false) := by
         show _ = _
         rw [← HHB.out]
         unfold headOk
         simp only [W4z]
         simp [cL, cmn, cmx]
        go_wp2_with fail
        go_meet
        case rel =>
         rw [EH.out]
         exact ⟨⟨(by show Value.int .i64 ((h : Int) + 1) = Value.int .i64 ((h + 1 : Nat) : Int); rw [Int.natCast_add]; rfl), bl_put (bl_put T6.out _) _, ((Ks.refl _ _).set 3 _).set 1 _⟩⟩
      ·
       have cmnb : (mn == 0) = false := by simp [cmn]
       have EH : Hid (HB = false) := by
        show _ = _
        rw [← HHB.out]
        unfold headOk
        simp only [W4z]
        simp [cL, cmn]
       go_wp2_with fail
       go_meet
       case rel =>
        rw [EH.out]
        exact ⟨⟨(by show Value.int .i64 ((h : Int) + 1) = Value.int .i64 ((h + 1 : Nat) : Int); rw [Int.natCast_add]; rfl), bl_put (bl_put T6.out _) _, ((Ks.refl _ _).set 3 _).set 1 _⟩⟩
     ·
      obtain rfl : E = false := by
       cases E with
       | false => rfl
       | true => exact absurd rfl cE
      clear cE
      have EH : Hid (HB = false) := by
       show _ = _
       rw [← HHB.out]
       unfold headOk
       simp only [W4z]
       simp [cL]
      go_wp2_with fail
      go_meet
      case rel =>
       rw [EH.out]
       exact ⟨⟨(by show Value.int .i64 ((h : Int) + 1) = Value.int .i64 ((h + 1 : Nat) : Int); rw [Int.natCast_add]; rfl), bl_put (bl_put T6.out _) _, ((Ks.refl _ _).set 3 _).set 1 _⟩⟩
    ·
     have cLi : ¬ (L : Int) = 1 := by omega
     have cLb : ((L : Int) == 1) = false := beq_eq_false_iff_ne.2 (by omega)
     have EH : Hid (HB = false) := by
      show _ = _
      rw [← HHB.out]
      unfold headOk
      simp only [W4z]
      simp [cL]
     go_wp2_with fail
     go_meet
     case rel =>
      rw [EH.out]
      exact ⟨⟨(by show Value.int .i64 ((h : Int) + 1) = Value.int .i64 ((h + 1 : Nat) : Int); rw [Int.natCast_add]; rfl), bl_put (bl_put T6.out _) _, ((Ks.refl _ _).set 3 _).set 1 _⟩⟩
  have k5b : (k == 5) = false := by simp [k5]
  by_cases k6 : k = 6
  ·
   subst k6
   as_aux_lemma =>
    by_cases cL : L = 0
    ·
     have cLi : (L : Int) = 0 := by omega
     have cLb : ((L : Int) == 0) = true := beq_iff_eq.2 (by omega)
     by_cases cE : E = true
     ·
      subst cE
      by_cases cmn : mn = 0
      ·
       have cmnb : (mn == 0) = true := by simp [cmn]
       by_cases cmx : mx = 0
       ·
        have cmxb : (mx == 0) = true := by simp [cmx]
        by_cases c1 : (1 : Int) ≤ m
        ·
         by_cases ch : m ≤ (h : Int)
         ·
          have EH : Hid (HB = true) := by
           show _ = _
           rw [← HHB.out]
           unfold headOk
           simp only [W4z]
           simp [cL, cmn, cmx, c1, ch]
          go_wp2_with fail
          go_meet
          case rel =>
           rw [EH.out]
           exact ⟨⟨rfl, bl_put T6.out _, (Ks.refl _ _).set 3 _⟩⟩
         ·
          have EH : Hid (HB = false) := by
           show _ = _
           rw [← HHB.out]
           unfold headOk
           simp only [W4z]
           simp [cL, cmn, cmx, c1, ch]
          go_wp2_with fail
          go_meet
          case rel =>
           rw [EH.out]
           exact ⟨⟨rfl, bl_put T6.out _, (Ks.refl _ _).set 3 _⟩⟩
        ·
         have EH : Hid (HB = false) := by
          show _ = _
          rw [← HHB.out]
          unfold headOk
          simp only [W4z]
          simp [cL, cmn, cmx, c1]
         go_wp2_with fail
         go_meet
         case rel =>
          rw [EH.out]
          exact ⟨⟨rfl, bl_put T6.out _, (Ks.refl _ _).set 3 _⟩⟩
       ·
        have cmxb : (mx == 0) = false := by simp [cmx]
        have EH : Hid (HB = false) := by
         show _ = _
         rw [← HHB.out]
         unfold headOk
         simp only [W4z]
         simp [cL, cmn, cmx]
        go_wp2_with fail
        go_meet
        case rel =>
         rw [EH.out]
         exact ⟨⟨rfl, bl_put T6.out _, (Ks.refl _ _).set 3 _⟩⟩
      ·
       have cmnb : (mn == 0) = false := by simp [cmn]
       have EH : Hid (HB = false) := by
        show _ = _
        rw [← HHB.out]
        unfold headOk
        simp only [W4z]
        simp [cL, cmn]
       go_wp2_with fail
       go_meet
       case rel =>
        rw [EH.out]
        exact ⟨⟨rfl, bl_put T6.out _, (Ks.refl _ _).set 3 _⟩⟩
     ·
      obtain rfl : E = false := by
       cases E with
       | false => rfl
       | true => exact absurd rfl cE
      clear cE
      have EH : Hid (HB = false) := by
       show _ = _
       rw [← HHB.out]
       unfold headOk
       simp only [W4z]
       simp [cL]
      go_wp2_with fail
      go_meet
      case rel =>
       rw [EH.out]
       exact ⟨⟨rfl, bl_put T6.out _, (Ks.refl _ _).set 3 _⟩⟩
    ·
     have cLi : ¬ (L : Int) = 0 := by omega
     have cLb : ((L : Int) == 0) = false := beq_eq_false_iff_ne.2 (by omega)
     have EH : Hid (HB = false) := by
      show _ = _
      rw [← HHB.out]
      unfold headOk
      simp only [W4z]
      simp [cL]
     go_wp2_with fail
     go_meet
     case rel =>
      rw [EH.out]
      exact ⟨⟨rfl, bl_put T6.out _, (Ks.refl _ _).set 3 _⟩⟩
  have k6b : (k == 6) = false := by simp [k6]
  by_cases k7 : k = 7
  ·
   subst k7
   as_aux_lemma =>
    by_cases cL : L = 0
    ·
     have cLi : (L : Int) = 0 := by omega
     have cLb : ((L : Int) == 0) = true := beq_iff_eq.2 (by omega)
     by_cases cE : E = true
     ·
      subst cE
      by_cases cmn : mn = 0
      ·
       have cmnb : (mn == 0) = true := by simp [cmn]
       by_cases cmx : mx = 0
       ·
        have cmxb : (mx == 0) = true := by simp [cmx]
        by_cases cm : m = 0
        ·
         have cmb : (m == 0) = true := by simp [cm]
         have EH : Hid (HB = true) := by
          show _ = _
          rw [← HHB.out]
          unfold headOk
          simp only [W4z]
          simp [cL, cmn, cmx, cm]
         go_wp2_with fail
         go_meet
         case rel =>
          rw [EH.out]
          exact ⟨⟨rfl, bl_put T6.out _, (Ks.refl _ _).set 3 _⟩⟩
        ·
         have cmb : (m == 0) = false := by simp [cm]
         have EH : Hid (HB = false) := by
          show _ = _
          rw [← HHB.out]
          unfold headOk
          simp only [W4z]
          simp [cL, cmn, cmx, cm]
         go_wp2_with fail
         go_meet
         case rel =>
          rw [EH.out]
          exact ⟨⟨rfl, bl_put T6.out _, (Ks.refl _ _).set 3 _⟩⟩
       ·
        have cmxb : (mx == 0) = false := by simp [cmx]
        have EH : Hid (HB = false) := by
         show _ = _
         rw [← HHB.out]
         unfold headOk
         simp only [W4z]
         simp [cL, cmn, cmx]
        go_wp2_with fail
        go_meet
        case rel =>
         rw [EH.out]
         exact ⟨⟨rfl, bl_put T6.out _, (Ks.refl _ _).set 3 _⟩⟩
      ·
       have cmnb : (mn == 0) = false := by simp [cmn]
       have EH : Hid (HB = false) := by
        show _ = _
        rw [← HHB.out]
        unfold headOk
        simp only [W4z]
        simp [cL, cmn]
       go_wp2_with fail
       go_meet
       case rel =>
        rw [EH.out]
        exact ⟨⟨rfl, bl_put T6.out _, (Ks.refl _ _).set 3 _⟩⟩
     ·
      obtain rfl : E = false := by
       cases E with
       | false => rfl
       | true => exact absurd rfl cE
      clear cE
      have EH : Hid (HB = false) := by
       show _ = _
       rw [← HHB.out]
       unfold headOk
       simp only [W4z]
       simp [cL]
      go_wp2_with fail
      go_meet
      case rel =>
       rw [EH.out]
       exact ⟨⟨rfl, bl_put T6.out _, (Ks.refl _ _).set 3 _⟩⟩
    ·
     have cLi : ¬ (L : Int) = 0 := by omega
     have cLb : ((L : Int) == 0) = false := beq_eq_false_iff_ne.2 (by omega)
     have EH : Hid (HB = false) := by
      show _ = _
      rw [← HHB.out]
      unfold headOk
      simp only [W4z]
      simp [cL]
     go_wp2_with fail
     go_meet
     case rel =>
      rw [EH.out]
      exact ⟨⟨rfl, bl_put T6.out _, (Ks.refl _ _).set 3 _⟩⟩
  have k7b : (k == 7) = false := by simp [k7]
  by_cases k8 : k = 8
  ·
   subst k8
   as_aux_lemma =>
    by_cases cL : L = 0
    ·
     have cLi : (L : Int) = 0 := by omega
     have cLb : ((L : Int) == 0) = true := beq_iff_eq.2 (by omega)
     by_cases cE : E = true
     ·
      subst cE
      by_cases cmn : mn = 0
      ·
       have cmnb : (mn == 0) = true := by simp [cmn]
       by_cases cmx : mx = 0
       ·
        have cmxb : (mx == 0) = true := by simp [cmx]
        by_cases cm : m = 0
        ·
         have cmb : (m == 0) = true := by simp [cm]
         have EH : Hid (HB = true) := by
          show _ = _
          rw [← HHB.out]
          unfold headOk
          simp only [W4z]
          simp [cL, cmn, cmx, cm]
         go_wp2_with fail
         go_meet
         case rel =>
          rw [EH.out]
          exact ⟨⟨rfl, bl_put T6.out _, (Ks.refl _ _).set 3 _⟩⟩
        ·
         have cmb : (m == 0) = false := by simp [cm]
         have EH : Hid (HB = false) := by
          show _ = _
          rw [← HHB.out]
          unfold headOk
          simp only [W4z]
          simp [cL, cmn, cmx, cm]
         go_wp2_with fail
         go_meet
         case rel =>
          rw [EH.out]
          exact ⟨⟨rfl, bl_put T6.out _, (Ks.refl _ _).set 3 _⟩⟩
       ·
        have cmxb : (mx == 0) = false := by simp [cmx]
        have EH : Hid (HB = false) := by
         show _ = _
         rw [← HHB.out]
         unfold headOk
         simp only [W4z]
         simp [cL, cmn, cmx]
        go_wp2_with fail
        go_meet
        case rel =>
         rw [EH.out]
         exact ⟨⟨rfl, bl_put T6.out _, (Ks.refl _ _).set 3 _⟩⟩
      ·
       have cmnb : (mn == 0) = false := by simp [cmn]
       have EH : Hid (HB = false) := by
        show _ = _
        rw [← HHB.out]
        unfold headOk
        simp only [W4z]
        simp [cL, cmn]
       go_wp2_with fail
       go_meet
       case rel =>
        rw [EH.out]
        exact ⟨⟨rfl, bl_put T6.out _, (Ks.refl _ _).set 3 _⟩⟩
     ·
      obtain rfl : E = false := by
       cases E with
       | false => rfl
       | true => exact absurd rfl cE
      clear cE
      have EH : Hid (HB = false) := by
       show _ = _
       rw [← HHB.out]
       unfold headOk
       simp only [W4z]
       simp [cL]
      go_wp2_with fail
      go_meet
      case rel =>
       rw [EH.out]
       exact ⟨⟨rfl, bl_put T6.out _, (Ks.refl _ _).set 3 _⟩⟩
    ·
     have cLi : ¬ (L : Int) = 0 := by omega
     have cLb : ((L : Int) == 0) = false := beq_eq_false_iff_ne.2 (by omega)
     have EH : Hid (HB = false) := by
      show _ = _
      rw [← HHB.out]
      unfold headOk
      simp only [W4z]
      simp [cL]
     go_wp2_with fail
     go_meet
     case rel =>
      rw [EH.out]
      exact ⟨⟨rfl, bl_put T6.out _, (Ks.refl _ _).set 3 _⟩⟩
  have k8b : (k == 8) = false := by simp [k8]
  as_aux_lemma =>
   have EH : Hid (HB = false) := by
    show _ = _
    rw [← HHB.out]
    unfold headOk
    simp only [W4z]
    simp [k1, k2, k3, k4, k5, k6, k7, k8]
   go_wp2_with fail
   go_meet
   case rel =>
    rw [EH.out]
    exact ⟨⟨by rw [show haveIn k h = h from by unfold haveIn; rw [if_neg k5]], by rw [show deepIn k = 0 from by unfold deepIn; rw [if_neg k5]]; exact bl_put T6.out _, (Ks.refl _ _).set 3 _⟩⟩
 case rest =>
 obtain ⟨⟨rfl, hT6, hKs⟩⟩ := hcut
 rename World => W1
 have T1 := hid hT6
 have A1 := hid (bl_ks A0.out (by omega) hKs)
 have R1 := hid (bl_ks R4.out (by omega) hKs)
 have K1 := hid (hKs.up K0.out (by omega))
 clear hT6 hKs A0 R4 T6 K0 a0 a1 a2 a3 a4 a5 a6 a7 a8 b1 b3 fb1 fb3 es gh
 obtain ⟨V0, hV0⟩ : ∃ V0, haveIn k h = V0 := ⟨_, rfl⟩
 have hV1 : V0 ≤ h + 1 := by rw [← hV0]; unfold haveIn; split <;> omega
 obtain ⟨D0, hD0⟩ : ∃ D0, deepIn k = D0 := ⟨_, rfl⟩
 have hD1 : D0 ≤ 1 := by rw [← hD0]; unfold deepIn; split <;> omega
 have hnd : nds (.mk k mn mx m t kids) = 1 + ndss kids := by rw [nds]
 rw [hnd] at hB
 have HMK : Hid (meas (.mk k mn mx m t kids) h = ⟨(measL k kids ⟨1, 0, HB, V0⟩).nodes, D0 + (measL k kids ⟨1, 0, HB, V0⟩).deep, (measL k kids ⟨1, 0, HB, V0⟩).ok, (measL k kids ⟨1, 0, HB, V0⟩).have_⟩) := by
  show _ = _
  rw [meas_mk, HL.out, HHB.out, hV0, hD0]
 rw [hD0] at T1
 rw [hV0]
 clear hnd hV0 hD0
 obtain ⟨a0, a1, a2, a3, a4, a5, a6, a7, a8⟩ := cells9c A1.out
 go_wp2_with fail
 clear a0 a1 a2 a3 a4 a5 a6 a7 a8
 go_loopg [1, 9, 224] L (fun gg v1 v9 vi wr => ∃ (q : Nat) (tl : Tl), q + gg = L ∧ vi = .int .i64 (q : Int) ∧ measL k (kids.take q) ⟨1, 0, HB, V0⟩ = tl ∧ v1 = .int .i64 (tl.have_ : Int) ∧ v9 = .int .i64 (tl.deep : Int) ∧ wr.heap[w.heap.size + 1 + 1]? = some (tlo (tl.nodes : Int) (D0 : Int) tl.ok) ∧ wr.heap[w.heap.size]? = some (rxo k mn mx m t (.slice ad L c)) ∧ wr.heap[w.heap.size + 1]? = some (tlo 0 0 false) ∧ Kp w wr)
 case atStart => exact ⟨0, _, by omega, rfl, by rw [List.take_zero, measL], rfl, rfl, T1.out, A1.out, R1.out, K1.out⟩
 case round =>
  obtain ⟨q, ⟨N, D, O, V⟩, hq, rfl, hM, rfl, rfl, hT, hA, hR, hK⟩ := hrel
  have hup := measL_up (kids.take q) k ⟨1, 0, HB, V0⟩
  rw [hM] at hup
  have hndt := ndss_take kids q
  simp only at hup hT
  have hNb : N ≤ 1 + ndss (kids.take q) := by omega
  have hDb : D ≤ ndss (kids.take q) := by omega
  have hVb : V ≤ V0 + ndss (kids.take q) := by omega
  clear hup
  have HM := hid hM
  have T := hid hT
  have A := hid hA
  have R := hid hR
  have K := hid hK
  have hs1 : w.heap.size + 1 + 1 < wr.heap.size := bl_lt hT
  clear hM hT hA hR hK T1 A1 R1 K1
  by_cases hlt : q < L
  ·
   have gkw : IntKind.i64.wrap ((q : Int) + 1) = (q : Int) + 1 := by rw [IntKind.wrap_i64]; omega
   have ga : (q : Int) < (L : Int) := by omega
   have g0 : (0 : Int) ≤ (q : Int) := by omega
   obtain ⟨r, hr⟩ : ∃ r, kids[q]? = some r := ⟨_, List.getElem?_eq_getElem (by rw [HL.out]; exact hlt)⟩
   obtain ⟨bb, oo, kk, mn', mx', mm, tt, ad', ll, cc, e1, hbb, i1, ce1⟩ := (RR.out.kp K.out).at q r hr
   subst e1
   have TS := hid (HH.out r (List.mem_of_getElem? hr)).all
   have hmem := List.mem_of_getElem? hr
   have HRQ := hid hr
   have I1 := hid i1
   have CE1 := hid ce1
   clear hr i1 ce1
   obtain ⟨x0, x1, x2, x3, x4, x5, x6, x7, x8⟩ := cells_of_is CE1.out
   go_upto_region 27 with fail
   clear x0 x1 x2 x3 x4 x5 x6 x7 x8
   refine opq (fun W => W.heap[wr.heap.size]? = some (rxo kk mn' mx' mm tt (.slice ad' ll cc)) ∧ Kp wr W) ⟨by exact last_at _ _ _ (by simp), by exact (Kp.refl _).alloc _⟩ ?_
   rintro W1 ⟨y1, y2⟩
   have A1 := hid y1
   have K1 := hid y2
   clear y1 y2
   have htk : ndss (kids.take (q + 1)) = ndss (kids.take q) + nds r := by
    rw [List.take_succ_eq_append_getElem (by rw [HL.out]; exact hlt), ndss_app, (List.getElem?_eq_some_iff.1 HRQ.out).2]
    simp [ndss]
   have htk2 := ndss_take kids (q + 1)
   have hmr := meas_le r V
   have HTK : Hid (measL k (kids.take (q + 1)) ⟨1, 0, HB, V0⟩ = ⟨N + (meas r V).nodes, max D (meas r V).deep, O && (meas r V).ok && pairOk k r.k, (meas r V).have_⟩) := by
    show _ = _
    rw [List.take_succ_eq_append_getElem (by rw [HL.out]; exact hlt), measL_app, HM.out, (List.getElem?_eq_some_iff.1 HRQ.out).2, measL, measL]
   have HKK : Hid (kk = r.k) := (Pd.mk (I1.out.weak (fun _ _ _ => trivial))).all.2.1
   have TSV := hid (TS.out V ok _ _ (by omega) (I1.out.kp K1.out))
   obtain ⟨tl2, htl2⟩ : ∃ tl2, meas r V = tl2 := ⟨_, rfl⟩
   rw [htl2] at TSV hmr HTK
   obtain ⟨N2, D2, O2, V2⟩ := tl2
   simp only at TSV hmr HTK
   have hN2 : N2 ≤ nds r := by omega
   have hD2 : D2 ≤ nds r := by omega
   have hV2 : V2 ≤ V + nds r := by omega
   have hbb : ndss (kids.take q) + nds r ≤ ndss kids := by omega
   clear hmr htk htk2
   clear htl2 TS
   obtain ⟨a0, a1, a2, a3, a4, a5, a6, a7, a8⟩ := cells9c A1.out
   go_wp2_with fail
   clear a0 a1 a2 a3 a4 a5 a6 a7 a8
   refine TSV.out.mono ?_
   rintro e W2 ⟨rfl, k2⟩
   have KK2 := hid (K1.out.trans k2)
   have C2 := hid (bl_kp A1.out k2)
   have hs2 := KK2.out.size
   have hsw : wr.heap.size < W2.heap.size := bl_lt C2.out
   clear k2 A1 K1 TSV
   have gN : IntKind.i64.wrap ((N : Int) + (N2 : Int)) = (N : Int) + (N2 : Int) := by rw [IntKind.wrap_i64]; omega
   have gD : max (D : Int) (D2 : Int) = ((max D D2 : Nat) : Int) := by omega
   go_upto_region 29 with fail
   refine opq (fun W3 => W3.heap[W2.heap.size]? = some (tlo (N2 : Int) (D2 : Int) O2) ∧ W3.heap[(w.heap.size + 1 + 1)]? = some (tlo (N : Int) (D0 : Int) O) ∧ W3.heap[w.heap.size]? = some (rxo k mn mx m t (.slice (some ⟨bb, oo, none⟩) L c)) ∧ W3.heap[(w.heap.size + 1)]? = some (tlo 0 0 false) ∧ W3.heap[wr.heap.size]? = some (rxo kk mn' mx' mm tt (.slice ad' ll cc)) ∧ Kp w W3) ⟨by (first | exact last_at _ _ _ (by simp) | (refine bl_alloc ?_ _; first | exact last_at _ _ _ (by simp) | (refine bl_alloc ?_ _; first | exact last_at _ _ _ (by simp) | (refine bl_alloc ?_ _; exact last_at _ _ _ (by simp))))), by exact bl_kp T.out (KK2.out.trans (by repeat (first | exact Kp.refl _ | refine Kp.alloc ?_ _ | refine Kp.drew ?_ | refine Kp.drewN _ ?_))), by exact bl_kp A.out (KK2.out.trans (by repeat (first | exact Kp.refl _ | refine Kp.alloc ?_ _ | refine Kp.drew ?_ | refine Kp.drewN _ ?_))), by exact bl_kp R.out (KK2.out.trans (by repeat (first | exact Kp.refl _ | refine Kp.alloc ?_ _ | refine Kp.drew ?_ | refine Kp.drewN _ ?_))), by exact bl_kp C2.out (by repeat (first | exact Kp.refl _ | refine Kp.alloc ?_ _ | refine Kp.drew ?_ | refine Kp.drewN _ ?_)), by exact K.out.trans (KK2.out.trans (by repeat (first | exact Kp.refl _ | refine Kp.alloc ?_ _ | refine Kp.drew ?_ | refine Kp.drewN _ ?_)))⟩ ?_
   rintro W3 ⟨xX3, xT3, xA3, xR3, xC3, xK3⟩
   have X3 : Hid (W3.heap[W2.heap.size]? = some (tlo (N2 : Int) (D2 : Int) O2)) := xX3
   have T3 : Hid (W3.heap[(w.heap.size + 1 + 1)]? = some (tlo (N : Int) (D0 : Int) O)) := xT3
   have A3 : Hid (W3.heap[w.heap.size]? = some (rxo k mn mx m t (.slice (some ⟨bb, oo, none⟩) L c))) := xA3
   have R3 : Hid (W3.heap[(w.heap.size + 1)]? = some (tlo 0 0 false)) := xR3
   have C3 : Hid (W3.heap[wr.heap.size]? = some (rxo kk mn' mx' mm tt (.slice ad' ll cc))) := xC3
   have K3 : Hid (Kp w W3) := xK3
   clear xX3 xT3 xA3 xR3 xC3 xK3
   clear T A R K KK2 C2
   go_cut [9] (fun v wc => v = .int .i64 ((max D D2 : Nat) : Int) ∧ wc.heap[w.heap.size + 1 + 1]? = some (tlo (((N + N2 : Nat)) : Int) (D0 : Int) O) ∧ wc.heap[W2.heap.size]? = some (tlo (N2 : Int) (D2 : Int) O2) ∧ wc.heap[w.heap.size]? = some (rxo k mn mx m t (.slice (some ⟨bb, oo, none⟩) L c)) ∧ wc.heap[w.heap.size + 1]? = some (tlo 0 0 false) ∧ wc.heap[wr.heap.size]? = some (rxo kk mn' mx' mm tt (.slice ad' ll cc)) ∧ Kp w wc)
   case first =>
    as_aux_lemma =>
     have Q0 : Ks (w.heap.size + 1 + 1) W3 W3.drew := (Ks.refl _ _).drew
     have MK : Hid (∀ W, Ks (w.heap.size + 1 + 1) W3 W → W.cell? ⟨W2.heap.size, 0, none⟩ = some (.int .i64 (N2 : Int)) ∧ W.cell? ⟨W2.heap.size, 1, none⟩ = some (.int .i64 (D2 : Int)) ∧ Hid (Ks (w.heap.size + 1 + 1) W3 W)) := fun W k => ⟨bl_cell (bl_ks X3.out (by omega) k) 0 _ rfl, bl_cell (bl_ks X3.out (by omega) k) 1 _ rfl, k⟩
     refine wp_region_noPanic ?_
     refine wp_region_held_drew (S := (fun W => W.cell? ⟨W2.heap.size, 0, none⟩ = some (.int .i64 (N2 : Int)) ∧ W.cell? ⟨W2.heap.size, 1, none⟩ = some (.int .i64 (D2 : Int)) ∧ Hid (Ks (w.heap.size + 1 + 1) W3 W))) (by kernel_rfl) ?_ (fun hH => ?_)
     ·
      exact MK.out _ Q0
     have KQ := Q0
     refine wpAnyH_take (i := 0) (oi := { dst := some 235, op := Op.fieldAddr 64 (Operand.tmp 6) 0, type := 0, pos := "ref.go:106", after := #[], guard := none }) (v := ?v0a1) rfl (by kernel_rfl) (by kernel_rfl) (by kernel_rfl) (fun _ _ _ h => h) (Or.inl ⟨by rfl, ?hy0a1⟩) hH ?r0a1
     case hy0a1 => (intro W hSw; (try dsimp only at hSw); go_simp; try (with_reducible rfl))
     try simp only [Act.put, List.setIfInBounds_toArray, List.set_cons_zero, List.set_cons_succ]
     refine wpAnyH_take (i := 2) (oi := { dst := some 237, op := Op.fieldAddr 64 (Operand.tmp 12) 0, type := 0, pos := "ref.go:106", after := #[], guard := none }) (v := ?v2a2) rfl (by kernel_rfl) (by kernel_rfl) (by kernel_rfl) (fun _ _ _ h => h) (Or.inl ⟨by rfl, ?hy2a2⟩) hH ?r2a2
     case hy2a2 => (intro W hSw; (try dsimp only at hSw); go_simp; try (with_reducible rfl))
     try simp only [Act.put, List.setIfInBounds_toArray, List.set_cons_zero, List.set_cons_succ]
     refine wpAnyH_take (i := 3) (oi := { dst := some 238, op := Op.load 3 (Operand.tmp 237), type := 3, pos := "ref.go:106", after := #[{ on := 2, ground := Ground.data }], guard := none }) (v := ?v3a3) rfl (by kernel_rfl) (by kernel_rfl) (by kernel_rfl) (fun _ _ _ h => h) (Or.inl ⟨by rfl, ?hy3a3⟩) hH ?r3a3
     case hy3a3 => (intro W hSw; (try dsimp only at hSw); go_simp; try (with_reducible rfl))
     try simp only [Act.put, List.setIfInBounds_toArray, List.set_cons_zero, List.set_cons_succ]
     refine wpAnyH_take (i := 5) (oi := { dst := some 240, op := Op.move (Operand.tmp 9), type := 3, pos := "ref.go:106", after := #[], guard := none }) (v := ?v5a4) rfl (by kernel_rfl) (by kernel_rfl) (by kernel_rfl) (fun _ _ _ h => h) (Or.inl ⟨by rfl, ?hy5a4⟩) hH ?r5a4
     case hy5a4 => (intro W hSw; (try dsimp only at hSw); go_simp; try (with_reducible rfl))
     try simp only [Act.put, List.setIfInBounds_toArray, List.set_cons_zero, List.set_cons_succ]
     refine wpAnyH_take (i := 6) (oi := { dst := some 241, op := Op.fieldAddr 64 (Operand.tmp 12) 1, type := 0, pos := "ref.go:106", after := #[], guard := none }) (v := ?v6a5) rfl (by kernel_rfl) (by kernel_rfl) (by kernel_rfl) (fun _ _ _ h => h) (Or.inl ⟨by rfl, ?hy6a5⟩) hH ?r6a5
     case hy6a5 => (intro W hSw; (try dsimp only at hSw); go_simp; try (with_reducible rfl))
     try simp only [Act.put, List.setIfInBounds_toArray, List.set_cons_zero, List.set_cons_succ]
     refine wpAnyH_take (i := 7) (oi := { dst := some 242, op := Op.load 3 (Operand.tmp 241), type := 3, pos := "ref.go:106", after := #[{ on := 6, ground := Ground.data }], guard := none }) (v := ?v7a6) rfl (by kernel_rfl) (by kernel_rfl) (by kernel_rfl) (fun _ _ _ h => h) (Or.inl ⟨by rfl, ?hy7a6⟩) hH ?r7a6
     case hy7a6 => (intro W hSw; (try dsimp only at hSw); go_simp; try (with_reducible rfl))
     try simp only [Act.put, List.setIfInBounds_toArray, List.set_cons_zero, List.set_cons_succ]
     refine wpAnyH_take (i := 8) (oi := { dst := some 243, op := Op.call { callee := Callee.builtin Builtin.max, args := #[Operand.tmp 240, Operand.tmp 242], argTypes := #[3, 3] }, type := 3, pos := "ref.go:106", after := #[{ on := 5, ground := Ground.data }, { on := 7, ground := Ground.data }], guard := none }) (v := ?v8a7) rfl (by kernel_rfl) (by kernel_rfl) (by kernel_rfl) (fun _ _ _ h => h) (Or.inl ⟨by rfl, ?hy8a7⟩) hH ?r8a7
     case hy8a7 => (intro W hSw; (try dsimp only at hSw); go_simp; try (with_reducible rfl))
     try simp only [Act.put, List.setIfInBounds_toArray, List.set_cons_zero, List.set_cons_succ]
     refine wpAnyH_ready (rs := [1]) (by kernel_rfl) (by simp) ?_
     refine AllReadyH.cons (o := { dst := some 236, op := Op.load 3 (Operand.tmp 235), type := 3, pos := "ref.go:106", after := #[{ on := 0, ground := Ground.data }], guard := none }) rfl (fun K hKq => ?_) AllReadyH.nil
     have c0 := bl_cell (bl_kp T3.out ((Kp.refl _).drew)) 0 _ rfl
     go_simp
     refine hKq.out _ _ (MK.out _ KQ) (fun hN => ?_)
     clear c0
     clear hKq K hH KQ
     have hH := hN
     clear hN
     have KQ := hH.2.2.out
     try simp only [Act.put, List.setIfInBounds_toArray, List.set_cons_zero, List.set_cons_succ]
     refine wpAnyH_take (i := 4) (oi := { dst := some 239, op := Op.binOp BinOp.add 3 (Operand.tmp 236) (Operand.tmp 238) 3, type := 3, pos := "ref.go:106", after := #[{ on := 1, ground := Ground.data }, { on := 3, ground := Ground.data }], guard := none }) (v := ?v4a8) rfl (by kernel_rfl) (by kernel_rfl) (by kernel_rfl) (fun _ _ _ h => h) (Or.inl ⟨by rfl, ?hy4a8⟩) hH ?r4a8
     case hy4a8 => (intro W hSw; (try dsimp only at hSw); go_simp; try (with_reducible rfl))
     try simp only [Act.put, List.setIfInBounds_toArray, List.set_cons_zero, List.set_cons_succ]
     refine wpAnyH_take (i := 9) (oi := { dst := some 244, op := Op.fieldAddr 64 (Operand.tmp 6) 0, type := 0, pos := "ref.go:106", after := #[{ on := 0, ground := Ground.phase }, { on := 1, ground := Ground.phase }, { on := 2, ground := Ground.phase }, { on := 3, ground := Ground.phase }, { on := 4, ground := Ground.phase }, { on := 5, ground := Ground.textOnly Departure.lateStores }, { on := 6, ground := Ground.textOnly Departure.lateStores }, { on := 7, ground := Ground.textOnly Departure.lateStores }, { on := 8, ground := Ground.textOnly Departure.lateStoresUnsure }], guard := none }) (v := ?v9a9) rfl (by kernel_rfl) (by kernel_rfl) (by kernel_rfl) (fun _ _ _ h => h) (Or.inl ⟨by rfl, ?hy9a9⟩) hH ?r9a9
     case hy9a9 => (intro W hSw; (try dsimp only at hSw); go_simp; try (with_reducible rfl))
     try simp only [Act.put, List.setIfInBounds_toArray, List.set_cons_zero, List.set_cons_succ]
     refine wpAnyH_ready (rs := [10]) (by kernel_rfl) (by simp) ?_
     refine AllReadyH.cons (o := { dst := none, op := Op.store 3 (Operand.tmp 244) (Operand.tmp 239), type := 0, pos := "ref.go:106", after := #[{ on := 9, ground := Ground.data }, { on := 4, ground := Ground.data }, { on := 0, ground := Ground.phase }, { on := 1, ground := Ground.phase }, { on := 2, ground := Ground.phase }, { on := 3, ground := Ground.phase }, { on := 4, ground := Ground.phase }, { on := 5, ground := Ground.textOnly Departure.lateStores }, { on := 6, ground := Ground.textOnly Departure.lateStores }, { on := 7, ground := Ground.textOnly Departure.lateStores }, { on := 8, ground := Ground.textOnly Departure.lateStoresUnsure }], guard := none }) rfl (fun K hKq => ?_) AllReadyH.nil
     have fq2 := bl_frozen (bl_kp T3.out ((Kp.refl _).drew)) 0
     have cq2 := bl_cell (bl_kp T3.out ((Kp.refl _).drew)) 0 _ rfl
     go_simp
     refine hKq.out _ _ (MK.out _ (KQ.set 0 _)) (fun hN => ?_)
     clear fq2 cq2
     clear hKq K hH KQ
     have hH := hN
     clear hN
     have KQ := hH.2.2.out
     try simp only [Act.put, List.setIfInBounds_toArray, List.set_cons_zero, List.set_cons_succ]
     refine wpAnyH_take (i := 11) (oi := { dst := some 9, op := Op.assign (Operand.tmp 243), type := 3, pos := "ref.go:106", after := #[{ on := 8, ground := Ground.data }, { on := 10, ground := Ground.chain }, { on := 0, ground := Ground.phase }, { on := 1, ground := Ground.phase }, { on := 2, ground := Ground.phase }, { on := 3, ground := Ground.phase }, { on := 4, ground := Ground.phase }, { on := 5, ground := Ground.phase }, { on := 6, ground := Ground.phase }, { on := 7, ground := Ground.phase }, { on := 8, ground := Ground.phase }, { on := 9, ground := Ground.phase }, { on := 10, ground := Ground.phase }], guard := none }) (v := ?v11a10) rfl (by kernel_rfl) (by kernel_rfl) (by kernel_rfl) (fun _ _ _ h => h) (Or.inl ⟨by rfl, ?hy11a10⟩) hH ?r11a10
     case hy11a10 => (intro W hSw; (try dsimp only at hSw); go_simp; try (with_reducible rfl))
     try simp only [Act.put, List.setIfInBounds_toArray, List.set_cons_zero, List.set_cons_succ]
     refine wpAnyH_done (by kernel_rfl) ?_ _
     refine NoPanic.normal ?_
     go_wp2_with fail
     go_meet
     case rel => exact ⟨rfl, bl_put T3.out _, bl_set X3.out (by omega) _, bl_set A3.out (by omega) _, bl_set R3.out (by omega) _, bl_set C3.out (by omega) _, Ks.up (P := w.heap.size + 1 + 1) (((Ks.refl _ _).set 0 _).drew) K3.out (by omega)⟩
   case rest =>
   obtain ⟨rfl, t5, x5, a5, r5, c5, k5⟩ := hcut
   rename World => W5
   have T5 := hid t5
   have X5 := hid x5
   have A5 := hid a5
   have R5 := hid r5
   have C5 := hid c5
   have K5 := hid k5
   clear t5 x5 a5 r5 c5 k5 X3 T3 A3 R3 C3 K3 gN gD
   obtain ⟨AT, hAT⟩ : ∃ AT, (kk == 1 || kk == 5 || kk == 6) = AT := ⟨_, rfl⟩
   have HAT := hid hAT
   clear hAT
   obtain ⟨y0, y1, y2, y3, y4, y5, y6, y7, y8⟩ := cells9c C5.out
   go_upto_region 30 with fail
   go_cut [14] (fun v wc => v = .bool AT ∧ wc = W5)
   case first =>
    as_aux_lemma =>
     by_cases y1' : kk = 1
     ·
      have y1b : (kk == 1) = true := by simp [y1']
      have E : Hid (AT = true) := by show _ = _; rw [← HAT.out]; simp [y1']
      go_wp2_with fail
      go_meet
      case rel => exact ⟨by rw [E.out], rfl⟩
     have y1b : (kk == 1) = false := by simp [y1']
     by_cases y5' : kk = 5
     ·
      have y5b : (kk == 5) = true := by simp [y5']
      have E : Hid (AT = true) := by show _ = _; rw [← HAT.out]; simp [y5']
      go_wp2_with fail
      go_meet
      case rel => exact ⟨by rw [E.out], rfl⟩
     have y5b : (kk == 5) = false := by simp [y5']
     have E : Hid (AT = (kk == 6)) := by show _ = _; rw [← HAT.out]; simp [y1', y5']
     go_wp2_with fail
     go_meet
     case rel => exact ⟨by rw [E.out], rfl⟩
   case rest =>
   obtain ⟨rfl, rfl⟩ := hcut
   rename World => W5
   have b0 := bl_cell (T5.out) 0 _ rfl
   have fb0 := bl_frozen (T5.out) 0
   have b1 := bl_cell (T5.out) 1 _ rfl
   have fb1 := bl_frozen (T5.out) 1
   have b2 := bl_cell (T5.out) 2 _ rfl
   have fb2 := bl_frozen (T5.out) 2
   have b3 := bl_cell (T5.out) 3 _ rfl
   have fb3 := bl_frozen (T5.out) 3
   have x0 := bl_cell (X5.out) 0 _ rfl
   have x1 := bl_cell (X5.out) 1 _ rfl
   have x2 := bl_cell (X5.out) 2 _ rfl
   have x3 := bl_cell (X5.out) 3 _ rfl
   obtain ⟨a0, a1, a2, a3, a4, a5, a6, a7, a8⟩ := cells9c A5.out
   cases O with
   | false =>
    as_aux_lemma =>
     have EP : Hid ((false && O2 && pairOk k r.k) = false) := by
      show _ = _
      rw [← HKK.out]
      unfold pairOk
      simp []
     go_wp2_with fail
     go_roundg (gk - 1)
     case measure => omega
     case rel => exact ⟨q + 1, ⟨N + N2, max D D2, false, V2⟩, by omega, by go_num, by rw [HTK.out, EP.out], rfl, rfl, bl_put T5.out _, bl_set A5.out (by omega) _, bl_set R5.out (by omega) _, Ks.up (P := w.heap.size + 1 + 1) ((Ks.refl _ _).set 3 _) K5.out (by omega)⟩
   | true =>
   cases O2 with
   | false =>
    as_aux_lemma =>
     have EP : Hid ((true && false && pairOk k r.k) = false) := by
      show _ = _
      rw [← HKK.out]
      unfold pairOk
      simp []
     go_wp2_with fail
     go_roundg (gk - 1)
     case measure => omega
     case rel => exact ⟨q + 1, ⟨N + N2, max D D2, false, V2⟩, by omega, by go_num, by rw [HTK.out, EP.out], rfl, rfl, bl_put T5.out _, bl_set A5.out (by omega) _, bl_set R5.out (by omega) _, Ks.up (P := w.heap.size + 1 + 1) ((Ks.refl _ _).set 3 _) K5.out (by omega)⟩
   | true =>
   by_cases q2 : k = 2
   ·
    have q2b : (k == 2) = true := by simp [q2]
    have q2n : (k != 2) = false := by simp [q2]
    by_cases p2 : kk = 2
    ·
     have p2b : (kk == 2) = true := by simp [p2]
     have p2n : (kk != 2) = false := by simp [p2]
     as_aux_lemma =>
      have EP : Hid ((true && true && pairOk k r.k) = false) := by
       show _ = _
       rw [← HKK.out]
       unfold pairOk
       simp [q2, p2]
      go_wp2_with fail
      go_roundg (gk - 1)
      case measure => omega
      case rel => exact ⟨q + 1, ⟨N + N2, max D D2, false, V2⟩, by omega, by go_num, by rw [HTK.out, EP.out], rfl, rfl, bl_put T5.out _, bl_set A5.out (by omega) _, bl_set R5.out (by omega) _, Ks.up (P := w.heap.size + 1 + 1) ((Ks.refl _ _).set 3 _) K5.out (by omega)⟩
    ·
     have p2b : (kk == 2) = false := by simp [p2]
     have p2n : (kk != 2) = true := by simp [p2]
     by_cases p3 : kk = 3
     ·
      have p3b : (kk == 3) = true := by simp [p3]
      have p3n : (kk != 3) = false := by simp [p3]
      as_aux_lemma =>
       have EP : Hid ((true && true && pairOk k r.k) = false) := by
        show _ = _
        rw [← HKK.out]
        unfold pairOk
        simp [q2, p3]
       go_wp2_with fail
       go_roundg (gk - 1)
       case measure => omega
       case rel => exact ⟨q + 1, ⟨N + N2, max D D2, false, V2⟩, by omega, by go_num, by rw [HTK.out, EP.out], rfl, rfl, bl_put T5.out _, bl_set A5.out (by omega) _, bl_set R5.out (by omega) _, Ks.up (P := w.heap.size + 1 + 1) ((Ks.refl _ _).set 3 _) K5.out (by omega)⟩
     ·
      have p3b : (kk == 3) = false := by simp [p3]
      have p3n : (kk != 3) = true := by simp [p3]
      have q3n : (k != 3) = true := by simp [q2]
      have q4n : (k != 4) = true := by simp [q2]
      as_aux_lemma =>
       have EP : Hid ((true && true && pairOk k r.k) = true) := by
        show _ = _
        rw [← HKK.out]
        unfold pairOk
        simp [q2, p2, p3]
       go_wp2_with fail
       go_roundg (gk - 1)
       case measure => omega
       case rel => exact ⟨q + 1, ⟨N + N2, max D D2, true, V2⟩, by omega, by go_num, by rw [HTK.out, EP.out], rfl, rfl, bl_put T5.out _, bl_set A5.out (by omega) _, bl_set R5.out (by omega) _, Ks.up (P := w.heap.size + 1 + 1) ((Ks.refl _ _).set 3 _) K5.out (by omega)⟩
   ·
    have q2b : (k == 2) = false := by simp [q2]
    have q2n : (k != 2) = true := by simp [q2]
    by_cases q3 : k = 3
    ·
     have q3b : (k == 3) = true := by simp [q3]
     have q3n : (k != 3) = false := by simp [q3]
     by_cases p3 : kk = 3
     ·
      have p3b : (kk == 3) = true := by simp [p3]
      have p3n : (kk != 3) = false := by simp [p3]
      as_aux_lemma =>
       have EP : Hid ((true && true && pairOk k r.k) = false) := by
        show _ = _
        rw [← HKK.out]
        unfold pairOk
        simp [q3, p3]
       go_wp2_with fail
       go_roundg (gk - 1)
       case measure => omega
       case rel => exact ⟨q + 1, ⟨N + N2, max D D2, false, V2⟩, by omega, by go_num, by rw [HTK.out, EP.out], rfl, rfl, bl_put T5.out _, bl_set A5.out (by omega) _, bl_set R5.out (by omega) _, Ks.up (P := w.heap.size + 1 + 1) ((Ks.refl _ _).set 3 _) K5.out (by omega)⟩
     ·
      have p3b : (kk == 3) = false := by simp [p3]
      have p3n : (kk != 3) = true := by simp [p3]
      have q4n : (k != 4) = true := by simp [q3]
      as_aux_lemma =>
       have EP : Hid ((true && true && pairOk k r.k) = true) := by
        show _ = _
        rw [← HKK.out]
        unfold pairOk
        simp [q3, p3]
       go_wp2_with fail
       go_roundg (gk - 1)
       case measure => omega
       case rel => exact ⟨q + 1, ⟨N + N2, max D D2, true, V2⟩, by omega, by go_num, by rw [HTK.out, EP.out], rfl, rfl, bl_put T5.out _, bl_set A5.out (by omega) _, bl_set R5.out (by omega) _, Ks.up (P := w.heap.size + 1 + 1) ((Ks.refl _ _).set 3 _) K5.out (by omega)⟩
    ·
     have q3b : (k == 3) = false := by simp [q3]
     have q3n : (k != 3) = true := by simp [q3]
     by_cases q4 : k = 4
     ·
      have q4b : (k == 4) = true := by simp [q4]
      have q4n : (k != 4) = false := by simp [q4]
      cases AT with
      | true =>
       as_aux_lemma =>
        have EP : Hid ((true && true && pairOk k r.k) = true) := by
         show _ = _
         rw [← HKK.out]
         unfold pairOk
         have := HAT.out; simp [q4]; simpa using this
        go_wp2_with fail
        go_roundg (gk - 1)
        case measure => omega
        case rel => exact ⟨q + 1, ⟨N + N2, max D D2, true, V2⟩, by omega, by go_num, by rw [HTK.out, EP.out], rfl, rfl, bl_put T5.out _, bl_set A5.out (by omega) _, bl_set R5.out (by omega) _, Ks.up (P := w.heap.size + 1 + 1) ((Ks.refl _ _).set 3 _) K5.out (by omega)⟩
      | false =>
       as_aux_lemma =>
        have EP : Hid ((true && true && pairOk k r.k) = false) := by
         show _ = _
         rw [← HKK.out]
         unfold pairOk
         have := HAT.out; simp [q4]; simpa using this
        go_wp2_with fail
        go_roundg (gk - 1)
        case measure => omega
        case rel => exact ⟨q + 1, ⟨N + N2, max D D2, false, V2⟩, by omega, by go_num, by rw [HTK.out, EP.out], rfl, rfl, bl_put T5.out _, bl_set A5.out (by omega) _, bl_set R5.out (by omega) _, Ks.up (P := w.heap.size + 1 + 1) ((Ks.refl _ _).set 3 _) K5.out (by omega)⟩
     ·
      have q4b : (k == 4) = false := by simp [q4]
      have q4n : (k != 4) = true := by simp [q4]
      as_aux_lemma =>
       have EP : Hid ((true && true && pairOk k r.k) = true) := by
        show _ = _
        rw [← HKK.out]
        unfold pairOk
        simp [q2, q3, q4]
       go_wp2_with fail
       go_roundg (gk - 1)
       case measure => omega
       case rel => exact ⟨q + 1, ⟨N + N2, max D D2, true, V2⟩, by omega, by go_num, by rw [HTK.out, EP.out], rfl, rfl, bl_put T5.out _, bl_set A5.out (by omega) _, bl_set R5.out (by omega) _, Ks.up (P := w.heap.size + 1 + 1) ((Ks.refl _ _).set 3 _) K5.out (by omega)⟩
  ·
   have ga : ¬ (q : Int) < (L : Int) := by omega
   as_aux_lemma =>
    have hql : q = L := by omega
    have E : Hid (measL k kids ⟨1, 0, HB, V0⟩ = ⟨N, D, O, V⟩) := by
     show _ = _
     rw [← HM.out, List.take_of_length_le (by rw [HL.out]; omega)]
    have gD : IntKind.i64.wrap ((D0 : Int) + (D : Int)) = (D0 : Int) + (D : Int) := by rw [IntKind.wrap_i64]; omega
    have b0 := bl_cell (T.out) 0 _ rfl
    have fb0 := bl_frozen (T.out) 0
    have b1 := bl_cell (T.out) 1 _ rfl
    have fb1 := bl_frozen (T.out) 1
    have b2 := bl_cell (T.out) 2 _ rfl
    have fb2 := bl_frozen (T.out) 2
    have b3 := bl_cell (T.out) 3 _ rfl
    have fb3 := bl_frozen (T.out) 3
    go_upto_region 34 with fail
    refine opq (fun W6 => W6.heap[(w.heap.size + 1 + 1)]? = some (tlo (N : Int) ((D0 : Int) + (D : Int)) O) ∧ W6.heap[(w.heap.size + 1)]? = some (tlo 0 0 false) ∧ Kp w W6) ⟨by exact bl_put T.out _, by exact bl_set R.out (by omega) _, by exact Ks.up (P := w.heap.size + 1 + 1) ((Ks.refl _ _).set 1 _) K.out (by omega)⟩ ?_
    rintro W6 ⟨xT6, xR6, xK6⟩
    have T6 : Hid (W6.heap[(w.heap.size + 1 + 1)]? = some (tlo (N : Int) ((D0 : Int) + (D : Int)) O)) := xT6
    have R6 : Hid (W6.heap[(w.heap.size + 1)]? = some (tlo 0 0 false)) := xR6
    have K6 : Hid (Kp w W6) := xK6
    clear xT6 xR6 xK6
    clear T A R K b0 fb0 b1 fb1 b2 fb2 b3 fb3
    have b0 := bl_cell (T6.out) 0 _ rfl
    have fb0 := bl_frozen (T6.out) 0
    have b1 := bl_cell (T6.out) 1 _ rfl
    have fb1 := bl_frozen (T6.out) 1
    have b2 := bl_cell (T6.out) 2 _ rfl
    have fb2 := bl_frozen (T6.out) 2
    have b3 := bl_cell (T6.out) 3 _ rfl
    have fb3 := bl_frozen (T6.out) 3
    have r0 := bl_cell (R6.out) 0 _ rfl
    have fr0 := bl_frozen (R6.out) 0
    have r1 := bl_cell (R6.out) 1 _ rfl
    have fr1 := bl_frozen (R6.out) 1
    have r2 := bl_cell (R6.out) 2 _ rfl
    have fr2 := bl_frozen (R6.out) 2
    have r3 := bl_cell (R6.out) 3 _ rfl
    have fr3 := bl_frozen (R6.out) 3
    go_wp2_with fail
    refine bodyPost_ret (v := .tuple #[tlv (N : Int) ((D0 : Int) + (D : Int)) O, .int .i64 (V : Int)]) (tl_ret2 rfl _ _ _ _ _ rfl rfl (bl_put (bl_put (bl_put (bl_put R6.out _) _) _) _) rfl) rfl ⟨?_, ?_⟩
    ·
     rw [show TL = ⟨N, D0 + D, O, V⟩ from by rw [← HTL.out, HMK.out, E.out]]
     rfl
    ·
     exact Ks.up (P := w.heap.size + 1) (((((Ks.refl _ _).set 0 _).set 1 _).set 2 _).set 3 _) K6.out (by omega)
theorem Meas_any : ∀ a, MeasSaid a
 | .mk k mn mx n s kids => Meas_step k mn mx n s kids (fun a _ha => Meas_any a)
termination_by a => SizeOf.sizeOf a
decreasing_by
 have := List.sizeOf_lt_of_mem _ha
 simp
 omega
end Go.Proofs.YtikmgckefbjbkaaGreatDoor

/-! ### RefCnt -/

namespace Go.Proofs.YtikmgckefbjbkaaGreatDoor
open Go.RowKit

theorem grp_mk (k mn mx m : Int) (t : W4) (kids : List Rx) : grp (.mk k mn mx m t kids) = (if k = 5 then 1 else 0) + grps kids := by rw [grp]
structure CountSaid (r : Rx) : Prop where
 all : ∀ (ok : Nat → Prop) (v : Value) (w : World), Is w ok r v → Calls Tryz.prog 17 #[v] w fun e w' => e = .returned (.tuple #[.int .i64 ((nds r : Nat) : Int), .int .i64 ((grp r : Nat) : Int)]) ∧ Kp w w'

set_option maxHeartbeats 2000000 in
set_option maxRecDepth 100000 in
theorem Count_step (k mn mx m : Int) (t : W4) (kids : List Rx) (H : ∀ r, r ∈ kids → CountSaid r) (hB : nds (.mk k mn mx m t kids) ≤ 1000000) (hC : grp (.mk k mn mx m t kids) ≤ 1000000) (hS : kids.length ≤ 1000000) : CountSaid (.mk k mn mx m t kids) := by
 refine ⟨fun ok v w hI => ?_⟩
 obtain ⟨ad, l, c, rfl, hr⟩ := hI.row
 have hle := hr.ln
 have hlc := hr.cp
 subst hle
 obtain ⟨L, hL⟩ : ∃ L, kids.length = L := ⟨_, rfl⟩
 rw [hL] at hr hlc hS ⊢
 have HL := hid hL
 have RR := hid hr
 have HH := hid H
 clear hI hr H hL
 obtain ⟨A0n, hA0⟩ : ∃ A, (if k = 5 then 1 else 0) = A := ⟨_, rfl⟩
 have hG : nds (.mk k mn mx m t kids) = 1 + ndss kids := by rw [nds]
 have hGg := grp_mk k mn mx m t kids
 rw [hA0] at hGg
 rw [hG] at hB ⊢
 rw [hGg] at hC ⊢
 have hA01 : A0n ≤ 1 := by rw [← hA0]; split <;> omega
 obtain ⟨M, hM⟩ : ∃ M, ndss kids = M := ⟨_, rfl⟩
 obtain ⟨Mg, hMg⟩ : ∃ M, grps kids = M := ⟨_, rfl⟩
 rw [hM] at hB ⊢
 rw [hMg] at hC ⊢
 have HM := hid hM
 have HMg := hid hMg
 obtain ⟨T, hT⟩ : ∃ T, 1 + M = T := ⟨_, rfl⟩
 obtain ⟨Tg, hTg⟩ : ∃ T, A0n + Mg = T := ⟨_, rfl⟩
 rw [hT, hTg]
 have HT := hid hT
 have HTg := hid hTg
 have HA0 := hid hA0
 clear hM hMg hT hTg hG hGg hA0
 go_enter Tryz.func17, Tryz.ntmps17
 go_upto_region 1 with fail
 refine opq (fun W0 => W0.heap[w.heap.size]? = some (rxo k mn mx m t (.slice ad L c)) ∧ Kp w W0 ∧ RowAt W0 ok kids ad L c) ⟨by (first | exact last_at _ _ _ (by simp) | (refine bl_alloc ?_ _; first | exact last_at _ _ _ (by simp) | (refine bl_alloc ?_ _; first | exact last_at _ _ _ (by simp) | (refine bl_alloc ?_ _; exact last_at _ _ _ (by simp))))), by exact (by repeat (first | exact Kp.refl _ | refine Kp.alloc ?_ _ | refine Kp.drew ?_ | refine Kp.drewN _ ?_)), by exact RR.out.kp (by repeat (first | exact Kp.refl _ | refine Kp.alloc ?_ _ | refine Kp.drew ?_ | refine Kp.drewN _ ?_))⟩ ?_
 rintro W0 ⟨xA0, xK0, xR0⟩
 have A0 : Hid (W0.heap[w.heap.size]? = some (rxo k mn mx m t (.slice ad L c))) := xA0
 have K0 : Hid (Kp w W0) := xK0
 have R0 : Hid (RowAt W0 ok kids ad L c) := xR0
 clear xA0 xK0 xR0
 clear RR
 obtain ⟨a0, a1, a2, a3, a4, a5, a6, a7, a8⟩ := cells9c A0.out
 go_upto_if 12 with fail
 go_cut [5] (fun v wc => v = .int .i64 (A0n : Int) ∧ wc = W0)
 case first =>
  by_cases k5 : k = 5
  ·
   subst k5
   have E : Hid (A0n = 1) := by show _ = _; rw [← HA0.out]; rfl
   go_wp2_with fail
   go_meet
   case rel => exact ⟨by rw [E.out]; rfl, rfl⟩
  ·
   have k5b : (k == 5) = false := by simp [k5]
   have E : Hid (A0n = 0) := by show _ = _; rw [← HA0.out, if_neg k5]
   go_wp2_with fail
   go_meet
   case rel => exact ⟨by rw [E.out]; rfl, rfl⟩
 case rest =>
 obtain ⟨rfl, rfl⟩ := hcut
 rename World => W0
 go_wp2_with fail
 clear a0 a1 a2 a3 a4 a5 a6 a7 a8
 go_loopg [4, 5, 16] L (fun gg v u i wr => ∃ q A Ag : Nat, q + gg = L ∧ i = .int .i64 (q : Int) ∧ v = .int .i64 (A : Int) ∧ u = .int .i64 (Ag : Int) ∧ 1 + ndss (kids.take q) = A ∧ A0n + grps (kids.take q) = Ag ∧ Kp W0 wr)
 case atStart => exact ⟨0, 1, A0n, by omega, rfl, rfl, rfl, by rw [List.take_zero, ndss], by rw [List.take_zero, grps]; rfl, Kp.refl _⟩
 case round =>
  obtain ⟨q, A, Ag, hq, rfl, rfl, rfl, hA, hAg, hK⟩ := hrel
  have hle := ndss_take kids q
  have hleg := grps_take kids q
  rw [HM.out] at hle
  rw [HMg.out] at hleg
  have hAb : A ≤ 1000001 := by omega
  have hAbg : Ag ≤ 1000001 := by omega
  have HA := hid hA
  have HAg := hid hAg
  have K := hid hK
  clear hA hAg hK hle hleg
  by_cases hlt : q < L
  ·
   have gkw : IntKind.i64.wrap ((q : Int) + 1) = (q : Int) + 1 := by rw [IntKind.wrap_i64]; omega
   have ga : (q : Int) < (L : Int) := by omega
   have g0 : (0 : Int) ≤ (q : Int) := by omega
   obtain ⟨r, hr⟩ : ∃ r, kids[q]? = some r := ⟨_, List.getElem?_eq_getElem (by rw [HL.out]; exact hlt)⟩
   obtain ⟨bb, oo, kk, mn', mx', mm, tt, ad', ll, cc, e1, hbb, i1, ce1⟩ := (R0.out.kp K.out).at q r hr
   subst e1
   have TS := hid (HH.out r (List.mem_of_getElem? hr)).all
   have HRQ := hid hr
   have I1 := hid i1
   have CE1 := hid ce1
   clear hr i1 ce1
   obtain ⟨x0, x1, x2, x3, x4, x5, x6, x7, x8⟩ := cells_of_is CE1.out
   go_upto_region 7 with fail
   clear x0 x1 x2 x3 x4 x5 x6 x7 x8
   refine opq (fun W => W.heap[wr.heap.size]? = some (rxo kk mn' mx' mm tt (.slice ad' ll cc)) ∧ Kp wr W) ⟨by exact last_at _ _ _ (by simp), by exact (Kp.refl _).alloc _⟩ ?_
   rintro W1 ⟨y1, y2⟩
   have A1 := hid y1
   have K1 := hid y2
   clear y1 y2
   have hle : nds r ≤ ndss kids := ndss_mem kids r (List.mem_of_getElem? HRQ.out)
   have hleg : grp r ≤ grps kids := grps_mem kids r (List.mem_of_getElem? HRQ.out)
   rw [HM.out] at hle
   rw [HMg.out] at hleg
   have HTK : Hid (ndss (kids.take (q + 1)) = ndss (kids.take q) + nds r) := by
    show _ = _
    rw [List.take_succ_eq_append_getElem (by rw [HL.out]; exact hlt), ndss_app, (List.getElem?_eq_some_iff.1 HRQ.out).2]
    simp [ndss]
   have HTKg : Hid (grps (kids.take (q + 1)) = grps (kids.take q) + grp r) := by
    show _ = _
    rw [List.take_succ_eq_append_getElem (by rw [HL.out]; exact hlt), grps_app, (List.getElem?_eq_some_iff.1 HRQ.out).2]
    simp [grps]
   obtain ⟨G, hG⟩ : ∃ G, nds r = G := ⟨_, rfl⟩
   obtain ⟨Gg, hGg⟩ : ∃ G, grp r = G := ⟨_, rfl⟩
   rw [hG] at TS HTK hle
   rw [hGg] at TS HTKg hleg
   have hw : IntKind.i64.wrap ((A : Int) + (G : Int)) = (A : Int) + (G : Int) := by rw [IntKind.wrap_i64]; omega
   have hwg : IntKind.i64.wrap ((Ag : Int) + (Gg : Int)) = (Ag : Int) + (Gg : Int) := by rw [IntKind.wrap_i64]; omega
   clear hG hGg
   obtain ⟨a0, a1, a2, a3, a4, a5, a6, a7, a8⟩ := cells9c A1.out
   go_wp2_with fail
   clear a0 a1 a2 a3 a4 a5 a6 a7 a8
   refine (TS.out ok _ _ (I1.out.kp K1.out)).mono ?_
   rintro e W2 ⟨rfl, k2⟩
   have K2 := hid (K.out.trans (K1.out.trans k2))
   clear k2
   go_wp2_with fail
   go_roundg (gk - 1)
   case measure => omega
   case rel => exact ⟨q + 1, A + G, Ag + Gg, by omega, by go_num, by go_num, by go_num, by rw [HTK.out, ← Nat.add_assoc, HA.out], by rw [HTKg.out, ← Nat.add_assoc, HAg.out], K2.out⟩
  ·
   have ga : ¬ (q : Int) < (L : Int) := by omega
   have E : Hid (A = T) := by
    show _ = _
    rw [← HT.out, ← HA.out, List.take_of_length_le (by rw [HL.out]; omega), HM.out]
   have Eg : Hid (Ag = Tg) := by
    show _ = _
    rw [← HTg.out, ← HAg.out, List.take_of_length_le (by rw [HL.out]; omega), HMg.out]
   go_wp2_with fail
   go_ret2
   exact ⟨by rw [E.out, Eg.out]; rfl, K0.out.trans K.out⟩
theorem Count_any : ∀ a, nds a ≤ 1000000 → grp a ≤ 1000000 → Slim a → CountSaid a
 | .mk k mn mx n s kids, h, hg, hs => by
  unfold Slim at hs
  exact Count_step k mn mx n s kids (fun a ha => Count_any a (by unfold nds at h; have := ndss_mem kids a ha; omega) (by rw [grp_mk] at hg; have := grps_mem kids a ha; omega) (hs.2 a ha)) h hg hs.1
termination_by a => SizeOf.sizeOf a
decreasing_by
 have := List.sizeOf_lt_of_mem ha
 simp
 omega
end Go.Proofs.YtikmgckefbjbkaaGreatDoor

/-! ### PrintE -/

namespace Go.Proofs.YtikmgckefbjbkaaGreatDoor
open Go.RowKit

theorem parse_none (ere : Bool) : pParse (bs []) ere = (.mk 2 0 0 0 W4.z [], 0, 0) := by
 cases ere
 ·
  exact Trip.trip false (.mk 2 0 0 0 W4.z []) (by unfold RxOk; exact ⟨by simp, Trip.z_lt, fun a ha => by cases ha⟩) (by decide +kernel)
 ·
  exact Trip.trip true (.mk 2 0 0 0 W4.z []) (by unfold RxOk; exact ⟨by simp, Trip.z_lt, fun a ha => by cases ha⟩) (by decide +kernel)
/-- The text is empty just if the expression isn't right, or is the empty row. -/
theorem print_empty (ere : Bool) (k mn mx n : Int) (s : W4) (kids : List Rx) (hO : RxOk (.mk k mn mx n s kids)) :
  printT ere (.mk k mn mx n s kids) = [] ↔ (right ere (.mk k mn mx n s kids) = false ∨ (k = 2 ∧ kids = [])) := by
 constructor
 ·
  intro h
  cases hr : right ere (.mk k mn mx n s kids) with
  | false => exact Or.inl rfl
  | true =>
   right
   have ht := Trip.print_trip ere _ hO hr
   rw [h, parse_none] at ht
   injection ht with h1 _
   injection h1 with e1 e2 e3 e4 e5 e6
   exact ⟨e1.symm, e6.symm⟩
 ·
  rintro (h | ⟨rfl, rfl⟩)
  ·
   unfold printT
   rw [if_neg (by rw [h]; decide)]
  ·
   unfold printT
   split
   ·
    rw [txt]
    simp [txts, Lib.join]
   ·
    rfl
end Go.Proofs.YtikmgckefbjbkaaGreatDoor

/-! ### TellsW -/

namespace Go.Proofs.YtikmgckefbjbkaaGreatDoor
open Go.RowKit Go.Proofs.YtikmgckefbjbkaaGreatDoor.Ref

mutual
theorem grp_le : ∀ r : Rx, grp r ≤ nds r
 | .mk k mn mx m s kids => by
  have := grps_le kids
  rw [grp_mk, nds]
  split <;> omega
theorem grps_le : ∀ l : List Rx, grps l ≤ ndss l
 | [] => by rw [grps, ndss]; exact Nat.le_refl _
 | r :: l => by
  have h1 := grp_le r
  have h2 := grps_le l
  rw [grps, ndss]
  omega
end
theorem ndss_some (B : Nat) : ∀ l : List Rx, (∀ r ∈ l, nds r ≤ B) → ndss l ≤ l.length * B
 | [], _ => by rw [ndss]; simp
 | r :: l, h => by
  have h1 := h r List.mem_cons_self
  have h2 := ndss_some B l (fun a ha => h a (List.mem_cons_of_mem _ ha))
  rw [ndss, List.length_cons, Nat.add_mul]
  omega
def topN : Nat → Nat
 | 0 => 1
 | n + 1 => 1 + 3 * topN n
theorem small_nds : ∀ (n : Nat) (T : Rx), nds (smallT n T) ≤ topN n
 | 0, .mk k mn mx m s kids => by rw [smallT, nds, ndss, topN]; exact Nat.le_refl _
 | n + 1, .mk k mn mx m s kids => by
  rw [smallT, nds, topN]
  have := ndss_some (topN n) ((kids.take 3).map (smallT n)) (fun r hr => by
   obtain ⟨b, _, rfl⟩ := List.mem_map.1 hr
   exact small_nds n b)
  have h3 : ((kids.take 3).map (smallT n)).length ≤ 3 := by simp; omega
  have := Nat.mul_le_mul_right (topN n) h3
  omega
theorem small_121 (T : Rx) : nds (smallT 4 T) ≤ 121 := small_nds 4 T
/-- An expression in a variable. -/
structure TMid (B : Nat) (w w' : World) : Prop where
 ex : ∃ T, ∃ (k1 mn1 mx1 mm1 : Int) (t1 : W4) (ad1 : Option Addr) (l1 c1 : Nat), w'.heap[B]? = some (rxo k1 mn1 mx1 mm1 t1 (.slice ad1 l1 c1)) ∧ Pd w' T k1 mn1 mx1 mm1 t1 ad1 l1 c1 ∧ RxOk T ∧ nds T ≤ 121 ∧ Kp w w'
theorem tells_same (T : Rx) (hO : RxOk T) (w : World) {k mn mx m : Int} {t : W4} {ad : Option Addr} {l c : Nat} (h : Pd w T k mn mx m t ad l c) : Calls Tryz.prog 16 #[rxv k mn mx m t (.slice ad l c), rxv k mn mx m t (.slice ad l c)] w fun e w' => e = .returned (.bool true) ∧ Kp w w' :=
 talk_same T T true hO (sameR_refl T) w h h
theorem tells_ref (T : Rx) (ere : Bool) (hO : RxOk T) (hN : nds T ≤ 121) (b : Bool) (hb : right ere T = b) (w : World) {k mn mx m : Int} {t : W4} {ad : Option Addr} {l c : Nat} (h : Pd w T k mn mx m t ad l c) : Calls Tryz.prog 14 #[rxv k mn mx m t (.slice ad l c), .bool ere] w fun e w' => e = .returned (.bool b) ∧ Kp w w' := by
 subst hb
 rw [← ref_right ere T hO]
 exact refR_any T ere (by omega) (Meas_any T) (Alt_any T hO) (Anch_any T hO) _ k mn mx m t ad l c w h.is
/-- What the law's test on the text comes to. -/
structure TellsText (b : Bool) (k : Int) (l : Nat) (S : ByteArray) : Prop where
 full : b = true → ¬ (k = 2 ∧ l = 0) → S.size ≠ 0
 none : (b = false ∨ (k = 2 ∧ l = 0)) → S.size = 0
theorem text_said (ere : Bool) (T : Rx) (hO : RxOk T) (b : Bool) (hb : right ere T = b) (S : ByteArray) (hS : bs (printT ere T) = S) (w : World) (k mn mx m : Int) (t : W4) (ad : Option Addr) (l c : Nat) (h : Pd w T k mn mx m t ad l c) : TellsText b k l S := by
 obtain ⟨k', mn', mx', m', s', kids⟩ := T
 have hl := h.all.1
 have hk := h.all.2.1
 have pe := print_empty ere k' mn' mx' m' s' kids hO
 have hl2 : l = kids.length := hl
 have hk2 : k = k' := hk
 have hz : S.size = 0 ↔ printT ere (.mk k' mn' mx' m' s' kids) = [] := by
  rw [← hS, bs_size]
  exact List.length_eq_zero_iff
 subst hk2 hl2
 rw [hb, ← List.length_eq_zero_iff (l := kids)] at pe
 exact ⟨fun h1 h2 h3 => (pe.1 (hz.1 h3)).elim (fun e => by rw [h1] at e; cases e) h2, fun h1 => hz.2 (pe.2 h1)⟩

set_option maxHeartbeats 8000000 in
set_option maxRecDepth 100000 in
theorem lawTells_any (T0 : Rx) (k0 mn0 mx0 mm0 : Int) (t0 : W4) (ad0 : Option Addr) (l0 c0 : Nat) (ok : Nat → Prop) (aK : Option Addr) (lK cK : Nat) (aN : Option Addr) (lN cN : Nat) (own ere : Bool) (w : World) (hI : Is w ok T0 (rxv k0 mn0 mx0 mm0 t0 (.slice ad0 l0 c0))) (hW : RxW T0) (hK : Nums w w.heap.size aK lK) (hN : Nums w w.heap.size aN lN) (h0 : ∃ m, w.cell? ⟨0, 0, none⟩ = some (.int .i64 m)) :
  Calls Tryz.prog 4 #[rxv k0 mn0 mx0 mm0 t0 (.slice ad0 l0 c0), .agg #[.slice aK lK cK, .slice aN lN cN], .bool own, .bool ere] w fun e w' => e = .returned (.bool true) ∧ Kp w w' := by
 have HK := hid hK
 have HN := hid hN
 have HI := hid hI
 have Z0 := hid h0
 have SM := hid (fun (W : World) (h : Is W ok T0 (rxv k0 mn0 mx0 mm0 t0 (.slice ad0 l0 c0))) => (show Calls Tryz.prog 12 #[rxv k0 mn0 mx0 mm0 t0 (.slice ad0 l0 c0), .int .i64 4] W fun e w' => SmallD 4 T0 W e w' from (small_any 4 (by omega)).all T0 ok _ W h))
 have SO := hid (small_ok 4 T0 hW)
 have SN := hid (small_121 T0)
 clear hI hW hK hN h0
 go_enter Tryz.func4, Tryz.ntmps4
 go_upto_region 1 with fail
 refine opq (fun V0 => V0.heap[w.heap.size]? = some (rxo k0 mn0 mx0 mm0 t0 (.slice ad0 l0 c0)) ∧ V0.heap[w.heap.size + 1]? = some (.cells #[.slice aK lK cK, .slice aN lN cN] 36) ∧ Kp w V0 ∧ (∃ mz, V0.cell? ⟨0, 0, none⟩ = some (.int .i64 mz)) ∧ Is V0 ok T0 (rxv k0 mn0 mx0 mm0 t0 (.slice ad0 l0 c0))) ⟨by exact bl_alloc (last_of _ _) _, by exact last_at _ _ _ (by simp), by exact (by repeat (first | exact Kp.refl _ | refine Kp.alloc ?_ _ | refine Kp.drew ?_ | refine Kp.drewN _ ?_)), by exact cell0 Z0.out (by repeat (first | exact Kp.refl _ | refine Kp.alloc ?_ _ | refine Kp.drew ?_ | refine Kp.drewN _ ?_)), by exact HI.out.kp (by repeat (first | exact Kp.refl _ | refine Kp.alloc ?_ _ | refine Kp.drew ?_ | refine Kp.drewN _ ?_))⟩ ?_
 rintro V0 ⟨xA_1, xB_1, xK_1, xZ_1, xI_1⟩
 have A_1 : Hid (V0.heap[w.heap.size]? = some (rxo k0 mn0 mx0 mm0 t0 (.slice ad0 l0 c0))) := xA_1
 have B_1 : Hid (V0.heap[w.heap.size + 1]? = some (.cells #[.slice aK lK cK, .slice aN lN cN] 36)) := xB_1
 have K_1 : Hid (Kp w V0) := xK_1
 have Z_1 : Hid ((∃ mz, V0.cell? ⟨0, 0, none⟩ = some (.int .i64 mz))) := xZ_1
 have I_1 : Hid (Is V0 ok T0 (rxv k0 mn0 mx0 mm0 t0 (.slice ad0 l0 c0))) := xI_1
 clear xA_1 xB_1 xK_1 xZ_1 xI_1
 have NK := hid (fun (W : World) (k : Kp V0 W) => (HK.out.km ((K_1.out.trans k).km (Nat.le_refl _))).up (B' := W.heap.size) (K_1.out.trans k).size)
 have NN := hid (fun (W : World) (k : Kp V0 W) => (HN.out.km ((K_1.out.trans k).km (Nat.le_refl _))).up (B' := W.heap.size) (K_1.out.trans k).size)
 have Z0w := hid Z0.out
 clear Z0 HK HN HI
 have MA := hid (fun (W : World) (k : Kp V0 W) => made_any ere (rowS_any ere) aK lK cK aN lN cN W (NK.out W k) (NN.out W k))
 clear NK NN
 obtain ⟨p0, p1, p2, p3, p4, p5, p6, p7, p8⟩ := cells9c A_1.out
 go_wp2_with fail
 refine (SM.out _ I_1.out).mono ?_
 rintro e V1 ⟨⟨v, rfl, hI, kv⟩⟩
 obtain ⟨k1, mn1, mx1, mm1, t1, ad1, l1, c1, rfl⟩ := hI.form
 have PD1 : Hid (Pd V1 (smallT 4 T0) k1 mn1 mx1 mm1 t1 ad1 l1 c1) := ⟨hI.weak (fun _ _ _ => trivial)⟩
 have KV := hid kv
 have HW1 : Hid (w.heap.size ≤ V1.heap.size) := Nat.le_trans K_1.out.size kv.size
 clear hI SM p0 p1 p2 p3 p4 p5 p6 p7 p8
 have B_2 : Hid (V1.heap[w.heap.size + 1]? = some (.cells #[.slice aK lK cK, .slice aN lN cN] 36)) := bl_kp B_1.out kv
 have K_2 : Hid (Kp w V1) := K_1.out.trans kv
 have Z_2 : Hid ((∃ mz, V1.cell? ⟨0, 0, none⟩ = some (.int .i64 mz))) := cell0 Z_1.out kv
 clear A_1 B_1 K_1 Z_1 I_1
 clear kv
 go_upto_region 2 with fail
 refine opq (fun V2 => V2.heap[w.heap.size + 1]? = some (.cells #[.slice aK lK cK, .slice aN lN cN] 36) ∧ Kp w V2 ∧ (∃ mz, V2.cell? ⟨0, 0, none⟩ = some (.int .i64 mz)) ∧ Pd V2 (smallT 4 T0) k1 mn1 mx1 mm1 t1 ad1 l1 c1 ∧ V2.heap[V1.heap.size]? = some (rxo k1 mn1 mx1 mm1 t1 (.slice ad1 l1 c1)) ∧ Kp V0 V2) ⟨by exact bl_kp B_2.out (by repeat (first | exact Kp.refl _ | refine Kp.alloc ?_ _ | refine Kp.drew ?_ | refine Kp.drewN _ ?_)), by exact K_2.out.trans (by repeat (first | exact Kp.refl _ | refine Kp.alloc ?_ _ | refine Kp.drew ?_ | refine Kp.drewN _ ?_)), by exact cell0 Z_2.out (by repeat (first | exact Kp.refl _ | refine Kp.alloc ?_ _ | refine Kp.drew ?_ | refine Kp.drewN _ ?_)), by exact PD1.out.kp (by repeat (first | exact Kp.refl _ | refine Kp.alloc ?_ _ | refine Kp.drew ?_ | refine Kp.drewN _ ?_)), by (first | exact last_at _ _ _ (by simp) | (refine bl_alloc ?_ _; first | exact last_at _ _ _ (by simp) | (refine bl_alloc ?_ _; first | exact last_at _ _ _ (by simp) | (refine bl_alloc ?_ _; exact last_at _ _ _ (by simp))))), by exact KV.out.trans (by repeat (first | exact Kp.refl _ | refine Kp.alloc ?_ _ | refine Kp.drew ?_ | refine Kp.drewN _ ?_))⟩ ?_
 rintro V2 ⟨xB_3, xK_3, xZ_3, xPD1_3, xR_3, xKV_3⟩
 have B_3 : Hid (V2.heap[w.heap.size + 1]? = some (.cells #[.slice aK lK cK, .slice aN lN cN] 36)) := xB_3
 have K_3 : Hid (Kp w V2) := xK_3
 have Z_3 : Hid ((∃ mz, V2.cell? ⟨0, 0, none⟩ = some (.int .i64 mz))) := xZ_3
 have PD1_3 : Hid (Pd V2 (smallT 4 T0) k1 mn1 mx1 mm1 t1 ad1 l1 c1) := xPD1_3
 have R_3 : Hid (V2.heap[V1.heap.size]? = some (rxo k1 mn1 mx1 mm1 t1 (.slice ad1 l1 c1))) := xR_3
 have KV_3 : Hid (Kp V0 V2) := xKV_3
 clear xB_3 xK_3 xZ_3 xPD1_3 xR_3 xKV_3
 clear B_2 K_2 Z_2 PD1
 clear KV
 go_upto_if 15 with fail
 have HWS : Hid (w.heap.size ≤ V1.heap.size) := HW1.out
 have ZW := hid Z0w.out
 go_cut [] (fun wc => TMid V1.heap.size w wc)
 case first =>
  cases own with
  | false =>
   go_wp2_with fail
   go_meet
   case rel => exact ⟨⟨smallT 4 T0, k1, mn1, mx1, mm1, t1, ad1, l1, c1, R_3.out, PD1_3.out, SO.out, SN.out, K_3.out⟩⟩
  | true =>
   have p0 := bl_cell (B_3.out) 0 _ rfl
   have p1 := bl_cell (B_3.out) 1 _ rfl
   go_wp2_with fail
   refine (MA.out _ KV_3.out).mono ?_
   rintro e V3 ⟨⟨T2, v2, rfl, hI, hR, hO, kv⟩⟩
   obtain ⟨k2, mn2, mx2, mm2, t2, ad2, l2, c2, rfl⟩ := hI.form
   have HI2 := hid hI
   have HR2 := hid hR
   have HO2 := hid hO
   clear hI hR hO MA p0 p1
   have hvs : V1.heap.size < V2.heap.size := bl_lt R_3.out
   have hws : w.heap.size ≤ V1.heap.size := HWS.out
   have B_4 : Hid (V3.heap[w.heap.size + 1]? = some (.cells #[.slice aK lK cK, .slice aN lN cN] 36)) := bl_kp B_3.out kv
   have K_4 : Hid (Kp w V3) := K_3.out.trans kv
   have Z_4 : Hid ((∃ mz, V3.cell? ⟨0, 0, none⟩ = some (.int .i64 mz))) := cell0 Z_3.out kv
   have PD1_4 : Hid (Pd V3 (smallT 4 T0) k1 mn1 mx1 mm1 t1 ad1 l1 c1) := PD1_3.out.kp kv
   have R_4 : Hid (V3.heap[V1.heap.size]? = some (rxo k1 mn1 mx1 mm1 t1 (.slice ad1 l1 c1))) := bl_kp R_3.out kv
   have KV_4 : Hid (Kp V0 V3) := KV_3.out.trans kv
   clear B_3 K_3 Z_3 PD1_3 R_3 KV_3
   clear kv
   obtain ⟨q0, fq0, q1, fq1, q2, fq2, q3, fq3, q4, fq4, q5, fq5, q6, fq6, q7, fq7, q8, fq8⟩ := cells9 R_4.out
   go_wp2_with fail
   go_meet
   case rel => exact ⟨⟨T2, k2, mn2, mx2, mm2, t2, ad2, l2, c2, bl_set9 R_4.out _ _ _ _ _ _ _ _ _, ⟨Is.weak (HI2.out.ks (ks_set9 _ _ _ _ _ _ _ _ _) (fun b hb _ e => by omega)) (fun _ _ _ => trivial)⟩, HO2.out, Nat.le_trans (nds_right ere T2 HR2.out) (by omega), Ks.up (ks_set9 _ _ _ _ _ _ _ _ _) K_4.out (by omega)⟩⟩
 case rest =>
 obtain ⟨⟨T, k2, mn2, mx2, mm2, t2, ad2, l2, c2, hb2, pd2, ho, hn, kv⟩⟩ := hcut
 rename World => U1
 have Rr : Hid (U1.heap[V1.heap.size]? = some (rxo k2 mn2 mx2 mm2 t2 (.slice ad2 l2 c2))) := hb2
 have PD2 : Hid (Pd U1 T k2 mn2 mx2 mm2 t2 ad2 l2 c2) := pd2
 have Kk : Hid (Kp w U1) := kv
 have Zz : Hid ((∃ mz, U1.cell? ⟨0, 0, none⟩ = some (.int .i64 mz))) := cell0 ZW.out kv
 clear hb2 pd2 kv MA SO SN B_3 K_3 Z_3 PD1_3 R_3 KV_3
 obtain ⟨b, hb⟩ : ∃ b, right ere T = b := ⟨_, rfl⟩
 obtain ⟨S, hS⟩ : ∃ S, bs (printT ere T) = S := ⟨_, rfl⟩
 have hts := text_said ere T ho b hb S hS _ _ _ _ _ _ _ _ _ PD2.out
 have RF1 := hid (tells_ref T ere ho hn b hb)
 have RG := hid (talk_right T ere b ho hb)
 have PR := hid (talk_print T ere ho S hS)
 have SA := hid (tells_same T ho)
 have CN := hid (Count_any T (by omega) (by have := grp_le T; omega) (slim_of_ok T ho))
 have ND := hid (talk_nodes T (nds T) ho rfl (by omega))
 have GR := hid (Groups_any T (by have := grp_le T; omega) (slim_of_ok T ho))
 clear hb hS ho hn
 obtain ⟨N, hN⟩ : ∃ N, nds T = N := ⟨_, rfl⟩
 obtain ⟨G, hG⟩ : ∃ G, grp T = G := ⟨_, rfl⟩
 have CN2 := hid (fun (W : World) (v : Value) (h : Is W (fun _ => True) T v) => CN.out.all (fun _ => True) v W h)
 have GR2 := hid (fun (W : World) (v : Value) (h : Is W (fun _ => True) T v) => GR.out.all (fun _ => True) v W h)
 rw [hN] at CN2 ND
 rw [hG] at CN2
 clear CN GR
 obtain ⟨p0, p1, p2, p3, p4, p5, p6, p7, p8⟩ := cells9c Rr.out
 go_wp2_with fail
 refine (RF1.out _ PD2.out).mono ?_
 rintro e Y1 ⟨rfl, kv⟩
 clear p0 p1 p2 p3 p4 p5 p6 p7 p8
 have Rr_51 : Hid (Y1.heap[V1.heap.size]? = some (rxo k2 mn2 mx2 mm2 t2 (.slice ad2 l2 c2))) := bl_kp Rr.out kv
 have PD2_51 : Hid (Pd Y1 T k2 mn2 mx2 mm2 t2 ad2 l2 c2) := PD2.out.kp kv
 have Kk_51 : Hid (Kp w Y1) := Kk.out.trans kv
 have Zz_51 : Hid ((∃ mz, Y1.cell? ⟨0, 0, none⟩ = some (.int .i64 mz))) := cell0 Zz.out kv
 clear Rr PD2 Kk Zz
 clear kv
 clear RF1
 obtain ⟨p0, p1, p2, p3, p4, p5, p6, p7, p8⟩ := cells9c Rr_51.out
 go_wp2_with fail
 refine (RG.out _ PD2_51.out).mono ?_
 rintro e Y2 ⟨rfl, kv⟩
 clear p0 p1 p2 p3 p4 p5 p6 p7 p8
 have Rr_52 : Hid (Y2.heap[V1.heap.size]? = some (rxo k2 mn2 mx2 mm2 t2 (.slice ad2 l2 c2))) := bl_kp Rr_51.out kv
 have PD2_52 : Hid (Pd Y2 T k2 mn2 mx2 mm2 t2 ad2 l2 c2) := PD2_51.out.kp kv
 have Kk_52 : Hid (Kp w Y2) := Kk_51.out.trans kv
 have Zz_52 : Hid ((∃ mz, Y2.cell? ⟨0, 0, none⟩ = some (.int .i64 mz))) := cell0 Zz_51.out kv
 clear Rr_51 PD2_51 Kk_51 Zz_51
 clear kv
 clear RG
 cases b with
 | false =>
  obtain rfl : S = ⟨#[]⟩ := by
   have h0 := hts.none (Or.inl rfl)
   cases S with
   | mk d => exact congrArg ByteArray.mk (Array.size_eq_zero_iff.1 h0)
  clear hts
  obtain ⟨p0, p1, p2, p3, p4, p5, p6, p7, p8⟩ := cells9c Rr_52.out
  go_wp2_with fail
  refine (PR.out _ PD2_52.out).mono ?_
  rintro e Y3 ⟨rfl, kv⟩
  clear p0 p1 p2 p3 p4 p5 p6 p7 p8
  have Rr_53 : Hid (Y3.heap[V1.heap.size]? = some (rxo k2 mn2 mx2 mm2 t2 (.slice ad2 l2 c2))) := bl_kp Rr_52.out kv
  have PD2_53 : Hid (Pd Y3 T k2 mn2 mx2 mm2 t2 ad2 l2 c2) := PD2_52.out.kp kv
  have Kk_53 : Hid (Kp w Y3) := Kk_52.out.trans kv
  have Zz_53 : Hid ((∃ mz, Y3.cell? ⟨0, 0, none⟩ = some (.int .i64 mz))) := cell0 Zz_52.out kv
  clear Rr_52 PD2_52 Kk_52 Zz_52
  clear kv
  clear PR
  obtain ⟨p0, p1, p2, p3, p4, p5, p6, p7, p8⟩ := cells9c Rr_53.out
  go_wp2_with fail
  refine (SA.out _ PD2_53.out).mono ?_
  rintro e Y4 ⟨rfl, kv⟩
  clear p0 p1 p2 p3 p4 p5 p6 p7 p8
  have Rr_54 : Hid (Y4.heap[V1.heap.size]? = some (rxo k2 mn2 mx2 mm2 t2 (.slice ad2 l2 c2))) := bl_kp Rr_53.out kv
  have PD2_54 : Hid (Pd Y4 T k2 mn2 mx2 mm2 t2 ad2 l2 c2) := PD2_53.out.kp kv
  have Kk_54 : Hid (Kp w Y4) := Kk_53.out.trans kv
  have Zz_54 : Hid ((∃ mz, Y4.cell? ⟨0, 0, none⟩ = some (.int .i64 mz))) := cell0 Zz_53.out kv
  clear Rr_53 PD2_53 Kk_53 Zz_53
  clear kv
  clear SA
  obtain ⟨p0, p1, p2, p3, p4, p5, p6, p7, p8⟩ := cells9c Rr_54.out
  go_wp2_with fail
  refine (CN2.out _ _ PD2_54.out.is).mono ?_
  rintro e Y5 ⟨rfl, kv⟩
  clear p0 p1 p2 p3 p4 p5 p6 p7 p8
  have Rr_55 : Hid (Y5.heap[V1.heap.size]? = some (rxo k2 mn2 mx2 mm2 t2 (.slice ad2 l2 c2))) := bl_kp Rr_54.out kv
  have PD2_55 : Hid (Pd Y5 T k2 mn2 mx2 mm2 t2 ad2 l2 c2) := PD2_54.out.kp kv
  have Kk_55 : Hid (Kp w Y5) := Kk_54.out.trans kv
  have Zz_55 : Hid ((∃ mz, Y5.cell? ⟨0, 0, none⟩ = some (.int .i64 mz))) := cell0 Zz_54.out kv
  clear Rr_54 PD2_54 Kk_54 Zz_54
  clear kv
  clear CN2
  obtain ⟨p0, p1, p2, p3, p4, p5, p6, p7, p8⟩ := cells9c Rr_55.out
  go_wp2_with fail
  refine (ND.out _ PD2_55.out).mono ?_
  rintro e Y6 ⟨rfl, kv⟩
  clear p0 p1 p2 p3 p4 p5 p6 p7 p8
  have Rr_56 : Hid (Y6.heap[V1.heap.size]? = some (rxo k2 mn2 mx2 mm2 t2 (.slice ad2 l2 c2))) := bl_kp Rr_55.out kv
  have PD2_56 : Hid (Pd Y6 T k2 mn2 mx2 mm2 t2 ad2 l2 c2) := PD2_55.out.kp kv
  have Kk_56 : Hid (Kp w Y6) := Kk_55.out.trans kv
  have Zz_56 : Hid ((∃ mz, Y6.cell? ⟨0, 0, none⟩ = some (.int .i64 mz))) := cell0 Zz_55.out kv
  clear Rr_55 PD2_55 Kk_55 Zz_55
  clear kv
  clear ND
  obtain ⟨p0, p1, p2, p3, p4, p5, p6, p7, p8⟩ := cells9c Rr_56.out
  go_wp2_with fail
  refine (GR2.out _ _ PD2_56.out.is).mono ?_
  rintro e Y7 ⟨rfl, kv⟩
  clear p0 p1 p2 p3 p4 p5 p6 p7 p8
  have Rr_57 : Hid (Y7.heap[V1.heap.size]? = some (rxo k2 mn2 mx2 mm2 t2 (.slice ad2 l2 c2))) := bl_kp Rr_56.out kv
  have PD2_57 : Hid (Pd Y7 T k2 mn2 mx2 mm2 t2 ad2 l2 c2) := PD2_56.out.kp kv
  have Kk_57 : Hid (Kp w Y7) := Kk_56.out.trans kv
  have Zz_57 : Hid ((∃ mz, Y7.cell? ⟨0, 0, none⟩ = some (.int .i64 mz))) := cell0 Zz_56.out kv
  clear Rr_56 PD2_56 Kk_56 Zz_56
  clear kv
  clear GR2
  go_wp2_with fail
  refine (runs_any _ Zz_57.out).mono ?_
  rintro e Y8 ⟨rfl, kv⟩
  have Rr_58 : Hid (Y8.heap[V1.heap.size]? = some (rxo k2 mn2 mx2 mm2 t2 (.slice ad2 l2 c2))) := bl_kp Rr_57.out kv
  have PD2_58 : Hid (Pd Y8 T k2 mn2 mx2 mm2 t2 ad2 l2 c2) := PD2_57.out.kp kv
  have Kk_58 : Hid (Kp w Y8) := Kk_57.out.trans kv
  have Zz_58 : Hid ((∃ mz, Y8.cell? ⟨0, 0, none⟩ = some (.int .i64 mz))) := cell0 Zz_57.out kv
  clear Rr_57 PD2_57 Kk_57 Zz_57
  clear kv
  go_wp2_with fail
  go_ret
  exact ⟨rfl, Kk_58.out⟩
 | true =>
 by_cases hk : k2 = 2
 ·
  subst hk
  by_cases hl : l2 = 0
  ·
   subst hl
   obtain rfl : S = ⟨#[]⟩ := by
    have h0 := hts.none (Or.inr ⟨rfl, rfl⟩)
    cases S with
    | mk d => exact congrArg ByteArray.mk (Array.size_eq_zero_iff.1 h0)
   clear hts
   obtain ⟨p0, p1, p2, p3, p4, p5, p6, p7, p8⟩ := cells9c Rr_52.out
   go_wp2_with fail
   refine (PR.out _ PD2_52.out).mono ?_
   rintro e Y3 ⟨rfl, kv⟩
   clear p0 p1 p2 p3 p4 p5 p6 p7 p8
   have Rr_53 : Hid (Y3.heap[V1.heap.size]? = some (rxo 2 mn2 mx2 mm2 t2 (.slice ad2 0 c2))) := bl_kp Rr_52.out kv
   have PD2_53 : Hid (Pd Y3 T 2 mn2 mx2 mm2 t2 ad2 0 c2) := PD2_52.out.kp kv
   have Kk_53 : Hid (Kp w Y3) := Kk_52.out.trans kv
   have Zz_53 : Hid ((∃ mz, Y3.cell? ⟨0, 0, none⟩ = some (.int .i64 mz))) := cell0 Zz_52.out kv
   clear Rr_52 PD2_52 Kk_52 Zz_52
   clear kv
   clear PR
   obtain ⟨p0, p1, p2, p3, p4, p5, p6, p7, p8⟩ := cells9c Rr_53.out
   go_wp2_with fail
   refine (SA.out _ PD2_53.out).mono ?_
   rintro e Y4 ⟨rfl, kv⟩
   clear p0 p1 p2 p3 p4 p5 p6 p7 p8
   have Rr_54 : Hid (Y4.heap[V1.heap.size]? = some (rxo 2 mn2 mx2 mm2 t2 (.slice ad2 0 c2))) := bl_kp Rr_53.out kv
   have PD2_54 : Hid (Pd Y4 T 2 mn2 mx2 mm2 t2 ad2 0 c2) := PD2_53.out.kp kv
   have Kk_54 : Hid (Kp w Y4) := Kk_53.out.trans kv
   have Zz_54 : Hid ((∃ mz, Y4.cell? ⟨0, 0, none⟩ = some (.int .i64 mz))) := cell0 Zz_53.out kv
   clear Rr_53 PD2_53 Kk_53 Zz_53
   clear kv
   clear SA
   obtain ⟨p0, p1, p2, p3, p4, p5, p6, p7, p8⟩ := cells9c Rr_54.out
   go_wp2_with fail
   refine (CN2.out _ _ PD2_54.out.is).mono ?_
   rintro e Y5 ⟨rfl, kv⟩
   clear p0 p1 p2 p3 p4 p5 p6 p7 p8
   have Rr_55 : Hid (Y5.heap[V1.heap.size]? = some (rxo 2 mn2 mx2 mm2 t2 (.slice ad2 0 c2))) := bl_kp Rr_54.out kv
   have PD2_55 : Hid (Pd Y5 T 2 mn2 mx2 mm2 t2 ad2 0 c2) := PD2_54.out.kp kv
   have Kk_55 : Hid (Kp w Y5) := Kk_54.out.trans kv
   have Zz_55 : Hid ((∃ mz, Y5.cell? ⟨0, 0, none⟩ = some (.int .i64 mz))) := cell0 Zz_54.out kv
   clear Rr_54 PD2_54 Kk_54 Zz_54
   clear kv
   clear CN2
   obtain ⟨p0, p1, p2, p3, p4, p5, p6, p7, p8⟩ := cells9c Rr_55.out
   go_wp2_with fail
   refine (ND.out _ PD2_55.out).mono ?_
   rintro e Y6 ⟨rfl, kv⟩
   clear p0 p1 p2 p3 p4 p5 p6 p7 p8
   have Rr_56 : Hid (Y6.heap[V1.heap.size]? = some (rxo 2 mn2 mx2 mm2 t2 (.slice ad2 0 c2))) := bl_kp Rr_55.out kv
   have PD2_56 : Hid (Pd Y6 T 2 mn2 mx2 mm2 t2 ad2 0 c2) := PD2_55.out.kp kv
   have Kk_56 : Hid (Kp w Y6) := Kk_55.out.trans kv
   have Zz_56 : Hid ((∃ mz, Y6.cell? ⟨0, 0, none⟩ = some (.int .i64 mz))) := cell0 Zz_55.out kv
   clear Rr_55 PD2_55 Kk_55 Zz_55
   clear kv
   clear ND
   obtain ⟨p0, p1, p2, p3, p4, p5, p6, p7, p8⟩ := cells9c Rr_56.out
   go_wp2_with fail
   refine (GR2.out _ _ PD2_56.out.is).mono ?_
   rintro e Y7 ⟨rfl, kv⟩
   clear p0 p1 p2 p3 p4 p5 p6 p7 p8
   have Rr_57 : Hid (Y7.heap[V1.heap.size]? = some (rxo 2 mn2 mx2 mm2 t2 (.slice ad2 0 c2))) := bl_kp Rr_56.out kv
   have PD2_57 : Hid (Pd Y7 T 2 mn2 mx2 mm2 t2 ad2 0 c2) := PD2_56.out.kp kv
   have Kk_57 : Hid (Kp w Y7) := Kk_56.out.trans kv
   have Zz_57 : Hid ((∃ mz, Y7.cell? ⟨0, 0, none⟩ = some (.int .i64 mz))) := cell0 Zz_56.out kv
   clear Rr_56 PD2_56 Kk_56 Zz_56
   clear kv
   clear GR2
   go_wp2_with fail
   refine (runs_any _ Zz_57.out).mono ?_
   rintro e Y8 ⟨rfl, kv⟩
   have Rr_58 : Hid (Y8.heap[V1.heap.size]? = some (rxo 2 mn2 mx2 mm2 t2 (.slice ad2 0 c2))) := bl_kp Rr_57.out kv
   have PD2_58 : Hid (Pd Y8 T 2 mn2 mx2 mm2 t2 ad2 0 c2) := PD2_57.out.kp kv
   have Kk_58 : Hid (Kp w Y8) := Kk_57.out.trans kv
   have Zz_58 : Hid ((∃ mz, Y8.cell? ⟨0, 0, none⟩ = some (.int .i64 mz))) := cell0 Zz_57.out kv
   clear Rr_57 PD2_57 Kk_57 Zz_57
   clear kv
   go_wp2_with fail
   go_ret
   exact ⟨rfl, Kk_58.out⟩
  ·
   have hli : ¬ (l2 : Int) = 0 := by omega
   have hlb : ((l2 : Int) == 0) = false := beq_eq_false_iff_ne.2 hli
   have hne : S.toList.isEmpty = false := by rw [str_nil]; exact decide_eq_false (hts.full rfl (fun e => hl e.2))
   have hnl : ¬ S.toList = [] := by intro e; rw [e] at hne; cases hne
   clear hts
   obtain ⟨p0, p1, p2, p3, p4, p5, p6, p7, p8⟩ := cells9c Rr_52.out
   go_wp2_with fail
   refine (PR.out _ PD2_52.out).mono ?_
   rintro e Y3 ⟨rfl, kv⟩
   clear p0 p1 p2 p3 p4 p5 p6 p7 p8
   have Rr_53 : Hid (Y3.heap[V1.heap.size]? = some (rxo 2 mn2 mx2 mm2 t2 (.slice ad2 l2 c2))) := bl_kp Rr_52.out kv
   have PD2_53 : Hid (Pd Y3 T 2 mn2 mx2 mm2 t2 ad2 l2 c2) := PD2_52.out.kp kv
   have Kk_53 : Hid (Kp w Y3) := Kk_52.out.trans kv
   have Zz_53 : Hid ((∃ mz, Y3.cell? ⟨0, 0, none⟩ = some (.int .i64 mz))) := cell0 Zz_52.out kv
   clear Rr_52 PD2_52 Kk_52 Zz_52
   clear kv
   clear PR
   obtain ⟨p0, p1, p2, p3, p4, p5, p6, p7, p8⟩ := cells9c Rr_53.out
   go_wp2_with fail
   refine (SA.out _ PD2_53.out).mono ?_
   rintro e Y4 ⟨rfl, kv⟩
   clear p0 p1 p2 p3 p4 p5 p6 p7 p8
   have Rr_54 : Hid (Y4.heap[V1.heap.size]? = some (rxo 2 mn2 mx2 mm2 t2 (.slice ad2 l2 c2))) := bl_kp Rr_53.out kv
   have PD2_54 : Hid (Pd Y4 T 2 mn2 mx2 mm2 t2 ad2 l2 c2) := PD2_53.out.kp kv
   have Kk_54 : Hid (Kp w Y4) := Kk_53.out.trans kv
   have Zz_54 : Hid ((∃ mz, Y4.cell? ⟨0, 0, none⟩ = some (.int .i64 mz))) := cell0 Zz_53.out kv
   clear Rr_53 PD2_53 Kk_53 Zz_53
   clear kv
   clear SA
   obtain ⟨p0, p1, p2, p3, p4, p5, p6, p7, p8⟩ := cells9c Rr_54.out
   go_wp2_with fail
   refine (CN2.out _ _ PD2_54.out.is).mono ?_
   rintro e Y5 ⟨rfl, kv⟩
   clear p0 p1 p2 p3 p4 p5 p6 p7 p8
   have Rr_55 : Hid (Y5.heap[V1.heap.size]? = some (rxo 2 mn2 mx2 mm2 t2 (.slice ad2 l2 c2))) := bl_kp Rr_54.out kv
   have PD2_55 : Hid (Pd Y5 T 2 mn2 mx2 mm2 t2 ad2 l2 c2) := PD2_54.out.kp kv
   have Kk_55 : Hid (Kp w Y5) := Kk_54.out.trans kv
   have Zz_55 : Hid ((∃ mz, Y5.cell? ⟨0, 0, none⟩ = some (.int .i64 mz))) := cell0 Zz_54.out kv
   clear Rr_54 PD2_54 Kk_54 Zz_54
   clear kv
   clear CN2
   obtain ⟨p0, p1, p2, p3, p4, p5, p6, p7, p8⟩ := cells9c Rr_55.out
   go_wp2_with fail
   refine (ND.out _ PD2_55.out).mono ?_
   rintro e Y6 ⟨rfl, kv⟩
   clear p0 p1 p2 p3 p4 p5 p6 p7 p8
   have Rr_56 : Hid (Y6.heap[V1.heap.size]? = some (rxo 2 mn2 mx2 mm2 t2 (.slice ad2 l2 c2))) := bl_kp Rr_55.out kv
   have PD2_56 : Hid (Pd Y6 T 2 mn2 mx2 mm2 t2 ad2 l2 c2) := PD2_55.out.kp kv
   have Kk_56 : Hid (Kp w Y6) := Kk_55.out.trans kv
   have Zz_56 : Hid ((∃ mz, Y6.cell? ⟨0, 0, none⟩ = some (.int .i64 mz))) := cell0 Zz_55.out kv
   clear Rr_55 PD2_55 Kk_55 Zz_55
   clear kv
   clear ND
   obtain ⟨p0, p1, p2, p3, p4, p5, p6, p7, p8⟩ := cells9c Rr_56.out
   go_wp2_with fail
   refine (GR2.out _ _ PD2_56.out.is).mono ?_
   rintro e Y7 ⟨rfl, kv⟩
   clear p0 p1 p2 p3 p4 p5 p6 p7 p8
   have Rr_57 : Hid (Y7.heap[V1.heap.size]? = some (rxo 2 mn2 mx2 mm2 t2 (.slice ad2 l2 c2))) := bl_kp Rr_56.out kv
   have PD2_57 : Hid (Pd Y7 T 2 mn2 mx2 mm2 t2 ad2 l2 c2) := PD2_56.out.kp kv
   have Kk_57 : Hid (Kp w Y7) := Kk_56.out.trans kv
   have Zz_57 : Hid ((∃ mz, Y7.cell? ⟨0, 0, none⟩ = some (.int .i64 mz))) := cell0 Zz_56.out kv
   clear Rr_56 PD2_56 Kk_56 Zz_56
   clear kv
   clear GR2
   go_wp2_with fail
   refine (runs_any _ Zz_57.out).mono ?_
   rintro e Y8 ⟨rfl, kv⟩
   have Rr_58 : Hid (Y8.heap[V1.heap.size]? = some (rxo 2 mn2 mx2 mm2 t2 (.slice ad2 l2 c2))) := bl_kp Rr_57.out kv
   have PD2_58 : Hid (Pd Y8 T 2 mn2 mx2 mm2 t2 ad2 l2 c2) := PD2_57.out.kp kv
   have Kk_58 : Hid (Kp w Y8) := Kk_57.out.trans kv
   have Zz_58 : Hid ((∃ mz, Y8.cell? ⟨0, 0, none⟩ = some (.int .i64 mz))) := cell0 Zz_57.out kv
   clear Rr_57 PD2_57 Kk_57 Zz_57
   clear kv
   go_wp2_with fail
   go_ret
   exact ⟨rfl, Kk_58.out⟩
 ·
  have hkb : (k2 == 2) = false := by simp [hk]
  have hne : S.toList.isEmpty = false := by rw [str_nil]; exact decide_eq_false (hts.full rfl (fun e => hk e.1))
  have hnl : ¬ S.toList = [] := by intro e; rw [e] at hne; cases hne
  clear hts
  obtain ⟨p0, p1, p2, p3, p4, p5, p6, p7, p8⟩ := cells9c Rr_52.out
  go_wp2_with fail
  refine (PR.out _ PD2_52.out).mono ?_
  rintro e Y3 ⟨rfl, kv⟩
  clear p0 p1 p2 p3 p4 p5 p6 p7 p8
  have Rr_53 : Hid (Y3.heap[V1.heap.size]? = some (rxo k2 mn2 mx2 mm2 t2 (.slice ad2 l2 c2))) := bl_kp Rr_52.out kv
  have PD2_53 : Hid (Pd Y3 T k2 mn2 mx2 mm2 t2 ad2 l2 c2) := PD2_52.out.kp kv
  have Kk_53 : Hid (Kp w Y3) := Kk_52.out.trans kv
  have Zz_53 : Hid ((∃ mz, Y3.cell? ⟨0, 0, none⟩ = some (.int .i64 mz))) := cell0 Zz_52.out kv
  clear Rr_52 PD2_52 Kk_52 Zz_52
  clear kv
  clear PR
  obtain ⟨p0, p1, p2, p3, p4, p5, p6, p7, p8⟩ := cells9c Rr_53.out
  go_wp2_with fail
  refine (SA.out _ PD2_53.out).mono ?_
  rintro e Y4 ⟨rfl, kv⟩
  clear p0 p1 p2 p3 p4 p5 p6 p7 p8
  have Rr_54 : Hid (Y4.heap[V1.heap.size]? = some (rxo k2 mn2 mx2 mm2 t2 (.slice ad2 l2 c2))) := bl_kp Rr_53.out kv
  have PD2_54 : Hid (Pd Y4 T k2 mn2 mx2 mm2 t2 ad2 l2 c2) := PD2_53.out.kp kv
  have Kk_54 : Hid (Kp w Y4) := Kk_53.out.trans kv
  have Zz_54 : Hid ((∃ mz, Y4.cell? ⟨0, 0, none⟩ = some (.int .i64 mz))) := cell0 Zz_53.out kv
  clear Rr_53 PD2_53 Kk_53 Zz_53
  clear kv
  clear SA
  obtain ⟨p0, p1, p2, p3, p4, p5, p6, p7, p8⟩ := cells9c Rr_54.out
  go_wp2_with fail
  refine (CN2.out _ _ PD2_54.out.is).mono ?_
  rintro e Y5 ⟨rfl, kv⟩
  clear p0 p1 p2 p3 p4 p5 p6 p7 p8
  have Rr_55 : Hid (Y5.heap[V1.heap.size]? = some (rxo k2 mn2 mx2 mm2 t2 (.slice ad2 l2 c2))) := bl_kp Rr_54.out kv
  have PD2_55 : Hid (Pd Y5 T k2 mn2 mx2 mm2 t2 ad2 l2 c2) := PD2_54.out.kp kv
  have Kk_55 : Hid (Kp w Y5) := Kk_54.out.trans kv
  have Zz_55 : Hid ((∃ mz, Y5.cell? ⟨0, 0, none⟩ = some (.int .i64 mz))) := cell0 Zz_54.out kv
  clear Rr_54 PD2_54 Kk_54 Zz_54
  clear kv
  clear CN2
  obtain ⟨p0, p1, p2, p3, p4, p5, p6, p7, p8⟩ := cells9c Rr_55.out
  go_wp2_with fail
  refine (ND.out _ PD2_55.out).mono ?_
  rintro e Y6 ⟨rfl, kv⟩
  clear p0 p1 p2 p3 p4 p5 p6 p7 p8
  have Rr_56 : Hid (Y6.heap[V1.heap.size]? = some (rxo k2 mn2 mx2 mm2 t2 (.slice ad2 l2 c2))) := bl_kp Rr_55.out kv
  have PD2_56 : Hid (Pd Y6 T k2 mn2 mx2 mm2 t2 ad2 l2 c2) := PD2_55.out.kp kv
  have Kk_56 : Hid (Kp w Y6) := Kk_55.out.trans kv
  have Zz_56 : Hid ((∃ mz, Y6.cell? ⟨0, 0, none⟩ = some (.int .i64 mz))) := cell0 Zz_55.out kv
  clear Rr_55 PD2_55 Kk_55 Zz_55
  clear kv
  clear ND
  obtain ⟨p0, p1, p2, p3, p4, p5, p6, p7, p8⟩ := cells9c Rr_56.out
  go_wp2_with fail
  refine (GR2.out _ _ PD2_56.out.is).mono ?_
  rintro e Y7 ⟨rfl, kv⟩
  clear p0 p1 p2 p3 p4 p5 p6 p7 p8
  have Rr_57 : Hid (Y7.heap[V1.heap.size]? = some (rxo k2 mn2 mx2 mm2 t2 (.slice ad2 l2 c2))) := bl_kp Rr_56.out kv
  have PD2_57 : Hid (Pd Y7 T k2 mn2 mx2 mm2 t2 ad2 l2 c2) := PD2_56.out.kp kv
  have Kk_57 : Hid (Kp w Y7) := Kk_56.out.trans kv
  have Zz_57 : Hid ((∃ mz, Y7.cell? ⟨0, 0, none⟩ = some (.int .i64 mz))) := cell0 Zz_56.out kv
  clear Rr_56 PD2_56 Kk_56 Zz_56
  clear kv
  clear GR2
  go_wp2_with fail
  refine (runs_any _ Zz_57.out).mono ?_
  rintro e Y8 ⟨rfl, kv⟩
  have Rr_58 : Hid (Y8.heap[V1.heap.size]? = some (rxo k2 mn2 mx2 mm2 t2 (.slice ad2 l2 c2))) := bl_kp Rr_57.out kv
  have PD2_58 : Hid (Pd Y8 T k2 mn2 mx2 mm2 t2 ad2 l2 c2) := PD2_57.out.kp kv
  have Kk_58 : Hid (Kp w Y8) := Kk_57.out.trans kv
  have Zz_58 : Hid ((∃ mz, Y8.cell? ⟨0, 0, none⟩ = some (.int .i64 mz))) := cell0 Zz_57.out kv
  clear Rr_57 PD2_57 Kk_57 Zz_57
  clear kv
  go_wp2_with fail
  go_ret
  exact ⟨rfl, Kk_58.out⟩
end Go.Proofs.YtikmgckefbjbkaaGreatDoor

/-! ### OpenKeep -/

namespace Go.Proofs.YtikmgckefbjbkaaGreatDoor
open Go.ChangeShapes Go.WideShapes Go.ChangeAt Go.RowKit

theorem cells36 : Tryz.prog.cellsOf 36 = 2 := by kernel_rfl
theorem cellsNums : Tryz.prog.cellsOf 34 = 1 := by kernel_rfl
theorem list2 {α : Type} (l : List α) (h : (⟨l⟩ : Array α).size = 2) : ∃ a b, l = [a, b] := by
 match l, h with
 | [a, b], _ => exact ⟨a, b, rfl⟩
theorem open_nums {H : Type} {enc : TypeId × Value → H} {W : World} {n : Nat} {c : Value} {y : DataW H × List MemPlace}
  (h : DataW.trod enc Tryz.prog W 0 (fun _ => true) true n 34 [c] = some y) : ∃ a l k, c = .slice a l k ∧ Nums W W.heap.size a l := by
 rcases open_ints Tryz.underlying34 Tryz.underlying3 (by kernel_rfl) h with ⟨hcs, _⟩ | ⟨x, l, k, zs, hcs, _, hl, _, hz, _, hcell, _⟩
 ·
  injection hcs with hcs
  exact ⟨none, 0, 0, hcs, ⟨fun h => absurd h (by omega)⟩⟩
 ·
  injection hcs with hcs
  refine ⟨some x, l, k, hcs, ⟨fun h0 => ?_⟩⟩
  have hz : zs.length = k := by simpa using hz
  obtain ⟨b, off, rfl, hc⟩ := ints_at hcell (by omega)
  exact ⟨b, off, rfl, World.block_lt_of_cell? W _ (hc 0 (by omega)), fun i hi => ⟨_, hc i (by omega)⟩⟩
set_option maxRecDepth 100000 in
theorem open_keep {H : Type} {enc : TypeId × Value → H} {W : World} {base : Nat} {v : Value} {d : DataW H} {ps : List MemPlace}
  (hv : Value.okWide Tryz.prog W .any base 36 v) (h : DataW.Trod enc Tryz.prog W 0 (fun _ => true) true 36 v d ps) : ∃ aK lK cK aN lN cN, v = .agg #[.slice aK lK cK, .slice aN lN cN] ∧ Nums W W.heap.size aK lK ∧ Nums W W.heap.size aN lN := by
 obtain ⟨cs, rfl, hsz⟩ := okWide_struct Tryz.underlying36 hv
 rw [cells36] at hsz
 obtain ⟨l⟩ := cs
 obtain ⟨c0, c1, rfl⟩ := list2 l hsz
 obtain ⟨fuel, hf⟩ := h
 obtain ⟨y0, y1, m, _, _, h0, h1⟩ := trod_struct2 Tryz.underlying36 hf
 simp [Value.cells, cellsNums] at h0 h1
 obtain ⟨aK, lK, cK, rfl, nk⟩ := open_nums h0
 obtain ⟨aN, lN, cN, rfl, nn⟩ := open_nums h1
 exact ⟨aK, lK, cK, aN, lN, cN, rfl, nk, nn⟩
end Go.Proofs.YtikmgckefbjbkaaGreatDoor

/-! ### Wrap -/

namespace Go.Proofs.YtikmgckefbjbkaaGreatDoor
open Go.ChangeShapes Go.WideShapes Go.ChangeAt Go.RowKit

theorem and_shaped {H : Type} {enc : TypeId × Value → H} {a : Assume} {C : Checked} {os : Go.Os} {f : FuncId} {fn : Func} {s : ChangeSpec} {conds : List PathCond} {apart fresh handsOn again : Bool} {X : World → Array Value → Prop}
  (hX : ∀ (w w' : World) (args : Array Value), w.heap = w'.heap → X w args → X w' args)
  (own : ownKnob C.prog.godebug = none) (started : os.Started) (noInit : C.prog.inits.idxOf? f = none) (hfn : C.prog.funcs[f]? = some fn)
  (witness : ∃ (w : World) (tape : Tape) (i : Input), w.os = os ∧ (w.forCall tape i).Shaped C.prog ∧ i.vars = [] ∧ Input.okWide C.prog (w.forCall tape i) .any w.heap.size f i ∧
   ((s.pre enc C.prog fn conds apart (w.forCall tape i).memory i.args ∧ X (w.forCall tape i).memory i.args) ∧ sizedMet enc C.prog fn (OpenSpec.ofChange s) apart (w.forCall tape i).memory i.args) ∧ a.holds C.prog (lone (Frame.enter C.prog f i.args .normal) [] (w.forCall tape i)))
  (contract : ∀ (W : World) (base : Nat) (args : Array Value) (ds gs : List (DataW H)) (before : List MemPlace),
   (∀ (j : Nat) t v, fn.params[j]? = some t → args[j]? = some v → Value.okWide C.prog W .any base t v) →
   DataW.Whole enc C.prog fn.params.toList s.vars apart W args.toList ds gs before →
   conds.all (PathCond.test C.prog ⟨fn.params.toList, ds, s.plain.varTypes C.prog, gs⟩) = true →
   (DataW.weightsEach C.prog (fn.params.toList ++ s.plain.varTypes C.prog) (ds ++ gs)).all (· ≤ reachBytes) = true → X W args → W.ShapedOpen C.prog →
   Calls C.prog f args W fun e W' => ∃ v, e = .returned v ∧ s.post enc C.prog fn apart fresh handsOn again W args v W') :
  ReturnsInHanded a C os f .any (fun w args => (s.pre enc C.prog fn conds apart w args ∧ X w args) ∧ sizedMet enc C.prog fn (OpenSpec.ofChange s) apart w args) (s.post enc C.prog fn apart fresh handsOn again) := by
 refine returnsInHanded_of_calls own started noInit witness ?_
 intro w tape i _ hsh _ hok hpre hholds
 obtain ⟨_, _, _, fn', hfn', _, _, _, _, hval⟩ := hok
 have e : fn' = fn := Option.some.inj (hfn'.symm.trans hfn)
 subst e
 obtain ⟨⟨⟨ds, gs, before, hw, hc⟩, hx⟩, hz⟩ := hpre
 have hw' := DataW.Whole.of_heap (w' := w.forCall tape i) (by rfl) hw
 refine (contract (w.forCall tape i) w.heap.size i.args ds gs before hval hw' hc (hz.weights hw) (hX _ _ _ (by rfl) hx) hsh).mono fun e W' ⟨v, he, hp⟩ => ?_
 subst he
 exact ChangeSpec.post_blind hp

theorem own : ownKnob Tryz.prog.godebug = none := by kernel_rfl

/-- What every row of this seat lists. -/
abbrev laid3 : List (String × DataW Unit) := [("math/bits.deBruijn32tab", Rows.laid_math_bits_deBruijn32tab), ("math/bits.deBruijn64tab", Rows.laid_math_bits_deBruijn64tab), ("internal/strconv.uint64pow10", Rows.laid_internal_strconv_uint64pow10)]

/-- The door's own heap meets the condition. -/
theorem door_met (os : Go.Os) (args : Array Value) : laidMetH Tryz.prog laid3 ((World.doorLaid Tryz.prog 24 os).forCall (fun _ _ => 0) ⟨#[], args, []⟩).memory :=
 laidMetH_of_parts3 (fuel := 8) (laidMet_of_run' 8 (by kernel_rfl) (by kernel_rfl)) (by kernel_rfl) (by kernel_rfl)

/-- MaxLen holds a number. -/
theorem maxLen {W : World} (h : W.ShapedOpen Tryz.prog) : ∃ m, W.cell? ⟨0, 0, none⟩ = some (.int .i64 m) :=
 cell_of_shapedOpen_int (P := Tryz.prog) (g := 0) (t := 3) (zero := #[.int .i64 0]) h (of_decide_eq_true (by kernel_rfl)) (by kernel_rfl) rfl (by kernel_rfl) (by kernel_rfl) Tryz.underlying3
end Go.Proofs.YtikmgckefbjbkaaGreatDoor

/-! ### RxTellsProof -/

namespace Go.Proofs.YtikmgckefbjbkaaGreatDoor.rxTells
open Go.ChangeShapes Go.WideShapes Go.ChangeAt Go.RowKit
open Go.ChangeMaps (open_string shut_string)
set_option linter.unusedVariables false

theorem laidOut : laidOutB Tryz.prog = true := by kernel_rfl
set_option maxRecDepth 100000 in
theorem lifted (os : Go.Os) (started : os.Started) (H : Type) (enc : TypeId × Value → H) :
  ReturnsInHanded {} Tryz.checked os 4 .any (fun w args => (Rows.rxTellsSpec.pre enc Tryz.prog Tryz.f4 [] false w args ∧ laidMetH Tryz.prog laid3 w) ∧ sizedMet enc Tryz.prog Tryz.f4 (OpenSpec.ofChange Rows.rxTellsSpec) false w args)
   (Rows.rxTellsSpec.post enc Tryz.prog Tryz.f4 false true false false) := by
 refine and_shaped (C := Tryz.checked) (X := fun w _ => laidMetH Tryz.prog laid3 w) (fun _ _ _ hh h => h.of_heap hh) own started (by kernel_rfl) Tryz.func4
  (ChangeSpec.witness_shaped (enc := enc) (C := Tryz.checked) (os := os) (X := fun w _ => laidMetH Tryz.prog laid3 w) false (World.doorLaid Tryz.prog 24 os) #[.agg #[.int .i64 0, .int .i64 0, .int .i64 0, .int .i64 0, .int .u64 0, .int .u64 0, .int .u64 0, .int .u64 0, .slice none 0 0], .agg #[.slice none 0 0, .slice none 0 0], .bool false, .bool false] 8 rfl (World.shaped_of_RefB (by kernel_rfl) (by kernel_rfl)) (by kernel_rfl) (by kernel_rfl) (by kernel_rfl) (door_met os _)) ?_
 intro W base args ds gs before hval0 hW _ _ hL hsh
 have hval : ∀ (j : Nat) t v, Tryz.f4.params[j]? = some t → args[j]? = some v → Value.okWide Tryz.prog W .any base t v := hval0
 have hW' := hW
 obtain ⟨p, q, hA0, hV, rfl, hfz, hnd⟩ := hW
 have hA : DataW.TrodAll enc Tryz.prog W 0 (fun _ => true) true Tryz.f4.params.toList args.toList ds p := hA0
 rw [Tryz.params4] at hA hval
 obtain ⟨v0, vs0, d0, ds0, p0, q0, hargs, rfl, rfl, h0, r0⟩ := trodAll_cons hA
 obtain ⟨v1, vs1, d1, ds1, p1, q1, rfl, rfl, rfl, h1, r1⟩ := trodAll_cons r0
 obtain ⟨v2, vs2, d2, ds2, p2, q2, rfl, rfl, rfl, h2, r2⟩ := trodAll_cons r1
 obtain ⟨v3, vs3, d3, ds3, p3, q3, rfl, rfl, rfl, h3, r3⟩ := trodAll_cons r2
 obtain ⟨rfl, rfl, rfl⟩ := trodAll_nil r3
 obtain rfl : args = #[v0, v1, v2, v3] := by cases args; simp_all
 obtain ⟨rfl, rfl⟩ := trodVars_none hV
 have k0 := h0
 have lt0 : ∀ x ∈ p0, x.block < W.heap.size := by obtain ⟨m, hm⟩ := k0; exact DataW.trod_lt m _ _ _ hm
 obtain ⟨T0, kk0, mn0, mx0, mm0, st0, ad0, ll0, cc0, rfl, hI0, hW0⟩ := open_rx (hval 0 27 v0 rfl rfl) k0
 have k1 := h1
 have lt1 : ∀ x ∈ p1, x.block < W.heap.size := by obtain ⟨m, hm⟩ := k1; exact DataW.trod_lt m _ _ _ hm
 obtain ⟨aK1, lK1, cK1, aN1, lN1, cN1, rfl, nk1, nn1⟩ := open_keep (hval 1 36 v1 rfl rfl) k1
 obtain ⟨a2, rfl, rfl, rfl⟩ := open_bool Tryz.underlying4 (hval 2 4 v2 rfl rfl) h2
 obtain ⟨a3, rfl, rfl, rfl⟩ := open_bool Tryz.underlying4 (hval 3 4 v3 rfl rfl) h3
 clear hA0 hval0
 refine (lawTells_any T0 kk0 mn0 mx0 mm0 st0 ad0 ll0 cc0 (fun b => b < W.heap.size) aK1 lK1 cK1 aN1 lN1 cN1 a2 a3 W hI0 hW0 nk1 nn1 (maxLen hsh)).mono fun e W' ⟨he, bel⟩ => ?_
 subst he
 exact ⟨_, rfl, _, _, _, [], _, [], hW', trodAll_mk1 (shut_bool Tryz.underlying4 _), (trodAll_cons_mk (Below.trod laidOut (by kernel_rfl) (of_decide_eq_true (by kernel_rfl)) k0 bel lt0) (trodAll_cons_mk (Below.trod laidOut (by kernel_rfl) (of_decide_eq_true (by kernel_rfl)) k1 bel lt1) (trodAll_cons_mk (shut_bool Tryz.underlying4 a2) (trodAll_cons_mk (shut_bool Tryz.underlying4 a3) trodAll_mk0)))), rfl, Below.frame bel _, fun h => by cases h⟩

theorem over : Rows.rxTellsRow.holds Tryz.pinned (OpenSpec.ofChange Rows.rxTellsSpec) :=
 OpenClaim.holds_of_wide 4 Tryz.f4 rfl rfl rfl rfl rfl rfl rfl ⟨rfl, rfl, rfl, rfl, rfl⟩ rfl rfl rfl rfl rfl (by kernel_rfl) Tryz.func4 (by kernel_rfl)
  (of_decide_eq_true (by kernel_rfl)) (by unfold Func.isWrapper; first | (rw [if_pos (by decide +kernel)]; kernel_rfl) | (rw [if_neg (by decide +kernel)]; exact ⟨rfl, rfl⟩))
  (fun os started H enc _ => lifted os started H enc)

theorem carded : Rows.RxTellsCardSaid :=
 Claim7.holds_tied_plain_at .later [] [.data, .data, .data] true (true, "b0fe336dcdce6718dfc6eec349fd5cdbe898f712e022f33c787b29cefe3acb2a") false
  over (fun _ h => by cases h) (by kernel_rfl) (fun _ h => by cases h) rxTells_row_tie rfl ⟨rfl, rfl⟩ (by kernel_rfl) rfl
  (fun f fn hf hfn => by
   obtain rfl : f = 4 := Option.some.inj ((show Tryz.prog.funcNamed "gloss/glosslaw4.RxTells" = some 4 by kernel_rfl).symm.trans hf) |>.symm
   obtain rfl : fn = Tryz.f4 := (Option.some.inj (Tryz.func4.symm.trans hfn)).symm
   exact ⟨by kernel_rfl, fun j t ht => by
    rw [Tryz.params4] at ht
    have hm : t ∈ [27, 36, 4, 4] := by simpa using Array.mem_of_getElem? ht
    have hall : ([27, 36, 4, 4].all fun u => !Tryz.prog.wantsStandIn u) = true := by kernel_rfl
    exact (show Tryz.prog.wantsStandIn t = false by simpa using List.all_eq_true.1 hall t hm)⟩)
  (by kernel_rfl)

end Go.Proofs.YtikmgckefbjbkaaGreatDoor.rxTells
namespace Go.Proofs.YtikmgckefbjbkaaGreatDoor

theorem rxTells_holds : Rows.RxTellsCardSaid := rxTells.carded

end Go.Proofs.YtikmgckefbjbkaaGreatDoor
