/-
  Is an expression zero in all that its kind doesn't ask?
-/
import Derived.Test.YtikmgckefbjbkaaGreatDoorChk
namespace Go.Proofs.YtikmgckefbjbkaaGreatDoor
open Go.RowKit

theorem fit_nil (k mn mx n : Int) (s : W4) : RxFit (.mk k mn mx n s []) := by
  unfold RxFit
  exact ⟨by simp, fun a ha => by simp at ha⟩
theorem same_bare (k mn mx n mn' mx' n' : Int) (s s' : W4) (q : Bool) (hq : (mn == mn' && mx == mx' && n == n' && s == s') = q) (w : World) : Calls Tryz.prog 16 #[rxv k mn mx n s (.slice none 0 0), rxv k mn' mx' n' s' (.slice none 0 0)] w fun e w' => e = .returned (.bool q) ∧ Kp w w' := by
  have := same_any (.mk k mn mx n s []) (.mk k mn' mx' n' s' []) _ _ w (fun _ => True) (fun _ => True) (fit_nil _ _ _ _ _) (Is.leaf _ _ _ _ _ _ _) (Is.leaf _ _ _ _ _ _ _)
  rw [sameR, sameL] at this
  rw [show (k == k && mn == mn' && mx == mx' && n == n' && s == s' && true) = q by rw [← hq]; simp] at this
  exact this

set_option maxHeartbeats 2000000 in
set_option maxRecDepth 100000 in
theorem lean_any (k mn mx m : Int) (t : W4) (kids : List Rx) (ad : Option Addr) (l c : Nat) (w : World) (hl : l = kids.length) :
    Calls Tryz.prog 44 #[rxv k mn mx m t (.slice ad l c)] w fun e w' => e = .returned (.bool (leanB (.mk k mn mx m t kids))) ∧ Kp w w' := by
  have E0 : Hid (leanB (.mk k mn mx m t kids) = ((if k = 4 then true else mn == 0 && mx == 0) && (if k = 5 ∨ k = 6 then true else m == 0) && (if k = 1 then true else t == W4.z) && kidsFit k l)) := by show _ = _; rw [hl]; rfl
  clear hl
  obtain ⟨kf, hkf⟩ : ∃ kf, kidsFit k l = kf := ⟨_, rfl⟩
  have KF : Hid (∀ w, Calls Tryz.prog 63 #[.int .i64 k, .int .i64 (l : Int)] w fun e w' => e = .returned (.bool kf) ∧ w' = w) := fun w => by have := kidsFit_any k l w; rw [hkf] at this; exact this
  rw [hkf] at E0
  clear hkf
  go_enter Tryz.func44, Tryz.ntmps44
  go_upto_region 1 with fail
  refine opq (fun V0 => V0.heap[w.heap.size]? = some (rxo k mn mx m t (.slice ad l c)) ∧ Kp w V0) ⟨by (first | exact last_at _ _ _ (by simp) | (refine bl_alloc ?_ _; first | exact last_at _ _ _ (by simp) | (refine bl_alloc ?_ _; first | exact last_at _ _ _ (by simp) | (refine bl_alloc ?_ _; exact last_at _ _ _ (by simp))))), by exact (by repeat (first | exact Kp.refl _ | refine Kp.alloc ?_ _ | refine Kp.drew ?_ | refine Kp.drewN _ ?_))⟩ ?_
  rintro V0 ⟨xA, xK⟩
  have A : Hid (V0.heap[w.heap.size]? = some (rxo k mn mx m t (.slice ad l c))) := xA
  have K : Hid (Kp w V0) := xK
  clear xA xK
  have a0 := bl_cell (A.out) 0 _ rfl
  have a1 := bl_cell (A.out) 1 _ rfl
  have a2 := bl_cell (A.out) 2 _ rfl
  have a3 := bl_cell (A.out) 3 _ rfl
  have a4 := bl_cell (A.out) 4 _ rfl
  have a5 := bl_cell (A.out) 5 _ rfl
  have a6 := bl_cell (A.out) 6 _ rfl
  have a7 := bl_cell (A.out) 7 _ rfl
  have a8 := bl_cell (A.out) 8 _ rfl
  go_upto_region 2 with fail
  clear a0 a1 a2 a3 a4 a5 a6 a7 a8
  refine opq (fun W0 => W0.heap[w.heap.size]? = some (rxo k mn mx m t (.slice ad l c)) ∧ W0.heap[V0.heap.size]? = some (rxo k 0 0 0 W4.z (.slice none 0 0)) ∧ Kp w W0) ⟨by exact bl_kp A.out (by repeat (first | exact Kp.refl _ | refine Kp.alloc ?_ _ | refine Kp.drew ?_ | refine Kp.drewN _ ?_)), by exact last_at _ _ _ (by simp), by exact K.out.trans (by repeat (first | exact Kp.refl _ | refine Kp.alloc ?_ _ | refine Kp.drew ?_ | refine Kp.drewN _ ?_))⟩ ?_
  rintro W0 ⟨xA0, xB0, xK0⟩
  have A0 : Hid (W0.heap[w.heap.size]? = some (rxo k mn mx m t (.slice ad l c))) := xA0
  have B0 : Hid (W0.heap[V0.heap.size]? = some (rxo k 0 0 0 W4.z (.slice none 0 0))) := xB0
  have K0 : Hid (Kp w W0) := xK0
  clear xA0 xB0 xK0
  have hsV : w.heap.size < V0.heap.size := bl_lt A.out
  clear A K
  by_cases k1 : k = 1
  · subst k1
    obtain ⟨sm, hsm⟩ : ∃ sm, (mn == 0 && mx == 0 && m == 0 && t == t) = sm := ⟨_, rfl⟩
    have SB := hid (same_bare 1 mn mx m 0 0 0 t t sm hsm)
    have E : Hid (leanB (.mk 1 mn mx m t kids) = (sm && kf)) := by show _ = _; rw [E0.out, ← hsm]; (first | (simp; done) | (simp; cases mn == 0 <;> cases mx == 0 <;> cases m == 0 <;> rfl))
    clear hsm
    have a0 := bl_cell (A0.out) 0 _ rfl
    have a1 := bl_cell (A0.out) 1 _ rfl
    have a2 := bl_cell (A0.out) 2 _ rfl
    have a3 := bl_cell (A0.out) 3 _ rfl
    have a4 := bl_cell (A0.out) 4 _ rfl
    have a5 := bl_cell (A0.out) 5 _ rfl
    have a6 := bl_cell (A0.out) 6 _ rfl
    have a7 := bl_cell (A0.out) 7 _ rfl
    have a8 := bl_cell (A0.out) 8 _ rfl
    have b0 := bl_cell (B0.out) 0 _ rfl
    have fb0 := bl_frozen (B0.out) 0
    have b1 := bl_cell (B0.out) 1 _ rfl
    have fb1 := bl_frozen (B0.out) 1
    have b2 := bl_cell (B0.out) 2 _ rfl
    have fb2 := bl_frozen (B0.out) 2
    have b3 := bl_cell (B0.out) 3 _ rfl
    have fb3 := bl_frozen (B0.out) 3
    have b4 := bl_cell (B0.out) 4 _ rfl
    have fb4 := bl_frozen (B0.out) 4
    have b5 := bl_cell (B0.out) 5 _ rfl
    have fb5 := bl_frozen (B0.out) 5
    have b6 := bl_cell (B0.out) 6 _ rfl
    have fb6 := bl_frozen (B0.out) 6
    have b7 := bl_cell (B0.out) 7 _ rfl
    have fb7 := bl_frozen (B0.out) 7
    have b8 := bl_cell (B0.out) 8 _ rfl
    have fb8 := bl_frozen (B0.out) 8
    go_upto_region 10 with fail
    clear a0 a1 a2 a3 a4 a5 a6 a7 a8 b0 fb0 b1 fb1 b2 fb2 b3 fb3 b4 fb4 b5 fb5 b6 fb6 b7 fb7 b8 fb8
    refine opq (fun W1 => W1.heap[w.heap.size]? = some (rxo 1 mn mx m t (.slice ad l c)) ∧ W1.heap[V0.heap.size]? = some (rxo 1 0 0 0 t (.slice none 0 0)) ∧ Kp w W1) ⟨by exact bl_set (bl_set (bl_set (bl_set A0.out (by omega) _) (by omega) _) (by omega) _) (by omega) _, by exact bl_put (bl_put (bl_put (bl_put B0.out _) _) _) _, by exact (((K0.out.setCell (Nat.le_of_lt hsV) _).setCell (Nat.le_of_lt hsV) _).setCell (Nat.le_of_lt hsV) _).setCell (Nat.le_of_lt hsV) _⟩ ?_
    rintro W1 ⟨xA1, xB1, xK1⟩
    have A1 : Hid (W1.heap[w.heap.size]? = some (rxo 1 mn mx m t (.slice ad l c))) := xA1
    have B1 : Hid (W1.heap[V0.heap.size]? = some (rxo 1 0 0 0 t (.slice none 0 0))) := xB1
    have K1 : Hid (Kp w W1) := xK1
    clear xA1 xB1 xK1
    clear A0 B0 K0
    have A0 := A1
    have K0 := K1
    clear A1 K1
    have a0 := bl_cell (A0.out) 0 _ rfl
    have fa0 := bl_frozen (A0.out) 0
    have a1 := bl_cell (A0.out) 1 _ rfl
    have fa1 := bl_frozen (A0.out) 1
    have a2 := bl_cell (A0.out) 2 _ rfl
    have fa2 := bl_frozen (A0.out) 2
    have a3 := bl_cell (A0.out) 3 _ rfl
    have fa3 := bl_frozen (A0.out) 3
    have a4 := bl_cell (A0.out) 4 _ rfl
    have fa4 := bl_frozen (A0.out) 4
    have a5 := bl_cell (A0.out) 5 _ rfl
    have fa5 := bl_frozen (A0.out) 5
    have a6 := bl_cell (A0.out) 6 _ rfl
    have fa6 := bl_frozen (A0.out) 6
    have a7 := bl_cell (A0.out) 7 _ rfl
    have fa7 := bl_frozen (A0.out) 7
    have a8 := bl_cell (A0.out) 8 _ rfl
    have fa8 := bl_frozen (A0.out) 8
    go_upto_region 12 with fail
    clear a0 fa0 a1 fa1 a2 fa2 a3 fa3 a4 fa4 a5 fa5 a6 fa6 a7 fa7 a8 fa8
    refine opq (fun W2 => W2.heap[w.heap.size]? = some (rxo 1 mn mx m t (.slice none 0 0)) ∧ W2.heap[V0.heap.size]? = some (rxo 1 0 0 0 t (.slice none 0 0)) ∧ Kp w W2) ⟨by exact bl_put A0.out _, by exact bl_set B1.out (by omega) _, by exact K0.out.setCell (Nat.le_refl _) _⟩ ?_
    rintro W2 ⟨xA2, xB2, xK2⟩
    have A2 : Hid (W2.heap[w.heap.size]? = some (rxo 1 mn mx m t (.slice none 0 0))) := xA2
    have B2 : Hid (W2.heap[V0.heap.size]? = some (rxo 1 0 0 0 t (.slice none 0 0))) := xB2
    have K2 : Hid (Kp w W2) := xK2
    clear xA2 xB2 xK2
    have a0 := bl_cell (A2.out) 0 _ rfl
    have a1 := bl_cell (A2.out) 1 _ rfl
    have a2 := bl_cell (A2.out) 2 _ rfl
    have a3 := bl_cell (A2.out) 3 _ rfl
    have a4 := bl_cell (A2.out) 4 _ rfl
    have a5 := bl_cell (A2.out) 5 _ rfl
    have a6 := bl_cell (A2.out) 6 _ rfl
    have a7 := bl_cell (A2.out) 7 _ rfl
    have a8 := bl_cell (A2.out) 8 _ rfl
    have b0 := bl_cell (B2.out) 0 _ rfl
    have b1 := bl_cell (B2.out) 1 _ rfl
    have b2 := bl_cell (B2.out) 2 _ rfl
    have b3 := bl_cell (B2.out) 3 _ rfl
    have b4 := bl_cell (B2.out) 4 _ rfl
    have b5 := bl_cell (B2.out) 5 _ rfl
    have b6 := bl_cell (B2.out) 6 _ rfl
    have b7 := bl_cell (B2.out) 7 _ rfl
    have b8 := bl_cell (B2.out) 8 _ rfl
    go_wp2_with fail
    refine (SB.out _).mono ?_
    rintro e W3 ⟨rfl, k3⟩
    have A3 := hid (bl_kp A2.out k3)
    have K3 := hid (K2.out.trans k3)
    clear k3 a0 a1 a2 a3 a4 a5 a6 a7 a8 b0 b1 b2 b3 b4 b5 b6 b7 b8
    have x0 := bl_cell A3.out 0 _ rfl
    cases sm with
    | false =>
      go_wp2_with fail
      go_ret
      exact ⟨ret_bool (by rw [E.out]; rfl), K3.out⟩
    | true =>
      go_wp2_with fail
      refine (KF.out _).mono ?_
      rintro e W3 ⟨rfl, rfl⟩
      go_wp2_with fail
      go_ret
      exact ⟨ret_bool (by rw [E.out]; rfl), K3.out⟩
  by_cases k4 : k = 4
  · subst k4
    obtain ⟨sm, hsm⟩ : ∃ sm, (mn == mn && mx == mx && m == 0 && t == W4.z) = sm := ⟨_, rfl⟩
    have SB := hid (same_bare 4 mn mx m mn mx 0 t W4.z sm hsm)
    have E : Hid (leanB (.mk 4 mn mx m t kids) = (sm && kf)) := by show _ = _; rw [E0.out, ← hsm]; simp
    clear hsm
    have a0 := bl_cell (A0.out) 0 _ rfl
    have a1 := bl_cell (A0.out) 1 _ rfl
    have a2 := bl_cell (A0.out) 2 _ rfl
    have a3 := bl_cell (A0.out) 3 _ rfl
    have a4 := bl_cell (A0.out) 4 _ rfl
    have a5 := bl_cell (A0.out) 5 _ rfl
    have a6 := bl_cell (A0.out) 6 _ rfl
    have a7 := bl_cell (A0.out) 7 _ rfl
    have a8 := bl_cell (A0.out) 8 _ rfl
    go_upto_region 6 with fail
    clear a0 a1 a2 a3 a4 a5 a6 a7 a8
    have BB := hid B0.out
    have Q0 : Ks V0.heap.size W0 W0.drew := (Ks.refl _ _).drew
    have MK : Hid (∀ W, Ks V0.heap.size W0 W → W.cell? ⟨w.heap.size, 1, none⟩ = some (.int .i64 mn) ∧ W.cell? ⟨w.heap.size, 2, none⟩ = some (.int .i64 mx) ∧ Hid (Ks V0.heap.size W0 W)) := fun W k => ⟨bl_cell (bl_ks A0.out (by omega) k) 1 _ rfl, bl_cell (bl_ks A0.out (by omega) k) 2 _ rfl, k⟩
    refine wp_region_noPanic ?_
    refine wp_region_held_drew (S := (fun W => W.cell? ⟨w.heap.size, 1, none⟩ = some (.int .i64 mn) ∧ W.cell? ⟨w.heap.size, 2, none⟩ = some (.int .i64 mx) ∧ Hid (Ks V0.heap.size W0 W))) (by kernel_rfl) ?_ (fun hH => ?_)
    · exact MK.out _ Q0
    have KQ := Q0
    refine wpAnyH_take (i := 0) (oi := { dst := some 17, op := Op.fieldAddr 27 (Operand.tmp 1) 1, type := 0, pos := "right.go:61", after := #[], guard := none }) (v := ?v0a1) rfl (by kernel_rfl) (by kernel_rfl) (by kernel_rfl) (fun _ _ _ h => h) (Or.inl ⟨by rfl, ?hy0a1⟩) hH ?r0a1
    case hy0a1 => (intro W hSw; (try dsimp only at hSw); go_simp; try (with_reducible rfl))
    try simp only [Act.put, List.setIfInBounds_toArray, List.set_cons_zero, List.set_cons_succ]
    refine wpAnyH_take (i := 1) (oi := { dst := some 18, op := Op.load 3 (Operand.tmp 17), type := 3, pos := "right.go:61", after := #[{ on := 0, ground := Ground.data }], guard := none }) (v := ?v1a2) rfl (by kernel_rfl) (by kernel_rfl) (by kernel_rfl) (fun _ _ _ h => h) (Or.inl ⟨by rfl, ?hy1a2⟩) hH ?r1a2
    case hy1a2 => (intro W hSw; (try dsimp only at hSw); go_simp; try (with_reducible rfl))
    try simp only [Act.put, List.setIfInBounds_toArray, List.set_cons_zero, List.set_cons_succ]
    refine wpAnyH_take (i := 2) (oi := { dst := some 19, op := Op.fieldAddr 27 (Operand.tmp 1) 2, type := 0, pos := "right.go:61", after := #[{ on := 5, ground := Ground.gcOnly Departure.lateStores }], guard := none }) (v := ?v2a3) rfl (by kernel_rfl) (by kernel_rfl) (by kernel_rfl) (fun _ _ _ h => h) (Or.inl ⟨by rfl, ?hy2a3⟩) hH ?r2a3
    case hy2a3 => (intro W hSw; (try dsimp only at hSw); go_simp; try (with_reducible rfl))
    try simp only [Act.put, List.setIfInBounds_toArray, List.set_cons_zero, List.set_cons_succ]
    refine wpAnyH_take (i := 3) (oi := { dst := some 20, op := Op.load 3 (Operand.tmp 19), type := 3, pos := "right.go:61", after := #[{ on := 2, ground := Ground.data }, { on := 5, ground := Ground.gcOnly Departure.lateStores }], guard := none }) (v := ?v3a4) rfl (by kernel_rfl) (by kernel_rfl) (by kernel_rfl) (fun _ _ _ h => h) (Or.inl ⟨by rfl, ?hy3a4⟩) hH ?r3a4
    case hy3a4 => (intro W hSw; (try dsimp only at hSw); go_simp; try (with_reducible rfl))
    try simp only [Act.put, List.setIfInBounds_toArray, List.set_cons_zero, List.set_cons_succ]
    refine wpAnyH_take (i := 4) (oi := { dst := some 21, op := Op.fieldAddr 27 (Operand.tmp 3) 1, type := 0, pos := "right.go:61", after := #[{ on := 0, ground := Ground.phase }, { on := 1, ground := Ground.phase }, { on := 2, ground := Ground.textOnly Departure.lateStores }, { on := 3, ground := Ground.textOnly Departure.lateStores }], guard := none }) (v := ?v4a5) rfl (by kernel_rfl) (by kernel_rfl) (by kernel_rfl) (fun _ _ _ h => h) (Or.inl ⟨by rfl, ?hy4a5⟩) hH ?r4a5
    case hy4a5 => (intro W hSw; (try dsimp only at hSw); go_simp; try (with_reducible rfl))
    try simp only [Act.put, List.setIfInBounds_toArray, List.set_cons_zero, List.set_cons_succ]
    refine wpAnyH_ready (rs := [5]) (by kernel_rfl) (by simp) ?_
    refine AllReadyH.cons (o := { dst := none, op := Op.store 3 (Operand.tmp 21) (Operand.tmp 18), type := 0, pos := "right.go:61", after := #[{ on := 4, ground := Ground.data }, { on := 1, ground := Ground.data }, { on := 0, ground := Ground.phase }, { on := 1, ground := Ground.phase }, { on := 2, ground := Ground.textOnly Departure.lateStores }, { on := 3, ground := Ground.textOnly Departure.lateStores }], guard := none }) rfl (fun K hKq => ?_) AllReadyH.nil
    have c1 := bl_cell BB.out 1 _ rfl
    have f1 := bl_frozen BB.out 1
    go_simp
    refine hKq.out _ _ (MK.out _ (KQ.set 1 _)) (fun hN => ?_)
    have BN := hid (bl_put (j := 1) BB.out (.int .i64 mn))
    clear BB c1 f1
    have BB := BN
    clear BN
    clear hKq K hH KQ
    have hH := hN
    clear hN
    have KQ := hH.2.2.out
    try simp only [Act.put, List.setIfInBounds_toArray, List.set_cons_zero, List.set_cons_succ]
    refine wpAnyH_take (i := 6) (oi := { dst := some 22, op := Op.fieldAddr 27 (Operand.tmp 3) 2, type := 0, pos := "right.go:61", after := #[{ on := 0, ground := Ground.phase }, { on := 1, ground := Ground.phase }, { on := 2, ground := Ground.phase }, { on := 3, ground := Ground.phase }, { on := 4, ground := Ground.phase }, { on := 5, ground := Ground.phase }], guard := none }) (v := ?v6a6) rfl (by kernel_rfl) (by kernel_rfl) (by kernel_rfl) (fun _ _ _ h => h) (Or.inl ⟨by rfl, ?hy6a6⟩) hH ?r6a6
    case hy6a6 => (intro W hSw; (try dsimp only at hSw); go_simp; try (with_reducible rfl))
    try simp only [Act.put, List.setIfInBounds_toArray, List.set_cons_zero, List.set_cons_succ]
    refine wpAnyH_ready (rs := [7]) (by kernel_rfl) (by simp) ?_
    refine AllReadyH.cons (o := { dst := none, op := Op.store 3 (Operand.tmp 22) (Operand.tmp 20), type := 0, pos := "right.go:61", after := #[{ on := 6, ground := Ground.data }, { on := 3, ground := Ground.data }, { on := 5, ground := Ground.chain }, { on := 0, ground := Ground.phase }, { on := 1, ground := Ground.phase }, { on := 2, ground := Ground.phase }, { on := 3, ground := Ground.phase }, { on := 4, ground := Ground.phase }, { on := 5, ground := Ground.phase }], guard := none }) rfl (fun K hKq => ?_) AllReadyH.nil
    have c2 := bl_cell BB.out 2 _ rfl
    have f2 := bl_frozen BB.out 2
    go_simp
    refine hKq.out _ _ (MK.out _ (KQ.set 2 _)) (fun hN => ?_)
    have BN := hid (bl_put (j := 2) BB.out (.int .i64 mx))
    clear BB c2 f2
    have BB := BN
    clear BN
    clear hKq K hH KQ
    have hH := hN
    clear hN
    have KQ := hH.2.2.out
    try simp only [Act.put, List.setIfInBounds_toArray, List.set_cons_zero, List.set_cons_succ]
    refine wpAnyH_done (by kernel_rfl) ?_ _
    refine NoPanic.normal ?_
    go_upto_region 10 with fail
    refine opq (fun W1 => W1.heap[w.heap.size]? = some (rxo 4 mn mx m t (.slice ad l c)) ∧ W1.heap[V0.heap.size]? = some (rxo 4 mn mx 0 W4.z (.slice none 0 0)) ∧ Kp w W1) ⟨by exact bl_ks A0.out (by omega) KQ, by exact bl_drew BB.out, by exact KQ.up K0.out (Nat.le_of_lt hsV)⟩ ?_
    rintro W1 ⟨xA1, xB1, xK1⟩
    have A1 : Hid (W1.heap[w.heap.size]? = some (rxo 4 mn mx m t (.slice ad l c))) := xA1
    have B1 : Hid (W1.heap[V0.heap.size]? = some (rxo 4 mn mx 0 W4.z (.slice none 0 0))) := xB1
    have K1 : Hid (Kp w W1) := xK1
    clear xA1 xB1 xK1
    clear A0 B0 K0 BB hH KQ Q0 MK
    have A0 := A1
    have K0 := K1
    clear A1 K1
    have a0 := bl_cell (A0.out) 0 _ rfl
    have fa0 := bl_frozen (A0.out) 0
    have a1 := bl_cell (A0.out) 1 _ rfl
    have fa1 := bl_frozen (A0.out) 1
    have a2 := bl_cell (A0.out) 2 _ rfl
    have fa2 := bl_frozen (A0.out) 2
    have a3 := bl_cell (A0.out) 3 _ rfl
    have fa3 := bl_frozen (A0.out) 3
    have a4 := bl_cell (A0.out) 4 _ rfl
    have fa4 := bl_frozen (A0.out) 4
    have a5 := bl_cell (A0.out) 5 _ rfl
    have fa5 := bl_frozen (A0.out) 5
    have a6 := bl_cell (A0.out) 6 _ rfl
    have fa6 := bl_frozen (A0.out) 6
    have a7 := bl_cell (A0.out) 7 _ rfl
    have fa7 := bl_frozen (A0.out) 7
    have a8 := bl_cell (A0.out) 8 _ rfl
    have fa8 := bl_frozen (A0.out) 8
    go_upto_region 12 with fail
    clear a0 fa0 a1 fa1 a2 fa2 a3 fa3 a4 fa4 a5 fa5 a6 fa6 a7 fa7 a8 fa8
    refine opq (fun W2 => W2.heap[w.heap.size]? = some (rxo 4 mn mx m t (.slice none 0 0)) ∧ W2.heap[V0.heap.size]? = some (rxo 4 mn mx 0 W4.z (.slice none 0 0)) ∧ Kp w W2) ⟨by exact bl_put A0.out _, by exact bl_set B1.out (by omega) _, by exact K0.out.setCell (Nat.le_refl _) _⟩ ?_
    rintro W2 ⟨xA2, xB2, xK2⟩
    have A2 : Hid (W2.heap[w.heap.size]? = some (rxo 4 mn mx m t (.slice none 0 0))) := xA2
    have B2 : Hid (W2.heap[V0.heap.size]? = some (rxo 4 mn mx 0 W4.z (.slice none 0 0))) := xB2
    have K2 : Hid (Kp w W2) := xK2
    clear xA2 xB2 xK2
    have a0 := bl_cell (A2.out) 0 _ rfl
    have a1 := bl_cell (A2.out) 1 _ rfl
    have a2 := bl_cell (A2.out) 2 _ rfl
    have a3 := bl_cell (A2.out) 3 _ rfl
    have a4 := bl_cell (A2.out) 4 _ rfl
    have a5 := bl_cell (A2.out) 5 _ rfl
    have a6 := bl_cell (A2.out) 6 _ rfl
    have a7 := bl_cell (A2.out) 7 _ rfl
    have a8 := bl_cell (A2.out) 8 _ rfl
    have b0 := bl_cell (B2.out) 0 _ rfl
    have b1 := bl_cell (B2.out) 1 _ rfl
    have b2 := bl_cell (B2.out) 2 _ rfl
    have b3 := bl_cell (B2.out) 3 _ rfl
    have b4 := bl_cell (B2.out) 4 _ rfl
    have b5 := bl_cell (B2.out) 5 _ rfl
    have b6 := bl_cell (B2.out) 6 _ rfl
    have b7 := bl_cell (B2.out) 7 _ rfl
    have b8 := bl_cell (B2.out) 8 _ rfl
    go_wp2_with fail
    refine (SB.out _).mono ?_
    rintro e W3 ⟨rfl, k3⟩
    have A3 := hid (bl_kp A2.out k3)
    have K3 := hid (K2.out.trans k3)
    clear k3 a0 a1 a2 a3 a4 a5 a6 a7 a8 b0 b1 b2 b3 b4 b5 b6 b7 b8
    have x0 := bl_cell A3.out 0 _ rfl
    cases sm with
    | false =>
      go_wp2_with fail
      go_ret
      exact ⟨ret_bool (by rw [E.out]; rfl), K3.out⟩
    | true =>
      go_wp2_with fail
      refine (KF.out _).mono ?_
      rintro e W3 ⟨rfl, rfl⟩
      go_wp2_with fail
      go_ret
      exact ⟨ret_bool (by rw [E.out]; rfl), K3.out⟩
  by_cases k5 : k = 5
  · subst k5
    obtain ⟨sm, hsm⟩ : ∃ sm, (mn == 0 && mx == 0 && m == m && t == W4.z) = sm := ⟨_, rfl⟩
    have SB := hid (same_bare 5 mn mx m 0 0 m t W4.z sm hsm)
    have E : Hid (leanB (.mk 5 mn mx m t kids) = (sm && kf)) := by show _ = _; rw [E0.out, ← hsm]; (first | (simp; done) | (simp; cases mn == 0 <;> cases mx == 0 <;> cases t == W4.z <;> rfl))
    clear hsm
    have a0 := bl_cell (A0.out) 0 _ rfl
    have a1 := bl_cell (A0.out) 1 _ rfl
    have a2 := bl_cell (A0.out) 2 _ rfl
    have a3 := bl_cell (A0.out) 3 _ rfl
    have a4 := bl_cell (A0.out) 4 _ rfl
    have a5 := bl_cell (A0.out) 5 _ rfl
    have a6 := bl_cell (A0.out) 6 _ rfl
    have a7 := bl_cell (A0.out) 7 _ rfl
    have a8 := bl_cell (A0.out) 8 _ rfl
    have b0 := bl_cell (B0.out) 0 _ rfl
    have fb0 := bl_frozen (B0.out) 0
    have b1 := bl_cell (B0.out) 1 _ rfl
    have fb1 := bl_frozen (B0.out) 1
    have b2 := bl_cell (B0.out) 2 _ rfl
    have fb2 := bl_frozen (B0.out) 2
    have b3 := bl_cell (B0.out) 3 _ rfl
    have fb3 := bl_frozen (B0.out) 3
    have b4 := bl_cell (B0.out) 4 _ rfl
    have fb4 := bl_frozen (B0.out) 4
    have b5 := bl_cell (B0.out) 5 _ rfl
    have fb5 := bl_frozen (B0.out) 5
    have b6 := bl_cell (B0.out) 6 _ rfl
    have fb6 := bl_frozen (B0.out) 6
    have b7 := bl_cell (B0.out) 7 _ rfl
    have fb7 := bl_frozen (B0.out) 7
    have b8 := bl_cell (B0.out) 8 _ rfl
    have fb8 := bl_frozen (B0.out) 8
    go_upto_region 10 with fail
    clear a0 a1 a2 a3 a4 a5 a6 a7 a8 b0 fb0 b1 fb1 b2 fb2 b3 fb3 b4 fb4 b5 fb5 b6 fb6 b7 fb7 b8 fb8
    refine opq (fun W1 => W1.heap[w.heap.size]? = some (rxo 5 mn mx m t (.slice ad l c)) ∧ W1.heap[V0.heap.size]? = some (rxo 5 0 0 m W4.z (.slice none 0 0)) ∧ Kp w W1) ⟨by exact bl_set A0.out (by omega) _, by exact bl_put B0.out _, by exact K0.out.setCell (Nat.le_of_lt hsV) _⟩ ?_
    rintro W1 ⟨xA1, xB1, xK1⟩
    have A1 : Hid (W1.heap[w.heap.size]? = some (rxo 5 mn mx m t (.slice ad l c))) := xA1
    have B1 : Hid (W1.heap[V0.heap.size]? = some (rxo 5 0 0 m W4.z (.slice none 0 0))) := xB1
    have K1 : Hid (Kp w W1) := xK1
    clear xA1 xB1 xK1
    clear A0 B0 K0
    have A0 := A1
    have K0 := K1
    clear A1 K1
    have a0 := bl_cell (A0.out) 0 _ rfl
    have fa0 := bl_frozen (A0.out) 0
    have a1 := bl_cell (A0.out) 1 _ rfl
    have fa1 := bl_frozen (A0.out) 1
    have a2 := bl_cell (A0.out) 2 _ rfl
    have fa2 := bl_frozen (A0.out) 2
    have a3 := bl_cell (A0.out) 3 _ rfl
    have fa3 := bl_frozen (A0.out) 3
    have a4 := bl_cell (A0.out) 4 _ rfl
    have fa4 := bl_frozen (A0.out) 4
    have a5 := bl_cell (A0.out) 5 _ rfl
    have fa5 := bl_frozen (A0.out) 5
    have a6 := bl_cell (A0.out) 6 _ rfl
    have fa6 := bl_frozen (A0.out) 6
    have a7 := bl_cell (A0.out) 7 _ rfl
    have fa7 := bl_frozen (A0.out) 7
    have a8 := bl_cell (A0.out) 8 _ rfl
    have fa8 := bl_frozen (A0.out) 8
    go_upto_region 12 with fail
    clear a0 fa0 a1 fa1 a2 fa2 a3 fa3 a4 fa4 a5 fa5 a6 fa6 a7 fa7 a8 fa8
    refine opq (fun W2 => W2.heap[w.heap.size]? = some (rxo 5 mn mx m t (.slice none 0 0)) ∧ W2.heap[V0.heap.size]? = some (rxo 5 0 0 m W4.z (.slice none 0 0)) ∧ Kp w W2) ⟨by exact bl_put A0.out _, by exact bl_set B1.out (by omega) _, by exact K0.out.setCell (Nat.le_refl _) _⟩ ?_
    rintro W2 ⟨xA2, xB2, xK2⟩
    have A2 : Hid (W2.heap[w.heap.size]? = some (rxo 5 mn mx m t (.slice none 0 0))) := xA2
    have B2 : Hid (W2.heap[V0.heap.size]? = some (rxo 5 0 0 m W4.z (.slice none 0 0))) := xB2
    have K2 : Hid (Kp w W2) := xK2
    clear xA2 xB2 xK2
    have a0 := bl_cell (A2.out) 0 _ rfl
    have a1 := bl_cell (A2.out) 1 _ rfl
    have a2 := bl_cell (A2.out) 2 _ rfl
    have a3 := bl_cell (A2.out) 3 _ rfl
    have a4 := bl_cell (A2.out) 4 _ rfl
    have a5 := bl_cell (A2.out) 5 _ rfl
    have a6 := bl_cell (A2.out) 6 _ rfl
    have a7 := bl_cell (A2.out) 7 _ rfl
    have a8 := bl_cell (A2.out) 8 _ rfl
    have b0 := bl_cell (B2.out) 0 _ rfl
    have b1 := bl_cell (B2.out) 1 _ rfl
    have b2 := bl_cell (B2.out) 2 _ rfl
    have b3 := bl_cell (B2.out) 3 _ rfl
    have b4 := bl_cell (B2.out) 4 _ rfl
    have b5 := bl_cell (B2.out) 5 _ rfl
    have b6 := bl_cell (B2.out) 6 _ rfl
    have b7 := bl_cell (B2.out) 7 _ rfl
    have b8 := bl_cell (B2.out) 8 _ rfl
    go_wp2_with fail
    refine (SB.out _).mono ?_
    rintro e W3 ⟨rfl, k3⟩
    have A3 := hid (bl_kp A2.out k3)
    have K3 := hid (K2.out.trans k3)
    clear k3 a0 a1 a2 a3 a4 a5 a6 a7 a8 b0 b1 b2 b3 b4 b5 b6 b7 b8
    have x0 := bl_cell A3.out 0 _ rfl
    cases sm with
    | false =>
      go_wp2_with fail
      go_ret
      exact ⟨ret_bool (by rw [E.out]; rfl), K3.out⟩
    | true =>
      go_wp2_with fail
      refine (KF.out _).mono ?_
      rintro e W3 ⟨rfl, rfl⟩
      go_wp2_with fail
      go_ret
      exact ⟨ret_bool (by rw [E.out]; rfl), K3.out⟩
  by_cases k6 : k = 6
  · subst k6
    obtain ⟨sm, hsm⟩ : ∃ sm, (mn == 0 && mx == 0 && m == m && t == W4.z) = sm := ⟨_, rfl⟩
    have SB := hid (same_bare 6 mn mx m 0 0 m t W4.z sm hsm)
    have E : Hid (leanB (.mk 6 mn mx m t kids) = (sm && kf)) := by show _ = _; rw [E0.out, ← hsm]; (first | (simp; done) | (simp; cases mn == 0 <;> cases mx == 0 <;> cases t == W4.z <;> rfl))
    clear hsm
    have a0 := bl_cell (A0.out) 0 _ rfl
    have a1 := bl_cell (A0.out) 1 _ rfl
    have a2 := bl_cell (A0.out) 2 _ rfl
    have a3 := bl_cell (A0.out) 3 _ rfl
    have a4 := bl_cell (A0.out) 4 _ rfl
    have a5 := bl_cell (A0.out) 5 _ rfl
    have a6 := bl_cell (A0.out) 6 _ rfl
    have a7 := bl_cell (A0.out) 7 _ rfl
    have a8 := bl_cell (A0.out) 8 _ rfl
    have b0 := bl_cell (B0.out) 0 _ rfl
    have fb0 := bl_frozen (B0.out) 0
    have b1 := bl_cell (B0.out) 1 _ rfl
    have fb1 := bl_frozen (B0.out) 1
    have b2 := bl_cell (B0.out) 2 _ rfl
    have fb2 := bl_frozen (B0.out) 2
    have b3 := bl_cell (B0.out) 3 _ rfl
    have fb3 := bl_frozen (B0.out) 3
    have b4 := bl_cell (B0.out) 4 _ rfl
    have fb4 := bl_frozen (B0.out) 4
    have b5 := bl_cell (B0.out) 5 _ rfl
    have fb5 := bl_frozen (B0.out) 5
    have b6 := bl_cell (B0.out) 6 _ rfl
    have fb6 := bl_frozen (B0.out) 6
    have b7 := bl_cell (B0.out) 7 _ rfl
    have fb7 := bl_frozen (B0.out) 7
    have b8 := bl_cell (B0.out) 8 _ rfl
    have fb8 := bl_frozen (B0.out) 8
    go_upto_region 10 with fail
    clear a0 a1 a2 a3 a4 a5 a6 a7 a8 b0 fb0 b1 fb1 b2 fb2 b3 fb3 b4 fb4 b5 fb5 b6 fb6 b7 fb7 b8 fb8
    refine opq (fun W1 => W1.heap[w.heap.size]? = some (rxo 6 mn mx m t (.slice ad l c)) ∧ W1.heap[V0.heap.size]? = some (rxo 6 0 0 m W4.z (.slice none 0 0)) ∧ Kp w W1) ⟨by exact bl_set A0.out (by omega) _, by exact bl_put B0.out _, by exact K0.out.setCell (Nat.le_of_lt hsV) _⟩ ?_
    rintro W1 ⟨xA1, xB1, xK1⟩
    have A1 : Hid (W1.heap[w.heap.size]? = some (rxo 6 mn mx m t (.slice ad l c))) := xA1
    have B1 : Hid (W1.heap[V0.heap.size]? = some (rxo 6 0 0 m W4.z (.slice none 0 0))) := xB1
    have K1 : Hid (Kp w W1) := xK1
    clear xA1 xB1 xK1
    clear A0 B0 K0
    have A0 := A1
    have K0 := K1
    clear A1 K1
    have a0 := bl_cell (A0.out) 0 _ rfl
    have fa0 := bl_frozen (A0.out) 0
    have a1 := bl_cell (A0.out) 1 _ rfl
    have fa1 := bl_frozen (A0.out) 1
    have a2 := bl_cell (A0.out) 2 _ rfl
    have fa2 := bl_frozen (A0.out) 2
    have a3 := bl_cell (A0.out) 3 _ rfl
    have fa3 := bl_frozen (A0.out) 3
    have a4 := bl_cell (A0.out) 4 _ rfl
    have fa4 := bl_frozen (A0.out) 4
    have a5 := bl_cell (A0.out) 5 _ rfl
    have fa5 := bl_frozen (A0.out) 5
    have a6 := bl_cell (A0.out) 6 _ rfl
    have fa6 := bl_frozen (A0.out) 6
    have a7 := bl_cell (A0.out) 7 _ rfl
    have fa7 := bl_frozen (A0.out) 7
    have a8 := bl_cell (A0.out) 8 _ rfl
    have fa8 := bl_frozen (A0.out) 8
    go_upto_region 12 with fail
    clear a0 fa0 a1 fa1 a2 fa2 a3 fa3 a4 fa4 a5 fa5 a6 fa6 a7 fa7 a8 fa8
    refine opq (fun W2 => W2.heap[w.heap.size]? = some (rxo 6 mn mx m t (.slice none 0 0)) ∧ W2.heap[V0.heap.size]? = some (rxo 6 0 0 m W4.z (.slice none 0 0)) ∧ Kp w W2) ⟨by exact bl_put A0.out _, by exact bl_set B1.out (by omega) _, by exact K0.out.setCell (Nat.le_refl _) _⟩ ?_
    rintro W2 ⟨xA2, xB2, xK2⟩
    have A2 : Hid (W2.heap[w.heap.size]? = some (rxo 6 mn mx m t (.slice none 0 0))) := xA2
    have B2 : Hid (W2.heap[V0.heap.size]? = some (rxo 6 0 0 m W4.z (.slice none 0 0))) := xB2
    have K2 : Hid (Kp w W2) := xK2
    clear xA2 xB2 xK2
    have a0 := bl_cell (A2.out) 0 _ rfl
    have a1 := bl_cell (A2.out) 1 _ rfl
    have a2 := bl_cell (A2.out) 2 _ rfl
    have a3 := bl_cell (A2.out) 3 _ rfl
    have a4 := bl_cell (A2.out) 4 _ rfl
    have a5 := bl_cell (A2.out) 5 _ rfl
    have a6 := bl_cell (A2.out) 6 _ rfl
    have a7 := bl_cell (A2.out) 7 _ rfl
    have a8 := bl_cell (A2.out) 8 _ rfl
    have b0 := bl_cell (B2.out) 0 _ rfl
    have b1 := bl_cell (B2.out) 1 _ rfl
    have b2 := bl_cell (B2.out) 2 _ rfl
    have b3 := bl_cell (B2.out) 3 _ rfl
    have b4 := bl_cell (B2.out) 4 _ rfl
    have b5 := bl_cell (B2.out) 5 _ rfl
    have b6 := bl_cell (B2.out) 6 _ rfl
    have b7 := bl_cell (B2.out) 7 _ rfl
    have b8 := bl_cell (B2.out) 8 _ rfl
    go_wp2_with fail
    refine (SB.out _).mono ?_
    rintro e W3 ⟨rfl, k3⟩
    have A3 := hid (bl_kp A2.out k3)
    have K3 := hid (K2.out.trans k3)
    clear k3 a0 a1 a2 a3 a4 a5 a6 a7 a8 b0 b1 b2 b3 b4 b5 b6 b7 b8
    have x0 := bl_cell A3.out 0 _ rfl
    cases sm with
    | false =>
      go_wp2_with fail
      go_ret
      exact ⟨ret_bool (by rw [E.out]; rfl), K3.out⟩
    | true =>
      go_wp2_with fail
      refine (KF.out _).mono ?_
      rintro e W3 ⟨rfl, rfl⟩
      go_wp2_with fail
      go_ret
      exact ⟨ret_bool (by rw [E.out]; rfl), K3.out⟩
  have g1 : (k == 1) = false := by simp [k1]
  have g4 : (k == 4) = false := by simp [k4]
  have g5 : (k == 5) = false := by simp [k5]
  have g6 : (k == 6) = false := by simp [k6]
  obtain ⟨sm, hsm⟩ : ∃ sm, (mn == 0 && mx == 0 && m == 0 && t == W4.z) = sm := ⟨_, rfl⟩
  have SB := hid (same_bare k mn mx m 0 0 0 t W4.z sm hsm)
  have E : Hid (leanB (.mk k mn mx m t kids) = (sm && kf)) := by show _ = _; rw [E0.out, ← hsm]; rw [if_neg k4, if_neg (by omega), if_neg k1]; first | done | (cases mn == 0 <;> cases mx == 0 <;> cases m == 0 <;> cases t == W4.z <;> rfl)
  clear hsm
  have a0 := bl_cell (A0.out) 0 _ rfl
  have fa0 := bl_frozen (A0.out) 0
  have a1 := bl_cell (A0.out) 1 _ rfl
  have fa1 := bl_frozen (A0.out) 1
  have a2 := bl_cell (A0.out) 2 _ rfl
  have fa2 := bl_frozen (A0.out) 2
  have a3 := bl_cell (A0.out) 3 _ rfl
  have fa3 := bl_frozen (A0.out) 3
  have a4 := bl_cell (A0.out) 4 _ rfl
  have fa4 := bl_frozen (A0.out) 4
  have a5 := bl_cell (A0.out) 5 _ rfl
  have fa5 := bl_frozen (A0.out) 5
  have a6 := bl_cell (A0.out) 6 _ rfl
  have fa6 := bl_frozen (A0.out) 6
  have a7 := bl_cell (A0.out) 7 _ rfl
  have fa7 := bl_frozen (A0.out) 7
  have a8 := bl_cell (A0.out) 8 _ rfl
  have fa8 := bl_frozen (A0.out) 8
  go_upto_region 12 with fail
  clear a0 fa0 a1 fa1 a2 fa2 a3 fa3 a4 fa4 a5 fa5 a6 fa6 a7 fa7 a8 fa8
  refine opq (fun W2 => W2.heap[w.heap.size]? = some (rxo k mn mx m t (.slice none 0 0)) ∧ W2.heap[V0.heap.size]? = some (rxo k 0 0 0 W4.z (.slice none 0 0)) ∧ Kp w W2) ⟨by exact bl_put A0.out _, by exact bl_set B0.out (by omega) _, by exact K0.out.setCell (Nat.le_refl _) _⟩ ?_
  rintro W2 ⟨xA2, xB2, xK2⟩
  have A2 : Hid (W2.heap[w.heap.size]? = some (rxo k mn mx m t (.slice none 0 0))) := xA2
  have B2 : Hid (W2.heap[V0.heap.size]? = some (rxo k 0 0 0 W4.z (.slice none 0 0))) := xB2
  have K2 : Hid (Kp w W2) := xK2
  clear xA2 xB2 xK2
  have a0 := bl_cell (A2.out) 0 _ rfl
  have a1 := bl_cell (A2.out) 1 _ rfl
  have a2 := bl_cell (A2.out) 2 _ rfl
  have a3 := bl_cell (A2.out) 3 _ rfl
  have a4 := bl_cell (A2.out) 4 _ rfl
  have a5 := bl_cell (A2.out) 5 _ rfl
  have a6 := bl_cell (A2.out) 6 _ rfl
  have a7 := bl_cell (A2.out) 7 _ rfl
  have a8 := bl_cell (A2.out) 8 _ rfl
  have b0 := bl_cell (B2.out) 0 _ rfl
  have b1 := bl_cell (B2.out) 1 _ rfl
  have b2 := bl_cell (B2.out) 2 _ rfl
  have b3 := bl_cell (B2.out) 3 _ rfl
  have b4 := bl_cell (B2.out) 4 _ rfl
  have b5 := bl_cell (B2.out) 5 _ rfl
  have b6 := bl_cell (B2.out) 6 _ rfl
  have b7 := bl_cell (B2.out) 7 _ rfl
  have b8 := bl_cell (B2.out) 8 _ rfl
  go_wp2_with fail
  refine (SB.out _).mono ?_
  rintro e W3 ⟨rfl, k3⟩
  have A3 := hid (bl_kp A2.out k3)
  have K3 := hid (K2.out.trans k3)
  clear k3 a0 a1 a2 a3 a4 a5 a6 a7 a8 b0 b1 b2 b3 b4 b5 b6 b7 b8
  have x0 := bl_cell A3.out 0 _ rfl
  cases sm with
  | false =>
    go_wp2_with fail
    go_ret
    exact ⟨ret_bool (by rw [E.out]; rfl), K3.out⟩
  | true =>
    go_wp2_with fail
    refine (KF.out _).mono ?_
    rintro e W3 ⟨rfl, rfl⟩
    go_wp2_with fail
    go_ret
    exact ⟨ret_bool (by rw [E.out]; rfl), K3.out⟩
end Go.Proofs.YtikmgckefbjbkaaGreatDoor
