/-
  Texts of this claim: Right5, Text3, Count2, Trip, Num, Int, Rep.
-/
import Derived.Test.YtikmgckefbjbkaaGreatDoorM2
import Derived.Lib.SmallJoins
import Derived.Deep.LoopGhost

/-! ### Right5 -/

namespace Go.Proofs.YtikmgckefbjbkaaGreatDoor
open Go.RowKit

theorem kidsFit_one {k : Int} {mn mx n : Int} {s : W4} {kids : List Rx} (h : leanB (.mk k mn mx n s kids) = true) (hk : k = 4 ∨ k = 5) : ∃ r, kids = [r] := by
 unfold leanB at h
 simp only [Bool.and_eq_true] at h
 have h2 := h.2
 unfold kidsFit at h2
 rw [if_neg (by omega), if_neg (by omega), if_pos hk] at h2
 exact List.length_eq_one_iff.1 (by simpa using h2)

set_option maxHeartbeats 2000000 in
set_option maxRecDepth 100000 in
theorem right_step (ere : Bool) (k mn mx m : Int) (t : W4) (kids : List Rx) (H : ∀ r, r ∈ kids → RightSaid ere r) (hl : kids.length ≤ 1000000) (hs : t.a < 18446744073709551616 ∧ t.b < 18446744073709551616 ∧ t.c < 18446744073709551616 ∧ t.d < 18446744073709551616) : RightSaid ere (.mk k mn mx m t kids) := by
 refine ⟨fun C ok v b e n g d w hI hok hc hn hg hd => ?_⟩
 obtain ⟨ad, l, c, rfl, hr⟩ := hI.row
 have RR := hid hr
 have hlen := hr.ln
 have HC := hid hc
 have HOK := hid hok
 have HH := hid H
 have hCw := hc.lt
 have LE := hid (fun w => lean_any k mn mx m t kids ad l c w hlen)
 have HSV : Hid (vv t.a t.b t.c t.d = sv (W4.bit t)) := vv_sv t.a t.b t.c t.d hs.1 hs.2.1 hs.2.2.1 hs.2.2.2
 clear hI hr hc hok H hlen
 obtain ⟨o, ho⟩ : ∃ o, chk ere (.mk k mn mx m t kids) b e ⟨n, g, d⟩ = o := ⟨_, rfl⟩
 rw [ho]
 unfold chk at ho
 obtain ⟨lb, hlb⟩ : ∃ lb, leanB (.mk k mn mx m t kids) = lb := ⟨_, rfl⟩
 rw [hlb] at ho LE
 have K1 : lb = true → (k = 4 ∨ k = 5) → ∃ r, kids = [r] := fun h hk => kidsFit_one (by rw [hlb, h]) hk
 have HK1 := hid K1
 have HO := hid ho
 clear hlb ho K1
 have gn : IntKind.i64.wrap ((n : Int) + 1) = (n : Int) + 1 := by rw [IntKind.wrap_i64]; omega
 go_enter Tryz.func32, Tryz.ntmps32
 go_upto_region 1 with fail
 refine opq (fun W0 => W0.heap[w.heap.size]? = some (rxo k mn mx m t (.slice ad l c)) ∧ W0.heap[(w.heap.size + 1)]? = some (.cells #[.bool b, .bool e] 73) ∧ Cb W0 C ere n g d ∧ Kp w W0) ⟨by (first | exact last_at _ _ _ (by simp) | (refine bl_alloc ?_ _; first | exact last_at _ _ _ (by simp) | (refine bl_alloc ?_ _; first | exact last_at _ _ _ (by simp) | (refine bl_alloc ?_ _; exact last_at _ _ _ (by simp))))), by (first | exact last_at _ _ _ (by simp) | (refine bl_alloc ?_ _; first | exact last_at _ _ _ (by simp) | (refine bl_alloc ?_ _; first | exact last_at _ _ _ (by simp) | (refine bl_alloc ?_ _; exact last_at _ _ _ (by simp))))), by exact HC.out.kp (by repeat (first | exact Kp.refl _ | refine Kp.alloc ?_ _ | refine Kp.drew ?_ | refine Kp.drewN _ ?_)), by exact (by repeat (first | exact Kp.refl _ | refine Kp.alloc ?_ _ | refine Kp.drew ?_ | refine Kp.drewN _ ?_))⟩ ?_
 rintro W0 ⟨xA0, xP0, xCB0, xK0⟩
 have A0 : Hid (W0.heap[w.heap.size]? = some (rxo k mn mx m t (.slice ad l c))) := xA0
 have P0 : Hid (W0.heap[(w.heap.size + 1)]? = some (.cells #[.bool b, .bool e] 73)) := xP0
 have CB0 : Hid (Cb W0 C ere n g d) := xCB0
 have K0 : Hid (Kp w W0) := xK0
 clear xA0 xP0 xCB0 xK0
 have c1 := CB0.out.cells.2.1
 have f1 := bl_frozen CB0.out 1
 go_upto_region 2 with fail
 clear c1 f1
 refine opq (fun W1 => W1.heap[w.heap.size]? = some (rxo k mn mx m t (.slice ad l c)) ∧ W1.heap[(w.heap.size + 1)]? = some (.cells #[.bool b, .bool e] 73) ∧ Cb W1 C ere (n + 1) g d ∧ Ks C w W1) ⟨by exact bl_set A0.out (by omega) _, by exact bl_set P0.out (by omega) _, by exact CB0.out.nodes (n + 1), by exact (K0.out.ks (Nat.le_of_lt hCw)).set 1 _⟩ ?_
 rintro W1 ⟨xA1, xP1, xCB1, xKS1⟩
 have A1 : Hid (W1.heap[w.heap.size]? = some (rxo k mn mx m t (.slice ad l c))) := xA1
 have P1 : Hid (W1.heap[(w.heap.size + 1)]? = some (.cells #[.bool b, .bool e] 73)) := xP1
 have CB1 : Hid (Cb W1 C ere (n + 1) g d) := xCB1
 have KS1 : Hid (Ks C w W1) := xKS1
 clear xA1 xP1 xCB1 xKS1
 clear A0 P0 CB0 K0
 have R1 := hid (RR.out.ks KS1.out HOK.out)
 obtain ⟨a0, a1, a2, a3, a4, a5, a6, a7, a8⟩ := cells9c A1.out
 have c1 := CB1.out.cells.2.1
 have hs1 := KS1.out.size
 by_cases h40 : n + 1 > 40
 ·
  have g40 : (40 : Int) < (n : Int) + 1 := by omega
  have E : Hid (o = none) := by show _ = _; rw [← HO.out, if_pos (Or.inl h40)]
  go_wp2_with fail
  go_ret
  exact Ckd.no E.out CB1.out (by omega) (by omega) (by omega) (Nat.le_refl _) KS1.out
 have g40 : ¬ (40 : Int) < (n : Int) + 1 := by omega
 go_wp2_with fail
 refine (LE.out _).mono ?_
 rintro ex W2 ⟨rfl, k2⟩
 have A2 := hid (bl_kp A1.out k2)
 have P2 := hid (bl_kp P1.out k2)
 have CB2 := hid (CB1.out.kp k2)
 have KS2 := hid (KS1.out.kpt' k2 CB1.out.lt)
 have R2 := hid (R1.out.kp k2)
 clear k2 A1 P1 CB1 KS1 R1 a0 a1 a2 a3 a4 a5 a6 a7 a8 c1
 cases lb with
 | false =>
  have E : Hid (o = none) := by show _ = _; rw [← HO.out, if_pos (Or.inr rfl)]
  go_wp2_with fail
  go_ret
  exact Ckd.no E.out CB2.out (by omega) (by omega) (by omega) (Nat.le_refl _) KS2.out
 | true =>
  obtain ⟨a0, a1, a2, a3, a4, a5, a6, a7, a8⟩ := cells9c A2.out
  have q0 := CB2.out.cells.1
  have q2 := CB2.out.cells.2.2.1
  have e0 := bl_cell P2.out 0 _ rfl
  have e1 := bl_cell P2.out 1 _ rfl
  by_cases k1 : k = 1
  ·
   subst k1
   have E0 : Hid (o = if cnt (W4.bit t) 256 > 0 then some ⟨n + 1, g, d⟩ else none) := by show _ = _; rw [← HO.out, if_neg (by simp; omega), if_pos rfl]
   have CN : Hid (∀ w, Calls Tryz.prog 11 #[vv t.a t.b t.c t.d] w fun e w' => e = .returned (.int .i64 (cnt (W4.bit t) 256 : Nat)) ∧ Kp w w') := fun w => by rw [HSV.out]; exact count_any _ w
   go_wp2_with fail
   clear a0 a1 a2 a3 a4 a5 a6 a7 a8 q0 q2 e0 e1
   refine (CN.out _).mono ?_
   rintro ex W3 ⟨rfl, k3⟩
   have CB3 := hid (CB2.out.kp k3)
   have KS3 := hid (KS2.out.kpt' k3 CB2.out.lt)
   clear k3
   by_cases h0 : cnt (W4.bit t) 256 > 0
   ·
    have E : Hid (o = some ⟨n + 1, g, d⟩) := by show _ = _; rw [E0.out, if_pos h0]
    have g0 : (0 : Int) < (cnt (W4.bit t) 256 : Int) := by omega
    go_wp2_with fail
    go_ret
    exact Ckd.yes E.out CB3.out (by omega) (by omega) (by omega) (Nat.le_refl _) KS3.out
   ·
    have E : Hid (o = none) := by show _ = _; rw [E0.out, if_neg h0]
    have g0 : ¬ (0 : Int) < (cnt (W4.bit t) 256 : Int) := by omega
    go_wp2_with fail
    go_ret
    exact Ckd.no E.out CB3.out (by omega) (by omega) (by omega) (Nat.le_refl _) KS3.out
  by_cases k2 : k = 2
  ·
   subst k2
   have E : Hid (o = chkCat ere kids true ⟨n + 1, g, d⟩) := by show _ = _; rw [← HO.out, if_neg (by simp; omega), if_neg (by omega), if_pos rfl]
   go_wp2_with fail
   clear a0 a1 a2 a3 a4 a5 a6 a7 a8 q0 q2 e0 e1
   refine (cat_any ere kids HH.out C ok ad l c (n + 1) g d _ R2.out HOK.out CB2.out (by omega) (by omega) hd hl).mono ?_
   intro ex W3 hcd
   obtain ⟨bq, rfl⟩ : ∃ bq, ex = .returned (.bool bq) := by obtain ⟨bq, h1, _⟩ := hcd.ex; exact ⟨bq, h1⟩
   have CD := hid (hcd.from KS2.out)
   clear hcd
   go_wp2_with fail
   go_ret
   rw [E.out]
   exact CD.out
  by_cases k3 : k = 3
  ·
   subst k3
   have E0 : Hid (o = if ere then chkAlt ere kids ⟨n + 1, g, d⟩ else none) := by show _ = _; rw [← HO.out, if_neg (by simp; omega), if_neg (by omega), if_neg (by omega), if_pos rfl]
   cases ere with
   | false =>
    have E : Hid (o = none) := by show _ = _; rw [E0.out]; rfl
    go_wp2_with fail
    go_ret
    exact Ckd.no E.out CB2.out (by omega) (by omega) (by omega) (Nat.le_refl _) KS2.out
   | true =>
    have E : Hid (o = chkAlt true kids ⟨n + 1, g, d⟩) := by show _ = _; rw [E0.out]; rfl
    go_wp2_with fail
    clear a0 a1 a2 a3 a4 a5 a6 a7 a8 q0 q2 e0 e1
    refine (alt_any true kids HH.out C ok ad l c (n + 1) g d _ R2.out HOK.out CB2.out (by omega) (by omega) hd hl).mono ?_
    intro ex W3 hcd
    obtain ⟨bq, rfl⟩ : ∃ bq, ex = .returned (.bool bq) := by obtain ⟨bq, h1, _⟩ := hcd.ex; exact ⟨bq, h1⟩
    have CD := hid (hcd.from KS2.out)
    clear hcd
    go_wp2_with fail
    go_ret
    rw [E.out]
    exact CD.out
  by_cases k4 : k = 4
  ·
   subst k4
   obtain ⟨r, rfl⟩ := HK1.out rfl (by omega)
   have E : Hid (o = if timesFit mn mx then chkRep ere [r] ⟨n + 1, g, d⟩ else none) := by show _ = _; rw [← HO.out, if_neg (by simp; omega), if_neg (by omega), if_neg (by omega), if_neg (by omega), if_pos rfl]
   go_wp2_with fail
   clear a0 a1 a2 a3 a4 a5 a6 a7 a8 q0 q2 e0 e1
   refine (rep_any ere r (HH.out r (by simp)) C ok 4 mn mx m t ad l c (n + 1) g d _ R2.out HOK.out CB2.out (by omega) (by omega) hd).mono ?_
   intro ex W3 hcd
   obtain ⟨bq, rfl⟩ : ∃ bq, ex = .returned (.bool bq) := by obtain ⟨bq, h1, _⟩ := hcd.ex; exact ⟨bq, h1⟩
   have CD := hid (hcd.from KS2.out)
   clear hcd
   go_wp2_with fail
   go_ret
   rw [E.out]
   exact CD.out
  by_cases k5 : k = 5
  ·
   subst k5
   obtain ⟨r, rfl⟩ := HK1.out rfl (by omega)
   have E : Hid (o = if m ≠ (g + 1 : Nat) ∨ g + 1 > 3 ∨ d = 6 then none else chkGroup ere [r] ⟨n + 1, g + 1, d + 1⟩) := by show _ = _; rw [← HO.out, if_neg (by simp; omega), if_neg (by omega), if_neg (by omega), if_neg (by omega), if_neg (by omega), if_pos rfl]
   go_wp2_with fail
   clear a0 a1 a2 a3 a4 a5 a6 a7 a8 q0 q2 e0 e1
   refine (cgroup_any ere r (HH.out r (by simp)) C ok 5 mn mx m t ad l c (n + 1) g d _ R2.out HOK.out CB2.out (by omega) (by omega) hd).mono ?_
   intro ex W3 hcd
   obtain ⟨bq, rfl⟩ : ∃ bq, ex = .returned (.bool bq) := by obtain ⟨bq, h1, _⟩ := hcd.ex; exact ⟨bq, h1⟩
   have CD := hid (hcd.from KS2.out)
   clear hcd
   go_wp2_with fail
   go_ret
   rw [E.out]
   exact CD.out
  by_cases k6 : k = 6
  ·
   subst k6
   have E0 : Hid (o = if 1 ≤ m ∧ m ≤ (g : Int) then some ⟨n + 1, g, d⟩ else none) := by show _ = _; rw [← HO.out, if_neg (by simp; omega), if_neg (by omega), if_neg (by omega), if_neg (by omega), if_neg (by omega), if_neg (by omega), if_pos rfl]
   by_cases m1 : 1 ≤ m
   ·
    by_cases m2 : m ≤ (g : Int)
    ·
     have E : Hid (o = some ⟨n + 1, g, d⟩) := by show _ = _; rw [E0.out, if_pos ⟨m1, m2⟩]
     go_upto_region 16 with fail
     clear a0 a1 a2 a3 a4 a5 a6 a7 a8 q0 q2 e0 e1
     have Q0 : Kp W2 W2.drew := (Kp.refl _).drew
     have MK : Hid (∀ W, Kp W2 W → W.cell? ⟨w.heap.size, 3, none⟩ = some (.int .i64 m) ∧ W.cell? ⟨C, 2, none⟩ = some (.int .i64 (g : Int)) ∧ Hid (Kp W2 W)) := fun W k => ⟨bl_cell (bl_kp A2.out k) 3 _ rfl, (CB2.out.kp k).cells.2.2.1, k⟩
     refine wp_region_noPanic ?_
     refine wp_region_held_drew (S := (fun W => W.cell? ⟨w.heap.size, 3, none⟩ = some (.int .i64 m) ∧ W.cell? ⟨C, 2, none⟩ = some (.int .i64 (g : Int)) ∧ Hid (Kp W2 W))) (by kernel_rfl) ?_ (fun hH => ?_)
     ·
      exact MK.out _ Q0
     have KQ := Q0
     refine wpAnyH_take (i := 0) (oi := { dst := some 62, op := Op.fieldAddr 27 (Operand.tmp 4) 3, type := 0, pos := "right.go:45", after := #[], guard := none }) (v := ?v0a1) rfl (by kernel_rfl) (by kernel_rfl) (by kernel_rfl) (fun _ _ _ h => h) (Or.inl ⟨by rfl, ?hy0a1⟩) hH ?r0a1
     case hy0a1 => (intro W hSw; (try dsimp only at hSw); go_simp; try (with_reducible rfl))
     try simp only [Act.put, List.setIfInBounds_toArray, List.set_cons_zero, List.set_cons_succ]
     refine wpAnyH_take (i := 1) (oi := { dst := some 63, op := Op.load 3 (Operand.tmp 62), type := 3, pos := "right.go:45", after := _, guard := none }) (v := ?v1a2) rfl (by kernel_rfl) (by kernel_rfl) (by kernel_rfl) (fun _ _ _ h => h) (Or.inl ⟨by rfl, ?hy1a2⟩) hH ?r1a2
     case hy1a2 => (intro W hSw; (try dsimp only at hSw); go_simp; try (with_reducible rfl))
     try simp only [Act.put, List.setIfInBounds_toArray, List.set_cons_zero, List.set_cons_succ]
     refine wpAnyH_take (i := 2) (oi := { dst := some 64, op := Op.binOp BinOp.leq 3 (Operand.const (Value.int IntKind.i64 1)) (Operand.tmp 63) 3, type := 4, pos := "right.go:45", after := _, guard := none }) (v := ?v2a3) rfl (by kernel_rfl) (by kernel_rfl) (by kernel_rfl) (fun _ _ _ h => h) (Or.inl ⟨by rfl, ?hy2a3⟩) hH ?r2a3
     case hy2a3 => (intro W hSw; (try dsimp only at hSw); go_simp; try (with_reducible rfl))
     try simp only [Act.put, List.setIfInBounds_toArray, List.set_cons_zero, List.set_cons_succ]
     refine wpAnyH_take (i := 3) (oi := { dst := some 65, op := Op.move (Operand.tmp 64), type := 4, pos := "right.go:45", after := _, guard := none }) (v := ?v3a4) rfl (by kernel_rfl) (by kernel_rfl) (by kernel_rfl) (fun _ _ _ h => h) (Or.inl ⟨by rfl, ?hy3a4⟩) hH ?r3a4
     case hy3a4 => (intro W hSw; (try dsimp only at hSw); go_simp; try (with_reducible rfl))
     try simp only [Act.put, List.setIfInBounds_toArray, List.set_cons_zero, List.set_cons_succ]
     refine wpAnyH_take (i := 4) (oi := { dst := some 66, op := Op.fieldAddr 27 (Operand.tmp 4) 3, type := 0, pos := "right.go:45", after := _, guard := some (3, true) }) (v := ?v4a5) rfl (by kernel_rfl) (by kernel_rfl) (by kernel_rfl) (fun _ _ _ h => h) (Or.inl ⟨by rfl, ?hy4a5⟩) hH ?r4a5
     case hy4a5 => (intro W hSw; (try dsimp only at hSw); go_simp; try (with_reducible rfl))
     try simp only [Act.put, List.setIfInBounds_toArray, List.set_cons_zero, List.set_cons_succ]
     refine wpAnyH_take (i := 5) (oi := { dst := some 67, op := Op.load 3 (Operand.tmp 66), type := 3, pos := "right.go:45", after := _, guard := some (3, true) }) (v := ?v5a6) rfl (by kernel_rfl) (by kernel_rfl) (by kernel_rfl) (fun _ _ _ h => h) (Or.inl ⟨by rfl, ?hy5a6⟩) hH ?r5a6
     case hy5a6 => (intro W hSw; (try dsimp only at hSw); go_simp; try (with_reducible rfl))
     try simp only [Act.put, List.setIfInBounds_toArray, List.set_cons_zero, List.set_cons_succ]
     refine wpAnyH_take (i := 6) (oi := { dst := some 68, op := Op.move (Operand.tmp 0), type := 88, pos := "right.go:45", after := _, guard := some (3, true) }) (v := ?v6a7) rfl (by kernel_rfl) (by kernel_rfl) (by kernel_rfl) (fun _ _ _ h => h) (Or.inl ⟨by rfl, ?hy6a7⟩) hH ?r6a7
     case hy6a7 => (intro W hSw; (try dsimp only at hSw); go_simp; try (with_reducible rfl))
     try simp only [Act.put, List.setIfInBounds_toArray, List.set_cons_zero, List.set_cons_succ]
     refine wpAnyH_take (i := 7) (oi := { dst := some 69, op := Op.nilCheck (Operand.tmp 68), type := 0, pos := "right.go:45", after := _, guard := some (3, true) }) (v := ?v7a8) rfl (by kernel_rfl) (by kernel_rfl) (by kernel_rfl) (fun _ _ _ h => h) (Or.inl ⟨by rfl, ?hy7a8⟩) hH ?r7a8
     case hy7a8 => (intro W hSw; (try dsimp only at hSw); go_simp; try (with_reducible rfl))
     try simp only [Act.put, List.setIfInBounds_toArray, List.set_cons_zero, List.set_cons_succ]
     refine wpAnyH_take (i := 8) (oi := { dst := some 70, op := Op.fieldAddr 70 (Operand.tmp 69) 2, type := 0, pos := "right.go:45", after := _, guard := some (3, true) }) (v := ?v8a9) rfl (by kernel_rfl) (by kernel_rfl) (by kernel_rfl) (fun _ _ _ h => h) (Or.inl ⟨by rfl, ?hy8a9⟩) hH ?r8a9
     case hy8a9 => (intro W hSw; (try dsimp only at hSw); go_simp; try (with_reducible rfl))
     try simp only [Act.put, List.setIfInBounds_toArray, List.set_cons_zero, List.set_cons_succ]
     refine wpAnyH_take (i := 9) (oi := { dst := some 71, op := Op.load 3 (Operand.tmp 70), type := 3, pos := "right.go:45", after := _, guard := some (3, true) }) (v := ?v9a10) rfl (by kernel_rfl) (by kernel_rfl) (by kernel_rfl) (fun _ _ _ h => h) (Or.inl ⟨by rfl, ?hy9a10⟩) hH ?r9a10
     case hy9a10 => (intro W hSw; (try dsimp only at hSw); go_simp; try (with_reducible rfl))
     try simp only [Act.put, List.setIfInBounds_toArray, List.set_cons_zero, List.set_cons_succ]
     refine wpAnyH_take (i := 10) (oi := { dst := some 72, op := Op.binOp BinOp.leq 3 (Operand.tmp 67) (Operand.tmp 71) 3, type := 4, pos := "right.go:45", after := _, guard := some (3, true) }) (v := ?v10a11) rfl (by kernel_rfl) (by kernel_rfl) (by kernel_rfl) (fun _ _ _ h => h) (Or.inl ⟨by rfl, ?hy10a11⟩) hH ?r10a11
     case hy10a11 => (intro W hSw; (try dsimp only at hSw); go_simp; try (with_reducible rfl))
     try simp only [Act.put, List.setIfInBounds_toArray, List.set_cons_zero, List.set_cons_succ]
     refine wpAnyH_take (i := 11) (oi := { dst := some 73, op := Op.pick (Operand.tmp 65) (Operand.tmp 72) (Operand.const (Value.bool false)), type := 4, pos := "right.go:45", after := _, guard := none }) (v := ?v11a12) rfl (by kernel_rfl) (by kernel_rfl) (by kernel_rfl) (fun _ _ _ h => h) (Or.inl ⟨by rfl, ?hy11a12⟩) hH ?r11a12
     case hy11a12 => (intro W hSw; (try dsimp only at hSw); go_simp; try (with_reducible rfl))
     try simp only [Act.put, List.setIfInBounds_toArray, List.set_cons_zero, List.set_cons_succ]
     refine wpAnyH_take (i := 12) (oi := { dst := some 6, op := Op.assign (Operand.tmp 73), type := 4, pos := "right.go:45", after := _, guard := none }) (v := ?v12a13) rfl (by kernel_rfl) (by kernel_rfl) (by kernel_rfl) (fun _ _ _ h => h) (Or.inl ⟨by rfl, ?hy12a13⟩) hH ?r12a13
     case hy12a13 => (intro W hSw; (try dsimp only at hSw); go_simp; try (with_reducible rfl))
     try simp only [Act.put, List.setIfInBounds_toArray, List.set_cons_zero, List.set_cons_succ]
     refine wpAnyH_done (by kernel_rfl) ?_ _
     refine NoPanic.normal ?_
     go_wp2_with fail
     go_ret
     exact Ckd.yes E.out (CB2.out.kp KQ) (by omega) (by omega) (by omega) (Nat.le_refl _) (KS2.out.kpt' KQ CB2.out.lt)
    ·
     have E : Hid (o = none) := by show _ = _; rw [E0.out, if_neg (fun h => m2 h.2)]
     have m2d : decide (m ≤ (g : Int)) = false := decide_eq_false m2
     go_upto_region 16 with fail
     clear a0 a1 a2 a3 a4 a5 a6 a7 a8 q0 q2 e0 e1
     have Q0 : Kp W2 W2.drew := (Kp.refl _).drew
     have MK : Hid (∀ W, Kp W2 W → W.cell? ⟨w.heap.size, 3, none⟩ = some (.int .i64 m) ∧ W.cell? ⟨C, 2, none⟩ = some (.int .i64 (g : Int)) ∧ Hid (Kp W2 W)) := fun W k => ⟨bl_cell (bl_kp A2.out k) 3 _ rfl, (CB2.out.kp k).cells.2.2.1, k⟩
     refine wp_region_noPanic ?_
     refine wp_region_held_drew (S := (fun W => W.cell? ⟨w.heap.size, 3, none⟩ = some (.int .i64 m) ∧ W.cell? ⟨C, 2, none⟩ = some (.int .i64 (g : Int)) ∧ Hid (Kp W2 W))) (by kernel_rfl) ?_ (fun hH => ?_)
     ·
      exact MK.out _ Q0
     have KQ := Q0
     refine wpAnyH_take (i := 0) (oi := { dst := some 62, op := Op.fieldAddr 27 (Operand.tmp 4) 3, type := 0, pos := "right.go:45", after := #[], guard := none }) (v := ?v0b1) rfl (by kernel_rfl) (by kernel_rfl) (by kernel_rfl) (fun _ _ _ h => h) (Or.inl ⟨by rfl, ?hy0b1⟩) hH ?r0b1
     case hy0b1 => (intro W hSw; (try dsimp only at hSw); go_simp; try (with_reducible rfl))
     try simp only [Act.put, List.setIfInBounds_toArray, List.set_cons_zero, List.set_cons_succ]
     refine wpAnyH_take (i := 1) (oi := { dst := some 63, op := Op.load 3 (Operand.tmp 62), type := 3, pos := "right.go:45", after := _, guard := none }) (v := ?v1b2) rfl (by kernel_rfl) (by kernel_rfl) (by kernel_rfl) (fun _ _ _ h => h) (Or.inl ⟨by rfl, ?hy1b2⟩) hH ?r1b2
     case hy1b2 => (intro W hSw; (try dsimp only at hSw); go_simp; try (with_reducible rfl))
     try simp only [Act.put, List.setIfInBounds_toArray, List.set_cons_zero, List.set_cons_succ]
     refine wpAnyH_take (i := 2) (oi := { dst := some 64, op := Op.binOp BinOp.leq 3 (Operand.const (Value.int IntKind.i64 1)) (Operand.tmp 63) 3, type := 4, pos := "right.go:45", after := _, guard := none }) (v := ?v2b3) rfl (by kernel_rfl) (by kernel_rfl) (by kernel_rfl) (fun _ _ _ h => h) (Or.inl ⟨by rfl, ?hy2b3⟩) hH ?r2b3
     case hy2b3 => (intro W hSw; (try dsimp only at hSw); go_simp; try (with_reducible rfl))
     try simp only [Act.put, List.setIfInBounds_toArray, List.set_cons_zero, List.set_cons_succ]
     refine wpAnyH_take (i := 3) (oi := { dst := some 65, op := Op.move (Operand.tmp 64), type := 4, pos := "right.go:45", after := _, guard := none }) (v := ?v3b4) rfl (by kernel_rfl) (by kernel_rfl) (by kernel_rfl) (fun _ _ _ h => h) (Or.inl ⟨by rfl, ?hy3b4⟩) hH ?r3b4
     case hy3b4 => (intro W hSw; (try dsimp only at hSw); go_simp; try (with_reducible rfl))
     try simp only [Act.put, List.setIfInBounds_toArray, List.set_cons_zero, List.set_cons_succ]
     refine wpAnyH_take (i := 4) (oi := { dst := some 66, op := Op.fieldAddr 27 (Operand.tmp 4) 3, type := 0, pos := "right.go:45", after := _, guard := some (3, true) }) (v := ?v4b5) rfl (by kernel_rfl) (by kernel_rfl) (by kernel_rfl) (fun _ _ _ h => h) (Or.inl ⟨by rfl, ?hy4b5⟩) hH ?r4b5
     case hy4b5 => (intro W hSw; (try dsimp only at hSw); go_simp; try (with_reducible rfl))
     try simp only [Act.put, List.setIfInBounds_toArray, List.set_cons_zero, List.set_cons_succ]
     refine wpAnyH_take (i := 5) (oi := { dst := some 67, op := Op.load 3 (Operand.tmp 66), type := 3, pos := "right.go:45", after := _, guard := some (3, true) }) (v := ?v5b6) rfl (by kernel_rfl) (by kernel_rfl) (by kernel_rfl) (fun _ _ _ h => h) (Or.inl ⟨by rfl, ?hy5b6⟩) hH ?r5b6
     case hy5b6 => (intro W hSw; (try dsimp only at hSw); go_simp; try (with_reducible rfl))
     try simp only [Act.put, List.setIfInBounds_toArray, List.set_cons_zero, List.set_cons_succ]
     refine wpAnyH_take (i := 6) (oi := { dst := some 68, op := Op.move (Operand.tmp 0), type := 88, pos := "right.go:45", after := _, guard := some (3, true) }) (v := ?v6b7) rfl (by kernel_rfl) (by kernel_rfl) (by kernel_rfl) (fun _ _ _ h => h) (Or.inl ⟨by rfl, ?hy6b7⟩) hH ?r6b7
     case hy6b7 => (intro W hSw; (try dsimp only at hSw); go_simp; try (with_reducible rfl))
     try simp only [Act.put, List.setIfInBounds_toArray, List.set_cons_zero, List.set_cons_succ]
     refine wpAnyH_take (i := 7) (oi := { dst := some 69, op := Op.nilCheck (Operand.tmp 68), type := 0, pos := "right.go:45", after := _, guard := some (3, true) }) (v := ?v7b8) rfl (by kernel_rfl) (by kernel_rfl) (by kernel_rfl) (fun _ _ _ h => h) (Or.inl ⟨by rfl, ?hy7b8⟩) hH ?r7b8
     case hy7b8 => (intro W hSw; (try dsimp only at hSw); go_simp; try (with_reducible rfl))
     try simp only [Act.put, List.setIfInBounds_toArray, List.set_cons_zero, List.set_cons_succ]
     refine wpAnyH_take (i := 8) (oi := { dst := some 70, op := Op.fieldAddr 70 (Operand.tmp 69) 2, type := 0, pos := "right.go:45", after := _, guard := some (3, true) }) (v := ?v8b9) rfl (by kernel_rfl) (by kernel_rfl) (by kernel_rfl) (fun _ _ _ h => h) (Or.inl ⟨by rfl, ?hy8b9⟩) hH ?r8b9
     case hy8b9 => (intro W hSw; (try dsimp only at hSw); go_simp; try (with_reducible rfl))
     try simp only [Act.put, List.setIfInBounds_toArray, List.set_cons_zero, List.set_cons_succ]
     refine wpAnyH_take (i := 9) (oi := { dst := some 71, op := Op.load 3 (Operand.tmp 70), type := 3, pos := "right.go:45", after := _, guard := some (3, true) }) (v := ?v9b10) rfl (by kernel_rfl) (by kernel_rfl) (by kernel_rfl) (fun _ _ _ h => h) (Or.inl ⟨by rfl, ?hy9b10⟩) hH ?r9b10
     case hy9b10 => (intro W hSw; (try dsimp only at hSw); go_simp; try (with_reducible rfl))
     try simp only [Act.put, List.setIfInBounds_toArray, List.set_cons_zero, List.set_cons_succ]
     refine wpAnyH_take (i := 10) (oi := { dst := some 72, op := Op.binOp BinOp.leq 3 (Operand.tmp 67) (Operand.tmp 71) 3, type := 4, pos := "right.go:45", after := _, guard := some (3, true) }) (v := ?v10b11) rfl (by kernel_rfl) (by kernel_rfl) (by kernel_rfl) (fun _ _ _ h => h) (Or.inl ⟨by rfl, ?hy10b11⟩) hH ?r10b11
     case hy10b11 => (intro W hSw; (try dsimp only at hSw); go_simp; try (with_reducible rfl))
     try simp only [Act.put, List.setIfInBounds_toArray, List.set_cons_zero, List.set_cons_succ]
     refine wpAnyH_take (i := 11) (oi := { dst := some 73, op := Op.pick (Operand.tmp 65) (Operand.tmp 72) (Operand.const (Value.bool false)), type := 4, pos := "right.go:45", after := _, guard := none }) (v := ?v11b12) rfl (by kernel_rfl) (by kernel_rfl) (by kernel_rfl) (fun _ _ _ h => h) (Or.inl ⟨by rfl, ?hy11b12⟩) hH ?r11b12
     case hy11b12 => (intro W hSw; (try dsimp only at hSw); go_simp; try (with_reducible rfl))
     try simp only [Act.put, List.setIfInBounds_toArray, List.set_cons_zero, List.set_cons_succ]
     refine wpAnyH_take (i := 12) (oi := { dst := some 6, op := Op.assign (Operand.tmp 73), type := 4, pos := "right.go:45", after := _, guard := none }) (v := ?v12b13) rfl (by kernel_rfl) (by kernel_rfl) (by kernel_rfl) (fun _ _ _ h => h) (Or.inl ⟨by rfl, ?hy12b13⟩) hH ?r12b13
     case hy12b13 => (intro W hSw; (try dsimp only at hSw); go_simp; try (with_reducible rfl))
     try simp only [Act.put, List.setIfInBounds_toArray, List.set_cons_zero, List.set_cons_succ]
     refine wpAnyH_done (by kernel_rfl) ?_ _
     refine NoPanic.normal ?_
     go_wp2_with fail
     go_ret
     exact Ckd.no E.out (CB2.out.kp KQ) (by omega) (by omega) (by omega) (Nat.le_refl _) (KS2.out.kpt' KQ CB2.out.lt)
   ·
    have E : Hid (o = none) := by show _ = _; rw [E0.out, if_neg (fun h => m1 h.1)]
    have m1d : decide (1 ≤ m) = false := decide_eq_false m1
    go_upto_region 16 with fail
    clear a0 a1 a2 a3 a4 a5 a6 a7 a8 q0 q2 e0 e1
    have Q0 : Kp W2 W2.drew := (Kp.refl _).drew
    have MK : Hid (∀ W, Kp W2 W → W.cell? ⟨w.heap.size, 3, none⟩ = some (.int .i64 m) ∧ W.cell? ⟨C, 2, none⟩ = some (.int .i64 (g : Int)) ∧ Hid (Kp W2 W)) := fun W k => ⟨bl_cell (bl_kp A2.out k) 3 _ rfl, (CB2.out.kp k).cells.2.2.1, k⟩
    refine wp_region_noPanic ?_
    refine wp_region_held_drew (S := (fun W => W.cell? ⟨w.heap.size, 3, none⟩ = some (.int .i64 m) ∧ W.cell? ⟨C, 2, none⟩ = some (.int .i64 (g : Int)) ∧ Hid (Kp W2 W))) (by kernel_rfl) ?_ (fun hH => ?_)
    ·
     exact MK.out _ Q0
    have KQ := Q0
    refine wpAnyH_take (i := 0) (oi := { dst := some 62, op := Op.fieldAddr 27 (Operand.tmp 4) 3, type := 0, pos := "right.go:45", after := #[], guard := none }) (v := ?v0c1) rfl (by kernel_rfl) (by kernel_rfl) (by kernel_rfl) (fun _ _ _ h => h) (Or.inl ⟨by rfl, ?hy0c1⟩) hH ?r0c1
    case hy0c1 => (intro W hSw; (try dsimp only at hSw); go_simp; try (with_reducible rfl))
    try simp only [Act.put, List.setIfInBounds_toArray, List.set_cons_zero, List.set_cons_succ]
    refine wpAnyH_take (i := 1) (oi := { dst := some 63, op := Op.load 3 (Operand.tmp 62), type := 3, pos := "right.go:45", after := _, guard := none }) (v := ?v1c2) rfl (by kernel_rfl) (by kernel_rfl) (by kernel_rfl) (fun _ _ _ h => h) (Or.inl ⟨by rfl, ?hy1c2⟩) hH ?r1c2
    case hy1c2 => (intro W hSw; (try dsimp only at hSw); go_simp; try (with_reducible rfl))
    try simp only [Act.put, List.setIfInBounds_toArray, List.set_cons_zero, List.set_cons_succ]
    refine wpAnyH_take (i := 2) (oi := { dst := some 64, op := Op.binOp BinOp.leq 3 (Operand.const (Value.int IntKind.i64 1)) (Operand.tmp 63) 3, type := 4, pos := "right.go:45", after := _, guard := none }) (v := ?v2c3) rfl (by kernel_rfl) (by kernel_rfl) (by kernel_rfl) (fun _ _ _ h => h) (Or.inl ⟨by rfl, ?hy2c3⟩) hH ?r2c3
    case hy2c3 => (intro W hSw; (try dsimp only at hSw); go_simp; try (with_reducible rfl))
    try simp only [Act.put, List.setIfInBounds_toArray, List.set_cons_zero, List.set_cons_succ]
    refine wpAnyH_take (i := 3) (oi := { dst := some 65, op := Op.move (Operand.tmp 64), type := 4, pos := "right.go:45", after := _, guard := none }) (v := ?v3c4) rfl (by kernel_rfl) (by kernel_rfl) (by kernel_rfl) (fun _ _ _ h => h) (Or.inl ⟨by rfl, ?hy3c4⟩) hH ?r3c4
    case hy3c4 => (intro W hSw; (try dsimp only at hSw); go_simp; try (with_reducible rfl))
    try simp only [Act.put, List.setIfInBounds_toArray, List.set_cons_zero, List.set_cons_succ]
    refine wpAnyH_take (i := 4) (oi := { dst := some 66, op := Op.fieldAddr 27 (Operand.tmp 4) 3, type := 0, pos := "right.go:45", after := _, guard := some (3, true) }) (v := undef) rfl (by kernel_rfl) (by kernel_rfl) (by kernel_rfl) (fun _ _ _ h => h) (Or.inr ⟨by rfl, rfl⟩) hH ?r4c5
    try simp only [Act.put, List.setIfInBounds_toArray, List.set_cons_zero, List.set_cons_succ]
    refine wpAnyH_take (i := 5) (oi := { dst := some 67, op := Op.load 3 (Operand.tmp 66), type := 3, pos := "right.go:45", after := _, guard := some (3, true) }) (v := undef) rfl (by kernel_rfl) (by kernel_rfl) (by kernel_rfl) (fun _ _ _ h => h) (Or.inr ⟨by rfl, rfl⟩) hH ?r5c6
    try simp only [Act.put, List.setIfInBounds_toArray, List.set_cons_zero, List.set_cons_succ]
    refine wpAnyH_take (i := 6) (oi := { dst := some 68, op := Op.move (Operand.tmp 0), type := 88, pos := "right.go:45", after := _, guard := some (3, true) }) (v := undef) rfl (by kernel_rfl) (by kernel_rfl) (by kernel_rfl) (fun _ _ _ h => h) (Or.inr ⟨by rfl, rfl⟩) hH ?r6c7
    try simp only [Act.put, List.setIfInBounds_toArray, List.set_cons_zero, List.set_cons_succ]
    refine wpAnyH_take (i := 7) (oi := { dst := some 69, op := Op.nilCheck (Operand.tmp 68), type := 0, pos := "right.go:45", after := _, guard := some (3, true) }) (v := undef) rfl (by kernel_rfl) (by kernel_rfl) (by kernel_rfl) (fun _ _ _ h => h) (Or.inr ⟨by rfl, rfl⟩) hH ?r7c8
    try simp only [Act.put, List.setIfInBounds_toArray, List.set_cons_zero, List.set_cons_succ]
    refine wpAnyH_take (i := 8) (oi := { dst := some 70, op := Op.fieldAddr 70 (Operand.tmp 69) 2, type := 0, pos := "right.go:45", after := _, guard := some (3, true) }) (v := undef) rfl (by kernel_rfl) (by kernel_rfl) (by kernel_rfl) (fun _ _ _ h => h) (Or.inr ⟨by rfl, rfl⟩) hH ?r8c9
    try simp only [Act.put, List.setIfInBounds_toArray, List.set_cons_zero, List.set_cons_succ]
    refine wpAnyH_take (i := 9) (oi := { dst := some 71, op := Op.load 3 (Operand.tmp 70), type := 3, pos := "right.go:45", after := _, guard := some (3, true) }) (v := undef) rfl (by kernel_rfl) (by kernel_rfl) (by kernel_rfl) (fun _ _ _ h => h) (Or.inr ⟨by rfl, rfl⟩) hH ?r9c10
    try simp only [Act.put, List.setIfInBounds_toArray, List.set_cons_zero, List.set_cons_succ]
    refine wpAnyH_take (i := 10) (oi := { dst := some 72, op := Op.binOp BinOp.leq 3 (Operand.tmp 67) (Operand.tmp 71) 3, type := 4, pos := "right.go:45", after := _, guard := some (3, true) }) (v := undef) rfl (by kernel_rfl) (by kernel_rfl) (by kernel_rfl) (fun _ _ _ h => h) (Or.inr ⟨by rfl, rfl⟩) hH ?r10c11
    try simp only [Act.put, List.setIfInBounds_toArray, List.set_cons_zero, List.set_cons_succ]
    refine wpAnyH_take (i := 11) (oi := { dst := some 73, op := Op.pick (Operand.tmp 65) (Operand.tmp 72) (Operand.const (Value.bool false)), type := 4, pos := "right.go:45", after := _, guard := none }) (v := ?v11c12) rfl (by kernel_rfl) (by kernel_rfl) (by kernel_rfl) (fun _ _ _ h => h) (Or.inl ⟨by rfl, ?hy11c12⟩) hH ?r11c12
    case hy11c12 => (intro W hSw; (try dsimp only at hSw); go_simp; try (with_reducible rfl))
    try simp only [Act.put, List.setIfInBounds_toArray, List.set_cons_zero, List.set_cons_succ]
    refine wpAnyH_take (i := 12) (oi := { dst := some 6, op := Op.assign (Operand.tmp 73), type := 4, pos := "right.go:45", after := _, guard := none }) (v := ?v12c13) rfl (by kernel_rfl) (by kernel_rfl) (by kernel_rfl) (fun _ _ _ h => h) (Or.inl ⟨by rfl, ?hy12c13⟩) hH ?r12c13
    case hy12c13 => (intro W hSw; (try dsimp only at hSw); go_simp; try (with_reducible rfl))
    try simp only [Act.put, List.setIfInBounds_toArray, List.set_cons_zero, List.set_cons_succ]
    refine wpAnyH_done (by kernel_rfl) ?_ _
    refine NoPanic.normal ?_
    go_wp2_with fail
    go_ret
    exact Ckd.no E.out (CB2.out.kp KQ) (by omega) (by omega) (by omega) (Nat.le_refl _) (KS2.out.kpt' KQ CB2.out.lt)
  by_cases k7 : k = 7
  ·
   subst k7
   have E0 : Hid (o = if ere || b then some ⟨n + 1, g, d⟩ else none) := by show _ = _; rw [← HO.out, if_neg (by simp; omega), if_neg (by omega), if_neg (by omega), if_neg (by omega), if_neg (by omega), if_neg (by omega), if_neg (by omega), if_pos rfl]
   cases ere with
   | true =>
    have E : Hid (o = some ⟨n + 1, g, d⟩) := by show _ = _; rw [E0.out]; rfl
    go_wp2_with fail
    go_ret
    exact Ckd.yes E.out CB2.out (by omega) (by omega) (by omega) (Nat.le_refl _) KS2.out
   | false =>
    cases b with
    | true =>
     have E : Hid (o = some ⟨n + 1, g, d⟩) := by show _ = _; rw [E0.out]; rfl
     go_wp2_with fail
     go_ret
     exact Ckd.yes E.out CB2.out (by omega) (by omega) (by omega) (Nat.le_refl _) KS2.out
    | false =>
     have E : Hid (o = none) := by show _ = _; rw [E0.out]; rfl
     go_wp2_with fail
     go_ret
     exact Ckd.no E.out CB2.out (by omega) (by omega) (by omega) (Nat.le_refl _) KS2.out
  by_cases k8 : k = 8
  ·
   subst k8
   have E0 : Hid (o = if ere || e then some ⟨n + 1, g, d⟩ else none) := by show _ = _; rw [← HO.out, if_neg (by simp; omega), if_neg (by omega), if_neg (by omega), if_neg (by omega), if_neg (by omega), if_neg (by omega), if_neg (by omega), if_neg (by omega), if_pos rfl]
   cases ere with
   | true =>
    have E : Hid (o = some ⟨n + 1, g, d⟩) := by show _ = _; rw [E0.out]; rfl
    go_wp2_with fail
    go_ret
    exact Ckd.yes E.out CB2.out (by omega) (by omega) (by omega) (Nat.le_refl _) KS2.out
   | false =>
    cases e with
    | true =>
     have E : Hid (o = some ⟨n + 1, g, d⟩) := by show _ = _; rw [E0.out]; rfl
     go_wp2_with fail
     go_ret
     exact Ckd.yes E.out CB2.out (by omega) (by omega) (by omega) (Nat.le_refl _) KS2.out
    | false =>
     have E : Hid (o = none) := by show _ = _; rw [E0.out]; rfl
     go_wp2_with fail
     go_ret
     exact Ckd.no E.out CB2.out (by omega) (by omega) (by omega) (Nat.le_refl _) KS2.out
  have g1 : (k == 1) = false := by simp [k1]
  have g2 : (k == 2) = false := by simp [k2]
  have g3 : (k == 3) = false := by simp [k3]
  have g4 : (k == 4) = false := by simp [k4]
  have g5 : (k == 5) = false := by simp [k5]
  have g6 : (k == 6) = false := by simp [k6]
  have g7 : (k == 7) = false := by simp [k7]
  have g8 : (k == 8) = false := by simp [k8]
  have E : Hid (o = none) := by show _ = _; rw [← HO.out, if_neg (by simp; omega), if_neg (by omega), if_neg (by omega), if_neg (by omega), if_neg (by omega), if_neg (by omega), if_neg (by omega), if_neg (by omega), if_neg (by omega)]
  go_wp2_with fail
  go_ret
  exact Ckd.no E.out CB2.out (by omega) (by omega) (by omega) (Nat.le_refl _) KS2.out

/-- Words are words, and no row of kids is too long. -/
def RxOk : Rx → Prop
 | .mk _ _ _ _ s kids => kids.length ≤ 1000000 ∧ (s.a < 18446744073709551616 ∧ s.b < 18446744073709551616 ∧ s.c < 18446744073709551616 ∧ s.d < 18446744073709551616) ∧ ∀ a, a ∈ kids → RxOk a
termination_by r => SizeOf.sizeOf r
decreasing_by
 have := List.sizeOf_lt_of_mem (by assumption)
 simp
 omega
theorem right_all (ere : Bool) : ∀ a, RxOk a → RightSaid ere a
 | .mk k mn mx n s kids, h => by
  unfold RxOk at h
  exact right_step ere k mn mx n s kids (fun a ha => right_all ere a (h.2.2 a ha)) h.1 h.2.1
termination_by a => SizeOf.sizeOf a
decreasing_by
 have := List.sizeOf_lt_of_mem ha
 simp
 omega

set_option maxHeartbeats 2000000 in
set_option maxRecDepth 100000 in
theorem Right_any (r : Rx) (ere : Bool) (ok : Nat → Prop) (k mn mx m : Int) (t : W4) (ad : Option Addr) (l c : Nat) (w : World) (hR : RxOk r) (hI : Is w ok r (rxv k mn mx m t (.slice ad l c))) :
  Calls Tryz.prog 15 #[rxv k mn mx m t (.slice ad l c), .bool ere] w fun e w' => e = .returned (.bool (right ere r)) ∧ Kp w w' := by
 have RA := hid (right_all ere r hR)
 have HI := hid (hI.weak (ok' := fun x => ok x ∧ x < w.heap.size) (fun _ hb hl => ⟨hb, hl⟩))
 clear hR hI
 go_enter Tryz.func15, Tryz.ntmps15
 go_upto_region 2 with fail
 refine opq (fun W0 => W0.heap[w.heap.size]? = some (rxo k mn mx m t (.slice ad l c)) ∧ Cb W0 (w.heap.size + 1) ere 0 0 0 ∧ Is W0 (fun x => ok x ∧ x < w.heap.size) r (rxv k mn mx m t (.slice ad l c)) ∧ Kp w W0) ⟨by (first | exact last_at _ _ _ (by simp) | (refine bl_alloc ?_ _; first | exact last_at _ _ _ (by simp) | (refine bl_alloc ?_ _; first | exact last_at _ _ _ (by simp) | (refine bl_alloc ?_ _; exact last_at _ _ _ (by simp))))), by exact last_at _ _ _ (by simp), by exact HI.out.kp (by repeat (first | exact Kp.refl _ | refine Kp.alloc ?_ _ | refine Kp.drew ?_ | refine Kp.drewN _ ?_)), by exact (by repeat (first | exact Kp.refl _ | refine Kp.alloc ?_ _ | refine Kp.drew ?_ | refine Kp.drewN _ ?_))⟩ ?_
 rintro W0 ⟨xA0, xCB0, xI0, xK0⟩
 have A0 : Hid (W0.heap[w.heap.size]? = some (rxo k mn mx m t (.slice ad l c))) := xA0
 have CB0 : Hid (Cb W0 (w.heap.size + 1) ere 0 0 0) := xCB0
 have I0 : Hid (Is W0 (fun x => ok x ∧ x < w.heap.size) r (rxv k mn mx m t (.slice ad l c))) := xI0
 have K0 : Hid (Kp w W0) := xK0
 clear xA0 xCB0 xI0 xK0
 obtain ⟨a0, a1, a2, a3, a4, a5, a6, a7, a8⟩ := cells9c A0.out
 go_wp2_with fail
 clear a0 a1 a2 a3 a4 a5 a6 a7 a8
 refine (RA.out.all (w.heap.size + 1) _ _ true true 0 0 0 _ I0.out (fun _ hx => by omega) CB0.out (by omega) (by omega) (by omega)).mono ?_
 intro e W1 hcd
 obtain ⟨bq, rfl, hbq, _, hks⟩ := hcd.ex
 have HB : Hid (bq = right ere r) := hbq
 have K1 := hid (hks.up K0.out (by omega))
 clear hcd hbq hks
 go_wp2_with fail
 go_ret
 exact ⟨ret_bool HB.out, K1.out⟩
end Go.Proofs.YtikmgckefbjbkaaGreatDoor

/-! ### Text3 -/

namespace Go.Proofs.YtikmgckefbjbkaaGreatDoor
open Go.RowKit

mutual
def txt (ere : Bool) : Rx → List UInt8
 | .mk k mn mx n s kids =>
  if k = 1 then setT (W4.bit s) ere
  else if k = 2 then Lib.join (txts ere kids) []
  else if k = 3 then Lib.join (txts ere kids) [124]
  else if k = 4 then (txts ere kids).headD [] ++ timesT mn.toNat mx ere
  else if k = 5 then framedT [40] ((txts ere kids).headD []) [41] ere
  else if k = 6 then [92] ++ dec n.toNat
  else if k = 7 then [94] else [36]
def txts (ere : Bool) : List Rx → List (List UInt8)
 | [] => []
 | r :: rs => txt ere r :: txts ere rs
end
theorem txts_map (ere : Bool) : ∀ (rs : List Rx), txts ere rs = rs.map (txt ere)
 | [] => by rw [txts]; rfl
 | r :: rs => by rw [txts, txts_map ere rs]; rfl

/-- What is asked of a tree ahead of its text: what a right one is; and that the text isn't too long. -/
structure TxOk (ere : Bool) (n : Nat) (k mn mx m : Int) (t : W4) (kids : List Rx) : Prop where
 rep : k = 4 → (∃ r, kids = [r]) ∧ 0 ≤ mn ∧ mn ≤ 20 ∧ -1 ≤ mx ∧ mx ≤ 20
 grp : k = 5 → ∃ r, kids = [r]
 bak : k = 6 → 0 ≤ m ∧ m < 100
 len : kids.length ≤ 100
 w4 : t.a < 18446744073709551616 ∧ t.b < 18446744073709551616 ∧ t.c < 18446744073709551616 ∧ t.d < 18446744073709551616
 kid : ∀ r, r ∈ kids → (txt ere r).length ≤ n
structure TextSaid (ere : Bool) (r : Rx) : Prop where
 all : ∀ (ok : Nat → Prop) (v : Value) (w : World), Is w ok r v → Calls Tryz.prog 26 #[v, .bool ere] w fun e w' => e = .returned (.string (bs (txt ere r))) ∧ Kp w w'

theorem info9 : ∃ i, Tryz.prog.info? 9 = some i ∧ i.zero = some (.string ⟨#[]⟩) ∧ i.size = 1 ∧ i.bytes = 16 := by
 obtain ⟨i, hi, h0, h1, h2⟩ := info_parts (P := Tryz.prog) (e := 9) (z := .string ⟨#[]⟩) (size := 1) (bytes := 16) (by kernel_rfl)
 exact ⟨i, hi, h0, h1, h2⟩
/-- A row of texts that the call owns. -/
def Os (base : Nat) (w : World) (v : Value) (l : List (List UInt8)) : Prop := w.ownsRow base 9 1 v l.length (l.map fun x => Value.string (bs x))
theorem Os.kp {base : Nat} {w w' : World} {v : Value} {l : List (List UInt8)} (h : Os base w v l) (k : Kp w w') : Os base w' v l := owns_kp h k
theorem wpList_append_s {ops : Array Oper} {rest : List Oper} {o : Oper} {a : Act} {Q : Exit → Act → World → Prop} (W : World) (hgd : o.guard = none) (s x : Operand)
  (ho : o.op = .call { callee := .builtin .append, args := #[s, x], argTypes := #[80, 80] })
  (base : Nat) (v : Value) (b : List UInt8) (l : List (List UInt8)) (hs : a.eval s = v) (hown : Hid (Os base W v l)) (B : Nat) (hB : B = W.heap.size)
  (hx : a.eval x = .slice (some ⟨B, 0, none⟩) 1 1) (h63 : l.length ≤ 900) (hbase : base ≤ W.heap.size)
  (h : ∀ v' w', Os base w' v' (l ++ [b]) → W.grownBy w' v.ownBlock → wpList Tryz.prog ops Q rest (a.put o.dst v') w') :
  wpList Tryz.prog ops Q (o :: rest) a (W.alloc (.cells #[.string (bs b)] 9)) := by
 obtain ⟨i, hi, hz, hsz, hby⟩ := info9
 have kal : Kp W (W.alloc (.cells #[.string (bs b)] 9)) := (Kp.refl _).alloc _
 subst hB
 refine wpList_append_own_at (W.alloc (.cells #[.string (bs b)] 9)) hgd s x 80 ho base 9 i (.string ⟨#[]⟩) 1 16 Tryz.underlying80 hi hz hsz hby rfl (by omega) v l.length (l.map fun x => Value.string (bs x)) hs (hown.out.alloc _) ⟨W.heap.size, 0, none⟩ 1 1 [.string (bs b)] hx rfl ?_ ?_ (by unfold maxLen; omega) (by omega) (by simp; omega) ?_
 ·
  intro j y hj
  match j, hj with
  | 0, hj => simp at hj; subst hj; simp [Addr.add]
 ·
  intro y hy; simp at hy; subst hy; rfl
 ·
  intro v' w' a1 a2 _ _
  refine h v' w' ?_ ⟨a2.os.trans rfl, a2.tape.trans rfl, a2.output.trans rfl, Nat.le_trans kal.size a2.size, fun k hk hne => (a2.block k (Nat.lt_of_lt_of_le hk kal.size) hne).trans (kal.block k hk)⟩
  unfold Os
  rw [List.length_append, List.map_append]
  exact a1

set_option maxHeartbeats 2000000 in
set_option maxRecDepth 100000 in
theorem texts_any (ere : Bool) (ts : List Rx) (H : ∀ r, r ∈ ts → TextSaid ere r) (ok : Nat → Prop) (ad : Option Addr) (l c : Nat) (w : World) (hr : RowAt w ok ts ad l c) (hl : ts.length ≤ 100) :
  Calls Tryz.prog 38 #[.slice ad l c, .bool ere] w fun e w' => ∃ v, e = .returned v ∧ Os w.heap.size w' v (txts ere ts) ∧ Kp w w' := by
 have hle := hr.ln
 have hlc := hr.cp
 subst hle
 obtain ⟨L, hL⟩ : ∃ L, ts.length = L := ⟨_, rfl⟩
 rw [hL] at hr hlc hl ⊢
 have HL := hid hL
 have RR := hid hr
 have HH := hid H
 clear hL hr H
 go_enter Tryz.func38, Tryz.ntmps38
 go_wp2_with fail
 go_loopg [5, 10] L (fun gg v i wr => ∃ k : Nat, k + gg = L ∧ i = .int .i64 (k : Int) ∧ Os w.heap.size wr v (txts ere (ts.take k)) ∧ Kp w wr)
 case atStart => exact ⟨0, by omega, rfl, by rw [List.take_zero, txts]; exact World.ownsRow_nil _ _ _ _, Kp.refl _⟩
 case round =>
  obtain ⟨k, hk, rfl, hO, hK⟩ := hrel
  have O := hid hO
  have K := hid hK
  have hsz := hK.size
  clear hO hK
  by_cases hlt : k < L
  ·
   have gkw : IntKind.i64.wrap ((k : Int) + 1) = (k : Int) + 1 := by rw [IntKind.wrap_i64]; omega
   have ga : (k : Int) < (L : Int) := by omega
   have g0 : (0 : Int) ≤ (k : Int) := by omega
   obtain ⟨r, hr⟩ : ∃ r, ts[k]? = some r := ⟨_, List.getElem?_eq_getElem (by rw [HL.out]; exact hlt)⟩
   have htk : txts ere (ts.take (k + 1)) = txts ere (ts.take k) ++ [txt ere r] := by
    rw [txts_map, txts_map, List.take_succ_eq_append_getElem (by rw [HL.out]; exact hlt), List.map_append, (List.getElem?_eq_some_iff.1 hr).2]
    rfl
   have HTK := hid htk
   obtain ⟨bb, oo, kk, mn, mx, mm, tt, ad', ll, cc, e1, hbb, i1, ce1⟩ := (RR.out.kp K.out).at k r hr
   subst e1
   have TS := hid (HH.out r (List.mem_of_getElem? hr))
   have I1 := hid i1
   have CE1 := hid ce1
   clear hr htk i1 ce1
   obtain ⟨x0, x1, x2, x3, x4, x5, x6, x7, x8⟩ := cells_of_is CE1.out
   go_upto_region 5 with fail
   clear x0 x1 x2 x3 x4 x5 x6 x7 x8
   refine opq (fun W => W.heap[wr.heap.size]? = some (rxo kk mn mx mm tt (.slice ad' ll cc)) ∧ Kp wr W) ⟨by exact last_at _ _ _ (by simp), by exact (Kp.refl _).alloc _⟩ ?_
   rintro W1 ⟨y1, y2⟩
   have A1 := hid y1
   have K1 := hid y2
   have hs1 := y2.size
   clear y1 y2
   obtain ⟨a0, a1, a2, a3, a4, a5, a6, a7, a8⟩ := cells9c A1.out
   go_wp2_with fail
   clear a0 a1 a2 a3 a4 a5 a6 a7 a8
   refine (TS.out.all ok _ _ (I1.out.kp K1.out)).mono ?_
   rintro e W2 ⟨rfl, k2⟩
   have O2 := hid (O.out.kp (K1.out.trans k2))
   have K2 := hid (K.out.trans (K1.out.trans k2))
   have hs2 := k2.size
   have hln : (txts ere (ts.take k)).length ≤ 900 := by rw [txts_map, List.length_map, List.length_take]; omega
   clear k2
   go_wp2_with (at_builtin; go_must (refine wpList_append_s W2 (by rfl) _ _ (by rfl) w.heap.size u5 (txt ere r) _ (by rfl) O2 _ (by rfl) (by rfl) hln ?h2 ?_))
   case h2 => omega
   intro v' w3 ho3 hg3
   have O3 : Hid (Os w.heap.size w3 v' (txts ere (ts.take (k + 1)))) := by rw [HTK.out]; exact ho3
   have K3 := hid (K2.out.grownby hg3 (fun b hb => (World.ownsRow.lt O2.out b hb).1))
   clear ho3 hg3
   go_wp2_with fail
   go_roundg (gk - 1)
   case measure => omega
   case rel => exact ⟨k + 1, by omega, by go_num, O3.out, K3.out⟩
  ·
   have ga : ¬ (k : Int) < (L : Int) := by omega
   have E : Hid (ts.take k = ts) := List.take_of_length_le (by rw [HL.out]; omega)
   go_wp2
   go_ret
   exact ⟨_, rfl, by rw [← E.out]; exact O.out, K.out⟩

theorem join_any (base : Nat) (xs : List (List UInt8)) (sep : List UInt8) (v : Value) (w : World) (h : Os base w v xs) (hl : xs.length ≤ 100) (hs : (Lib.join xs sep).length ≤ 10000000) :
  Calls Tryz.prog 37 #[v, .string (bs sep)] w fun e w' => e = .returned (.string (bs (Lib.join xs sep))) ∧ Kp w w' := by
 obtain ⟨h1, h2⟩ := h
 have hmap : (xs.map bs).map (·.data.toList) = xs := by
  rw [List.map_map]
  conv => rhs; rw [← List.map_id xs]
  apply List.map_congr_left
  intro a _
  simp [bs]
 have hsep : (bs sep).data.toList = sep := by simp [bs]
 rcases h2 with ⟨rfl, h0⟩ | ⟨g, cap, cur, rfl, hb, hg, hc, hm, hcs, ht⟩
 ·
  have : xs = [] := List.eq_nil_of_length_eq_zero h0
  subst this
  refine (Tryz.strings_Join_none none 0 (bs sep) w).mono ?_
  rintro e w' ⟨rfl, rfl⟩
  exact ⟨rfl, Kp.refl _⟩
 ·
  have := Tryz.strings_Join g 0 cap (xs.map bs) (bs sep) w ?_ (Array.getElem?_eq_some_iff.1 hg).1 (by rw [List.length_map]; omega) (by rw [List.length_map]; omega) (by rw [hmap, hsep]; omega)
  ·
   rw [hmap, hsep, List.length_map] at this
   exact this
  ·
   intro j x hj
   rw [Nat.zero_add]
   rw [List.getElem?_map] at hj
   obtain ⟨y, hy, rfl⟩ : ∃ y, xs[j]? = some y ∧ bs y = x := by
    cases hq : xs[j]? with
    | none => rw [hq] at hj; cases hj
    | some y => rw [hq] at hj; injection hj with hj; exact ⟨y, rfl, hj⟩
   have hj' : j < xs.length := (List.getElem?_eq_some_iff.1 hy).1
   refine bl_cell hg j _ ?_
   have e1 : (cur.toList.take (xs.length * 1))[j]? = (xs.map fun x => Value.string (bs x))[j]? := by rw [ht]
   rw [List.getElem?_take, if_pos (by omega), Array.getElem?_toList] at e1
   rw [e1, List.getElem?_map, hy]
   rfl
end Go.Proofs.YtikmgckefbjbkaaGreatDoor

/-! ### Count2 -/

namespace Go.Proofs.YtikmgckefbjbkaaGreatDoor
open Go.RowKit

/-- No row of kids is longer than a million. -/
def Slim : Rx → Prop
 | .mk _ _ _ _ _ kids => kids.length ≤ 1000000 ∧ ∀ a, a ∈ kids → Slim a
termination_by r => SizeOf.sizeOf r
decreasing_by
 have := List.sizeOf_lt_of_mem (by assumption)
 simp
 omega

/-! ### Groups -/
mutual
def grp : Rx → Nat
 | .mk k _ _ _ _ kids => (if k = 5 then 1 else 0) + grps kids
def grps : List Rx → Nat
 | [] => 0
 | r :: rs => grp r + grps rs
end
theorem grps_app (a b : List Rx) : grps (a ++ b) = grps a + grps b := by
 induction a with
 | nil => simp [grps]
 | cons x a ih => simp only [List.cons_append, grps, ih]; omega
theorem grps_take (a : List Rx) (q : Nat) : grps (a.take q) ≤ grps a := by
 have := grps_app (a.take q) (a.drop q)
 rw [List.take_append_drop] at this
 omega
theorem grps_mem (a : List Rx) (r : Rx) (h : r ∈ a) : grp r ≤ grps a := by
 induction a with
 | nil => cases h
 | cons x a ih =>
  simp only [grps]
  rcases List.mem_cons.1 h with rfl | h
  ·
   omega
  ·
   have := ih h; omega
structure GroupsSaid (r : Rx) : Prop where
 all : ∀ (ok : Nat → Prop) (v : Value) (w : World), Is w ok r v → Calls Tryz.prog 19 #[v] w fun e w' => e = .returned (.int .i64 ((grp r : Nat) : Int)) ∧ Kp w w'

set_option maxHeartbeats 2000000 in
set_option maxRecDepth 100000 in
theorem Groups_step (k mn mx m : Int) (t : W4) (kids : List Rx) (H : ∀ r, r ∈ kids → GroupsSaid r) (hB : grp (.mk k mn mx m t kids) ≤ 1000000) (hS : kids.length ≤ 1000000) : GroupsSaid (.mk k mn mx m t kids) := by
 refine ⟨fun ok v w hI => ?_⟩
 obtain ⟨ad, l, c, rfl, hr⟩ := hI.row
 have hle := hr.ln
 have hlc := hr.cp
 subst hle
 obtain ⟨L, hL⟩ : ∃ L, kids.length = L := ⟨_, rfl⟩
 rw [hL] at hr hlc hS ⊢
 have HL := hid hL
 have RR := hid hr
 have HH := hid H
 have hG : grp (.mk k mn mx m t kids) = (if k = 5 then 1 else 0) + grps kids := by unfold grp; rfl
 rw [hG] at hB ⊢
 clear hI hr H hG hL
 by_cases k5 : k = 5
 ·
  subst k5
  rw [if_pos rfl] at hB ⊢
  obtain ⟨M, hM⟩ : ∃ M, grps kids = M := ⟨_, rfl⟩
  rw [hM] at hB ⊢
  have HM := hid hM
  clear hM
  obtain ⟨T, hT⟩ : ∃ T, 1 + M = T := ⟨_, rfl⟩
  rw [hT]
  have HT := hid hT
  clear hT
  go_enter Tryz.func19, Tryz.ntmps19
  go_upto_region 1 with fail
  refine opq (fun W0 => W0.heap[w.heap.size]? = some (rxo 5 mn mx m t (.slice ad L c)) ∧ Kp w W0 ∧ RowAt W0 ok kids ad L c) ⟨by (first | exact last_at _ _ _ (by simp) | (refine bl_alloc ?_ _; first | exact last_at _ _ _ (by simp) | (refine bl_alloc ?_ _; first | exact last_at _ _ _ (by simp) | (refine bl_alloc ?_ _; exact last_at _ _ _ (by simp))))), by exact (by repeat (first | exact Kp.refl _ | refine Kp.alloc ?_ _ | refine Kp.drew ?_ | refine Kp.drewN _ ?_)), by exact RR.out.kp (by repeat (first | exact Kp.refl _ | refine Kp.alloc ?_ _ | refine Kp.drew ?_ | refine Kp.drewN _ ?_))⟩ ?_
  rintro W0 ⟨xA0, xK0, xR0⟩
  have A0 : Hid (W0.heap[w.heap.size]? = some (rxo 5 mn mx m t (.slice ad L c))) := xA0
  have K0 : Hid (Kp w W0) := xK0
  have R0 : Hid (RowAt W0 ok kids ad L c) := xR0
  clear xA0 xK0 xR0
  obtain ⟨a0, a1, a2, a3, a4, a5, a6, a7, a8⟩ := cells9c A0.out
  go_wp2_with fail
  clear a0 a1 a2 a3 a4 a5 a6 a7 a8
  go_loopg [3, 12] L (fun gg v i wr => ∃ q A : Nat, q + gg = L ∧ i = .int .i64 (q : Int) ∧ v = .int .i64 (A : Int) ∧ 1 + grps (kids.take q) = A ∧ Kp W0 wr)
  case atStart => exact ⟨0, 1, by omega, rfl, rfl, by rw [List.take_zero, grps], Kp.refl _⟩
  case round =>
   obtain ⟨q, A, hq, rfl, rfl, hA, hK⟩ := hrel
   have hle := grps_take kids q
   rw [HM.out] at hle
   have hAb : A ≤ 1000001 := by omega
   have HA := hid hA
   have K := hid hK
   clear hA hK hle
   by_cases hlt : q < L
   ·
    have gkw : IntKind.i64.wrap ((q : Int) + 1) = (q : Int) + 1 := by rw [IntKind.wrap_i64]; omega
    have ga : (q : Int) < (L : Int) := by omega
    have g0 : (0 : Int) ≤ (q : Int) := by omega
    obtain ⟨r, hr⟩ : ∃ r, kids[q]? = some r := ⟨_, List.getElem?_eq_getElem (by rw [HL.out]; exact hlt)⟩
    have htk : grps (kids.take (q + 1)) = grps (kids.take q) + grp r := by
     rw [List.take_succ_eq_append_getElem (by rw [HL.out]; exact hlt), grps_app, (List.getElem?_eq_some_iff.1 hr).2]
     simp [grps]
    have hle : grp r ≤ grps kids := grps_mem kids r (List.mem_of_getElem? hr)
    rw [HM.out] at hle
    obtain ⟨bb, oo, kk, mn', mx', mm, tt, ad', ll, cc, e1, hbb, i1, ce1⟩ := (R0.out.kp K.out).at q r hr
    subst e1
    have TS := hid (HH.out r (List.mem_of_getElem? hr)).all
    obtain ⟨G, hG⟩ : ∃ G, grp r = G := ⟨_, rfl⟩
    rw [hG] at TS htk hle
    have HTK := hid htk
    have hw : IntKind.i64.wrap ((A : Int) + (G : Int)) = (A : Int) + (G : Int) := by rw [IntKind.wrap_i64]; omega
    have I1 := hid i1
    have CE1 := hid ce1
    clear hr htk i1 ce1 hG
    obtain ⟨x0, x1, x2, x3, x4, x5, x6, x7, x8⟩ := cells_of_is CE1.out
    go_upto_region 7 with fail
    clear x0 x1 x2 x3 x4 x5 x6 x7 x8
    refine opq (fun W => W.heap[wr.heap.size]? = some (rxo kk mn' mx' mm tt (.slice ad' ll cc)) ∧ Kp wr W) ⟨by exact last_at _ _ _ (by simp), by exact (Kp.refl _).alloc _⟩ ?_
    rintro W1 ⟨y1, y2⟩
    have A1 := hid y1
    have K1 := hid y2
    clear y1 y2
    obtain ⟨a0, a1, a2, a3, a4, a5, a6, a7, a8⟩ := cells9c A1.out
    go_wp2_with fail
    clear a0 a1 a2 a3 a4 a5 a6 a7 a8
    refine (TS.out ok _ _ (I1.out.kp K1.out)).mono ?_
    rintro e W2 ⟨rfl, k2⟩
    have K2 := hid (K.out.trans (K1.out.trans k2))
    clear k2
    go_wp2_with fail
    go_roundg (gk - 1)
    case measure => omega
    case rel => exact ⟨q + 1, A + G, by omega, by go_num, by go_num, by rw [HTK.out, ← Nat.add_assoc, HA.out], K2.out⟩
   ·
    have ga : ¬ (q : Int) < (L : Int) := by omega
    have E : Hid (A = T) := by
     show _ = _
     rw [← HT.out, ← HA.out, List.take_of_length_le (by rw [HL.out]; omega), HM.out]
    go_wp2_with fail
    go_ret
    exact ⟨by rw [E.out]; rfl, K0.out.trans K.out⟩
 ·
  have g5 : (k == 5) = false := by simp [k5]
  rw [if_neg k5] at hB ⊢
  obtain ⟨M, hM⟩ : ∃ M, grps kids = M := ⟨_, rfl⟩
  rw [hM] at hB ⊢
  have HM := hid hM
  clear hM
  obtain ⟨T, hT⟩ : ∃ T, 0 + M = T := ⟨_, rfl⟩
  rw [hT]
  have HT := hid hT
  clear hT
  go_enter Tryz.func19, Tryz.ntmps19
  go_upto_region 1 with fail
  refine opq (fun W0 => W0.heap[w.heap.size]? = some (rxo k mn mx m t (.slice ad L c)) ∧ Kp w W0 ∧ RowAt W0 ok kids ad L c) ⟨by (first | exact last_at _ _ _ (by simp) | (refine bl_alloc ?_ _; first | exact last_at _ _ _ (by simp) | (refine bl_alloc ?_ _; first | exact last_at _ _ _ (by simp) | (refine bl_alloc ?_ _; exact last_at _ _ _ (by simp))))), by exact (by repeat (first | exact Kp.refl _ | refine Kp.alloc ?_ _ | refine Kp.drew ?_ | refine Kp.drewN _ ?_)), by exact RR.out.kp (by repeat (first | exact Kp.refl _ | refine Kp.alloc ?_ _ | refine Kp.drew ?_ | refine Kp.drewN _ ?_))⟩ ?_
  rintro W0 ⟨xA0, xK0, xR0⟩
  have A0 : Hid (W0.heap[w.heap.size]? = some (rxo k mn mx m t (.slice ad L c))) := xA0
  have K0 : Hid (Kp w W0) := xK0
  have R0 : Hid (RowAt W0 ok kids ad L c) := xR0
  clear xA0 xK0 xR0
  obtain ⟨a0, a1, a2, a3, a4, a5, a6, a7, a8⟩ := cells9c A0.out
  go_wp2_with fail
  clear a0 a1 a2 a3 a4 a5 a6 a7 a8
  go_loopg [3, 12] L (fun gg v i wr => ∃ q A : Nat, q + gg = L ∧ i = .int .i64 (q : Int) ∧ v = .int .i64 (A : Int) ∧ 0 + grps (kids.take q) = A ∧ Kp W0 wr)
  case atStart => exact ⟨0, 0, by omega, rfl, rfl, by rw [List.take_zero, grps], Kp.refl _⟩
  case round =>
   obtain ⟨q, A, hq, rfl, rfl, hA, hK⟩ := hrel
   have hle := grps_take kids q
   rw [HM.out] at hle
   have hAb : A ≤ 1000001 := by omega
   have HA := hid hA
   have K := hid hK
   clear hA hK hle
   by_cases hlt : q < L
   ·
    have gkw : IntKind.i64.wrap ((q : Int) + 1) = (q : Int) + 1 := by rw [IntKind.wrap_i64]; omega
    have ga : (q : Int) < (L : Int) := by omega
    have g0 : (0 : Int) ≤ (q : Int) := by omega
    obtain ⟨r, hr⟩ : ∃ r, kids[q]? = some r := ⟨_, List.getElem?_eq_getElem (by rw [HL.out]; exact hlt)⟩
    have htk : grps (kids.take (q + 1)) = grps (kids.take q) + grp r := by
     rw [List.take_succ_eq_append_getElem (by rw [HL.out]; exact hlt), grps_app, (List.getElem?_eq_some_iff.1 hr).2]
     simp [grps]
    have hle : grp r ≤ grps kids := grps_mem kids r (List.mem_of_getElem? hr)
    rw [HM.out] at hle
    obtain ⟨bb, oo, kk, mn', mx', mm, tt, ad', ll, cc, e1, hbb, i1, ce1⟩ := (R0.out.kp K.out).at q r hr
    subst e1
    have TS := hid (HH.out r (List.mem_of_getElem? hr)).all
    obtain ⟨G, hG⟩ : ∃ G, grp r = G := ⟨_, rfl⟩
    rw [hG] at TS htk hle
    have HTK := hid htk
    have hw : IntKind.i64.wrap ((A : Int) + (G : Int)) = (A : Int) + (G : Int) := by rw [IntKind.wrap_i64]; omega
    have I1 := hid i1
    have CE1 := hid ce1
    clear hr htk i1 ce1 hG
    obtain ⟨x0, x1, x2, x3, x4, x5, x6, x7, x8⟩ := cells_of_is CE1.out
    go_upto_region 7 with fail
    clear x0 x1 x2 x3 x4 x5 x6 x7 x8
    refine opq (fun W => W.heap[wr.heap.size]? = some (rxo kk mn' mx' mm tt (.slice ad' ll cc)) ∧ Kp wr W) ⟨by exact last_at _ _ _ (by simp), by exact (Kp.refl _).alloc _⟩ ?_
    rintro W1 ⟨y1, y2⟩
    have A1 := hid y1
    have K1 := hid y2
    clear y1 y2
    obtain ⟨a0, a1, a2, a3, a4, a5, a6, a7, a8⟩ := cells9c A1.out
    go_wp2_with fail
    clear a0 a1 a2 a3 a4 a5 a6 a7 a8
    refine (TS.out ok _ _ (I1.out.kp K1.out)).mono ?_
    rintro e W2 ⟨rfl, k2⟩
    have K2 := hid (K.out.trans (K1.out.trans k2))
    clear k2
    go_wp2_with fail
    go_roundg (gk - 1)
    case measure => omega
    case rel => exact ⟨q + 1, A + G, by omega, by go_num, by go_num, by rw [HTK.out, ← Nat.add_assoc, HA.out], K2.out⟩
   ·
    have ga : ¬ (q : Int) < (L : Int) := by omega
    have E : Hid (A = T) := by
     show _ = _
     rw [← HT.out, ← HA.out, List.take_of_length_le (by rw [HL.out]; omega), HM.out]
    go_wp2_with fail
    go_ret
    exact ⟨by rw [E.out]; rfl, K0.out.trans K.out⟩

theorem Groups_any : ∀ a, grp a ≤ 1000000 → Slim a → GroupsSaid a
 | .mk k mn mx n s kids, h, hs => by
  unfold Slim at hs
  exact Groups_step k mn mx n s kids (fun a ha => Groups_any a (by unfold grp at h; have := grps_mem kids a ha; omega) (hs.2 a ha)) h hs.1
termination_by a => SizeOf.sizeOf a
decreasing_by
 have := List.sizeOf_lt_of_mem ha
 simp
 omega

/-! ### Nodes -/
mutual
def nds : Rx → Nat
 | .mk _ _ _ _ _ kids => 1 + ndss kids
def ndss : List Rx → Nat
 | [] => 0
 | r :: rs => nds r + ndss rs
end
theorem ndss_app (a b : List Rx) : ndss (a ++ b) = ndss a + ndss b := by
 induction a with
 | nil => simp [ndss]
 | cons x a ih => simp only [List.cons_append, ndss, ih]; omega
theorem ndss_take (a : List Rx) (q : Nat) : ndss (a.take q) ≤ ndss a := by
 have := ndss_app (a.take q) (a.drop q)
 rw [List.take_append_drop] at this
 omega
theorem ndss_mem (a : List Rx) (r : Rx) (h : r ∈ a) : nds r ≤ ndss a := by
 induction a with
 | nil => cases h
 | cons x a ih =>
  simp only [ndss]
  rcases List.mem_cons.1 h with rfl | h
  ·
   omega
  ·
   have := ih h; omega
structure NodesSaid (r : Rx) : Prop where
 all : ∀ (ok : Nat → Prop) (v : Value) (w : World), Is w ok r v → Calls Tryz.prog 18 #[v] w fun e w' => e = .returned (.int .i64 ((nds r : Nat) : Int)) ∧ Kp w w'

set_option maxHeartbeats 2000000 in
set_option maxRecDepth 100000 in
theorem Nodes_step (k mn mx m : Int) (t : W4) (kids : List Rx) (H : ∀ r, r ∈ kids → NodesSaid r) (hB : nds (.mk k mn mx m t kids) ≤ 1000000) (hS : kids.length ≤ 1000000) : NodesSaid (.mk k mn mx m t kids) := by
 refine ⟨fun ok v w hI => ?_⟩
 obtain ⟨ad, l, c, rfl, hr⟩ := hI.row
 have hle := hr.ln
 have hlc := hr.cp
 subst hle
 obtain ⟨L, hL⟩ : ∃ L, kids.length = L := ⟨_, rfl⟩
 rw [hL] at hr hlc hS ⊢
 have HL := hid hL
 have RR := hid hr
 have HH := hid H
 have hG : nds (.mk k mn mx m t kids) = 1 + ndss kids := by unfold nds; rfl
 rw [hG] at hB ⊢
 clear hI hr H hG hL
 obtain ⟨M, hM⟩ : ∃ M, ndss kids = M := ⟨_, rfl⟩
 rw [hM] at hB ⊢
 have HM := hid hM
 clear hM
 obtain ⟨T, hT⟩ : ∃ T, 1 + M = T := ⟨_, rfl⟩
 rw [hT]
 have HT := hid hT
 clear hT
 go_enter Tryz.func18, Tryz.ntmps18
 go_upto_region 1 with fail
 refine opq (fun W0 => W0.heap[w.heap.size]? = some (rxo k mn mx m t (.slice ad L c)) ∧ Kp w W0 ∧ RowAt W0 ok kids ad L c) ⟨by (first | exact last_at _ _ _ (by simp) | (refine bl_alloc ?_ _; first | exact last_at _ _ _ (by simp) | (refine bl_alloc ?_ _; first | exact last_at _ _ _ (by simp) | (refine bl_alloc ?_ _; exact last_at _ _ _ (by simp))))), by exact (by repeat (first | exact Kp.refl _ | refine Kp.alloc ?_ _ | refine Kp.drew ?_ | refine Kp.drewN _ ?_)), by exact RR.out.kp (by repeat (first | exact Kp.refl _ | refine Kp.alloc ?_ _ | refine Kp.drew ?_ | refine Kp.drewN _ ?_))⟩ ?_
 rintro W0 ⟨xA0, xK0, xR0⟩
 have A0 : Hid (W0.heap[w.heap.size]? = some (rxo k mn mx m t (.slice ad L c))) := xA0
 have K0 : Hid (Kp w W0) := xK0
 have R0 : Hid (RowAt W0 ok kids ad L c) := xR0
 clear xA0 xK0 xR0
 obtain ⟨a0, a1, a2, a3, a4, a5, a6, a7, a8⟩ := cells9c A0.out
 go_wp2_with fail
 clear a0 a1 a2 a3 a4 a5 a6 a7 a8
 go_loopg [3, 9] L (fun gg v i wr => ∃ q A : Nat, q + gg = L ∧ i = .int .i64 (q : Int) ∧ v = .int .i64 (A : Int) ∧ 1 + ndss (kids.take q) = A ∧ Kp W0 wr)
 case atStart => exact ⟨0, 1, by omega, rfl, rfl, by rw [List.take_zero, ndss], Kp.refl _⟩
 case round =>
  obtain ⟨q, A, hq, rfl, rfl, hA, hK⟩ := hrel
  have hle := ndss_take kids q
  rw [HM.out] at hle
  have hAb : A ≤ 1000001 := by omega
  have HA := hid hA
  have K := hid hK
  clear hA hK hle
  by_cases hlt : q < L
  ·
   have gkw : IntKind.i64.wrap ((q : Int) + 1) = (q : Int) + 1 := by rw [IntKind.wrap_i64]; omega
   have ga : (q : Int) < (L : Int) := by omega
   have g0 : (0 : Int) ≤ (q : Int) := by omega
   obtain ⟨r, hr⟩ : ∃ r, kids[q]? = some r := ⟨_, List.getElem?_eq_getElem (by rw [HL.out]; exact hlt)⟩
   have htk : ndss (kids.take (q + 1)) = ndss (kids.take q) + nds r := by
    rw [List.take_succ_eq_append_getElem (by rw [HL.out]; exact hlt), ndss_app, (List.getElem?_eq_some_iff.1 hr).2]
    simp [ndss]
   have hle : nds r ≤ ndss kids := ndss_mem kids r (List.mem_of_getElem? hr)
   rw [HM.out] at hle
   obtain ⟨bb, oo, kk, mn', mx', mm, tt, ad', ll, cc, e1, hbb, i1, ce1⟩ := (R0.out.kp K.out).at q r hr
   subst e1
   have TS := hid (HH.out r (List.mem_of_getElem? hr)).all
   obtain ⟨G, hG⟩ : ∃ G, nds r = G := ⟨_, rfl⟩
   rw [hG] at TS htk hle
   have HTK := hid htk
   have hw : IntKind.i64.wrap ((A : Int) + (G : Int)) = (A : Int) + (G : Int) := by rw [IntKind.wrap_i64]; omega
   have I1 := hid i1
   have CE1 := hid ce1
   clear hr htk i1 ce1 hG
   obtain ⟨x0, x1, x2, x3, x4, x5, x6, x7, x8⟩ := cells_of_is CE1.out
   go_upto_region 5 with fail
   clear x0 x1 x2 x3 x4 x5 x6 x7 x8
   refine opq (fun W => W.heap[wr.heap.size]? = some (rxo kk mn' mx' mm tt (.slice ad' ll cc)) ∧ Kp wr W) ⟨by exact last_at _ _ _ (by simp), by exact (Kp.refl _).alloc _⟩ ?_
   rintro W1 ⟨y1, y2⟩
   have A1 := hid y1
   have K1 := hid y2
   clear y1 y2
   obtain ⟨a0, a1, a2, a3, a4, a5, a6, a7, a8⟩ := cells9c A1.out
   go_wp2_with fail
   clear a0 a1 a2 a3 a4 a5 a6 a7 a8
   refine (TS.out ok _ _ (I1.out.kp K1.out)).mono ?_
   rintro e W2 ⟨rfl, k2⟩
   have K2 := hid (K.out.trans (K1.out.trans k2))
   clear k2
   go_wp2_with fail
   go_roundg (gk - 1)
   case measure => omega
   case rel => exact ⟨q + 1, A + G, by omega, by go_num, by go_num, by rw [HTK.out, ← Nat.add_assoc, HA.out], K2.out⟩
  ·
   have ga : ¬ (q : Int) < (L : Int) := by omega
   have E : Hid (A = T) := by
    show _ = _
    rw [← HT.out, ← HA.out, List.take_of_length_le (by rw [HL.out]; omega), HM.out]
   go_wp2_with fail
   go_ret
   exact ⟨by rw [E.out]; rfl, K0.out.trans K.out⟩

theorem Nodes_any : ∀ a, nds a ≤ 1000000 → Slim a → NodesSaid a
 | .mk k mn mx n s kids, h, hs => by
  unfold Slim at hs
  exact Nodes_step k mn mx n s kids (fun a ha => Nodes_any a (by unfold nds at h; have := ndss_mem kids a ha; omega) (hs.2 a ha)) h hs.1
termination_by a => SizeOf.sizeOf a
decreasing_by
 have := List.sizeOf_lt_of_mem ha
 simp
 omega
end Go.Proofs.YtikmgckefbjbkaaGreatDoor

/-! ### Trip -/

namespace Go.Proofs.YtikmgckefbjbkaaGreatDoor.Trip
open Go Go.Proofs.YtikmgckefbjbkaaGreatDoor

/-- What stands from a place on. -/
structure Rest (s : ByteArray) (i : Nat) (l : List UInt8) : Prop where
 le : i ≤ s.size
 eq : s.data.toList.drop i = l
theorem Rest.len {s : ByteArray} {i : Nat} {l : List UInt8} (h : Rest s i l) : i + l.length = s.size := by
 have e : (s.data.toList.drop i).length = s.size - i := by rw [List.length_drop, Array.length_toList]; rfl
 rw [h.eq] at e
 have := h.le
 omega
theorem Rest.step {s : ByteArray} {i : Nat} {a l : List UInt8} (h : Rest s i (a ++ l)) : Rest s (i + a.length) l := by
 have e := h.len
 rw [List.length_append] at e
 exact ⟨by omega, by rw [← List.drop_drop, h.eq, List.drop_left]⟩
theorem Rest.tail {s : ByteArray} {i : Nat} {c : UInt8} {l : List UInt8} (h : Rest s i (c :: l)) : Rest s (i + 1) l := h.step (a := [c])
theorem Rest.byte {s : ByteArray} {i : Nat} {c : UInt8} {l : List UInt8} (h : Rest s i (c :: l)) : ch s i = c.toNat := by
 unfold ch
 have e : s.data[i]? = some c := by
  rw [← Array.getElem?_toList, show i = i + 0 from rfl, ← List.getElem?_drop, h.eq]
  rfl
 rw [e]
 rfl
theorem Rest.lt {s : ByteArray} {i : Nat} {c : UInt8} {l : List UInt8} (h : Rest s i (c :: l)) : i < s.size := by
 have := h.len
 simp at this
 omega
theorem Rest.has {s : ByteArray} {i : Nat} {l : List UInt8} (h : Rest s i l) (x : List UInt8) : pfx s i x = x.isPrefixOf l := by
 unfold pfx
 rw [h.eq]
theorem Rest.of (l : List UInt8) : Rest (bs l) 0 l := ⟨Nat.zero_le _, by simp [bs]⟩

/-- The sign at the head of a list. -/
def sgQ (ere : Bool) : List UInt8 → Nat × Nat × Nat
 | [] => (0, 0, 0)
 | d :: _ => qs d.toNat ere
def sgL (ere : Bool) : List UInt8 → Nat × Nat × Nat
 | [] => (1, 0, 0)
 | c :: l => if c.toNat = 92 then sgQ ere l else (bare c.toNat ere, c.toNat, 1)
theorem sgL_cons (ere : Bool) (c : UInt8) (l : List UInt8) : sgL ere (c :: l) = if c.toNat = 92 then sgQ ere l else (bare c.toNat ere, c.toNat, 1) := rfl
theorem Rest.sign {s : ByteArray} {i : Nat} {l : List UInt8} (h : Rest s i l) (ere : Bool) : sgn s ere i = sgL ere l := by
 unfold sgn
 cases l with
 | nil =>
  have := h.len
  simp at this
  rw [if_pos this]
  rfl
 | cons c l =>
  rw [if_neg (by have := h.lt; omega), h.byte]
  rw [sgL_cons]
  by_cases h92 : c.toNat = 92
  ·
   rw [if_pos h92, if_pos h92]
   unfold quoted
   have hz : (s.extract (i + 1) s.size).size = l.length := by
    have := h.len
    simp at this
    rw [ByteArray.size_extract]
    omega
   cases l with
   | nil => rw [if_pos (show _ = 0 from hz)]; rfl
   | cons d l =>
    rw [if_neg (by rw [hz]; simp)]
    have e : ch (s.extract (i + 1) s.size) 0 = d.toNat := by
     have h' := h.tail
     have := h'.lt
     unfold ch
     have e1 : (s.extract (i + 1) s.size).data[0]? = s.data[i + 1]? := by
      rw [ByteArray.data_extract, Array.getElem?_extract]
      simp
      omega
     rw [e1]
     exact h'.byte
    rw [e]
    rfl
  ·
   rw [if_neg h92, if_neg h92]

/-- Rows of a bracket: no class begins in them, no dash stands but last, no shut but first. -/
def okT : List UInt8 → Prop
 | [] => True
 | [_] => True
 | x :: y :: b => ¬(x.toNat = 91 ∧ y.toNat = 58) ∧ y.toNat ≠ 93 ∧ (y.toNat = 45 → b = []) ∧ okT (y :: b)
theorem beq_nat (a b : UInt8) : (a == b) = (a.toNat == b.toNat) := by
 rw [Bool.eq_iff_iff]
 simp [UInt8.toNat_inj]
theorem pIn_ok {s : ByteArray} {i : Nat} {x y : UInt8} {m : List UInt8} (h : Rest s i (x :: y :: m)) (h1 : ¬(x.toNat = 91 ∧ y.toNat = 58)) (h2 : y.toNat = 45 → ∃ z m', m = z :: m' ∧ z.toNat = 93) :
  pIn s i = (some (addB (fun _ => false) x.toNat), i + 1) := by
 unfold pIn
 have hp : pfx s i [91, 58] = false := by
  rw [h.has]
  show ((91 : UInt8) == x && ((58 : UInt8) == y && true)) = false
  rw [beq_nat, beq_nat]
  cases e1 : ((91 : UInt8).toNat == x.toNat) <;> cases e2 : ((58 : UInt8).toNat == y.toNat) <;> simp
  simp at e1 e2
  exact h1 ⟨e1.symm, e2.symm⟩
 have hd : dash s (i + 1) = false := by
  unfold dash
  rw [h.tail.byte]
  by_cases h45 : y.toNat = 45
  ·
   obtain ⟨z, m', rfl, hz⟩ := h2 h45
   rw [h.tail.tail.byte, hz]
   simp
  ·
   rw [show (y.toNat == 45) = false by simp [h45]]
   simp
 rw [if_neg (by have := h.lt; omega), hp, hd, h.byte]
 rfl
/-- What a row of a bracket adds. -/
def orP (p : Nat → Bool) (R : List UInt8) : Nat → Bool := R.foldl (fun p x => orB p (addB (fun _ => false) x.toNat)) p
theorem orP_at (R : List UInt8) : ∀ (p : Nat → Bool) (k : Nat), orP p R k = (p k || R.any (fun x => x.toNat == k)) := by
 induction R with
 | nil => intro p k; simp [orP]
 | cons x R ih =>
  intro p k
  show orP (orB p (addB (fun _ => false) x.toNat)) R k = _
  rw [ih]
  unfold orB addB
  rw [List.any_cons, Bool.eq_iff_iff]
  simp
  constructor
  ·
   rintro ((h | h) | h)
   ·
    exact Or.inl h
   ·
    exact Or.inr (Or.inl h.symm)
   ·
    exact Or.inr (Or.inr h)
  ·
   rintro (h | h | h)
   ·
    exact Or.inl (Or.inl h)
   ·
    exact Or.inl (Or.inr h.symm)
   ·
    exact Or.inr h
theorem has93 {s : ByteArray} {i : Nat} {x : UInt8} {l : List UInt8} (h : Rest s i (x :: l)) : pfx s i [93] = (x.toNat == 93) := by
 rw [h.has]
 show ((93 : UInt8) == x && true) = _
 rw [beq_nat, Bool.and_true, Bool.eq_iff_iff]
 simp
 exact eq_comm
theorem pBrL_ok {s : ByteArray} {l : List UInt8} : ∀ (R : List UInt8) (f : Nat) (p : Nat → Bool) (i : Nat), okT R → (∀ x y, R = x :: y → x.toNat ≠ 93) → Rest s i (R ++ 93 :: l) → R.length < f →
  pBrL s f p i = (some (orP p R), i + R.length + 1) := by
 intro R
 induction R with
 | nil =>
  intro f p i _ _ h hf
  obtain ⟨f, rfl⟩ : ∃ k, f = k + 1 := ⟨f - 1, by simp at hf; omega⟩
  unfold pBrL
  rw [has93 (x := 93) h]
  rfl
 | cons x R ih =>
  intro f p i hk hx h hf
  obtain ⟨f, rfl⟩ : ∃ k, f = k + 1 := ⟨f - 1, by simp at hf; omega⟩
  have hx' := hx x R rfl
  have h0 : Rest s i (x :: (R ++ 93 :: l)) := h
  unfold pBrL
  rw [has93 h0, show (x.toNat == 93) = false by simp [hx']]
  have e : pIn s i = (some (addB (fun _ => false) x.toNat), i + 1) := by
   cases R with
   | nil => exact pIn_ok (y := 93) h0 (by rintro ⟨_, h⟩; exact absurd h (by decide)) (fun h => absurd h (by decide))
   | cons y b =>
    obtain ⟨q1, q2, q3, q4⟩ := hk
    exact pIn_ok (y := y) h0 q1 (fun h => by rw [q3 h]; exact ⟨93, l, rfl, rfl⟩)
  rw [e]
  show pBrL s f (orB p (addB (fun _ => false) x.toNat)) (i + 1) = _
  have hk' : okT R := by
   cases R with
   | nil => trivial
   | cons y b => exact hk.2.2.2
  have hx2 : ∀ a b, R = a :: b → a.toNat ≠ 93 := by
   rintro a b rfl
   exact hk.2.1
  rw [ih f _ (i + 1) hk' hx2 h0.tail (by simp at hf; omega)]
  rw [List.length_cons, show i + 1 + R.length + 1 = i + (R.length + 1) + 1 by omega]
  rfl
theorem pBr_ok {s : ByteArray} {l : List UInt8} (R : List UInt8) (i : Nat) (hk : okT R) (hne : R ≠ []) (h : Rest s i (R ++ 93 :: l)) :
  ∃ q : Nat → Bool, (∀ k, q k = R.any (fun x => x.toNat == k)) ∧ pBr s i = (some q, i + R.length + 1) := by
 cases R with
 | nil => exact absurd rfl hne
 | cons x R =>
  have h0 : Rest s i (x :: (R ++ 93 :: l)) := h
  have e : pIn s i = (some (addB (fun _ => false) x.toNat), i + 1) := by
   cases R with
   | nil => exact pIn_ok (y := 93) h0 (by rintro ⟨_, h⟩; exact absurd h (by decide)) (fun h => absurd h (by decide))
   | cons y b =>
    obtain ⟨q1, q2, q3, q4⟩ := hk
    exact pIn_ok (y := y) h0 q1 (fun h => by rw [q3 h]; exact ⟨93, l, rfl, rfl⟩)
  have hk' : okT R := by
   cases R with
   | nil => trivial
   | cons y b => exact hk.2.2.2
  have hx2 : ∀ a b, R = a :: b → a.toNat ≠ 93 := by
   rintro a b rfl
   exact hk.2.1
  refine ⟨orP (addB (fun _ => false) x.toNat) R, fun k => ?_, ?_⟩
  ·
   rw [orP_at]
   unfold addB
   rw [List.any_cons, Bool.false_or, Bool.eq_iff_iff]
   simp
   rw [eq_comm]
  ·
   unfold pBr
   rw [e]
   show pBrL s (s.size + 1) _ (i + 1) = _
   rw [pBrL_ok R _ _ (i + 1) hk' hx2 h0.tail (by have := h0.len; simp at this; omega)]
   rw [List.length_cons, show i + 1 + R.length + 1 = i + (R.length + 1) + 1 by omega]

/-- Rising but for what stands first, next to last and last. -/
def Q (x y : Nat) : Prop := ¬(x = 91 ∧ y = 58) ∧ y ≠ 93 ∧ x ≠ 45
theorem okT_of (N : List Nat) (hN : ∀ x ∈ N, x < 256) (h : N.Pairwise Q) : okT (u8s N) := by
 induction N with
 | nil => trivial
 | cons x N ih =>
  have ih' := ih (fun y hy => hN y (List.mem_cons_of_mem _ hy)) (List.Pairwise.of_cons h)
  cases N with
  | nil => trivial
  | cons y b =>
   have hx : (UInt8.ofNat x).toNat = x := by have := hN x (by simp); rw [UInt8.toNat_ofNat']; omega
   have hy : (UInt8.ofNat y).toNat = y := by have := hN y (by simp); rw [UInt8.toNat_ofNat']; omega
   have q := List.rel_of_pairwise_cons h (List.mem_cons_self (a := y) (l := b))
   refine ⟨?_, ?_, ?_, ih'⟩
   ·
    rw [hx, hy]; exact q.1
   ·
    rw [hy]; exact q.2.1
   ·
    rw [hy]
    intro h45
    cases b with
    | nil => rfl
    | cons z b =>
     have q' := List.rel_of_pairwise_cons (List.Pairwise.of_cons h) (List.mem_cons_self (a := z) (l := b))
     exact absurd h45 q'.2.2
/-- The row of a bracket, as numbers. -/
def rowN (p : Nat → Bool) : List Nat := (lst p 256).filter (· == 93) ++ (lst p 256).filter mid ++ (lst p 256).filter (· == 94) ++ (lst p 256).filter (· == 45)
theorem rowT_eq (p : Nat → Bool) : rowT p = u8s (rowN p) := by
 unfold rowT rowN u8s
 simp only [List.map_append]
theorem mem_lst (p : Nat → Bool) (k : Nat) : k ∈ lst p 256 ↔ k < 256 ∧ p k = true := by
 unfold lst
 rw [List.mem_filter, List.mem_range]
theorem mem_rowN (p : Nat → Bool) (k : Nat) : k ∈ rowN p ↔ k < 256 ∧ p k = true := by
 unfold rowN
 simp only [List.mem_append, List.mem_filter, mem_lst]
 constructor
 ·
  rintro (((⟨h, _⟩ | ⟨h, _⟩) | ⟨h, _⟩) | ⟨h, _⟩) <;> exact h
 ·
  intro h
  by_cases a : k = 93
  ·
   exact Or.inl (Or.inl (Or.inl ⟨h, by simp [a]⟩))
  by_cases b : k = 94
  ·
   exact Or.inl (Or.inr ⟨h, by simp [b]⟩)
  by_cases c : k = 45
  ·
   exact Or.inr ⟨h, by simp [c]⟩
  exact Or.inl (Or.inl (Or.inr ⟨h, by unfold mid; simp [a, b, c]⟩))
theorem lst_sorted (p : Nat → Bool) : (lst p 256).Pairwise (· < ·) := List.Pairwise.filter _ List.pairwise_lt_range
theorem one_sorted (p : Nat → Bool) (c : Nat) (S : Nat → Nat → Prop) : ((lst p 256).filter (· == c)).Pairwise S :=
 List.Pairwise.imp_of_mem (fun {a b} ha hb hab => by
  have h1 := (List.mem_filter.1 ha).2
  have h2 := (List.mem_filter.1 hb).2
  simp at h1 h2
  omega) ((lst_sorted p).filter _)
theorem rowN_sorted (p : Nat → Bool) : (rowN p).Pairwise Q := by
 unfold rowN
 rw [List.pairwise_append, List.pairwise_append, List.pairwise_append]
 refine ⟨⟨⟨one_sorted p 93 Q, ?_, ?_⟩, one_sorted p 94 Q, ?_⟩, one_sorted p 45 Q, ?_⟩
 ·
  refine List.Pairwise.imp_of_mem (fun {a b} ha hb hab => ?_) ((lst_sorted p).filter _)
  have h1 := (List.mem_filter.1 ha).2
  have h2 := (List.mem_filter.1 hb).2
  unfold mid at h1 h2
  simp at h1 h2
  exact ⟨by omega, by omega, by omega⟩
 ·
  intro a ha b hb
  have h1 := (List.mem_filter.1 ha).2
  have h2 := (List.mem_filter.1 hb).2
  unfold mid at h2
  simp at h1 h2
  exact ⟨by omega, by omega, by omega⟩
 ·
  intro a ha b hb
  have h2 := (List.mem_filter.1 hb).2
  simp at h2
  rcases List.mem_append.1 ha with ha | ha
  ·
   have h1 := (List.mem_filter.1 ha).2
   simp at h1
   exact ⟨by omega, by omega, by omega⟩
  ·
   have h1 := (List.mem_filter.1 ha).2
   unfold mid at h1
   simp at h1
   exact ⟨by omega, by omega, by omega⟩
 ·
  intro a ha b hb
  have h2 := (List.mem_filter.1 hb).2
  simp at h2
  rcases List.mem_append.1 ha with ha | ha
  ·
   rcases List.mem_append.1 ha with ha | ha
   ·
    have h1 := (List.mem_filter.1 ha).2
    simp at h1
    exact ⟨by omega, by omega, by omega⟩
   ·
    have h1 := (List.mem_filter.1 ha).2
    unfold mid at h1
    simp at h1
    exact ⟨by omega, by omega, by omega⟩
  ·
   have h1 := (List.mem_filter.1 ha).2
   simp at h1
   exact ⟨by omega, by omega, by omega⟩
theorem rowT_ok (p : Nat → Bool) : okT (rowT p) := by
 rw [rowT_eq]
 exact okT_of _ (fun x hx => ((mem_rowN p x).1 hx).1) (rowN_sorted p)
theorem rowT_any (p : Nat → Bool) (k : Nat) (hk : k < 256) : (rowT p).any (fun x => x.toNat == k) = p k := by
 rw [rowT_eq, Bool.eq_iff_iff, List.any_eq_true]
 unfold u8s
 constructor
 ·
  rintro ⟨x, hx, he⟩
  obtain ⟨n, hn, rfl⟩ := List.mem_map.1 hx
  have := (mem_rowN p n).1 hn
  rw [UInt8.toNat_ofNat'] at he
  simp at he
  rw [← he, Nat.mod_eq_of_lt this.1]
  exact this.2
 ·
  intro hp
  refine ⟨UInt8.ofNat k, List.mem_map.2 ⟨k, (mem_rowN p k).2 ⟨hk, hp⟩, rfl⟩, ?_⟩
  rw [UInt8.toNat_ofNat']
  simp
  omega
theorem cnt_zero (p : Nat → Bool) (h : ∀ k, k < 256 → p k = false) : cnt p 256 = 0 := by
 rw [← lst_length, List.length_eq_zero_iff]
 unfold lst
 rw [List.filter_eq_nil_iff]
 intro a ha
 rw [h a (List.mem_range.1 ha)]
 simp
theorem cnt_congr (p q : Nat → Bool) (h : ∀ k, k < 256 → p k = q k) : cnt p 256 = cnt q 256 := by
 unfold cnt
 exact sm_congr _ _ _ (fun j hj => by rw [h j hj])
theorem rowT_ne (p : Nat → Bool) (h : cnt p 256 ≠ 0) : rowT p ≠ [] := by
 intro e
 refine h (cnt_zero p (fun k hk => ?_))
 rw [← rowT_any p k hk, e]
 rfl
/-- The head of a row is a hat only where it is alone, or ahead of a dash. -/
theorem rowT_head (p : Nat → Bool) (x : UInt8) (R : List UInt8) (h : rowT p = x :: R) (hx : x.toNat = 94) : cnt p 256 = 1 ∨ rowT p = [94, 45] := by
 have hN : ∃ R', rowN p = 94 :: R' := by
  rw [rowT_eq] at h
  cases e : rowN p with
  | nil => rw [e] at h; cases h
  | cons a R' =>
   rw [e] at h
   have ha : a < 256 := ((mem_rowN p a).1 (by rw [e]; simp)).1
   injection h with h1 _
   rw [← h1, UInt8.toNat_ofNat'] at hx
   exact ⟨R', by rw [show a = 94 by omega]⟩
 obtain ⟨R', e⟩ := hN
 have hall : ∀ k, k ∈ lst p 256 → k = 94 ∨ k = 45 := by
  intro k hk
  have e' := e
  unfold rowN at e'
  have hA : (lst p 256).filter (· == 93) = [] := by
   cases h1 : (lst p 256).filter (· == 93) with
   | nil => rfl
   | cons a t =>
    rw [h1] at e'
    injection e' with e1 _
    have : a ∈ (lst p 256).filter (· == 93) := by rw [h1]; simp
    have := (List.mem_filter.1 this).2
    simp at this
    omega
  have hM : (lst p 256).filter mid = [] := by
   rw [hA] at e'
   cases h1 : (lst p 256).filter mid with
   | nil => rfl
   | cons a t =>
    rw [h1] at e'
    injection e' with e1 _
    have : a ∈ (lst p 256).filter mid := by rw [h1]; simp
    have := (List.mem_filter.1 this).2
    unfold mid at this
    simp at this
    omega
  have n1 : ¬ (k == 93) = true := fun h => by
   have : k ∈ (lst p 256).filter (· == 93) := List.mem_filter.2 ⟨hk, h⟩
   rw [hA] at this
   cases this
  have n2 : ¬ mid k = true := fun h => by
   have : k ∈ (lst p 256).filter mid := List.mem_filter.2 ⟨hk, h⟩
   rw [hM] at this
   cases this
  unfold mid at n2
  simp at n1 n2
  omega
 have h94 : 94 ∈ lst p 256 := by rw [mem_lst]; exact (mem_rowN p 94).1 (by rw [e]; simp)
 by_cases h45 : 45 ∈ lst p 256
 ·
  right
  have p94 := ((mem_lst p 94).1 h94).2
  have p45 := ((mem_lst p 45).1 h45).2
  have hl : lst p 256 = [45, 94] := by
   have hc : lst p 256 = lst (fun k => k == 45 || k == 94) 256 := by
    unfold lst
    refine List.filter_congr (fun k hk => ?_)
    have hk := List.mem_range.1 hk
    rw [Bool.eq_iff_iff]
    constructor
    ·
     intro hp
     have := hall k ((mem_lst p k).2 ⟨hk, hp⟩)
     simp
     omega
    ·
     intro hq
     simp at hq
     rcases hq with rfl | rfl
     ·
      exact p45
     ·
      exact p94
   rw [hc]
   decide +kernel
  unfold rowT
  rw [hl]
  decide
 ·
  left
  have p94 := ((mem_lst p 94).1 h94).2
  have hc : lst p 256 = lst (fun k => k == 94) 256 := by
   unfold lst
   refine List.filter_congr (fun k hk => ?_)
   have hk := List.mem_range.1 hk
   rw [Bool.eq_iff_iff]
   constructor
   ·
    intro hp
    have hm := (mem_lst p k).2 ⟨hk, hp⟩
    have := hall k hm
    have n : k ≠ 45 := fun h => h45 (h ▸ hm)
    simp
    omega
   ·
    intro hq
    simp at hq
    rw [hq]
    exact p94
  rw [← lst_length, hc]
  decide +kernel

def byB (ere : Bool) (x : Nat) : Bool := if x = 10 then qs 110 ere == (2, 10, 2) else if spec ere x then qs x ere == (2, x, 2) else x != 92 && bare x ere == 2
theorem by_all : ((List.range 256).all fun x => byB true x && byB false x) = true := by decide +kernel
theorem by_at (ere : Bool) (x : Nat) (h : x < 256) : byB ere x = true := by
 have := List.all_eq_true.1 by_all x (List.mem_range.2 h)
 rw [Bool.and_eq_true] at this
 cases ere
 ·
  exact this.2
 ·
  exact this.1
theorem of8 (x : Nat) (h : x < 256) : (UInt8.ofNat x).toNat = x := by rw [UInt8.toNat_ofNat']; omega
theorem byte_sign (ere : Bool) (x : Nat) (hx : x < 256) (l : List UInt8) : sgL ere (byteT x ere ++ l) = (2, x, (byteT x ere).length) := by
 have h := by_at ere x hx
 unfold byB at h
 unfold byteT
 by_cases h10 : x = 10
 ·
  rw [if_pos h10] at h ⊢
  rw [h10]
  exact beq_iff_eq.1 h
 ·
  rw [if_neg h10] at h ⊢
  by_cases hs : spec ere x = true
  ·
   rw [if_pos hs] at h ⊢
   show sgL ere (92 :: UInt8.ofNat x :: l) = _
   rw [sgL_cons, if_pos (by decide)]
   show qs (UInt8.ofNat x).toNat ere = _
   rw [of8 x hx]
   exact beq_iff_eq.1 h
  ·
   rw [if_neg hs] at h ⊢
   simp at h
   show sgL ere (UInt8.ofNat x :: l) = _
   rw [sgL_cons, of8 x hx, if_neg h.1, h.2]
   rfl
theorem lst_one (p : Nat → Bool) (x : Nat) (h : lst p 256 = [x]) : x < 256 ∧ ∀ k, k < 256 → p k = (k == x) := by
 have hx : x ∈ lst p 256 := by rw [h]; simp
 have hx' := (mem_lst p x).1 hx
 refine ⟨hx'.1, fun k hk => ?_⟩
 rw [Bool.eq_iff_iff]
 constructor
 ·
  intro hp
  have := (mem_lst p k).2 ⟨hk, hp⟩
  rw [h] at this
  simpa using this
 ·
  intro he
  rw [beq_iff_eq.1 he]
  exact hx'.2
theorem bare46 (ere : Bool) : bare 46 ere = 3 := by cases ere <;> rfl
theorem bare91 (ere : Bool) : bare 91 ere = 4 := by cases ere <;> rfl
/-- A set is read out of its text. -/
theorem set_ok {s : ByteArray} {i : Nat} {l : List UInt8} (p : Nat → Bool) (ere : Bool) (h : Rest s i (setT p ere ++ l)) (hc : cnt p 256 ≠ 0) :
  ∃ q : Nat → Bool, (∀ k, k < 256 → q k = p k) ∧ ((sgL ere (setT p ere ++ l)).1 = 2 ∨ (sgL ere (setT p ere ++ l)).1 = 3 ∨ (sgL ere (setT p ere ++ l)).1 = 4) ∧
   ∀ (c : St → Out) (n g d : Nat), pOne c s ere (sgL ere (setT p ere ++ l)).1 (sgL ere (setT p ere ++ l)).2.1 (sgL ere (setT p ere ++ l)).2.2 ⟨i, n, g, d⟩ = ⟨rset q, 0, ⟨i + (setT p ere).length, n + 1, g, d⟩⟩ := by
 by_cases h1 : cnt p 256 = 1
 ·
  obtain ⟨x, hx⟩ : ∃ x, lst p 256 = [x] := List.length_eq_one_iff.1 (by rw [lst_length]; exact h1)
  obtain ⟨hlt, hp⟩ := lst_one p x hx
  rw [setT_one p ere x hx, byte_sign ere x hlt]
  refine ⟨addB (fun _ => false) x, fun k hk => ?_, Or.inl rfl, fun c n g d => rfl⟩
  rw [hp k hk]
  unfold addB
  rw [Bool.false_or]
 have e0 := setT_many p ere h1
 by_cases hn : cnt (notB p) 256 = 0
 ·
  rw [if_pos hn] at e0
  rw [e0] at h ⊢
  have es : sgL ere ([46] ++ l) = (3, 46, 1) := by
   show sgL ere (46 :: l) = _
   rw [sgL_cons, if_neg (by decide)]
   show (bare 46 ere, 46, 1) = _
   rw [bare46]
  rw [es]
  refine ⟨notB (fun _ => false), fun k hk => ?_, Or.inr (Or.inl rfl), fun c n g d => rfl⟩
  cases hp : p k with
  | true => rfl
  | false =>
   have hm : k ∈ lst (notB p) 256 := (mem_lst _ k).2 ⟨hk, by unfold notB; rw [hp]; rfl⟩
   rw [← lst_length, List.length_eq_zero_iff] at hn
   rw [hn] at hm
   cases hm
 rw [if_neg hn] at e0
 by_cases h128 : cnt p 256 > 128
 ·
  rw [if_pos h128] at e0
  rw [e0] at h ⊢
  have h' : Rest s i (91 :: 94 :: (rowT (notB p) ++ 93 :: l)) := by simpa using h
  have es : sgL ere ([91, 94] ++ rowT (notB p) ++ [93] ++ l) = (4, 91, 1) := by
   show sgL ere (91 :: _) = _
   rw [sgL_cons, if_neg (by decide)]
   show (bare 91 ere, 91, 1) = _
   rw [bare91]
  obtain ⟨q, hq, hb⟩ := pBr_ok (rowT (notB p)) (i + 2) (rowT_ok _) (rowT_ne _ hn) h'.tail.tail
  have ht : bTurn s i = true := by
   unfold bTurn
   rw [h'.tail.has]
   rfl
  have hqq : ∀ k, k < 256 → notB q k = p k := by
   intro k hk
   unfold notB
   rw [hq k, rowT_any _ k hk]
   unfold notB
   simp
  rw [es]
  refine ⟨notB q, hqq, Or.inr (Or.inr rfl), fun c n g d => ?_⟩
  show pBracket s ⟨i, n, g, d⟩ = _
  unfold pBracket
  show (match pBr s (bFrom s i) with | (none, j) => _ | (some p, j) => _) = _
  rw [show bFrom s i = i + 2 by unfold bFrom; rw [ht]; rfl, hb]
  show (if cnt (if bTurn s i then notB q else q) 256 = 0 then _ else _) = _
  rw [ht]
  show (if cnt (notB q) 256 = 0 then _ else _) = _
  rw [if_neg (by rw [cnt_congr _ p hqq]; exact hc)]
  have el : (([91, 94] : List UInt8) ++ rowT (notB p) ++ [93]).length = (rowT (notB p)).length + 3 := by simp
  rw [el, show i + 2 + (rowT (notB p)).length + 1 = i + ((rowT (notB p)).length + 3) by omega]
  rfl
 rw [if_neg h128] at e0
 rw [e0] at h ⊢
 have h' : Rest s i (91 :: (setRow p ++ 93 :: l)) := by simpa using h
 have es : sgL ere ([91] ++ setRow p ++ [93] ++ l) = (4, 91, 1) := by
  show sgL ere (91 :: _) = _
  rw [sgL_cons, if_neg (by decide)]
  show (bare 91 ere, 91, 1) = _
  rw [bare91]
 have hrow : okT (setRow p) ∧ setRow p ≠ [] ∧ (∀ k, k < 256 → (setRow p).any (fun x => x.toNat == k) = p k) ∧ ∀ x R, setRow p = x :: R → x.toNat ≠ 94 := by
  by_cases hs : rowT p = [94, 45]
  ·
   have e : setRow p = [45, 94] := by unfold setRow; rw [if_pos hs]
   rw [e]
   refine ⟨⟨by decide, by decide, by decide, trivial⟩, by simp, fun k hk => ?_, ?_⟩
   ·
    rw [← rowT_any p k hk, hs]
    simp [Bool.or_comm]
   ·
    rintro x R h
    injection h with h _
    rw [← h]
    decide
  ·
   have e : setRow p = rowT p := by unfold setRow; rw [if_neg hs]
   rw [e]
   refine ⟨rowT_ok p, rowT_ne p hc, rowT_any p, ?_⟩
   intro x R hx h94
   rcases rowT_head p x R hx h94 with h | h
   ·
    exact h1 h
   ·
    exact hs h
 obtain ⟨r1, r2, r3, r4⟩ := hrow
 obtain ⟨q, hq, hb⟩ := pBr_ok (setRow p) (i + 1) r1 r2 h'.tail
 have ht : bTurn s i = false := by
  unfold bTurn
  rw [h'.tail.has]
  cases e : setRow p with
  | nil => exact absurd e r2
  | cons x R =>
   show ((94 : UInt8) == x && true) = false
   rw [beq_nat, Bool.and_true]
   have := r4 x R e
   simp
   exact fun h => this h.symm
 have hqq : ∀ k, k < 256 → q k = p k := fun k hk => by rw [hq k, r3 k hk]
 rw [es]
 refine ⟨q, hqq, Or.inr (Or.inr rfl), fun c n g d => ?_⟩
 show pBracket s ⟨i, n, g, d⟩ = _
 unfold pBracket
 show (match pBr s (bFrom s i) with | (none, j) => _ | (some p, j) => _) = _
 rw [show bFrom s i = i + 1 by unfold bFrom; rw [ht]; rfl, hb]
 show (if cnt (if bTurn s i then notB q else q) 256 = 0 then _ else _) = _
 rw [ht]
 show (if cnt q 256 = 0 then _ else _) = _
 rw [if_neg (by rw [cnt_congr _ p hqq]; exact hc)]
 have el : (([91] : List UInt8) ++ setRow p ++ [93]).length = (setRow p).length + 2 := by simp
 rw [el, show i + 1 + (setRow p).length + 1 = i + ((setRow p).length + 2) by omega]
 rfl
theorem w4_back (s : W4) (q : Nat → Bool) (h : s.a < 18446744073709551616 ∧ s.b < 18446744073709551616 ∧ s.c < 18446744073709551616 ∧ s.d < 18446744073709551616) (hq : ∀ k, k < 256 → q k = W4.bit s k) : W4.of q = s := by
 obtain ⟨a, b, c, d⟩ := s
 obtain ⟨ha, hb, hc, hd⟩ := h
 have e0 : wd q 0 = a := wd_back a ha _ 0 (fun j hj => by rw [hq _ (by omega)]; unfold W4.bit bitOf; rw [if_pos (by omega), show (64 * 0 + j) % 64 = j by omega])
 have e1 : wd q 1 = b := wd_back b hb _ 1 (fun j hj => by rw [hq _ (by omega)]; unfold W4.bit bitOf; rw [if_neg (by omega), if_pos (by omega), show (64 * 1 + j) % 64 = j by omega])
 have e2 : wd q 2 = c := wd_back c hc _ 2 (fun j hj => by rw [hq _ (by omega)]; unfold W4.bit bitOf; rw [if_neg (by omega), if_neg (by omega), if_pos (by omega), show (64 * 2 + j) % 64 = j by omega])
 have e3 : wd q 3 = d := wd_back d hd _ 3 (fun j hj => by rw [hq _ (by omega)]; unfold W4.bit bitOf; rw [if_neg (by omega), if_neg (by omega), if_neg (by omega), show (64 * 3 + j) % 64 = j by omega])
 show W4.mk _ _ _ _ = _
 rw [e0, e1, e2, e3]

/-! ### Intervals -/
theorem numL_step {s : ByteArray} {i : Nat} {x : UInt8} {l : List UInt8} (h : Rest s i (x :: l)) (hx : 48 ≤ x.toNat ∧ x.toNat ≤ 57) (f m : Nat) (ok : Bool) : pNumL s (f + 1) m ok i = pNumL s f (min (10 * m + (x.toNat - 48)) 21) true (i + 1) := by
 rw [pNumL, h.byte, if_pos]
 unfold rng
 simp [h.lt, hx.1, hx.2]
theorem numL_stop {s : ByteArray} {i : Nat} {x : UInt8} {l : List UInt8} (h : Rest s i (x :: l)) (hx : ¬(48 ≤ x.toNat ∧ x.toNat ≤ 57)) (f m : Nat) (ok : Bool) : pNumL s (f + 1) m ok i = (m, ok, i) := by
 rw [pNumL, h.byte, if_neg]
 unfold rng
 simp only [Bool.and_eq_true, decide_eq_true_eq]
 exact fun h => hx h.2
theorem dec_one (n : Nat) (h : n < 10) : dec n = [UInt8.ofNat (48 + n)] := by unfold dec; rw [Lib.decDigits, dif_pos h]
theorem dec_two (n : Nat) (h : 10 ≤ n) (h' : n < 100) : dec n = [UInt8.ofNat (48 + n / 10), UInt8.ofNat (48 + n % 10)] := by
 unfold dec
 rw [Lib.decDigits, dif_neg (by omega), Lib.decDigits, dif_pos (by omega)]
 rfl
theorem num_ok {s : ByteArray} {i : Nat} {x : UInt8} {l : List UInt8} (n : Nat) (hn : n ≤ 20) (h : Rest s i (dec n ++ x :: l)) (hx : ¬(48 ≤ x.toNat ∧ x.toNat ≤ 57)) : pNum s i = (n, true, i + (dec n).length) := by
 unfold pNum
 by_cases h10 : n < 10
 ·
  rw [dec_one n h10] at h ⊢
  have h' : Rest s i (UInt8.ofNat (48 + n) :: x :: l) := h
  have hl := h'.len
  simp at hl
  obtain ⟨f, hf⟩ : ∃ f, s.size = f + 1 := ⟨s.size - 1, by omega⟩
  have e8 := of8 (48 + n) (by omega)
  rw [hf, numL_step h' (by omega), numL_stop h'.tail hx, e8]
  show (_, _, _) = (_, _, _)
  rw [show min (10 * 0 + (48 + n - 48)) 21 = n by omega]
  rfl
 ·
  rw [dec_two n (by omega) (by omega)] at h ⊢
  have h' : Rest s i (UInt8.ofNat (48 + n / 10) :: UInt8.ofNat (48 + n % 10) :: x :: l) := h
  have hl := h'.len
  simp at hl
  obtain ⟨f, hf⟩ : ∃ f, s.size = f + 1 + 1 := ⟨s.size - 2, by omega⟩
  have e8 := of8 (48 + n / 10) (by omega)
  have e9 := of8 (48 + n % 10) (by omega)
  rw [hf, numL_step h' (by omega), numL_step h'.tail (by omega), numL_stop h'.tail.tail hx, e8, e9]
  show (_, _, _) = (_, _, _)
  rw [show min (10 * min (10 * 0 + (48 + n / 10 - 48)) 21 + (48 + n % 10 - 48)) 21 = n by omega]
  rfl

/-- A repetition is read out of its text. -/
theorem rep_ok {s : ByteArray} {j : Nat} {l : List UInt8} (ere : Bool) (r : Rx) (n g d : Nat) (lo : Nat) (hi : Int) (ht : timesFit lo hi = true) (h : Rest s j (timesT lo hi ere ++ l)) :
  pRep s ere r ⟨j, n, g, d⟩ = ⟨rrep lo hi r, 0, ⟨j + (timesT lo hi ere).length, n + 1, g, d⟩⟩ := by
 have hlo : lo ≤ 20 ∧ (hi = -1 ∨ (max (lo : Int) 1 ≤ hi ∧ hi ≤ 20)) := by
  unfold timesFit at ht
  split at ht
  ·
   cases ht
  ·
   simp at ht
   refine ⟨by omega, ?_⟩
   rcases ht with ht | ht
   ·
    exact Or.inl ht
   ·
    exact Or.inr ⟨by omega, ht.2⟩
 unfold pRep
 show (let g' := sgn s ere j; _) = _
 rw [h.sign ere]
 unfold timesT at h ⊢
 by_cases c1 : lo = 0 ∧ hi = -1
 ·
  rw [if_pos c1] at h ⊢
  obtain ⟨rfl, rfl⟩ := c1
  cases ere <;> rfl
 rw [if_neg c1] at h ⊢
 by_cases c2 : ere = true ∧ lo = 1 ∧ hi = -1
 ·
  rw [if_pos c2] at h ⊢
  obtain ⟨rfl, rfl, rfl⟩ := c2
  rfl
 rw [if_neg c2] at h ⊢
 by_cases c3 : ere = true ∧ lo = 0 ∧ hi = 1
 ·
  rw [if_pos c3] at h ⊢
  obtain ⟨rfl, rfl, rfl⟩ := c3
  rfl
 rw [if_neg c3] at h ⊢
 have nd : ∀ x : UInt8, x = 44 ∨ x = 125 ∨ x = 92 → ¬(48 ≤ x.toNat ∧ x.toNat ≤ 57) := by
  rintro x (rfl | rfl | rfl) <;> decide
 -- what is asked of the rest of it, from behind the brace
 have key : ∀ (sz : Nat) (m : List UInt8), Rest s (j + sz) (ivT lo hi ++ (closeB ere ++ m)) → pInt s ere j sz = (some ((lo : Int), hi), j + sz + (ivT lo hi).length + (closeB ere).length) := by
  intro sz m hr
  have hcl : ∃ x m', closeB ere ++ m = x :: m' ∧ (x = 125 ∨ x = 92) := by
   cases ere
   ·
    exact ⟨92, 125 :: m, rfl, Or.inr rfl⟩
   ·
    exact ⟨125, m, rfl, Or.inl rfl⟩
  obtain ⟨x, m', hx, hx'⟩ := hcl
  have hxd := nd x (by rcases hx' with h | h <;> simp [h])
  have hpc : ∀ k, Rest s k (closeB ere ++ m) → pfx s k (closeB ere) = true := by
   intro k hk
   rw [hk.has]
   exact List.isPrefixOf_iff_prefix.2 (List.prefix_append _ _)
  have hp44 : ∀ k, Rest s k (closeB ere ++ m) → pfx s k [44] = false := by
   intro k hk
   rw [hx] at hk
   rw [hk.has]
   rcases hx' with rfl | rfl <;> rfl
  unfold pInt
  by_cases e1 : hi = lo
  ·
   have ei : ivT lo hi = dec lo := by unfold ivT; rw [if_pos e1]
   rw [ei] at hr ⊢
   have hn := num_ok (s := s) (i := j + sz) (x := x) (l := m') lo hlo.1 (by rw [← hx]; exact hr) hxd
   rw [hn]
   have hr2 := hr.step
   show (if true = true then _ else _) = _
   rw [if_pos rfl]
   have hh : pHigh s lo (j + sz + (dec lo).length) = ((lo : Int), j + sz + (dec lo).length) := by
    unfold pHigh
    rw [hp44 _ hr2]
    rfl
   show (if pfx s (pHigh s lo (j + sz + (dec lo).length)).2 (closeB ere) = true then _ else _) = _
   rw [hh]
   show (if pfx s (j + sz + (dec lo).length) (closeB ere) = true then _ else _) = _
   rw [hpc _ hr2, if_pos rfl]
   show (if timesFit (lo : Int) (lo : Int) = true then _ else _) = _
   rw [if_pos (by rw [← e1]; rw [e1] at ht ⊢; exact ht), e1]
  ·
   by_cases e2 : hi = -1
   ·
    have ei : ivT lo hi = dec lo ++ [44] := by unfold ivT; rw [if_neg e1, if_pos e2]
    rw [ei] at hr ⊢
    have hr0 : Rest s (j + sz) (dec lo ++ 44 :: (closeB ere ++ m)) := by simpa using hr
    have hn := num_ok (s := s) (i := j + sz) (x := 44) lo hlo.1 hr0 (nd 44 (by simp))
    rw [hn]
    show (if true = true then _ else _) = _
    rw [if_pos rfl]
    have hr2 : Rest s (j + sz + (dec lo).length) (44 :: (closeB ere ++ m)) := hr0.step
    have hr3 := hr2.tail
    have hn2 : pNum s (j + sz + (dec lo).length + 1) = (0, false, j + sz + (dec lo).length + 1) := by
     unfold pNum
     rw [hx] at hr3
     exact numL_stop hr3 hxd _ _ _
    have hh : pHigh s lo (j + sz + (dec lo).length) = (-1, j + sz + (dec lo).length + 1) := by
     unfold pHigh
     rw [hr2.has, hn2]
     rfl
    show (if pfx s (pHigh s lo (j + sz + (dec lo).length)).2 (closeB ere) = true then _ else _) = _
    rw [hh]
    show (if pfx s (j + sz + (dec lo).length + 1) (closeB ere) = true then _ else _) = _
    rw [hpc _ hr3, if_pos rfl]
    show (if timesFit (lo : Int) (-1) = true then _ else _) = _
    rw [if_pos (by rw [← e2]; exact ht), e2, List.length_append]
    rfl
   ·
    have ei : ivT lo hi = dec lo ++ [44] ++ dec hi.toNat := by unfold ivT; rw [if_neg e1, if_neg e2]
    rw [ei] at hr ⊢
    have hhi : hi.toNat ≤ 20 ∧ (hi.toNat : Int) = hi := by omega
    have hr0 : Rest s (j + sz) (dec lo ++ 44 :: (dec hi.toNat ++ (closeB ere ++ m))) := by simpa using hr
    have hn := num_ok (s := s) (i := j + sz) (x := 44) lo hlo.1 hr0 (nd 44 (by simp))
    rw [hn]
    show (if true = true then _ else _) = _
    rw [if_pos rfl]
    have hr2 : Rest s (j + sz + (dec lo).length) (44 :: (dec hi.toNat ++ (closeB ere ++ m))) := hr0.step
    have hr3 := hr2.tail
    have hr4 := hr3.step
    have hn2 := num_ok (s := s) (i := j + sz + (dec lo).length + 1) (x := x) (l := m') hi.toNat hhi.1 (by rw [← hx]; exact hr3) hxd
    have hh : pHigh s lo (j + sz + (dec lo).length) = (hi, j + sz + (dec lo).length + 1 + (dec hi.toNat).length) := by
     unfold pHigh
     rw [hr2.has, hn2]
     show (((hi.toNat : Nat) : Int), _) = _
     rw [hhi.2]
    show (if pfx s (pHigh s lo (j + sz + (dec lo).length)).2 (closeB ere) = true then _ else _) = _
    rw [hh]
    show (if pfx s (j + sz + (dec lo).length + 1 + (dec hi.toNat).length) (closeB ere) = true then _ else _) = _
    rw [hpc _ hr4, if_pos rfl]
    show (if timesFit (lo : Int) hi = true then _ else _) = _
    rw [if_pos ht]
    simp only [List.length_append, List.length_cons, List.length_nil]
    rw [show j + sz + (dec lo).length + 1 + (dec hi.toNat).length = j + sz + ((dec lo).length + (0 + 1) + (dec hi.toNat).length) by omega]
 cases ere with
 | true =>
  have h' : Rest s j (123 :: (ivT lo hi ++ (closeB true ++ l))) := by
   unfold framedT at h
   simpa [closeB] using h
  have k := key 1 l h'.tail
  have el : (framedT [123] (ivT lo hi) [125] true).length = (ivT lo hi).length + 2 := by
   unfold framedT
   simp
  rw [el]
  show (match pInt s true j 1 with | (none, j) => _ | (some (a, b), j) => _) = _
  rw [k]
  show Out.mk _ _ (St.mk _ _ _ _) = _
  rw [show j + 1 + (ivT lo hi).length + (closeB true).length + 0 = j + ((ivT lo hi).length + 2) by simp [closeB]; omega]
 | false =>
  have h' : Rest s j (92 :: 123 :: (ivT lo hi ++ (closeB false ++ l))) := by
   unfold framedT at h
   simpa [closeB] using h
  have k := key 2 l h'.tail.tail
  have el : (framedT [123] (ivT lo hi) [125] false).length = (ivT lo hi).length + 4 := by
   unfold framedT
   simp
  rw [el]
  show (match pInt s false j 2 with | (none, j) => _ | (some (a, b), j) => _) = _
  rw [k]
  show Out.mk _ _ (St.mk _ _ _ _) = _
  rw [show j + 2 + (ivT lo hi).length + (closeB false).length + 0 = j + ((ivT lo hi).length + 4) by simp [closeB]; omega]

/-- What a check that says yes has seen. -/
theorem chk_inv {ere : Bool} {k mn mx n : Int} {s : W4} {kids : List Rx} {b e : Bool} {c c' : Ck} (h : chk ere (.mk k mn mx n s kids) b e c = some c') :
  c.n + 1 ≤ 40 ∧ leanB (.mk k mn mx n s kids) = true ∧ ((k = 1 ∧ 0 < cnt (W4.bit s) 256 ∧ c' = ⟨c.n + 1, c.g, c.d⟩) ∨ (k = 2 ∧ chkCat ere kids true ⟨c.n + 1, c.g, c.d⟩ = some c')
   ∨ (k = 3 ∧ ere = true ∧ chkAlt ere kids ⟨c.n + 1, c.g, c.d⟩ = some c') ∨ (k = 4 ∧ timesFit mn mx = true ∧ chkRep ere kids ⟨c.n + 1, c.g, c.d⟩ = some c')
   ∨ (k = 5 ∧ n = (c.g + 1 : Nat) ∧ c.g + 1 ≤ 3 ∧ c.d ≠ 6 ∧ chkGroup ere kids ⟨c.n + 1, c.g + 1, c.d + 1⟩ = some c') ∨ (k = 6 ∧ 1 ≤ n ∧ n ≤ (c.g : Int) ∧ c' = ⟨c.n + 1, c.g, c.d⟩)
   ∨ (k = 7 ∧ (ere || b) = true ∧ c' = ⟨c.n + 1, c.g, c.d⟩) ∨ (k = 8 ∧ (ere || e) = true ∧ c' = ⟨c.n + 1, c.g, c.d⟩)) := by
 rw [chk] at h
 split at h
 ·
  cases h
 rename_i h0
 have h1 : c.n + 1 ≤ 40 := by omega
 have h2 : leanB (.mk k mn mx n s kids) = true := by
  cases e : leanB (.mk k mn mx n s kids)
  ·
   exact absurd (Or.inr e) h0
  ·
   rfl
 refine ⟨h1, h2, ?_⟩
 split at h
 ·
  rename_i hk
  split at h
  ·
   rename_i hc; exact Or.inl ⟨hk, hc, (Option.some.inj h).symm⟩
  ·
   cases h
 split at h
 ·
  rename_i hk; exact Or.inr (Or.inl ⟨hk, h⟩)
 split at h
 ·
  rename_i hk
  split at h
  ·
   rename_i he; exact Or.inr (Or.inr (Or.inl ⟨hk, he, h⟩))
  ·
   cases h
 split at h
 ·
  rename_i hk
  split at h
  ·
   rename_i he; exact Or.inr (Or.inr (Or.inr (Or.inl ⟨hk, he, h⟩)))
  ·
   cases h
 split at h
 ·
  rename_i hk
  split at h
  ·
   cases h
  ·
   rename_i he; exact Or.inr (Or.inr (Or.inr (Or.inr (Or.inl ⟨hk, by omega, by omega, by omega, h⟩))))
 split at h
 ·
  rename_i hk
  split at h
  ·
   rename_i he; exact Or.inr (Or.inr (Or.inr (Or.inr (Or.inr (Or.inl ⟨hk, he.1, he.2, (Option.some.inj h).symm⟩)))))
  ·
   cases h
 split at h
 ·
  rename_i hk
  split at h
  ·
   rename_i he; exact Or.inr (Or.inr (Or.inr (Or.inr (Or.inr (Or.inr (Or.inl ⟨hk, he, (Option.some.inj h).symm⟩))))))
  ·
   cases h
 split at h
 ·
  rename_i hk
  split at h
  ·
   rename_i he; exact Or.inr (Or.inr (Or.inr (Or.inr (Or.inr (Or.inr (Or.inr ⟨hk, he, (Option.some.inj h).symm⟩))))))
  ·
   cases h
 ·
  cases h
theorem lean_inv {k mn mx n : Int} {s : W4} {kids : List Rx} (h : leanB (.mk k mn mx n s kids) = true) :
  (k ≠ 4 → mn = 0 ∧ mx = 0) ∧ (k ≠ 5 → k ≠ 6 → n = 0) ∧ (k ≠ 1 → s = W4.z) ∧ kidsFit k kids.length = true := by
 unfold leanB at h
 simp only [Bool.and_eq_true] at h
 obtain ⟨⟨⟨h1, h2⟩, h3⟩, h4⟩ := h
 refine ⟨fun hk => ?_, fun hk hk' => ?_, fun hk => ?_, h4⟩
 ·
  rw [if_neg hk] at h1
  simpa using h1
 ·
  rw [if_neg (by omega)] at h2
  simpa using h2
 ·
  rw [if_neg hk] at h3
  simpa using h3
theorem kids_one {k : Int} {kids : List Rx} (hk : k = 4 ∨ k = 5) (h : kidsFit k kids.length = true) : ∃ r, kids = [r] := by
 unfold kidsFit at h
 rw [if_neg (by omega), if_neg (by omega), if_pos hk] at h
 exact List.length_eq_one_iff.1 (by simpa using h)
theorem kids_none {k : Int} {kids : List Rx} (hk : k = 1 ∨ k = 6 ∨ k = 7 ∨ k = 8) (h : kidsFit k kids.length = true) : kids = [] := by
 unfold kidsFit at h
 rw [if_neg (by omega), if_neg (by omega), if_neg (by omega)] at h
 exact List.length_eq_zero_iff.1 (by simpa using h)

/-- How far a check that says yes has counted. -/
structure Cnt (r : Rx) : Prop where
 all : ∀ (ere b e : Bool) (c c' : Ck), chk ere r b e c = some c' → c'.n = c.n + nds r ∧ c'.n ≤ 40 ∧ c'.d = c.d ∧ (c.g ≤ 3 → c'.g ≤ 3)
theorem cat_cnt (ere : Bool) : ∀ (rs : List Rx) (_ : ∀ r ∈ rs, Cnt r) (f : Bool) (c c' : Ck), chkCat ere rs f c = some c' → c.n ≤ 40 → c'.n = c.n + ndss rs ∧ c'.n ≤ 40 ∧ c'.d = c.d ∧ (c.g ≤ 3 → c'.g ≤ 3)
 | [], _, f, c, c', h, h40 => by
  rw [chkCat] at h
  cases h
  exact ⟨by simp [ndss], h40, rfl, fun h => h⟩
 | r :: rs, H, f, c, c', h, h40 => by
  rw [chkCat] at h
  split at h
  ·
   cases h
  split at h
  ·
   cases h
  rename_i c1 h1
  obtain ⟨a1, a2, a3, a4⟩ := (H r (by simp)).all _ _ _ _ _ h1
  obtain ⟨b1, b2, b3, b4⟩ := cat_cnt ere rs (fun x hx => H x (by simp [hx])) false c1 c' h a2
  refine ⟨by rw [b1, a1, ndss]; omega, b2, b3.trans a3, fun h => b4 (a4 h)⟩
theorem alt_cnt (ere : Bool) : ∀ (rs : List Rx) (_ : ∀ r ∈ rs, Cnt r) (c c' : Ck), chkAlt ere rs c = some c' → c.n ≤ 40 → c'.n = c.n + ndss rs ∧ c'.n ≤ 40 ∧ c'.d = c.d ∧ (c.g ≤ 3 → c'.g ≤ 3)
 | [], _, c, c', h, h40 => by
  rw [chkAlt] at h
  cases h
  exact ⟨by simp [ndss], h40, rfl, fun h => h⟩
 | r :: rs, H, c, c', h, h40 => by
  rw [chkAlt] at h
  split at h
  ·
   cases h
  split at h
  ·
   cases h
  rename_i c1 h1
  obtain ⟨a1, a2, a3, a4⟩ := (H r (by simp)).all _ _ _ _ _ h1
  obtain ⟨b1, b2, b3, b4⟩ := alt_cnt ere rs (fun x hx => H x (by simp [hx])) c1 c' h a2
  refine ⟨by rw [b1, a1, ndss]; omega, b2, b3.trans a3, fun h => b4 (a4 h)⟩
theorem rep_inv {ere : Bool} {r : Rx} {c c' : Ck} (h : chkRep ere [r] c = some c') : mayRep r.k = true ∧ chk ere r false false c = some c' := by
 rw [chkRep] at h
 split at h
 ·
  rename_i hm; exact ⟨hm, h⟩
 ·
  cases h
theorem grp_inv {ere : Bool} {r : Rx} {c c' : Ck} (h : chkGroup ere [r] c = some c') : ∃ c1, chk ere r true true c = some c1 ∧ c' = ⟨c1.n, c1.g, c1.d - 1⟩ := by
 rw [chkGroup] at h
 split at h
 ·
  cases h
 ·
  rename_i c1 h1; exact ⟨c1, h1, (Option.some.inj h).symm⟩
theorem cnt_step (k mn mx n : Int) (s : W4) (kids : List Rx) (H : ∀ a, a ∈ kids → Cnt a) : Cnt (.mk k mn mx n s kids) := by
 refine ⟨fun ere b e c c' h => ?_⟩
 obtain ⟨h1, h2, h⟩ := chk_inv h
 obtain ⟨l1, l2, l3, l4⟩ := lean_inv h2
 have z : nds (.mk k mn mx n s kids) = 1 + ndss kids := by rw [nds]
 have nil : kids = [] → c' = ⟨c.n + 1, c.g, c.d⟩ → c'.n = c.n + nds (.mk k mn mx n s kids) ∧ c'.n ≤ 40 ∧ c'.d = c.d ∧ (c.g ≤ 3 → c'.g ≤ 3) := by
  rintro rfl rfl
  rw [z]
  exact ⟨by simp [ndss], h1, rfl, fun h => h⟩
 rcases h with ⟨hk, _, rfl⟩ | ⟨hk, h⟩ | ⟨hk, _, h⟩ | ⟨hk, _, h⟩ | ⟨hk, _, hg, _, h⟩ | ⟨hk, _, _, rfl⟩ | ⟨hk, _, rfl⟩ | ⟨hk, _, rfl⟩
 ·
  exact nil (kids_none (by omega) l4) rfl
 ·
  obtain ⟨b1, b2, b3, b4⟩ := cat_cnt ere kids H _ _ _ h h1
  rw [z]
  exact ⟨by rw [b1]; show c.n + 1 + _ = _; omega, b2, b3, b4⟩
 ·
  obtain ⟨b1, b2, b3, b4⟩ := alt_cnt ere kids H _ _ h h1
  rw [z]
  exact ⟨by rw [b1]; show c.n + 1 + _ = _; omega, b2, b3, b4⟩
 ·
  obtain ⟨r, rfl⟩ := kids_one (Or.inl hk) l4
  obtain ⟨_, h⟩ := rep_inv h
  obtain ⟨b1, b2, b3, b4⟩ := (H r (by simp)).all _ _ _ _ _ h
  rw [z]
  exact ⟨by rw [b1]; show c.n + 1 + _ = _; simp [ndss]; omega, b2, b3, b4⟩
 ·
  obtain ⟨r, rfl⟩ := kids_one (Or.inr hk) l4
  obtain ⟨c1, hx, rfl⟩ := grp_inv h
  obtain ⟨b1, b2, b3, b4⟩ := (H r (by simp)).all _ _ _ _ _ hx
  rw [z]
  exact ⟨by show c1.n = _; rw [b1]; show c.n + 1 + _ = _; simp [ndss]; omega, b2, by show c1.d - 1 = _; rw [b3]; rfl, fun _ => b4 hg⟩
 ·
  exact nil (kids_none (by omega) l4) rfl
 ·
  exact nil (kids_none (by omega) l4) rfl
 ·
  exact nil (kids_none (by omega) l4) rfl
theorem cnt_any : ∀ r, Cnt r
 | .mk k mn mx n s kids => cnt_step k mn mx n s kids (fun a _ => cnt_any a)
termination_by r => SizeOf.sizeOf r
decreasing_by
 have := List.sizeOf_lt_of_mem (by assumption)
 simp
 omega

def noRep (k : Nat) : Prop := k ≠ 10 ∧ k ≠ 11 ∧ k ≠ 12 ∧ k ≠ 13
def opens (k : Nat) : Prop := k = 2 ∨ k = 3 ∨ k = 4 ∨ k = 5 ∨ k = 6 ∨ k = 7 ∨ k = 14
theorem opens.nr {k : Nat} (h : opens k) : noRep k := by unfold opens at h; unfold noRep; omega
theorem opens.noEnd {k : Nat} (h : opens k) : ends k = false := by
 unfold opens at h
 unfold ends
 rcases h with rfl | rfl | rfl | rfl | rfl | rfl | rfl <;> rfl
theorem ends_noRep {k : Nat} (h : ends k = true) : noRep k := by
 unfold ends at h
 simp at h
 unfold noRep
 omega
theorem pRep_none {s : ByteArray} {ere : Bool} {r : Rx} {t : St} (h : noRep (sgn s ere t.i).1) : pRep s ere r t = ⟨r, 0, t⟩ := by
 obtain ⟨h1, h2, h3, h4⟩ := h
 unfold pRep
 show (if (sgn s ere t.i).1 = 10 then _ else _) = _
 rw [if_neg h1, if_neg h2, if_neg h3, if_neg h4]

/-- What begins with a sign of its own, and isn't repeated. -/
def oneK (k : Int) : Prop := k = 1 ∨ k = 5 ∨ k = 6 ∨ k = 7 ∨ k = 8
/-- What follows a row of a basic expression. -/
def fol (k : Nat) : Prop := k = 1 ∨ k = 8

/-- How a part's text opens. -/
structure Op (ere : Bool) (r : Rx) : Prop where
 all : ∀ (b e : Bool) (c c' : Ck), r.k ≠ 2 → r.k ≠ 3 → chk ere r b e c = some c' → c.g ≤ 3 → RxOk r → (∀ l, opens (sgL ere (txt ere r ++ l)).1) ∧ 0 < (txt ere r).length
/-- One is read out of its text. -/
structure OneOk (ere : Bool) (r : Rx) : Prop where
 all : ∀ (s : ByteArray) (l : List UInt8) (began i n : Nat) (b e : Bool) (c c' : Ck), oneK r.k → RxOk r → chk ere r b e c = some c' → c.g ≤ 3 → c.d ≤ 6 → n ≤ c.n → Rest s i (txt ere r ++ l) →
  (b = true → i = began) → (ere = false → e = true → fol (sgL ere l).1) →
  pOne (pCh s ere (6 - c.d)) s ere (sgnIn s ere began i).1 (sgnIn s ere began i).2.1 (sgnIn s ere began i).2.2 ⟨i, n, c.g, c.d⟩ = ⟨r, 0, ⟨i + (txt ere r).length, n + nds r, c'.g, c.d⟩⟩
/-- A choice is read out of its text. -/
structure ChOk (ere : Bool) (r : Rx) : Prop where
 all : ∀ (s : ByteArray) (l : List UInt8) (i n : Nat) (c c' : Ck), RxOk r → chk ere r true true c = some c' → c.g ≤ 3 → c.d ≤ 6 → n ≤ c.n → Rest s i (txt ere r ++ l) → fol (sgL ere l).1 →
  pCh s ere (7 - c.d) ⟨i, n, c.g, c.d⟩ = ⟨r, 0, ⟨i + (txt ere r).length, n + nds r, c'.g, c.d⟩⟩
structure PartOk (ere : Bool) (r : Rx) : Prop where
 all : ∀ (s : ByteArray) (l : List UInt8) (began i n : Nat) (b e : Bool) (c c' : Ck), r.k ≠ 2 → r.k ≠ 3 → RxOk r → chk ere r b e c = some c' → c.g ≤ 3 → c.d ≤ 6 → n ≤ c.n → Rest s i (txt ere r ++ l) →
  noRep (sgL ere l).1 → (b = true → i = began) → (ere = false → e = true → fol (sgL ere l).1) →
  pPart (pCh s ere (6 - c.d)) s ere began ⟨i, n, c.g, c.d⟩ = ⟨r, 0, ⟨i + (txt ere r).length, n + nds r, c'.g, c.d⟩⟩
structure RowOk (ere : Bool) (r : Rx) : Prop where
 all : ∀ (s : ByteArray) (l : List UInt8) (i n : Nat) (b e : Bool) (c c' : Ck), r.k ≠ 3 → RxOk r → chk ere r b e c = some c' → c.g ≤ 3 → c.d ≤ 6 → n ≤ c.n → Rest s i (txt ere r ++ l) →
  ends (sgL ere l).1 = true → (ere = false → fol (sgL ere l).1) →
  pRow (pCh s ere (6 - c.d)) s ere ⟨i, n, c.g, c.d⟩ = ⟨r, 0, ⟨i + (txt ere r).length, n + nds r, c'.g, c.d⟩⟩

theorem sgnIn_ok {s : ByteArray} {ere : Bool} {began i : Nat} {l : List UInt8} (h : Rest s i l) (hk : (sgL ere l).1 ≠ 10 ∧ (sgL ere l).1 ≠ 5 ∧ (sgL ere l).1 ≠ 6) : sgnIn s ere began i = sgL ere l := by
 unfold sgnIn
 rw [h.sign ere]
 cases ere with
 | true => rfl
 | false =>
  show (if plainIn s began i (sgL false l).1 = true then _ else _) = _
  rw [if_neg]
  unfold plainIn
  rw [if_neg hk.1, if_neg hk.2.1, if_neg hk.2.2]
  simp
theorem rxOk_kid {k mn mx n : Int} {s : W4} {kids : List Rx} (h : RxOk (.mk k mn mx n s kids)) : (s.a < 18446744073709551616 ∧ s.b < 18446744073709551616 ∧ s.c < 18446744073709551616 ∧ s.d < 18446744073709551616) ∧ ∀ a, a ∈ kids → RxOk a := by
 unfold RxOk at h
 exact h.2
theorem txt_mk (ere : Bool) (k mn mx n : Int) (s : W4) (kids : List Rx) : txt ere (.mk k mn mx n s kids) = (if k = 1 then setT (W4.bit s) ere
  else if k = 2 then Lib.join (txts ere kids) []
  else if k = 3 then Lib.join (txts ere kids) [124]
  else if k = 4 then (txts ere kids).headD [] ++ timesT mn.toNat mx ere
  else if k = 5 then framedT [40] ((txts ere kids).headD []) [41] ere
  else if k = 6 then [92] ++ dec n.toNat
  else if k = 7 then [94] else [36]) := by rw [txt]
/-- The text of a set is not empty. -/
theorem setT_len (p : Nat → Bool) (ere : Bool) : 0 < (setT p ere).length := by
 unfold setT
 split
 ·
  unfold byteT
  split
  ·
   simp
  ·
   split <;> simp
 ·
  split
  ·
   simp
  ·
   split <;> simp
theorem back_sign (ere : Bool) (n : Nat) (h1 : 1 ≤ n) (h3 : n ≤ 3) (l : List UInt8) : sgL ere ([92] ++ dec n ++ l) = (14, 48 + n, 2) ∧ (dec n).length = 1 := by
 rw [dec_one n (by omega)]
 refine ⟨?_, rfl⟩
 show sgL ere (92 :: UInt8.ofNat (48 + n) :: l) = _
 rw [sgL_cons, if_pos (by decide)]
 show qs (UInt8.ofNat (48 + n)).toNat ere = _
 rw [of8 _ (by omega)]
 unfold qs
 rw [if_neg (by omega), if_pos (by unfold rng; simp; omega)]
theorem open_sign (ere : Bool) (x l : List UInt8) : sgL ere (framedT [40] x [41] ere ++ l) = (7, 40, if ere then 1 else 2) := by
 cases ere <;> rfl
theorem framed_eq (ere : Bool) (x l : List UInt8) : framedT [40] x [41] ere ++ l = (if ere then [40] else [92, 40]) ++ (x ++ ((if ere then [41] else [92, 41]) ++ l)) := by
 unfold framedT
 cases ere <;> simp
theorem op_step (ere : Bool) (k mn mx n : Int) (s : W4) (kids : List Rx) (H : ∀ a, a ∈ kids → Op ere a) : Op ere (.mk k mn mx n s kids) := by
 refine ⟨fun b e c c' k2 k3 h hg hR => ?_⟩
 have k2 : k ≠ 2 := k2
 have k3 : k ≠ 3 := k3
 obtain ⟨h1, h2, h⟩ := chk_inv h
 obtain ⟨l1, l2, l3, l4⟩ := lean_inv h2
 have hR' := rxOk_kid hR
 rw [txt_mk]
 rcases h with ⟨rfl, hc, rfl⟩ | ⟨hk, h⟩ | ⟨hk, _, h⟩ | ⟨rfl, ht, h⟩ | ⟨rfl, _, _, _, h⟩ | ⟨rfl, hn1, hn2, rfl⟩ | ⟨rfl, _, rfl⟩ | ⟨rfl, _, rfl⟩
 ·
  rw [if_pos rfl]
  refine ⟨fun l => ?_, setT_len _ _⟩
  obtain ⟨q, _, hs, _⟩ := set_ok (W4.bit s) ere (Rest.of (setT (W4.bit s) ere ++ l)) (by omega)
  unfold opens
  omega
 ·
  exact absurd hk k2
 ·
  exact absurd hk k3
 ·
  rw [if_neg (by decide), if_neg (by decide), if_neg (by decide), if_pos rfl]
  obtain ⟨r, rfl⟩ := kids_one (Or.inl rfl) l4
  obtain ⟨hm, h⟩ := rep_inv h
  have hmk : r.k ≠ 2 ∧ r.k ≠ 3 := by
   unfold mayRep at hm
   simp at hm
   omega
  obtain ⟨o1, o2⟩ := (H r (by simp)).all false false _ _ hmk.1 hmk.2 h hg (hR'.2 r (by simp))
  have et : (txts ere [r]).headD [] = txt ere r := by rw [txts]; rfl
  rw [et]
  refine ⟨fun l => ?_, by rw [List.length_append]; omega⟩
  rw [List.append_assoc]
  exact o1 _
 ·
  rw [if_neg (by decide), if_neg (by decide), if_neg (by decide), if_neg (by decide), if_pos rfl]
  refine ⟨fun l => ?_, ?_⟩
  ·
   rw [open_sign]
   unfold opens
   simp
  ·
   unfold framedT
   cases ere <;> simp
 ·
  rw [if_neg (by decide), if_neg (by decide), if_neg (by decide), if_neg (by decide), if_neg (by decide), if_pos rfl]
  refine ⟨fun l => ?_, by simp⟩
  rw [(back_sign ere n.toNat (by omega) (by omega) l).1]
  unfold opens
  simp
 ·
  rw [if_neg (by decide), if_neg (by decide), if_neg (by decide), if_neg (by decide), if_neg (by decide), if_neg (by decide), if_pos rfl]
  refine ⟨fun l => ?_, by simp⟩
  cases ere <;> (unfold opens; exact Or.inr (Or.inr (Or.inr (Or.inl rfl))))
 ·
  rw [if_neg (by decide), if_neg (by decide), if_neg (by decide), if_neg (by decide), if_neg (by decide), if_neg (by decide), if_neg (by decide)]
  refine ⟨fun l => ?_, by simp⟩
  cases ere <;> (unfold opens; exact Or.inr (Or.inr (Or.inr (Or.inr (Or.inl rfl)))))
theorem op_any (ere : Bool) : ∀ r, Op ere r
 | .mk k mn mx n s kids => op_step ere k mn mx n s kids (fun a _ => op_any ere a)
termination_by r => SizeOf.sizeOf r
decreasing_by
 have := List.sizeOf_lt_of_mem (by assumption)
 simp
 omega

/-- One, if choices of its kids are read. -/
theorem one_step (ere : Bool) (k mn mx n : Int) (s : W4) (kids : List Rx) (H : ∀ a, a ∈ kids → ChOk ere a) : OneOk ere (.mk k mn mx n s kids) := by
 refine ⟨fun x l began i m b e c c' hK hR h hg hd hm hr hb he => ?_⟩
 have hK : oneK k := hK
 obtain ⟨h1, h2, h⟩ := chk_inv h
 obtain ⟨l1, l2, l3, l4⟩ := lean_inv h2
 have hR' := rxOk_kid hR
 have z : nds (.mk k mn mx n s kids) = 1 + ndss kids := by rw [nds]
 have z0 : ndss [] = 0 := by rw [ndss]
 rw [txt_mk] at hr ⊢
 rw [z]
 unfold oneK at hK
 rcases h with ⟨rfl, hc, rfl⟩ | ⟨hk, h⟩ | ⟨hk, _, h⟩ | ⟨hk, ht, h⟩ | ⟨rfl, hn, hg3, hd6, h⟩ | ⟨rfl, hn1, hn2, rfl⟩ | ⟨rfl, hbb, rfl⟩ | ⟨rfl, hee, rfl⟩
 ·
  rw [if_pos rfl] at hr ⊢
  obtain ⟨q, hq, hs, hp⟩ := set_ok (W4.bit s) ere hr (by omega)
  rw [sgnIn_ok hr (by omega), hp]
  obtain ⟨rfl, rfl⟩ := l1 (by decide)
  obtain rfl := l2 (by decide) (by decide)
  obtain rfl := kids_none (Or.inl rfl) l4
  rw [z0]
  unfold rset
  rw [w4_back s q hR'.1 hq]
 ·
  omega
 ·
  omega
 ·
  omega
 ·
  rw [if_neg (by decide), if_neg (by decide), if_neg (by decide), if_neg (by decide), if_pos rfl] at hr ⊢
  obtain ⟨r, rfl⟩ := kids_one (Or.inr rfl) l4
  obtain ⟨c1, hx, rfl⟩ := grp_inv h
  obtain ⟨rfl, rfl⟩ := l1 (by decide)
  obtain rfl := l3 (by decide)
  have et : (txts ere [r]).headD [] = txt ere r := by rw [txts]; rfl
  have ez : ndss [r] = nds r := by simp [ndss]
  rw [et] at hr ⊢
  rw [ez]
  have cn := (cnt_any r).all _ _ _ _ _ hx
  have hs := open_sign ere (txt ere r) l
  rw [sgnIn_ok hr (by rw [hs]; simp), hs]
  have hr0 := hr
  rw [framed_eq] at hr0
  have hsh : ∀ m : List UInt8, sgL ere ((if ere then [41] else [92, 41]) ++ m) = (8, 41, if ere then 1 else 2) := by
   intro m
   cases ere <;> rfl
  have hlen : (if ere then ([40] : List UInt8) else [92, 40]).length = if ere then 1 else 2 := by cases ere <;> rfl
  have hr1 := hr0.step
  rw [hlen] at hr1
  have hr2 := hr1.step
  have ch := (H r (by simp)).all x _ (i + (if ere then 1 else 2)) m ⟨c.n + 1, c.g + 1, c.d + 1⟩ c1 (hR'.2 r (by simp)) hx hg3 (by show c.d + 1 ≤ 6; omega) (by show m ≤ c.n + 1; omega) hr1 (by rw [hsh]; exact Or.inr rfl)
  show pGroup (pCh x ere (6 - c.d)) x ere (if ere then 1 else 2) ⟨i, m, c.g, c.d⟩ = _
  unfold pGroup
  rw [if_neg hd6]
  have ch' : pCh x ere (6 - c.d) ⟨i + (if ere then 1 else 2), m, c.g + 1, c.d + 1⟩ = ⟨r, 0, ⟨i + (if ere then 1 else 2) + (txt ere r).length, m + nds r, c1.g, c.d + 1⟩⟩ := by
   rw [show 6 - c.d = 7 - (c.d + 1) by omega]
   exact ch
  show (if (pCh x ere (6 - c.d) ⟨i + (if ere then 1 else 2), m, c.g + 1, c.d + 1⟩).e ≠ 0 then _ else _) = _
  rw [ch']
  rw [if_neg (by simp)]
  show (if (sgn x ere (i + (if ere then 1 else 2) + (txt ere r).length)).1 ≠ 8 then _ else _) = _
  rw [hr2.sign ere, hsh, if_neg (by simp)]
  have fl : (framedT [40] (txt ere r) [41] ere).length = (if ere then 1 else 2) + (txt ere r).length + (if ere then 1 else 2) := by
   unfold framedT
   cases ere <;> simp <;> omega
  rw [fl]
  subst hn
  show Out.mk _ _ (St.mk (i + (if ere then 1 else 2) + (txt ere r).length + (if ere then 1 else 2)) (m + nds r + 1) c1.g (c.d + 1 - 1)) = _
  rw [show i + (if ere then 1 else 2) + (txt ere r).length + (if ere then 1 else 2) = i + ((if ere then 1 else 2) + (txt ere r).length + (if ere then 1 else 2)) by omega, show m + nds r + 1 = m + (1 + nds r) by omega, show c.d + 1 - 1 = c.d by omega]
 ·
  rw [if_neg (by decide), if_neg (by decide), if_neg (by decide), if_neg (by decide), if_neg (by decide), if_pos rfl] at hr ⊢
  obtain ⟨hs, hl⟩ := back_sign ere n.toNat (by omega) (by omega) l
  rw [sgnIn_ok hr (by rw [hs]; simp), hs]
  obtain ⟨rfl, rfl⟩ := l1 (by decide)
  obtain rfl := l3 (by decide)
  obtain rfl := kids_none (by decide) l4
  rw [z0, List.length_append, hl]
  show pBack (48 + n.toNat) 2 _ = _
  unfold pBack
  rw [if_neg (by show ¬(48 + n.toNat < 49 ∨ c.g + 48 < 48 + n.toNat); omega)]
  show Out.mk (.mk 6 0 0 (((48 + n.toNat : Nat) : Int) - 48) W4.z []) _ _ = _
  rw [show ((48 + n.toNat : Nat) : Int) - 48 = n by omega]
  rfl
 ·
  rw [if_neg (by decide), if_neg (by decide), if_neg (by decide), if_neg (by decide), if_neg (by decide), if_neg (by decide), if_pos rfl] at hr ⊢
  obtain ⟨rfl, rfl⟩ := l1 (by decide)
  obtain rfl := l3 (by decide)
  obtain rfl := l2 (by decide) (by decide)
  obtain rfl := kids_none (by decide) l4
  rw [z0]
  have hs : sgL ere ([94] ++ l) = (5, 94, 1) := by cases ere <;> rfl
  have hi : sgnIn x ere began i = (5, 94, 1) := by
   unfold sgnIn
   rw [hr.sign ere, hs]
   cases ere with
   | true => rfl
   | false =>
    have hib := hb (by simpa using hbb)
    show (if plainIn x began i 5 = true then _ else _) = _
    rw [if_neg]
    unfold plainIn
    rw [if_neg (by decide), if_pos rfl, hib]
    simp
  rw [hi]
  rfl
 ·
  rw [if_neg (by decide), if_neg (by decide), if_neg (by decide), if_neg (by decide), if_neg (by decide), if_neg (by decide), if_neg (by decide)] at hr ⊢
  obtain ⟨rfl, rfl⟩ := l1 (by decide)
  obtain rfl := l3 (by decide)
  obtain rfl := l2 (by decide) (by decide)
  obtain rfl := kids_none (by decide) l4
  rw [z0]
  have hs : sgL ere ([36] ++ l) = (6, 36, 1) := by cases ere <;> rfl
  have hi : sgnIn x ere began i = (6, 36, 1) := by
   unfold sgnIn
   rw [hr.sign ere, hs]
   cases ere with
   | true => rfl
   | false =>
    have hf := he rfl (by simpa using hee)
    show (if plainIn x began i 6 = true then _ else _) = _
    rw [if_neg]
    unfold plainIn
    rw [if_neg (by decide), if_neg (by decide), if_pos rfl]
    have hr' : Rest x (i + 1) l := hr.tail
    rw [hr'.sign false]
    unfold fol at hf
    simp
    omega
  rw [hi]
  rfl

theorem rep_txt (ere : Bool) (mn mx n : Int) (s : W4) (r : Rx) : txt ere (.mk 4 mn mx n s [r]) = txt ere r ++ timesT mn.toNat mx ere := by
 rw [txt_mk, if_neg (by decide), if_neg (by decide), if_neg (by decide), if_pos rfl]
 rw [show (txts ere [r]).headD [] = txt ere r by rw [txts]; rfl]
theorem part_step (ere : Bool) (k mn mx n : Int) (s : W4) (kids : List Rx) (H : ∀ a, a ∈ kids → OneOk ere a) (H1 : OneOk ere (.mk k mn mx n s kids)) : PartOk ere (.mk k mn mx n s kids) := by
 refine ⟨fun x l began i m b e c c' k2 k3 hR h hg hd hm hr hnr hb he => ?_⟩
 have k2 : k ≠ 2 := k2
 have k3 : k ≠ 3 := k3
 have h0 := h
 obtain ⟨h1, h2, h⟩ := chk_inv h
 obtain ⟨l1, l2, l3, l4⟩ := lean_inv h2
 have hR' := rxOk_kid hR
 by_cases k4 : k = 4
 ·
  subst k4
  rcases h with ⟨hk, _⟩ | ⟨hk, _⟩ | ⟨hk, _⟩ | ⟨_, ht, h⟩ | ⟨hk, _⟩ | ⟨hk, _⟩ | ⟨hk, _⟩ | ⟨hk, _⟩ <;> try omega
  obtain ⟨r, rfl⟩ := kids_one (Or.inl rfl) l4
  obtain ⟨hmr, hx⟩ := rep_inv h
  obtain rfl := l3 (by decide)
  obtain rfl := l2 (by decide) (by decide)
  have hok : oneK r.k := by
   unfold mayRep at hmr
   simp at hmr
   unfold oneK
   omega
  have hmn : ((mn.toNat : Nat) : Int) = mn := by
   unfold timesFit at ht
   split at ht
   ·
    cases ht
   ·
    omega
  rw [rep_txt] at hr ⊢
  have hr0 : Rest x i (txt ere r ++ (timesT mn.toNat mx ere ++ l)) := by rw [← List.append_assoc]; exact hr
  have o := (H r (by simp)).all x _ began i m false false ⟨c.n + 1, c.g, c.d⟩ c' hok (hR'.2 r (by simp)) hx hg hd (by show m ≤ c.n + 1; omega) hr0 (fun h => by cases h) (fun _ h => by cases h)
  have o : pOne (pCh x ere (6 - c.d)) x ere (sgnIn x ere began i).1 (sgnIn x ere began i).2.1 (sgnIn x ere began i).2.2 ⟨i, m, c.g, c.d⟩ = ⟨r, 0, ⟨i + (txt ere r).length, m + nds r, c'.g, c.d⟩⟩ := o
  unfold pPart
  show (if (pOne (pCh x ere (6 - c.d)) x ere (sgnIn x ere began i).1 (sgnIn x ere began i).2.1 (sgnIn x ere began i).2.2 ⟨i, m, c.g, c.d⟩).e ≠ 0 ∨ _ then _ else _) = _
  rw [o]
  rw [if_neg (by simp [hmr])]
  show pRep x ere r ⟨i + (txt ere r).length, m + nds r, c'.g, c.d⟩ = _
  rw [rep_ok ere r _ _ _ mn.toNat mx (by rw [hmn]; exact ht) hr0.step, List.length_append, hmn]
  unfold rrep
  rw [show nds (.mk 4 mn mx 0 W4.z [r]) = 1 + nds r by simp [nds, ndss], show m + nds r + 1 = m + (1 + nds r) by omega, Nat.add_assoc]
 ·
  have hok : oneK k := by
   unfold oneK
   rcases h with ⟨hk, _⟩ | ⟨hk, _⟩ | ⟨hk, _⟩ | ⟨hk, _⟩ | ⟨hk, _⟩ | ⟨hk, _⟩ | ⟨hk, _⟩ | ⟨hk, _⟩ <;> omega
  have o := H1.all x l began i m b e c c' hok hR h0 hg hd hm hr hb he
  unfold pPart
  show (if (pOne (pCh x ere (6 - c.d)) x ere (sgnIn x ere began i).1 (sgnIn x ere began i).2.1 (sgnIn x ere began i).2.2 ⟨i, m, c.g, c.d⟩).e ≠ 0 ∨ _ then _ else _) = _
  rw [o]
  by_cases hmr : mayRep k = true
  ·
   rw [if_neg (by show ¬((0 : Nat) ≠ 0 ∨ mayRep k = false); simp [hmr])]
   rw [pRep_none (by show noRep (sgn x ere (i + _)).1; rw [hr.step.sign ere]; exact hnr)]
  ·
   rw [if_pos (by show ((0 : Nat) ≠ 0 ∨ mayRep k = false); right; simpa using hmr)]

theorem flat_len (ere : Bool) (rs : List Rx) (h : ∀ r ∈ rs, 0 < (txt ere r).length) : rs.length ≤ ((txts ere rs).flatten).length := by
 induction rs with
 | nil => simp
 | cons r rs ih =>
  rw [txts, List.flatten_cons, List.length_append, List.length_cons]
  have := ih (fun x hx => h x (by simp [hx]))
  have := h r (by simp)
  omega
theorem cat_op {ere : Bool} : ∀ (rs : List Rx) (f : Bool) (c c' : Ck), chkCat ere rs f c = some c' → c.g ≤ 3 → (∀ r ∈ rs, RxOk r) → ∀ r ∈ rs, r.k ≠ 2 ∧ r.k ≠ 3 ∧ (∀ l, opens (sgL ere (txt ere r ++ l)).1) ∧ 0 < (txt ere r).length
 | [], _, _, _, _, _, _ => by intro r h; cases h
 | r :: rs, f, c, c', h, hg, hR => by
  rw [chkCat] at h
  split at h
  ·
   cases h
  rename_i hk
  split at h
  ·
   cases h
  rename_i c1 h1
  have k2 : r.k ≠ 2 := fun h => hk (Or.inl h)
  have k3 : r.k ≠ 3 := fun h => hk (Or.inr h)
  have o := (op_any ere r).all _ _ _ _ k2 k3 h1 hg (hR r (by simp))
  have cn := (cnt_any r).all _ _ _ _ _ h1
  intro x hx
  rcases List.mem_cons.1 hx with rfl | hx
  ·
   exact ⟨k2, k3, o⟩
  ·
   exact cat_op rs false c1 c' h (cn.2.2.2 hg) (fun y hy => hR y (by simp [hy])) x hx
theorem rowL_ok {ere : Bool} {s : ByteArray} {l : List UInt8} {began d : Nat} (hd : d ≤ 6) (he : ends (sgL ere l).1 = true) (hf : ere = false → fol (sgL ere l).1) :
  ∀ (rs : List Rx) (_ : ∀ r ∈ rs, PartOk ere r) (f : Nat) (ks : List Rx) (i n : Nat) (first : Bool) (c c' : Ck), chkCat ere rs first c = some c' → c.d = d → (∀ r ∈ rs, RxOk r) → c.g ≤ 3 → n ≤ c.n → Rest s i ((txts ere rs).flatten ++ l) →
   (first = true → i = began) → rs.length < f →
   pRowL (pCh s ere (6 - d)) s ere began f ks ⟨i, n, c.g, d⟩ = rowOut (ks ++ rs) ⟨i + ((txts ere rs).flatten).length, n + ndss rs, c'.g, d⟩
 | [], _, f, ks, i, n, first, c, c', h, hcd, hR, hg, hn, hr, hb, hl => by
  obtain ⟨f, rfl⟩ : ∃ k, f = k + 1 := ⟨f - 1, by simp at hl; omega⟩
  rw [chkCat] at h
  cases h
  have hr' : Rest s i l := by simpa [txts] using hr
  rw [pRowL]
  show (if ends (sgn s ere i).1 = true then _ else _) = _
  rw [hr'.sign ere, if_pos he]
  simp [txts, ndss]
 | r :: rs, H, f, ks, i, n, first, c, c', h, hcd, hR, hg, hn, hr, hb, hl => by
  obtain ⟨f, rfl⟩ : ∃ k, f = k + 1 := ⟨f - 1, by simp at hl; omega⟩
  have hop := cat_op (r :: rs) first c c' h hg hR
  rw [chkCat] at h
  split at h
  ·
   cases h
  split at h
  ·
   cases h
  rename_i c1 h1
  have cn := (cnt_any r).all _ _ _ _ _ h1
  obtain ⟨k2, k3, o1, o2⟩ := hop r (by simp)
  have hr0 : Rest s i (txt ere r ++ ((txts ere rs).flatten ++ l)) := by
   rw [txts, List.flatten_cons, List.append_assoc] at hr
   exact hr
  have hsg : noRep (sgL ere ((txts ere rs).flatten ++ l)).1 := by
   cases rs with
   | nil => simpa [txts] using ends_noRep he
   | cons y ys =>
    obtain ⟨_, _, q, _⟩ := hop y (by simp)
    rw [txts, List.flatten_cons, List.append_assoc]
    exact (q _).nr
  have hfol : ere = false → rs.isEmpty = true → fol (sgL ere ((txts ere rs).flatten ++ l)).1 := by
   intro he1 he2
   cases rs with
   | nil => simpa [txts] using hf he1
   | cons y ys => cases he2
  have hp := (H r (by simp)).all s _ began i n first rs.isEmpty c c1 k2 k3 (hR r (by simp)) h1 hg (by omega) hn hr0 hsg hb hfol
  rw [hcd] at hp
  rw [pRowL]
  show (if ends (sgn s ere i).1 = true then _ else _) = _
  rw [hr0.sign ere, (o1 _).noEnd, if_neg (by simp)]
  show (if (pPart (pCh s ere (6 - d)) s ere began ⟨i, n, c.g, d⟩).e ≠ 0 then _ else pRowL _ s ere began f (keepL (pPart (pCh s ere (6 - d)) s ere began ⟨i, n, c.g, d⟩).st.n ks (pPart (pCh s ere (6 - d)) s ere began ⟨i, n, c.g, d⟩).r) (pPart (pCh s ere (6 - d)) s ere began ⟨i, n, c.g, d⟩).st) = _
  rw [hp, if_neg (by simp)]
  have hk : keepL (n + nds r) ks r = ks ++ [r] := by
   unfold keepL
   rw [if_neg (by omega)]
  show pRowL _ s ere began f (keepL (n + nds r) ks r) ⟨i + (txt ere r).length, n + nds r, c1.g, d⟩ = _
  rw [hk, rowL_ok hd he hf rs (fun y hy => H y (by simp [hy])) f (ks ++ [r]) (i + (txt ere r).length) (n + nds r) false c1 c' h (cn.2.2.1.trans hcd) (fun y hy => hR y (by simp [hy])) (cn.2.2.2 hg) (by omega) hr0.step (fun h => by cases h) (by simp at hl; omega)]
  rw [List.append_assoc, txts, List.flatten_cons, List.length_append, ndss, Nat.add_assoc, Nat.add_assoc]
  rfl
theorem join_nil (xs : List (List UInt8)) : Lib.join xs [] = xs.flatten := by
 unfold Lib.join
 induction xs with
 | nil => rfl
 | cons x xs ih =>
  cases xs with
  | nil => simp [List.intercalate]
  | cons y ys =>
   simp [List.intercalate] at ih ⊢
   exact ih
theorem row_step (ere : Bool) (k mn mx n : Int) (s : W4) (kids : List Rx) (H : ∀ a, a ∈ kids → PartOk ere a) (H1 : PartOk ere (.mk k mn mx n s kids)) : RowOk ere (.mk k mn mx n s kids) := by
 refine ⟨fun x l i m b e c c' k3 hR h hg hd hm hr hen hf => ?_⟩
 have k3 : k ≠ 3 := k3
 have h0 := h
 obtain ⟨h1, h2, h⟩ := chk_inv h
 obtain ⟨l1, l2, l3, l4⟩ := lean_inv h2
 have hR' := rxOk_kid hR
 have hsz := hr.len
 rw [List.length_append] at hsz
 unfold pRow
 by_cases k2 : k = 2
 ·
  subst k2
  rcases h with ⟨hk, _⟩ | ⟨_, hq⟩ | ⟨hk, _⟩ | ⟨hk, _⟩ | ⟨hk, _⟩ | ⟨hk, _⟩ | ⟨hk, _⟩ | ⟨hk, _⟩ <;> try omega
  obtain ⟨rfl, rfl⟩ := l1 (by decide)
  obtain rfl := l3 (by decide)
  obtain rfl := l2 (by decide) (by decide)
  have et : txt ere (.mk 2 0 0 0 W4.z kids) = (txts ere kids).flatten := by
   rw [txt_mk, if_neg (by decide), if_pos rfl, join_nil]
  rw [et] at hr hsz ⊢
  have hl := flat_len ere kids (fun r hr => (cat_op kids true _ _ hq hg hR'.2 r hr).2.2.2)
  have q := rowL_ok (began := i) hd hen hf kids H (x.size + 1) [] i m true ⟨c.n + 1, c.g, c.d⟩ c' hq rfl hR'.2 hg (by show m ≤ c.n + 1; omega) hr (fun _ => rfl) (by omega)
  show pRowL (pCh x ere (6 - c.d)) x ere i (x.size + 1) [] ⟨i, m, c.g, c.d⟩ = _
  rw [q, List.nil_append]
  have hk1 : kids.length ≠ 1 := by
   unfold kidsFit at l4
   rw [if_pos rfl] at l4
   simpa using l4
  have ez : nds (.mk 2 0 0 0 W4.z kids) = 1 + ndss kids := by rw [nds]
  rw [ez]
  unfold rowOut
  split
  ·
   exact absurd rfl hk1
  ·
   show Out.mk _ _ (St.mk _ (m + ndss kids + 1) _ _) = _
   rw [show m + ndss kids + 1 = m + (1 + ndss kids) by omega]
 ·
  have o := (op_any ere (.mk k mn mx n s kids)).all _ _ _ _ k2 k3 h0 hg hR
  have p := H1.all x l i i m b e c c' k2 k3 hR h0 hg hd hm hr (ends_noRep hen) (fun _ => rfl) (fun h _ => hf h)
  obtain ⟨f, hf'⟩ : ∃ f, x.size = f + 1 := ⟨x.size - 1, by omega⟩
  show pRowL (pCh x ere (6 - c.d)) x ere i (x.size + 1) [] ⟨i, m, c.g, c.d⟩ = _
  rw [hf', pRowL]
  show (if ends (sgn x ere i).1 = true then _ else _) = _
  rw [hr.sign ere, (o.1 l).noEnd, if_neg (by simp)]
  show (if (pPart (pCh x ere (6 - c.d)) x ere i ⟨i, m, c.g, c.d⟩).e ≠ 0 then _ else pRowL _ x ere i (f + 1) (keepL (pPart (pCh x ere (6 - c.d)) x ere i ⟨i, m, c.g, c.d⟩).st.n [] (pPart (pCh x ere (6 - c.d)) x ere i ⟨i, m, c.g, c.d⟩).r) (pPart (pCh x ere (6 - c.d)) x ere i ⟨i, m, c.g, c.d⟩).st) = _
  rw [p, if_neg (by simp)]
  have cn := (cnt_any (.mk k mn mx n s kids)).all _ _ _ _ _ h0
  have hk : keepL (m + nds (.mk k mn mx n s kids)) [] (.mk k mn mx n s kids) = [.mk k mn mx n s kids] := by
   unfold keepL
   rw [if_neg (by omega)]
   rfl
  show pRowL _ x ere i (f + 1) (keepL (m + nds (.mk k mn mx n s kids)) [] (.mk k mn mx n s kids)) ⟨i + (txt ere (.mk k mn mx n s kids)).length, m + nds (.mk k mn mx n s kids), c'.g, c.d⟩ = _
  rw [hk, pRowL]
  show (if ends (sgn x ere (i + (txt ere (.mk k mn mx n s kids)).length)).1 = true then _ else _) = _
  rw [hr.step.sign ere, if_pos hen]
  rfl

/-- The texts behind the first of a choice, each with its bar. -/
def bars (ere : Bool) (rs : List Rx) : List UInt8 := (rs.map (fun r => 124 :: txt ere r)).flatten
theorem join_bar (ere : Bool) (r : Rx) (rs : List Rx) : Lib.join (txts ere (r :: rs)) [124] = txt ere r ++ bars ere rs := by
 unfold Lib.join bars
 induction rs generalizing r with
 | nil => simp [txts, List.intercalate]
 | cons y ys ih =>
  have e : [124].intercalate (txts ere (r :: y :: ys)) = txt ere r ++ (124 :: [124].intercalate (txts ere (y :: ys))) := by
   simp [txts, List.intercalate]
  rw [e, ih y]
  simp
theorem chL_ok {s : ByteArray} {l : List UInt8} {d : Nat} (hd : d ≤ 6) (hfo : fol (sgL true l).1) :
  ∀ (rs : List Rx) (_ : ∀ r ∈ rs, RowOk true r) (f : Nat) (ks : List Rx) (i n : Nat) (c c' : Ck), chkAlt true rs c = some c' → c.d = d → (∀ r ∈ rs, RxOk r) → c.g ≤ 3 → n ≤ c.n → Rest s i (bars true rs ++ l) → rs.length < f →
   pChL (pCh s true (6 - d)) s true f ks ⟨i, n, c.g, d⟩ = ⟨.mk 3 0 0 0 W4.z (ks ++ rs), 0, ⟨i + (bars true rs).length, n + ndss rs + 1, c'.g, d⟩⟩
 | [], _, f, ks, i, n, c, c', h, hcd, hR, hg, hn, hr, hl => by
  obtain ⟨f, rfl⟩ : ∃ k, f = k + 1 := ⟨f - 1, by simp at hl; omega⟩
  rw [chkAlt] at h
  cases h
  have hr' : Rest s i l := by simpa [bars] using hr
  rw [pChL]
  show (if (sgn s true i).1 = 9 then _ else _) = _
  rw [hr'.sign true, if_neg (by unfold fol at hfo; omega)]
  simp [bars, ndss]
 | r :: rs, H, f, ks, i, n, c, c', h, hcd, hR, hg, hn, hr, hl => by
  obtain ⟨f, rfl⟩ : ∃ k, f = k + 1 := ⟨f - 1, by simp at hl; omega⟩
  rw [chkAlt] at h
  split at h
  ·
   cases h
  rename_i k3
  split at h
  ·
   cases h
  rename_i c1 h1
  have cn := (cnt_any r).all _ _ _ _ _ h1
  have hr0 : Rest s i (124 :: (txt true r ++ (bars true rs ++ l))) := by simpa [bars] using hr
  have hsg : (sgL true (bars true rs ++ l)).1 = 9 ∨ fol (sgL true (bars true rs ++ l)).1 := by
   cases rs with
   | nil => exact Or.inr (by simpa [bars] using hfo)
   | cons y ys => exact Or.inl rfl
  have hen : ends (sgL true (bars true rs ++ l)).1 = true := by
   unfold fol at hsg
   unfold ends
   rcases hsg with h | h | h <;> rw [h] <;> rfl
  have hp := (H r (by simp)).all s _ (i + 1) n false false c c1 k3 (hR r (by simp)) h1 hg (by omega) hn hr0.tail hen (fun h => by cases h)
  rw [hcd] at hp
  rw [pChL]
  show (if (sgn s true i).1 = 9 then _ else _) = _
  rw [hr0.sign true, if_pos (show (sgL true (124 :: (txt true r ++ (bars true rs ++ l)))).1 = 9 from rfl)]
  show (if (pRow (pCh s true (6 - d)) s true ⟨i + 1, n, c.g, d⟩).e ≠ 0 then _ else pChL _ s true f (keepL (pRow (pCh s true (6 - d)) s true ⟨i + 1, n, c.g, d⟩).st.n ks (pRow (pCh s true (6 - d)) s true ⟨i + 1, n, c.g, d⟩).r) (pRow (pCh s true (6 - d)) s true ⟨i + 1, n, c.g, d⟩).st) = _
  rw [hp, if_neg (by simp)]
  have hk : keepL (n + nds r) ks r = ks ++ [r] := by
   unfold keepL
   rw [if_neg (by omega)]
  show pChL _ s true f (keepL (n + nds r) ks r) ⟨i + 1 + (txt true r).length, n + nds r, c1.g, d⟩ = _
  rw [hk, chL_ok hd hfo rs (fun y hy => H y (by simp [hy])) f (ks ++ [r]) (i + 1 + (txt true r).length) (n + nds r) c1 c' h (cn.2.2.1.trans hcd) (fun y hy => hR y (by simp [hy])) (cn.2.2.2 hg) (by omega) hr0.tail.step (by simp at hl; omega)]
  have eb : (bars true (r :: rs)).length = 1 + (txt true r).length + (bars true rs).length := by
   simp [bars]
   omega
  rw [eb, ndss, List.append_assoc, show i + 1 + (txt true r).length + (bars true rs).length = i + (1 + (txt true r).length + (bars true rs).length) by omega, show n + nds r + ndss rs + 1 = n + (nds r + ndss rs) + 1 by omega]
  rfl
theorem bars_len (ere : Bool) (rs : List Rx) : rs.length ≤ (bars ere rs).length := by
 unfold bars
 induction rs with
 | nil => simp
 | cons r rs ih =>
  rw [List.map_cons, List.flatten_cons, List.length_append, List.length_cons, List.length_cons]
  omega
theorem ch_step (ere : Bool) (k mn mx n : Int) (s : W4) (kids : List Rx) (H : ∀ a, a ∈ kids → RowOk ere a) (H1 : RowOk ere (.mk k mn mx n s kids)) : ChOk ere (.mk k mn mx n s kids) := by
 refine ⟨fun x l i m c c' hR h hg hd hm hr hf => ?_⟩
 have h0 := h
 obtain ⟨h1, h2, h⟩ := chk_inv h
 obtain ⟨l1, l2, l3, l4⟩ := lean_inv h2
 have hR' := rxOk_kid hR
 have hsz := hr.len
 rw [List.length_append] at hsz
 rw [show 7 - c.d = (6 - c.d) + 1 by omega, pCh]
 unfold pCh1
 by_cases k3 : k = 3
 ·
  subst k3
  rcases h with ⟨hk, _⟩ | ⟨hk, _⟩ | ⟨_, he, hq⟩ | ⟨hk, _⟩ | ⟨hk, _⟩ | ⟨hk, _⟩ | ⟨hk, _⟩ | ⟨hk, _⟩ <;> try omega
  subst he
  obtain ⟨rfl, rfl⟩ := l1 (by decide)
  obtain rfl := l3 (by decide)
  obtain rfl := l2 (by decide) (by decide)
  have hk2 : 2 ≤ kids.length := by
   unfold kidsFit at l4
   rw [if_neg (by decide), if_pos rfl] at l4
   simpa using l4
  obtain ⟨r, r2, rs, rfl⟩ : ∃ r r2 rs, kids = r :: r2 :: rs := by
   match kids, hk2 with
   | r :: r2 :: rs, _ => exact ⟨r, r2, rs, rfl⟩
  have et : txt true (.mk 3 0 0 0 W4.z (r :: r2 :: rs)) = txt true r ++ bars true (r2 :: rs) := by
   rw [txt_mk, if_neg (by decide), if_neg (by decide), if_pos rfl, join_bar]
  rw [et] at hr hsz ⊢
  rw [chkAlt] at hq
  split at hq
  ·
   cases hq
  rename_i k3'
  split at hq
  ·
   cases hq
  rename_i c1 hx
  have cn := (cnt_any r).all _ _ _ _ _ hx
  have hr0 : Rest x i (txt true r ++ (bars true (r2 :: rs) ++ l)) := by rw [← List.append_assoc]; exact hr
  have hp := (H r (by simp)).all x _ i m false false ⟨c.n + 1, c.g, c.d⟩ c1 k3' (hR'.2 r (by simp)) hx hg hd (by show m ≤ c.n + 1; omega) hr0 rfl (fun h => by cases h)
  have hp : pRow (pCh x true (6 - c.d)) x true ⟨i, m, c.g, c.d⟩ = ⟨r, 0, ⟨i + (txt true r).length, m + nds r, c1.g, c.d⟩⟩ := hp
  show (if (pRow (pCh x true (6 - c.d)) x true ⟨i, m, c.g, c.d⟩).e ≠ 0 ∨ (sgn x true (pRow (pCh x true (6 - c.d)) x true ⟨i, m, c.g, c.d⟩).st.i).1 ≠ 9 then _ else _) = _
  rw [hp]
  rw [if_neg (by
   show ¬((0 : Nat) ≠ 0 ∨ (sgn x true (i + (txt true r).length)).1 ≠ 9)
   rw [hr0.step.sign true]
   rintro (h | h)
   ·
    exact h rfl
   ·
    exact h rfl)]
  have hbl := bars_len true (r2 :: rs)
  rw [List.length_append] at hsz
  have q := chL_ok (s := x) (l := l) (d := c.d) hd hf (r2 :: rs) (fun y hy => H y (List.mem_cons_of_mem _ hy)) (x.size + 1) [r] (i + (txt true r).length) (m + nds r) c1 c' hq (cn.2.2.1) (fun y hy => hR'.2 y (List.mem_cons_of_mem _ hy)) (cn.2.2.2 hg) (by have := cn.1; simp at this; omega) hr0.step (by omega)
  show pChL (pCh x true (6 - c.d)) x true (x.size + 1) [r] ⟨i + (txt true r).length, m + nds r, c1.g, c.d⟩ = _
  rw [q, List.length_append, Nat.add_assoc]
  have ez : nds (.mk 3 0 0 0 W4.z (r :: r2 :: rs)) = nds r + ndss (r2 :: rs) + 1 := by
   rw [nds]
   conv => lhs; rw [ndss]
   omega
  rw [ez, show m + nds r + ndss (r2 :: rs) + 1 = m + (nds r + ndss (r2 :: rs) + 1) by omega]
  rfl
 ·
  have hen : ends (sgL ere l).1 = true := by
   unfold fol at hf
   unfold ends
   rcases hf with h | h <;> rw [h] <;> rfl
  have hp := H1.all x l i m true true c c' k3 hR h0 hg hd hm hr hen (fun _ => hf)
  show (if (pRow (pCh x ere (6 - c.d)) x ere ⟨i, m, c.g, c.d⟩).e ≠ 0 ∨ (sgn x ere (pRow (pCh x ere (6 - c.d)) x ere ⟨i, m, c.g, c.d⟩).st.i).1 ≠ 9 then _ else _) = _
  rw [hp]
  rw [if_pos (by
   right
   show (sgn x ere (i + _)).1 ≠ 9
   rw [hr.step.sign ere]
   unfold fol at hf
   omega)]
structure AllOk (ere : Bool) (r : Rx) : Prop where
 one : OneOk ere r
 part : PartOk ere r
 row : RowOk ere r
 ch : ChOk ere r
theorem all_ok (ere : Bool) : ∀ r, AllOk ere r
 | .mk k mn mx n s kids => by
  have H : ∀ a, a ∈ kids → AllOk ere a := fun a _ => all_ok ere a
  have h1 := one_step ere k mn mx n s kids (fun a ha => (H a ha).ch)
  have h2 := part_step ere k mn mx n s kids (fun a ha => (H a ha).one) h1
  have h3 := row_step ere k mn mx n s kids (fun a ha => (H a ha).part) h2
  exact ⟨h1, h2, h3, ch_step ere k mn mx n s kids (fun a ha => (H a ha).row) h3⟩
termination_by r => SizeOf.sizeOf r
decreasing_by
 have := List.sizeOf_lt_of_mem (by assumption)
 simp
 omega
/-- THE ROUND TRIP: a right expression comes back out of its text. -/
theorem trip (ere : Bool) (r : Rx) (hR : RxOk r) (h : right ere r = true) : pParse (bs (txt ere r)) ere = (r, 0, 0) := by
 unfold right at h
 obtain ⟨c', hc⟩ := Option.isSome_iff_exists.1 h
 have hr : Rest (bs (txt ere r)) 0 (txt ere r ++ []) := by rw [List.append_nil]; exact Rest.of _
 have cn := (cnt_any r).all _ _ _ _ _ hc
 have q := (all_ok ere r).ch.all (bs (txt ere r)) [] 0 0 ⟨0, 0, 0⟩ c' hR hc (Nat.zero_le _) (Nat.zero_le _) (Nat.le_refl _) hr (Or.inl rfl)
 have q : pCh (bs (txt ere r)) ere 7 ⟨0, 0, 0, 0⟩ = ⟨r, 0, ⟨0 + (txt ere r).length, 0 + nds r, c'.g, 0⟩⟩ := q
 have hw : pWhole (bs (txt ere r)) ere = ⟨r, 0, ⟨0 + (txt ere r).length, 0 + nds r, c'.g, 0⟩⟩ := by
  unfold pWhole
  show (if (pCh (bs (txt ere r)) ere 7 ⟨0, 0, 0, 0⟩).e ≠ 0 then _ else _) = _
  rw [q]
  rw [if_neg (by simp)]
  have hg := cn.2.2.2 (Nat.zero_le 3)
  have hn := cn.1
  have hn2 := cn.2.1
  show (if 0 + (txt ere r).length < (bs (txt ere r)).size then _ else if 0 + nds r > 40 ∨ c'.g > 3 then _ else _) = _
  rw [if_neg (by rw [bs_size]; omega), if_neg (by simp at hn; omega)]
 unfold pParse
 show (if (pWhole (bs (txt ere r)) ere).e ≠ 0 then _ else _) = _
 rw [hw]
 rfl
end Go.Proofs.YtikmgckefbjbkaaGreatDoor.Trip

/-! ### Num -/

namespace Go.Proofs.YtikmgckefbjbkaaGreatDoor
open Go.RowKit

theorem rng_dig (b : Nat) : rng 48 57 b = true ↔ 48 ≤ b ∧ b ≤ 57 := by unfold rng; simp

set_option maxRecDepth 100000 in
theorem number_any (s : ByteArray) (ere : Bool) (i n g d P : Nat) (w : World) (h : Rd w P s ere i n g d) (hi : i ≤ s.size) (hs : s.size ≤ 1000000) :
  Calls Tryz.prog 106 #[.pointer (some ⟨P, 0, none⟩)] w fun e w' => e = .returned (.tuple #[.int .i64 ((pNum s i).1 : Nat), .bool (pNum s i).2.1]) ∧ Rd w' P s ere (pNum s i).2.2 n g d ∧ Ks P w w' := by
 have R : Hid (Rd w P s ere i n g d) := h
 have hP : P < w.heap.size := h.lt
 clear h
 go_enter Tryz.func106, Tryz.ntmps106
 go_wp2_with fail
 refine (range_any 48 57 _ (by omega) (by omega)).mono ?_
 rintro e w1 ⟨rfl, kq⟩
 have hs1 : w.heap.size ≤ w1.heap.size := kq.size
 have R1 : Hid (Rd w1 P s ere i n g d ∧ Ks P w w1) := ⟨R.out.kp kq, kq.ks (Nat.le_of_lt hP)⟩
 clear kq R
 go_wp2_with fail
 go_loopg [2, 3] (s.size + 1) (fun k v2 v3 wr => ∃ (m : Nat) (ok : Bool) (j : Nat), v2 = .int .i64 (m : Int) ∧ v3 = .bool ok ∧ m ≤ 21 ∧ j ≤ s.size ∧ s.size < k + j ∧ pNumL s k m ok j = pNum s i ∧ At wr w1.heap.size (rng 48 57) ∧ Rd wr P s ere j n g d ∧ Ks P w wr)
 case atStart => exact ⟨0, false, i, rfl, rfl, by omega, hi, by omega, rfl, At.new _ _, R1.out.1.kp (by repeat (first | exact Kp.refl _ | refine Kp.alloc ?_ _ | refine Kp.drew ?_ | refine Kp.drewN _ ?_)), R1.out.2.kpt (by repeat (first | exact Kp.refl _ | refine Kp.alloc ?_ _ | refine Kp.drew ?_ | refine Kp.drewN _ ?_)) hP⟩
 case round =>
  obtain ⟨m, ok, j, rfl, rfl, hm, hj, hk, hp, hA, hR, hK⟩ := hrel
  obtain ⟨k, rfl⟩ : ∃ k, gk = k + 1 := ⟨gk - 1, by omega⟩
  have A : Hid (At wr w1.heap.size (rng 48 57)) := hA
  have R : Hid (Rd wr P s ere j n g d) := hR
  have K : Hid (Ks P w wr) := hK
  have HP := hid hp
  clear hA hR hK hp R1
  have hsr := K.out.size
  have hPr : P < wr.heap.size := by omega
  have gj : IntKind.i64.wrap ((j : Int) + 1) = (j : Int) + 1 := by rw [IntKind.wrap_i64]; omega
  by_cases hlt : j < s.size
  ·
   have hli : (j : Int) < (s.size : Int) := by omega
   have ec := run_ch s j hlt
   obtain ⟨b, hb⟩ : ∃ b, ch s j = b := ⟨_, rfl⟩
   have HB := hid hb
   have hb256 : b < 256 := by rw [← hb]; exact ch_lt _ _
   rw [hb] at ec
   clear hb
   by_cases hd : rng 48 57 b = true
   ·
    have HD : Hid (rng 48 57 b = true) := hd
    have hd' := (rng_dig b).1 hd
    clear hd
    have g1 : IntKind.i64.wrap (10 * (m : Int)) = 10 * (m : Int) := by rw [IntKind.wrap_i64]; omega
    have g2 : IntKind.u8.wrap ((b : Int) - 48) = (b : Int) - 48 := by rw [IntKind.wrap_u8']; omega
    have g3 : IntKind.i64.wrap ((b : Int) - 48) = (b : Int) - 48 := by rw [IntKind.wrap_i64]; omega
    have g4 : IntKind.i64.wrap (10 * (m : Int) + ((b : Int) - 48)) = 10 * (m : Int) + ((b : Int) - 48) := by rw [IntKind.wrap_i64]; omega
    have E : Hid (pNumL s k (min (10 * m + (b - 48)) 21) true (j + 1) = pNum s i) := by
     have := HP.out
     unfold pNumL at this
     rw [HB.out, HD.out, decide_eq_true hlt] at this
     exact this
    go_upto_region 2 with fail
    go_cut [28] (fun v wc => v = .bool true ∧ Kp wr wc)
    case first =>
     have Q0 : Kp wr wr.drew := (Kp.refl _).drew
     have MK : Hid (∀ W, Kp wr W → W.cell? ⟨P, 0, none⟩ = some (.string s) ∧ W.cell? ⟨P, 2, none⟩ = some (.int .i64 (j : Int)) ∧ W.cell? ⟨w1.heap.size, 0, none⟩ = some (.int .u64 (wd (rng 48 57) 0 : Nat)) ∧ W.cell? ⟨w1.heap.size, 1, none⟩ = some (.int .u64 (wd (rng 48 57) 1 : Nat)) ∧ W.cell? ⟨w1.heap.size, 2, none⟩ = some (.int .u64 (wd (rng 48 57) 2 : Nat)) ∧ W.cell? ⟨w1.heap.size, 3, none⟩ = some (.int .u64 (wd (rng 48 57) 3 : Nat)) ∧ Hid (Kp wr W)) := fun W k => ⟨(R.out.kp k).cells.1, (R.out.kp k).cells.2.2.1, (A.out.kp k).cells.1, (A.out.kp k).cells.2.1, (A.out.kp k).cells.2.2.1, (A.out.kp k).cells.2.2.2, k⟩
     refine wp_region_noPanic ?_
     refine wp_region_held_drew (S := (fun W => W.cell? ⟨P, 0, none⟩ = some (.string s) ∧ W.cell? ⟨P, 2, none⟩ = some (.int .i64 (j : Int)) ∧ W.cell? ⟨w1.heap.size, 0, none⟩ = some (.int .u64 (wd (rng 48 57) 0 : Nat)) ∧ W.cell? ⟨w1.heap.size, 1, none⟩ = some (.int .u64 (wd (rng 48 57) 1 : Nat)) ∧ W.cell? ⟨w1.heap.size, 2, none⟩ = some (.int .u64 (wd (rng 48 57) 2 : Nat)) ∧ W.cell? ⟨w1.heap.size, 3, none⟩ = some (.int .u64 (wd (rng 48 57) 3 : Nat)) ∧ Hid (Kp wr W))) (by kernel_rfl) ?_ (fun hH => ?_)
     ·
      exact MK.out _ Q0
     have KQ := Q0
     refine wpAnyH_take (i := 0) (oi := { dst := some 6, op := Op.move (Operand.tmp 0), type := 77, pos := "parse.go:221", after := #[], guard := none }) (v := ?v0a1) rfl (by kernel_rfl) (by kernel_rfl) (by kernel_rfl) (fun _ _ _ h => h) (Or.inl ⟨by rfl, ?hy0a1⟩) hH ?r0a1
     case hy0a1 => (intro W hSw; (try dsimp only at hSw); go_simp; try (with_reducible rfl))
     try simp only [Act.put, List.setIfInBounds_toArray, List.set_cons_zero, List.set_cons_succ]
     refine wpAnyH_take (i := 1) (oi := { dst := some 7, op := Op.nilCheck (Operand.tmp 6), type := 0, pos := "parse.go:221", after := _, guard := none }) (v := ?v1a2) rfl (by kernel_rfl) (by kernel_rfl) (by kernel_rfl) (fun _ _ _ h => h) (Or.inl ⟨by rfl, ?hy1a2⟩) hH ?r1a2
     case hy1a2 => (intro W hSw; (try dsimp only at hSw); go_simp; try (with_reducible rfl))
     try simp only [Act.put, List.setIfInBounds_toArray, List.set_cons_zero, List.set_cons_succ]
     refine wpAnyH_take (i := 2) (oi := { dst := some 8, op := Op.fieldAddr 55 (Operand.tmp 7) 2, type := 0, pos := "parse.go:221", after := _, guard := none }) (v := ?v2a3) rfl (by kernel_rfl) (by kernel_rfl) (by kernel_rfl) (fun _ _ _ h => h) (Or.inl ⟨by rfl, ?hy2a3⟩) hH ?r2a3
     case hy2a3 => (intro W hSw; (try dsimp only at hSw); go_simp; try (with_reducible rfl))
     try simp only [Act.put, List.setIfInBounds_toArray, List.set_cons_zero, List.set_cons_succ]
     refine wpAnyH_take (i := 3) (oi := { dst := some 9, op := Op.load 3 (Operand.tmp 8), type := 3, pos := "parse.go:221", after := _, guard := none }) (v := ?v3a4) rfl (by kernel_rfl) (by kernel_rfl) (by kernel_rfl) (fun _ _ _ h => h) (Or.inl ⟨by rfl, ?hy3a4⟩) hH ?r3a4
     case hy3a4 => (intro W hSw; (try dsimp only at hSw); go_simp; try (with_reducible rfl))
     try simp only [Act.put, List.setIfInBounds_toArray, List.set_cons_zero, List.set_cons_succ]
     refine wpAnyH_take (i := 4) (oi := { dst := some 10, op := Op.move (Operand.tmp 0), type := 77, pos := "parse.go:221", after := #[], guard := none }) (v := ?v4a5) rfl (by kernel_rfl) (by kernel_rfl) (by kernel_rfl) (fun _ _ _ h => h) (Or.inl ⟨by rfl, ?hy4a5⟩) hH ?r4a5
     case hy4a5 => (intro W hSw; (try dsimp only at hSw); go_simp; try (with_reducible rfl))
     try simp only [Act.put, List.setIfInBounds_toArray, List.set_cons_zero, List.set_cons_succ]
     refine wpAnyH_take (i := 5) (oi := { dst := some 11, op := Op.nilCheck (Operand.tmp 10), type := 0, pos := "parse.go:221", after := _, guard := none }) (v := ?v5a6) rfl (by kernel_rfl) (by kernel_rfl) (by kernel_rfl) (fun _ _ _ h => h) (Or.inl ⟨by rfl, ?hy5a6⟩) hH ?r5a6
     case hy5a6 => (intro W hSw; (try dsimp only at hSw); go_simp; try (with_reducible rfl))
     try simp only [Act.put, List.setIfInBounds_toArray, List.set_cons_zero, List.set_cons_succ]
     refine wpAnyH_take (i := 6) (oi := { dst := some 12, op := Op.fieldAddr 55 (Operand.tmp 11) 0, type := 0, pos := "parse.go:221", after := _, guard := none }) (v := ?v6a7) rfl (by kernel_rfl) (by kernel_rfl) (by kernel_rfl) (fun _ _ _ h => h) (Or.inl ⟨by rfl, ?hy6a7⟩) hH ?r6a7
     case hy6a7 => (intro W hSw; (try dsimp only at hSw); go_simp; try (with_reducible rfl))
     try simp only [Act.put, List.setIfInBounds_toArray, List.set_cons_zero, List.set_cons_succ]
     refine wpAnyH_take (i := 7) (oi := { dst := some 13, op := Op.load 9 (Operand.tmp 12), type := 9, pos := "parse.go:221", after := _, guard := none }) (v := ?v7a8) rfl (by kernel_rfl) (by kernel_rfl) (by kernel_rfl) (fun _ _ _ h => h) (Or.inl ⟨by rfl, ?hy7a8⟩) hH ?r7a8
     case hy7a8 => (intro W hSw; (try dsimp only at hSw); go_simp; try (with_reducible rfl))
     try simp only [Act.put, List.setIfInBounds_toArray, List.set_cons_zero, List.set_cons_succ]
     refine wpAnyH_take (i := 8) (oi := { dst := some 14, op := Op.call { callee := Callee.builtin Builtin.len, args := #[Operand.tmp 13], argTypes := #[9] }, type := 3, pos := "parse.go:221", after := _, guard := none }) (v := ?v8a9) rfl (by kernel_rfl) (by kernel_rfl) (by kernel_rfl) (fun _ _ _ h => h) (Or.inl ⟨by rfl, ?hy8a9⟩) hH ?r8a9
     case hy8a9 => (intro W hSw; (try dsimp only at hSw); go_simp; try (with_reducible rfl))
     try simp only [Act.put, List.setIfInBounds_toArray, List.set_cons_zero, List.set_cons_succ]
     refine wpAnyH_take (i := 9) (oi := { dst := some 15, op := Op.binOp BinOp.lss 3 (Operand.tmp 9) (Operand.tmp 14) 3, type := 4, pos := "parse.go:221", after := _, guard := none }) (v := ?v9a10) rfl (by kernel_rfl) (by kernel_rfl) (by kernel_rfl) (fun _ _ _ h => h) (Or.inl ⟨by rfl, ?hy9a10⟩) hH ?r9a10
     case hy9a10 => (intro W hSw; (try dsimp only at hSw); go_simp; try (with_reducible rfl))
     try simp only [Act.put, List.setIfInBounds_toArray, List.set_cons_zero, List.set_cons_succ]
     refine wpAnyH_take (i := 10) (oi := { dst := some 16, op := Op.move (Operand.tmp 15), type := 4, pos := "parse.go:221", after := _, guard := none }) (v := ?v10a11) rfl (by kernel_rfl) (by kernel_rfl) (by kernel_rfl) (fun _ _ _ h => h) (Or.inl ⟨by rfl, ?hy10a11⟩) hH ?r10a11
     case hy10a11 => (intro W hSw; (try dsimp only at hSw); go_simp; try (with_reducible rfl))
     try simp only [Act.put, List.setIfInBounds_toArray, List.set_cons_zero, List.set_cons_succ]
     refine wpAnyH_take (i := 11) (oi := { dst := some 17, op := Op.load 24 (Operand.tmp 4), type := 24, pos := "parse.go:221", after := _, guard := some (10, true) }) (v := ?v11a12) rfl (by kernel_rfl) (by kernel_rfl) (by kernel_rfl) (fun _ _ _ h => h) (Or.inl ⟨by rfl, ?hy11a12⟩) hH ?r11a12
     case hy11a12 => (intro W hSw; (try dsimp only at hSw); go_simp; try (with_reducible rfl))
     try simp only [Act.put, List.setIfInBounds_toArray, List.set_cons_zero, List.set_cons_succ]
     refine wpAnyH_take (i := 12) (oi := { dst := some 18, op := Op.move (Operand.tmp 0), type := 77, pos := "parse.go:221", after := _, guard := some (10, true) }) (v := ?v12a13) rfl (by kernel_rfl) (by kernel_rfl) (by kernel_rfl) (fun _ _ _ h => h) (Or.inl ⟨by rfl, ?hy12a13⟩) hH ?r12a13
     case hy12a13 => (intro W hSw; (try dsimp only at hSw); go_simp; try (with_reducible rfl))
     try simp only [Act.put, List.setIfInBounds_toArray, List.set_cons_zero, List.set_cons_succ]
     refine wpAnyH_take (i := 13) (oi := { dst := some 19, op := Op.nilCheck (Operand.tmp 18), type := 0, pos := "parse.go:221", after := _, guard := some (10, true) }) (v := ?v13a14) rfl (by kernel_rfl) (by kernel_rfl) (by kernel_rfl) (fun _ _ _ h => h) (Or.inl ⟨by rfl, ?hy13a14⟩) hH ?r13a14
     case hy13a14 => (intro W hSw; (try dsimp only at hSw); go_simp; try (with_reducible rfl))
     try simp only [Act.put, List.setIfInBounds_toArray, List.set_cons_zero, List.set_cons_succ]
     refine wpAnyH_take (i := 14) (oi := { dst := some 20, op := Op.fieldAddr 55 (Operand.tmp 19) 0, type := 0, pos := "parse.go:221", after := _, guard := some (10, true) }) (v := ?v14a15) rfl (by kernel_rfl) (by kernel_rfl) (by kernel_rfl) (fun _ _ _ h => h) (Or.inl ⟨by rfl, ?hy14a15⟩) hH ?r14a15
     case hy14a15 => (intro W hSw; (try dsimp only at hSw); go_simp; try (with_reducible rfl))
     try simp only [Act.put, List.setIfInBounds_toArray, List.set_cons_zero, List.set_cons_succ]
     refine wpAnyH_take (i := 15) (oi := { dst := some 21, op := Op.load 9 (Operand.tmp 20), type := 9, pos := "parse.go:221", after := _, guard := some (10, true) }) (v := ?v15a16) rfl (by kernel_rfl) (by kernel_rfl) (by kernel_rfl) (fun _ _ _ h => h) (Or.inl ⟨by rfl, ?hy15a16⟩) hH ?r15a16
     case hy15a16 => (intro W hSw; (try dsimp only at hSw); go_simp; try (with_reducible rfl))
     try simp only [Act.put, List.setIfInBounds_toArray, List.set_cons_zero, List.set_cons_succ]
     refine wpAnyH_take (i := 16) (oi := { dst := some 22, op := Op.move (Operand.tmp 0), type := 77, pos := "parse.go:221", after := _, guard := some (10, true) }) (v := ?v16a17) rfl (by kernel_rfl) (by kernel_rfl) (by kernel_rfl) (fun _ _ _ h => h) (Or.inl ⟨by rfl, ?hy16a17⟩) hH ?r16a17
     case hy16a17 => (intro W hSw; (try dsimp only at hSw); go_simp; try (with_reducible rfl))
     try simp only [Act.put, List.setIfInBounds_toArray, List.set_cons_zero, List.set_cons_succ]
     refine wpAnyH_take (i := 17) (oi := { dst := some 23, op := Op.nilCheck (Operand.tmp 22), type := 0, pos := "parse.go:221", after := _, guard := some (10, true) }) (v := ?v17a18) rfl (by kernel_rfl) (by kernel_rfl) (by kernel_rfl) (fun _ _ _ h => h) (Or.inl ⟨by rfl, ?hy17a18⟩) hH ?r17a18
     case hy17a18 => (intro W hSw; (try dsimp only at hSw); go_simp; try (with_reducible rfl))
     try simp only [Act.put, List.setIfInBounds_toArray, List.set_cons_zero, List.set_cons_succ]
     refine wpAnyH_take (i := 18) (oi := { dst := some 24, op := Op.fieldAddr 55 (Operand.tmp 23) 2, type := 0, pos := "parse.go:221", after := _, guard := some (10, true) }) (v := ?v18a19) rfl (by kernel_rfl) (by kernel_rfl) (by kernel_rfl) (fun _ _ _ h => h) (Or.inl ⟨by rfl, ?hy18a19⟩) hH ?r18a19
     case hy18a19 => (intro W hSw; (try dsimp only at hSw); go_simp; try (with_reducible rfl))
     try simp only [Act.put, List.setIfInBounds_toArray, List.set_cons_zero, List.set_cons_succ]
     refine wpAnyH_take (i := 19) (oi := { dst := some 25, op := Op.load 3 (Operand.tmp 24), type := 3, pos := "parse.go:221", after := _, guard := some (10, true) }) (v := ?v19a20) rfl (by kernel_rfl) (by kernel_rfl) (by kernel_rfl) (fun _ _ _ h => h) (Or.inl ⟨by rfl, ?hy19a20⟩) hH ?r19a20
     case hy19a20 => (intro W hSw; (try dsimp only at hSw); go_simp; try (with_reducible rfl))
     try simp only [Act.put, List.setIfInBounds_toArray, List.set_cons_zero, List.set_cons_succ]
     refine wpAnyH_take (i := 20) (oi := { dst := some 26, op := Op.index 9 (Operand.tmp 21) (Operand.tmp 25), type := 5, pos := "parse.go:221", after := _, guard := some (10, true) }) (v := ?v20a21) rfl (by kernel_rfl) (by kernel_rfl) (by kernel_rfl) (fun _ _ _ h => h) (Or.inl ⟨by rfl, ?hy20a21⟩) hH ?r20a21
     case hy20a21 => (intro W hSw; (try dsimp only at hSw); go_simp; try (with_reducible rfl))
     try simp only [Act.put, List.setIfInBounds_toArray, List.set_cons_zero, List.set_cons_succ]
     refine wpAnyH_ready (rs := [21]) (by kernel_rfl) (by simp) ?_
     refine AllReadyH.cons (o := { dst := some 27, op := Op.call { callee := Callee.value (Operand.func 72), args := #[Operand.tmp 17, Operand.tmp 26], argTypes := #[24, 5] }, type := 4, pos := "parse.go:221", after := _, guard := some (10, true) }) rfl (fun K hKq => ?_) AllReadyH.nil
     go_simp
     refine (has_any (rng 48 57) b _ hb256).mono ?_
     rintro e y1 ⟨rfl, kq⟩
     rw [HD.out]
     refine hKq.out _ _ (MK.out _ (KQ.trans kq)) (fun hN => ?_)
     clear kq
     clear hKq K hH KQ
     have hH := hN
     clear hN
     have KQ := hH.2.2.2.2.2.2.out
     try simp only [Act.put, List.setIfInBounds_toArray, List.set_cons_zero, List.set_cons_succ]
     refine wpAnyH_take (i := 22) (oi := { dst := some 28, op := Op.pick (Operand.tmp 16) (Operand.tmp 27) (Operand.const (Value.bool false)), type := 4, pos := "parse.go:221", after := _, guard := none }) (v := ?v22a22) rfl (by kernel_rfl) (by kernel_rfl) (by kernel_rfl) (fun _ _ _ h => h) (Or.inl ⟨by rfl, ?hy22a22⟩) hH ?r22a22
     case hy22a22 => (intro W hSw; (try dsimp only at hSw); go_simp; try (with_reducible rfl))
     try simp only [Act.put, List.setIfInBounds_toArray, List.set_cons_zero, List.set_cons_succ]
     refine wpAnyH_done (by kernel_rfl) ?_ _
     refine NoPanic.normal ?_
     go_wp2_with fail
     go_meet
     case rel => exact ⟨rfl, KQ⟩
    case rest =>
     obtain ⟨rfl, k2⟩ := hcut
     rename World => W2
     have A2 : Hid (At W2 w1.heap.size (rng 48 57)) := A.out.kp k2
     have R2 : Hid (Rd W2 P s ere j n g d) := R.out.kp k2
     have K2 : Hid (Ks P w W2) := K.out.kpt k2 hP
     clear k2 A R K
     go_upto_region 3 with fail
     go_cut [2, 3] (fun v u wc => v = .int .i64 ((min (10 * m + (b - 48)) 21 : Nat) : Int) ∧ u = .bool true ∧ Kp W2 wc)
     case first =>
      have Q0 : Kp W2 W2.drew := (Kp.refl _).drew
      have MK : Hid (∀ W, Kp W2 W → W.cell? ⟨P, 0, none⟩ = some (.string s) ∧ W.cell? ⟨P, 2, none⟩ = some (.int .i64 (j : Int)) ∧ Hid (Kp W2 W)) := fun W k => ⟨(R2.out.kp k).cells.1, (R2.out.kp k).cells.2.2.1, k⟩
      refine wp_region_noPanic ?_
      refine wp_region_held_drew (S := (fun W => W.cell? ⟨P, 0, none⟩ = some (.string s) ∧ W.cell? ⟨P, 2, none⟩ = some (.int .i64 (j : Int)) ∧ Hid (Kp W2 W))) (by kernel_rfl) ?_ (fun hH => ?_)
      ·
       exact MK.out _ Q0
      have KQ := Q0
      refine wpAnyH_take (i := 0) (oi := { dst := some 29, op := Op.move (Operand.tmp 2), type := 3, pos := "parse.go:222", after := #[], guard := none }) (v := ?v0b1) rfl (by kernel_rfl) (by kernel_rfl) (by kernel_rfl) (fun _ _ _ h => h) (Or.inl ⟨by rfl, ?hy0b1⟩) hH ?r0b1
      case hy0b1 => (intro W hSw; (try dsimp only at hSw); go_simp; try (with_reducible rfl))
      try simp only [Act.put, List.setIfInBounds_toArray, List.set_cons_zero, List.set_cons_succ]
      refine wpAnyH_take (i := 1) (oi := { dst := some 30, op := Op.binOp BinOp.mul 3 (Operand.const (Value.int IntKind.i64 10)) (Operand.tmp 29) 3, type := 3, pos := "parse.go:222", after := _, guard := none }) (v := ?v1b2) rfl (by kernel_rfl) (by kernel_rfl) (by kernel_rfl) (fun _ _ _ h => h) (Or.inl ⟨by rfl, ?hy1b2⟩) hH ?r1b2
      case hy1b2 => (intro W hSw; (try dsimp only at hSw); go_simp; try (with_reducible rfl))
      try simp only [Act.put, List.setIfInBounds_toArray, List.set_cons_zero, List.set_cons_succ]
      refine wpAnyH_take (i := 2) (oi := { dst := some 31, op := Op.move (Operand.tmp 0), type := 77, pos := "parse.go:222", after := #[], guard := none }) (v := ?v2b3) rfl (by kernel_rfl) (by kernel_rfl) (by kernel_rfl) (fun _ _ _ h => h) (Or.inl ⟨by rfl, ?hy2b3⟩) hH ?r2b3
      case hy2b3 => (intro W hSw; (try dsimp only at hSw); go_simp; try (with_reducible rfl))
      try simp only [Act.put, List.setIfInBounds_toArray, List.set_cons_zero, List.set_cons_succ]
      refine wpAnyH_take (i := 3) (oi := { dst := some 32, op := Op.nilCheck (Operand.tmp 31), type := 0, pos := "parse.go:222", after := _, guard := none }) (v := ?v3b4) rfl (by kernel_rfl) (by kernel_rfl) (by kernel_rfl) (fun _ _ _ h => h) (Or.inl ⟨by rfl, ?hy3b4⟩) hH ?r3b4
      case hy3b4 => (intro W hSw; (try dsimp only at hSw); go_simp; try (with_reducible rfl))
      try simp only [Act.put, List.setIfInBounds_toArray, List.set_cons_zero, List.set_cons_succ]
      refine wpAnyH_take (i := 4) (oi := { dst := some 33, op := Op.fieldAddr 55 (Operand.tmp 32) 0, type := 0, pos := "parse.go:222", after := _, guard := none }) (v := ?v4b5) rfl (by kernel_rfl) (by kernel_rfl) (by kernel_rfl) (fun _ _ _ h => h) (Or.inl ⟨by rfl, ?hy4b5⟩) hH ?r4b5
      case hy4b5 => (intro W hSw; (try dsimp only at hSw); go_simp; try (with_reducible rfl))
      try simp only [Act.put, List.setIfInBounds_toArray, List.set_cons_zero, List.set_cons_succ]
      refine wpAnyH_take (i := 5) (oi := { dst := some 34, op := Op.load 9 (Operand.tmp 33), type := 9, pos := "parse.go:222", after := _, guard := none }) (v := ?v5b6) rfl (by kernel_rfl) (by kernel_rfl) (by kernel_rfl) (fun _ _ _ h => h) (Or.inl ⟨by rfl, ?hy5b6⟩) hH ?r5b6
      case hy5b6 => (intro W hSw; (try dsimp only at hSw); go_simp; try (with_reducible rfl))
      try simp only [Act.put, List.setIfInBounds_toArray, List.set_cons_zero, List.set_cons_succ]
      refine wpAnyH_take (i := 6) (oi := { dst := some 35, op := Op.move (Operand.tmp 0), type := 77, pos := "parse.go:222", after := #[], guard := none }) (v := ?v6b7) rfl (by kernel_rfl) (by kernel_rfl) (by kernel_rfl) (fun _ _ _ h => h) (Or.inl ⟨by rfl, ?hy6b7⟩) hH ?r6b7
      case hy6b7 => (intro W hSw; (try dsimp only at hSw); go_simp; try (with_reducible rfl))
      try simp only [Act.put, List.setIfInBounds_toArray, List.set_cons_zero, List.set_cons_succ]
      refine wpAnyH_take (i := 7) (oi := { dst := some 36, op := Op.nilCheck (Operand.tmp 35), type := 0, pos := "parse.go:222", after := _, guard := none }) (v := ?v7b8) rfl (by kernel_rfl) (by kernel_rfl) (by kernel_rfl) (fun _ _ _ h => h) (Or.inl ⟨by rfl, ?hy7b8⟩) hH ?r7b8
      case hy7b8 => (intro W hSw; (try dsimp only at hSw); go_simp; try (with_reducible rfl))
      try simp only [Act.put, List.setIfInBounds_toArray, List.set_cons_zero, List.set_cons_succ]
      refine wpAnyH_take (i := 8) (oi := { dst := some 37, op := Op.fieldAddr 55 (Operand.tmp 36) 2, type := 0, pos := "parse.go:222", after := _, guard := none }) (v := ?v8b9) rfl (by kernel_rfl) (by kernel_rfl) (by kernel_rfl) (fun _ _ _ h => h) (Or.inl ⟨by rfl, ?hy8b9⟩) hH ?r8b9
      case hy8b9 => (intro W hSw; (try dsimp only at hSw); go_simp; try (with_reducible rfl))
      try simp only [Act.put, List.setIfInBounds_toArray, List.set_cons_zero, List.set_cons_succ]
      refine wpAnyH_take (i := 9) (oi := { dst := some 38, op := Op.load 3 (Operand.tmp 37), type := 3, pos := "parse.go:222", after := _, guard := none }) (v := ?v9b10) rfl (by kernel_rfl) (by kernel_rfl) (by kernel_rfl) (fun _ _ _ h => h) (Or.inl ⟨by rfl, ?hy9b10⟩) hH ?r9b10
      case hy9b10 => (intro W hSw; (try dsimp only at hSw); go_simp; try (with_reducible rfl))
      try simp only [Act.put, List.setIfInBounds_toArray, List.set_cons_zero, List.set_cons_succ]
      refine wpAnyH_take (i := 10) (oi := { dst := some 39, op := Op.index 9 (Operand.tmp 34) (Operand.tmp 38), type := 5, pos := "parse.go:222", after := _, guard := none }) (v := ?v10b11) rfl (by kernel_rfl) (by kernel_rfl) (by kernel_rfl) (fun _ _ _ h => h) (Or.inl ⟨by rfl, ?hy10b11⟩) hH ?r10b11
      case hy10b11 => (intro W hSw; (try dsimp only at hSw); go_simp; try (with_reducible rfl))
      try simp only [Act.put, List.setIfInBounds_toArray, List.set_cons_zero, List.set_cons_succ]
      refine wpAnyH_take (i := 11) (oi := { dst := some 40, op := Op.binOp BinOp.sub 5 (Operand.tmp 39) (Operand.const (Value.int IntKind.u8 48)) 5, type := 5, pos := "parse.go:222", after := _, guard := none }) (v := ?v11b12) rfl (by kernel_rfl) (by kernel_rfl) (by kernel_rfl) (fun _ _ _ h => h) (Or.inl ⟨by rfl, ?hy11b12⟩) hH ?r11b12
      case hy11b12 => (intro W hSw; (try dsimp only at hSw); go_simp; try (with_reducible rfl))
      try simp only [Act.put, List.setIfInBounds_toArray, List.set_cons_zero, List.set_cons_succ]
      refine wpAnyH_take (i := 12) (oi := { dst := some 41, op := Op.convert 5 3 (Operand.tmp 40), type := 3, pos := "parse.go:222", after := _, guard := none }) (v := ?v12b13) rfl (by kernel_rfl) (by kernel_rfl) (by kernel_rfl) (fun _ _ _ h => h) (Or.inl ⟨by rfl, ?hy12b13⟩) hH ?r12b13
      case hy12b13 => (intro W hSw; (try dsimp only at hSw); go_simp; try (with_reducible rfl))
      try simp only [Act.put, List.setIfInBounds_toArray, List.set_cons_zero, List.set_cons_succ]
      refine wpAnyH_take (i := 13) (oi := { dst := some 42, op := Op.binOp BinOp.add 3 (Operand.tmp 30) (Operand.tmp 41) 3, type := 3, pos := "parse.go:222", after := _, guard := none }) (v := ?v13b14) rfl (by kernel_rfl) (by kernel_rfl) (by kernel_rfl) (fun _ _ _ h => h) (Or.inl ⟨by rfl, ?hy13b14⟩) hH ?r13b14
      case hy13b14 => (intro W hSw; (try dsimp only at hSw); go_simp; try (with_reducible rfl))
      try simp only [Act.put, List.setIfInBounds_toArray, List.set_cons_zero, List.set_cons_succ]
      refine wpAnyH_take (i := 14) (oi := { dst := some 43, op := Op.call { callee := Callee.builtin Builtin.min, args := #[Operand.tmp 42, Operand.const (Value.int IntKind.i64 21)], argTypes := #[3, 3] }, type := 3, pos := "parse.go:222", after := _, guard := none }) (v := ?v14b15) rfl (by kernel_rfl) (by kernel_rfl) (by kernel_rfl) (fun _ _ _ h => h) (Or.inl ⟨by rfl, ?hy14b15⟩) hH ?r14b15
      case hy14b15 => (intro W hSw; (try dsimp only at hSw); go_simp; try (with_reducible rfl))
      try simp only [Act.put, List.setIfInBounds_toArray, List.set_cons_zero, List.set_cons_succ]
      refine wpAnyH_take (i := 15) (oi := { dst := some 2, op := Op.assign (Operand.tmp 43), type := 3, pos := "parse.go:222", after := _, guard := none }) (v := ?v15b16) rfl (by kernel_rfl) (by kernel_rfl) (by kernel_rfl) (fun _ _ _ h => h) (Or.inl ⟨by rfl, ?hy15b16⟩) hH ?r15b16
      case hy15b16 => (intro W hSw; (try dsimp only at hSw); go_simp; try (with_reducible rfl))
      try simp only [Act.put, List.setIfInBounds_toArray, List.set_cons_zero, List.set_cons_succ]
      refine wpAnyH_take (i := 16) (oi := { dst := some 3, op := Op.assign (Operand.const (Value.bool true)), type := 4, pos := "parse.go:222", after := _, guard := none }) (v := ?v16b17) rfl (by kernel_rfl) (by kernel_rfl) (by kernel_rfl) (fun _ _ _ h => h) (Or.inl ⟨by rfl, ?hy16b17⟩) hH ?r16b17
      case hy16b17 => (intro W hSw; (try dsimp only at hSw); go_simp; try (with_reducible rfl))
      try simp only [Act.put, List.setIfInBounds_toArray, List.set_cons_zero, List.set_cons_succ]
      refine wpAnyH_done (by kernel_rfl) ?_ _
      refine NoPanic.normal ?_
      go_wp2_with fail
      go_meet
      case rel => exact ⟨by congr 1; omega, rfl, KQ⟩
     case rest =>
      obtain ⟨rfl, rfl, k3⟩ := hcut
      rename World => W3
      have A3 : Hid (At W3 w1.heap.size (rng 48 57)) := A2.out.kp k3
      have R3 : Hid (Rd W3 P s ere j n g d) := R2.out.kp k3
      have K3 : Hid (Ks P w W3) := K2.out.kpt k3 hP
      clear k3 A2 R2 K2
      have p2 := R3.out.cells.2.2.1
      have fp2 := bl_frozen R3.out.b 2
      go_wp2_with fail
      go_roundg k
      case measure => omega
      case rel => exact ⟨_, true, j + 1, rfl, rfl, by omega, by omega, by omega, E.out, bl_set A3.out (by omega) _, R3.out.at (j + 1), K3.out.set 2 _⟩
   ·
    have hd2 : rng 48 57 b = false := by simpa using hd
    have HD := hid hd2
    clear hd2
    clear hd
    have E : Hid (pNum s i = (m, ok, j)) := by
     have := HP.out
     unfold pNumL at this
     rw [HB.out, HD.out, decide_eq_true hlt] at this
     exact this.symm
    go_upto_region 2 with fail
    go_cut [28] (fun v wc => v = .bool false ∧ Kp wr wc)
    case first =>
     have Q0 : Kp wr wr.drew := (Kp.refl _).drew
     have MK : Hid (∀ W, Kp wr W → W.cell? ⟨P, 0, none⟩ = some (.string s) ∧ W.cell? ⟨P, 2, none⟩ = some (.int .i64 (j : Int)) ∧ W.cell? ⟨w1.heap.size, 0, none⟩ = some (.int .u64 (wd (rng 48 57) 0 : Nat)) ∧ W.cell? ⟨w1.heap.size, 1, none⟩ = some (.int .u64 (wd (rng 48 57) 1 : Nat)) ∧ W.cell? ⟨w1.heap.size, 2, none⟩ = some (.int .u64 (wd (rng 48 57) 2 : Nat)) ∧ W.cell? ⟨w1.heap.size, 3, none⟩ = some (.int .u64 (wd (rng 48 57) 3 : Nat)) ∧ Hid (Kp wr W)) := fun W k => ⟨(R.out.kp k).cells.1, (R.out.kp k).cells.2.2.1, (A.out.kp k).cells.1, (A.out.kp k).cells.2.1, (A.out.kp k).cells.2.2.1, (A.out.kp k).cells.2.2.2, k⟩
     refine wp_region_noPanic ?_
     refine wp_region_held_drew (S := (fun W => W.cell? ⟨P, 0, none⟩ = some (.string s) ∧ W.cell? ⟨P, 2, none⟩ = some (.int .i64 (j : Int)) ∧ W.cell? ⟨w1.heap.size, 0, none⟩ = some (.int .u64 (wd (rng 48 57) 0 : Nat)) ∧ W.cell? ⟨w1.heap.size, 1, none⟩ = some (.int .u64 (wd (rng 48 57) 1 : Nat)) ∧ W.cell? ⟨w1.heap.size, 2, none⟩ = some (.int .u64 (wd (rng 48 57) 2 : Nat)) ∧ W.cell? ⟨w1.heap.size, 3, none⟩ = some (.int .u64 (wd (rng 48 57) 3 : Nat)) ∧ Hid (Kp wr W))) (by kernel_rfl) ?_ (fun hH => ?_)
     ·
      exact MK.out _ Q0
     have KQ := Q0
     refine wpAnyH_take (i := 0) (oi := { dst := some 6, op := Op.move (Operand.tmp 0), type := 77, pos := "parse.go:221", after := #[], guard := none }) (v := ?v0c1) rfl (by kernel_rfl) (by kernel_rfl) (by kernel_rfl) (fun _ _ _ h => h) (Or.inl ⟨by rfl, ?hy0c1⟩) hH ?r0c1
     case hy0c1 => (intro W hSw; (try dsimp only at hSw); go_simp; try (with_reducible rfl))
     try simp only [Act.put, List.setIfInBounds_toArray, List.set_cons_zero, List.set_cons_succ]
     refine wpAnyH_take (i := 1) (oi := { dst := some 7, op := Op.nilCheck (Operand.tmp 6), type := 0, pos := "parse.go:221", after := _, guard := none }) (v := ?v1c2) rfl (by kernel_rfl) (by kernel_rfl) (by kernel_rfl) (fun _ _ _ h => h) (Or.inl ⟨by rfl, ?hy1c2⟩) hH ?r1c2
     case hy1c2 => (intro W hSw; (try dsimp only at hSw); go_simp; try (with_reducible rfl))
     try simp only [Act.put, List.setIfInBounds_toArray, List.set_cons_zero, List.set_cons_succ]
     refine wpAnyH_take (i := 2) (oi := { dst := some 8, op := Op.fieldAddr 55 (Operand.tmp 7) 2, type := 0, pos := "parse.go:221", after := _, guard := none }) (v := ?v2c3) rfl (by kernel_rfl) (by kernel_rfl) (by kernel_rfl) (fun _ _ _ h => h) (Or.inl ⟨by rfl, ?hy2c3⟩) hH ?r2c3
     case hy2c3 => (intro W hSw; (try dsimp only at hSw); go_simp; try (with_reducible rfl))
     try simp only [Act.put, List.setIfInBounds_toArray, List.set_cons_zero, List.set_cons_succ]
     refine wpAnyH_take (i := 3) (oi := { dst := some 9, op := Op.load 3 (Operand.tmp 8), type := 3, pos := "parse.go:221", after := _, guard := none }) (v := ?v3c4) rfl (by kernel_rfl) (by kernel_rfl) (by kernel_rfl) (fun _ _ _ h => h) (Or.inl ⟨by rfl, ?hy3c4⟩) hH ?r3c4
     case hy3c4 => (intro W hSw; (try dsimp only at hSw); go_simp; try (with_reducible rfl))
     try simp only [Act.put, List.setIfInBounds_toArray, List.set_cons_zero, List.set_cons_succ]
     refine wpAnyH_take (i := 4) (oi := { dst := some 10, op := Op.move (Operand.tmp 0), type := 77, pos := "parse.go:221", after := #[], guard := none }) (v := ?v4c5) rfl (by kernel_rfl) (by kernel_rfl) (by kernel_rfl) (fun _ _ _ h => h) (Or.inl ⟨by rfl, ?hy4c5⟩) hH ?r4c5
     case hy4c5 => (intro W hSw; (try dsimp only at hSw); go_simp; try (with_reducible rfl))
     try simp only [Act.put, List.setIfInBounds_toArray, List.set_cons_zero, List.set_cons_succ]
     refine wpAnyH_take (i := 5) (oi := { dst := some 11, op := Op.nilCheck (Operand.tmp 10), type := 0, pos := "parse.go:221", after := _, guard := none }) (v := ?v5c6) rfl (by kernel_rfl) (by kernel_rfl) (by kernel_rfl) (fun _ _ _ h => h) (Or.inl ⟨by rfl, ?hy5c6⟩) hH ?r5c6
     case hy5c6 => (intro W hSw; (try dsimp only at hSw); go_simp; try (with_reducible rfl))
     try simp only [Act.put, List.setIfInBounds_toArray, List.set_cons_zero, List.set_cons_succ]
     refine wpAnyH_take (i := 6) (oi := { dst := some 12, op := Op.fieldAddr 55 (Operand.tmp 11) 0, type := 0, pos := "parse.go:221", after := _, guard := none }) (v := ?v6c7) rfl (by kernel_rfl) (by kernel_rfl) (by kernel_rfl) (fun _ _ _ h => h) (Or.inl ⟨by rfl, ?hy6c7⟩) hH ?r6c7
     case hy6c7 => (intro W hSw; (try dsimp only at hSw); go_simp; try (with_reducible rfl))
     try simp only [Act.put, List.setIfInBounds_toArray, List.set_cons_zero, List.set_cons_succ]
     refine wpAnyH_take (i := 7) (oi := { dst := some 13, op := Op.load 9 (Operand.tmp 12), type := 9, pos := "parse.go:221", after := _, guard := none }) (v := ?v7c8) rfl (by kernel_rfl) (by kernel_rfl) (by kernel_rfl) (fun _ _ _ h => h) (Or.inl ⟨by rfl, ?hy7c8⟩) hH ?r7c8
     case hy7c8 => (intro W hSw; (try dsimp only at hSw); go_simp; try (with_reducible rfl))
     try simp only [Act.put, List.setIfInBounds_toArray, List.set_cons_zero, List.set_cons_succ]
     refine wpAnyH_take (i := 8) (oi := { dst := some 14, op := Op.call { callee := Callee.builtin Builtin.len, args := #[Operand.tmp 13], argTypes := #[9] }, type := 3, pos := "parse.go:221", after := _, guard := none }) (v := ?v8c9) rfl (by kernel_rfl) (by kernel_rfl) (by kernel_rfl) (fun _ _ _ h => h) (Or.inl ⟨by rfl, ?hy8c9⟩) hH ?r8c9
     case hy8c9 => (intro W hSw; (try dsimp only at hSw); go_simp; try (with_reducible rfl))
     try simp only [Act.put, List.setIfInBounds_toArray, List.set_cons_zero, List.set_cons_succ]
     refine wpAnyH_take (i := 9) (oi := { dst := some 15, op := Op.binOp BinOp.lss 3 (Operand.tmp 9) (Operand.tmp 14) 3, type := 4, pos := "parse.go:221", after := _, guard := none }) (v := ?v9c10) rfl (by kernel_rfl) (by kernel_rfl) (by kernel_rfl) (fun _ _ _ h => h) (Or.inl ⟨by rfl, ?hy9c10⟩) hH ?r9c10
     case hy9c10 => (intro W hSw; (try dsimp only at hSw); go_simp; try (with_reducible rfl))
     try simp only [Act.put, List.setIfInBounds_toArray, List.set_cons_zero, List.set_cons_succ]
     refine wpAnyH_take (i := 10) (oi := { dst := some 16, op := Op.move (Operand.tmp 15), type := 4, pos := "parse.go:221", after := _, guard := none }) (v := ?v10c11) rfl (by kernel_rfl) (by kernel_rfl) (by kernel_rfl) (fun _ _ _ h => h) (Or.inl ⟨by rfl, ?hy10c11⟩) hH ?r10c11
     case hy10c11 => (intro W hSw; (try dsimp only at hSw); go_simp; try (with_reducible rfl))
     try simp only [Act.put, List.setIfInBounds_toArray, List.set_cons_zero, List.set_cons_succ]
     refine wpAnyH_take (i := 11) (oi := { dst := some 17, op := Op.load 24 (Operand.tmp 4), type := 24, pos := "parse.go:221", after := _, guard := some (10, true) }) (v := ?v11c12) rfl (by kernel_rfl) (by kernel_rfl) (by kernel_rfl) (fun _ _ _ h => h) (Or.inl ⟨by rfl, ?hy11c12⟩) hH ?r11c12
     case hy11c12 => (intro W hSw; (try dsimp only at hSw); go_simp; try (with_reducible rfl))
     try simp only [Act.put, List.setIfInBounds_toArray, List.set_cons_zero, List.set_cons_succ]
     refine wpAnyH_take (i := 12) (oi := { dst := some 18, op := Op.move (Operand.tmp 0), type := 77, pos := "parse.go:221", after := _, guard := some (10, true) }) (v := ?v12c13) rfl (by kernel_rfl) (by kernel_rfl) (by kernel_rfl) (fun _ _ _ h => h) (Or.inl ⟨by rfl, ?hy12c13⟩) hH ?r12c13
     case hy12c13 => (intro W hSw; (try dsimp only at hSw); go_simp; try (with_reducible rfl))
     try simp only [Act.put, List.setIfInBounds_toArray, List.set_cons_zero, List.set_cons_succ]
     refine wpAnyH_take (i := 13) (oi := { dst := some 19, op := Op.nilCheck (Operand.tmp 18), type := 0, pos := "parse.go:221", after := _, guard := some (10, true) }) (v := ?v13c14) rfl (by kernel_rfl) (by kernel_rfl) (by kernel_rfl) (fun _ _ _ h => h) (Or.inl ⟨by rfl, ?hy13c14⟩) hH ?r13c14
     case hy13c14 => (intro W hSw; (try dsimp only at hSw); go_simp; try (with_reducible rfl))
     try simp only [Act.put, List.setIfInBounds_toArray, List.set_cons_zero, List.set_cons_succ]
     refine wpAnyH_take (i := 14) (oi := { dst := some 20, op := Op.fieldAddr 55 (Operand.tmp 19) 0, type := 0, pos := "parse.go:221", after := _, guard := some (10, true) }) (v := ?v14c15) rfl (by kernel_rfl) (by kernel_rfl) (by kernel_rfl) (fun _ _ _ h => h) (Or.inl ⟨by rfl, ?hy14c15⟩) hH ?r14c15
     case hy14c15 => (intro W hSw; (try dsimp only at hSw); go_simp; try (with_reducible rfl))
     try simp only [Act.put, List.setIfInBounds_toArray, List.set_cons_zero, List.set_cons_succ]
     refine wpAnyH_take (i := 15) (oi := { dst := some 21, op := Op.load 9 (Operand.tmp 20), type := 9, pos := "parse.go:221", after := _, guard := some (10, true) }) (v := ?v15c16) rfl (by kernel_rfl) (by kernel_rfl) (by kernel_rfl) (fun _ _ _ h => h) (Or.inl ⟨by rfl, ?hy15c16⟩) hH ?r15c16
     case hy15c16 => (intro W hSw; (try dsimp only at hSw); go_simp; try (with_reducible rfl))
     try simp only [Act.put, List.setIfInBounds_toArray, List.set_cons_zero, List.set_cons_succ]
     refine wpAnyH_take (i := 16) (oi := { dst := some 22, op := Op.move (Operand.tmp 0), type := 77, pos := "parse.go:221", after := _, guard := some (10, true) }) (v := ?v16c17) rfl (by kernel_rfl) (by kernel_rfl) (by kernel_rfl) (fun _ _ _ h => h) (Or.inl ⟨by rfl, ?hy16c17⟩) hH ?r16c17
     case hy16c17 => (intro W hSw; (try dsimp only at hSw); go_simp; try (with_reducible rfl))
     try simp only [Act.put, List.setIfInBounds_toArray, List.set_cons_zero, List.set_cons_succ]
     refine wpAnyH_take (i := 17) (oi := { dst := some 23, op := Op.nilCheck (Operand.tmp 22), type := 0, pos := "parse.go:221", after := _, guard := some (10, true) }) (v := ?v17c18) rfl (by kernel_rfl) (by kernel_rfl) (by kernel_rfl) (fun _ _ _ h => h) (Or.inl ⟨by rfl, ?hy17c18⟩) hH ?r17c18
     case hy17c18 => (intro W hSw; (try dsimp only at hSw); go_simp; try (with_reducible rfl))
     try simp only [Act.put, List.setIfInBounds_toArray, List.set_cons_zero, List.set_cons_succ]
     refine wpAnyH_take (i := 18) (oi := { dst := some 24, op := Op.fieldAddr 55 (Operand.tmp 23) 2, type := 0, pos := "parse.go:221", after := _, guard := some (10, true) }) (v := ?v18c19) rfl (by kernel_rfl) (by kernel_rfl) (by kernel_rfl) (fun _ _ _ h => h) (Or.inl ⟨by rfl, ?hy18c19⟩) hH ?r18c19
     case hy18c19 => (intro W hSw; (try dsimp only at hSw); go_simp; try (with_reducible rfl))
     try simp only [Act.put, List.setIfInBounds_toArray, List.set_cons_zero, List.set_cons_succ]
     refine wpAnyH_take (i := 19) (oi := { dst := some 25, op := Op.load 3 (Operand.tmp 24), type := 3, pos := "parse.go:221", after := _, guard := some (10, true) }) (v := ?v19c20) rfl (by kernel_rfl) (by kernel_rfl) (by kernel_rfl) (fun _ _ _ h => h) (Or.inl ⟨by rfl, ?hy19c20⟩) hH ?r19c20
     case hy19c20 => (intro W hSw; (try dsimp only at hSw); go_simp; try (with_reducible rfl))
     try simp only [Act.put, List.setIfInBounds_toArray, List.set_cons_zero, List.set_cons_succ]
     refine wpAnyH_take (i := 20) (oi := { dst := some 26, op := Op.index 9 (Operand.tmp 21) (Operand.tmp 25), type := 5, pos := "parse.go:221", after := _, guard := some (10, true) }) (v := ?v20c21) rfl (by kernel_rfl) (by kernel_rfl) (by kernel_rfl) (fun _ _ _ h => h) (Or.inl ⟨by rfl, ?hy20c21⟩) hH ?r20c21
     case hy20c21 => (intro W hSw; (try dsimp only at hSw); go_simp; try (with_reducible rfl))
     try simp only [Act.put, List.setIfInBounds_toArray, List.set_cons_zero, List.set_cons_succ]
     refine wpAnyH_ready (rs := [21]) (by kernel_rfl) (by simp) ?_
     refine AllReadyH.cons (o := { dst := some 27, op := Op.call { callee := Callee.value (Operand.func 72), args := #[Operand.tmp 17, Operand.tmp 26], argTypes := #[24, 5] }, type := 4, pos := "parse.go:221", after := _, guard := some (10, true) }) rfl (fun K hKq => ?_) AllReadyH.nil
     go_simp
     refine (has_any (rng 48 57) b _ hb256).mono ?_
     rintro e y1 ⟨rfl, kq⟩
     rw [HD.out]
     refine hKq.out _ _ (MK.out _ (KQ.trans kq)) (fun hN => ?_)
     clear kq
     clear hKq K hH KQ
     have hH := hN
     clear hN
     have KQ := hH.2.2.2.2.2.2.out
     try simp only [Act.put, List.setIfInBounds_toArray, List.set_cons_zero, List.set_cons_succ]
     refine wpAnyH_take (i := 22) (oi := { dst := some 28, op := Op.pick (Operand.tmp 16) (Operand.tmp 27) (Operand.const (Value.bool false)), type := 4, pos := "parse.go:221", after := _, guard := none }) (v := ?v22c22) rfl (by kernel_rfl) (by kernel_rfl) (by kernel_rfl) (fun _ _ _ h => h) (Or.inl ⟨by rfl, ?hy22c22⟩) hH ?r22c22
     case hy22c22 => (intro W hSw; (try dsimp only at hSw); go_simp; try (with_reducible rfl))
     try simp only [Act.put, List.setIfInBounds_toArray, List.set_cons_zero, List.set_cons_succ]
     refine wpAnyH_done (by kernel_rfl) ?_ _
     refine NoPanic.normal ?_
     go_wp2_with fail
     go_meet
     case rel => exact ⟨rfl, KQ⟩
    case rest =>
     obtain ⟨rfl, k2⟩ := hcut
     rename World => W2
     have R2 : Hid (Rd W2 P s ere j n g d) := R.out.kp k2
     have K2 : Hid (Ks P w W2) := K.out.kpt k2 hP
     clear k2 A R K
     go_wp2_with fail
     go_ret2
     exact ⟨by rw [E.out]; rfl, by rw [E.out]; exact R2.out, K2.out⟩
  ·
   have hli : ¬ (j : Int) < (s.size : Int) := by omega
   have E : Hid (pNum s i = (m, ok, j)) := by
    have := HP.out
    unfold pNumL at this
    rw [decide_eq_false hlt] at this
    exact this.symm
   go_upto_region 2 with fail
   go_cut [28] (fun v wc => v = .bool false ∧ Kp wr wc)
   case first =>
    have Q0 : Kp wr wr.drew := (Kp.refl _).drew
    have MK : Hid (∀ W, Kp wr W → W.cell? ⟨P, 0, none⟩ = some (.string s) ∧ W.cell? ⟨P, 2, none⟩ = some (.int .i64 (j : Int)) ∧ W.cell? ⟨w1.heap.size, 0, none⟩ = some (.int .u64 (wd (rng 48 57) 0 : Nat)) ∧ W.cell? ⟨w1.heap.size, 1, none⟩ = some (.int .u64 (wd (rng 48 57) 1 : Nat)) ∧ W.cell? ⟨w1.heap.size, 2, none⟩ = some (.int .u64 (wd (rng 48 57) 2 : Nat)) ∧ W.cell? ⟨w1.heap.size, 3, none⟩ = some (.int .u64 (wd (rng 48 57) 3 : Nat)) ∧ Hid (Kp wr W)) := fun W k => ⟨(R.out.kp k).cells.1, (R.out.kp k).cells.2.2.1, (A.out.kp k).cells.1, (A.out.kp k).cells.2.1, (A.out.kp k).cells.2.2.1, (A.out.kp k).cells.2.2.2, k⟩
    refine wp_region_noPanic ?_
    refine wp_region_held_drew (S := (fun W => W.cell? ⟨P, 0, none⟩ = some (.string s) ∧ W.cell? ⟨P, 2, none⟩ = some (.int .i64 (j : Int)) ∧ W.cell? ⟨w1.heap.size, 0, none⟩ = some (.int .u64 (wd (rng 48 57) 0 : Nat)) ∧ W.cell? ⟨w1.heap.size, 1, none⟩ = some (.int .u64 (wd (rng 48 57) 1 : Nat)) ∧ W.cell? ⟨w1.heap.size, 2, none⟩ = some (.int .u64 (wd (rng 48 57) 2 : Nat)) ∧ W.cell? ⟨w1.heap.size, 3, none⟩ = some (.int .u64 (wd (rng 48 57) 3 : Nat)) ∧ Hid (Kp wr W))) (by kernel_rfl) ?_ (fun hH => ?_)
    ·
     exact MK.out _ Q0
    have KQ := Q0
    refine wpAnyH_take (i := 0) (oi := { dst := some 6, op := Op.move (Operand.tmp 0), type := 77, pos := "parse.go:221", after := #[], guard := none }) (v := ?v0d1) rfl (by kernel_rfl) (by kernel_rfl) (by kernel_rfl) (fun _ _ _ h => h) (Or.inl ⟨by rfl, ?hy0d1⟩) hH ?r0d1
    case hy0d1 => (intro W hSw; (try dsimp only at hSw); go_simp; try (with_reducible rfl))
    try simp only [Act.put, List.setIfInBounds_toArray, List.set_cons_zero, List.set_cons_succ]
    refine wpAnyH_take (i := 1) (oi := { dst := some 7, op := Op.nilCheck (Operand.tmp 6), type := 0, pos := "parse.go:221", after := _, guard := none }) (v := ?v1d2) rfl (by kernel_rfl) (by kernel_rfl) (by kernel_rfl) (fun _ _ _ h => h) (Or.inl ⟨by rfl, ?hy1d2⟩) hH ?r1d2
    case hy1d2 => (intro W hSw; (try dsimp only at hSw); go_simp; try (with_reducible rfl))
    try simp only [Act.put, List.setIfInBounds_toArray, List.set_cons_zero, List.set_cons_succ]
    refine wpAnyH_take (i := 2) (oi := { dst := some 8, op := Op.fieldAddr 55 (Operand.tmp 7) 2, type := 0, pos := "parse.go:221", after := _, guard := none }) (v := ?v2d3) rfl (by kernel_rfl) (by kernel_rfl) (by kernel_rfl) (fun _ _ _ h => h) (Or.inl ⟨by rfl, ?hy2d3⟩) hH ?r2d3
    case hy2d3 => (intro W hSw; (try dsimp only at hSw); go_simp; try (with_reducible rfl))
    try simp only [Act.put, List.setIfInBounds_toArray, List.set_cons_zero, List.set_cons_succ]
    refine wpAnyH_take (i := 3) (oi := { dst := some 9, op := Op.load 3 (Operand.tmp 8), type := 3, pos := "parse.go:221", after := _, guard := none }) (v := ?v3d4) rfl (by kernel_rfl) (by kernel_rfl) (by kernel_rfl) (fun _ _ _ h => h) (Or.inl ⟨by rfl, ?hy3d4⟩) hH ?r3d4
    case hy3d4 => (intro W hSw; (try dsimp only at hSw); go_simp; try (with_reducible rfl))
    try simp only [Act.put, List.setIfInBounds_toArray, List.set_cons_zero, List.set_cons_succ]
    refine wpAnyH_take (i := 4) (oi := { dst := some 10, op := Op.move (Operand.tmp 0), type := 77, pos := "parse.go:221", after := #[], guard := none }) (v := ?v4d5) rfl (by kernel_rfl) (by kernel_rfl) (by kernel_rfl) (fun _ _ _ h => h) (Or.inl ⟨by rfl, ?hy4d5⟩) hH ?r4d5
    case hy4d5 => (intro W hSw; (try dsimp only at hSw); go_simp; try (with_reducible rfl))
    try simp only [Act.put, List.setIfInBounds_toArray, List.set_cons_zero, List.set_cons_succ]
    refine wpAnyH_take (i := 5) (oi := { dst := some 11, op := Op.nilCheck (Operand.tmp 10), type := 0, pos := "parse.go:221", after := _, guard := none }) (v := ?v5d6) rfl (by kernel_rfl) (by kernel_rfl) (by kernel_rfl) (fun _ _ _ h => h) (Or.inl ⟨by rfl, ?hy5d6⟩) hH ?r5d6
    case hy5d6 => (intro W hSw; (try dsimp only at hSw); go_simp; try (with_reducible rfl))
    try simp only [Act.put, List.setIfInBounds_toArray, List.set_cons_zero, List.set_cons_succ]
    refine wpAnyH_take (i := 6) (oi := { dst := some 12, op := Op.fieldAddr 55 (Operand.tmp 11) 0, type := 0, pos := "parse.go:221", after := _, guard := none }) (v := ?v6d7) rfl (by kernel_rfl) (by kernel_rfl) (by kernel_rfl) (fun _ _ _ h => h) (Or.inl ⟨by rfl, ?hy6d7⟩) hH ?r6d7
    case hy6d7 => (intro W hSw; (try dsimp only at hSw); go_simp; try (with_reducible rfl))
    try simp only [Act.put, List.setIfInBounds_toArray, List.set_cons_zero, List.set_cons_succ]
    refine wpAnyH_take (i := 7) (oi := { dst := some 13, op := Op.load 9 (Operand.tmp 12), type := 9, pos := "parse.go:221", after := _, guard := none }) (v := ?v7d8) rfl (by kernel_rfl) (by kernel_rfl) (by kernel_rfl) (fun _ _ _ h => h) (Or.inl ⟨by rfl, ?hy7d8⟩) hH ?r7d8
    case hy7d8 => (intro W hSw; (try dsimp only at hSw); go_simp; try (with_reducible rfl))
    try simp only [Act.put, List.setIfInBounds_toArray, List.set_cons_zero, List.set_cons_succ]
    refine wpAnyH_take (i := 8) (oi := { dst := some 14, op := Op.call { callee := Callee.builtin Builtin.len, args := #[Operand.tmp 13], argTypes := #[9] }, type := 3, pos := "parse.go:221", after := _, guard := none }) (v := ?v8d9) rfl (by kernel_rfl) (by kernel_rfl) (by kernel_rfl) (fun _ _ _ h => h) (Or.inl ⟨by rfl, ?hy8d9⟩) hH ?r8d9
    case hy8d9 => (intro W hSw; (try dsimp only at hSw); go_simp; try (with_reducible rfl))
    try simp only [Act.put, List.setIfInBounds_toArray, List.set_cons_zero, List.set_cons_succ]
    refine wpAnyH_take (i := 9) (oi := { dst := some 15, op := Op.binOp BinOp.lss 3 (Operand.tmp 9) (Operand.tmp 14) 3, type := 4, pos := "parse.go:221", after := _, guard := none }) (v := ?v9d10) rfl (by kernel_rfl) (by kernel_rfl) (by kernel_rfl) (fun _ _ _ h => h) (Or.inl ⟨by rfl, ?hy9d10⟩) hH ?r9d10
    case hy9d10 => (intro W hSw; (try dsimp only at hSw); go_simp; try (with_reducible rfl))
    try simp only [Act.put, List.setIfInBounds_toArray, List.set_cons_zero, List.set_cons_succ]
    refine wpAnyH_take (i := 10) (oi := { dst := some 16, op := Op.move (Operand.tmp 15), type := 4, pos := "parse.go:221", after := _, guard := none }) (v := ?v10d11) rfl (by kernel_rfl) (by kernel_rfl) (by kernel_rfl) (fun _ _ _ h => h) (Or.inl ⟨by rfl, ?hy10d11⟩) hH ?r10d11
    case hy10d11 => (intro W hSw; (try dsimp only at hSw); go_simp; try (with_reducible rfl))
    try simp only [Act.put, List.setIfInBounds_toArray, List.set_cons_zero, List.set_cons_succ]
    refine wpAnyH_take (i := 11) (oi := { dst := some 17, op := Op.load 24 (Operand.tmp 4), type := 24, pos := "parse.go:221", after := _, guard := some (10, true) }) (v := undef) rfl (by kernel_rfl) (by kernel_rfl) (by kernel_rfl) (fun _ _ _ h => h) (Or.inr ⟨by rfl, rfl⟩) hH ?r11d12
    try simp only [Act.put, List.setIfInBounds_toArray, List.set_cons_zero, List.set_cons_succ]
    refine wpAnyH_take (i := 12) (oi := { dst := some 18, op := Op.move (Operand.tmp 0), type := 77, pos := "parse.go:221", after := _, guard := some (10, true) }) (v := undef) rfl (by kernel_rfl) (by kernel_rfl) (by kernel_rfl) (fun _ _ _ h => h) (Or.inr ⟨by rfl, rfl⟩) hH ?r12d13
    try simp only [Act.put, List.setIfInBounds_toArray, List.set_cons_zero, List.set_cons_succ]
    refine wpAnyH_take (i := 13) (oi := { dst := some 19, op := Op.nilCheck (Operand.tmp 18), type := 0, pos := "parse.go:221", after := _, guard := some (10, true) }) (v := undef) rfl (by kernel_rfl) (by kernel_rfl) (by kernel_rfl) (fun _ _ _ h => h) (Or.inr ⟨by rfl, rfl⟩) hH ?r13d14
    try simp only [Act.put, List.setIfInBounds_toArray, List.set_cons_zero, List.set_cons_succ]
    refine wpAnyH_take (i := 14) (oi := { dst := some 20, op := Op.fieldAddr 55 (Operand.tmp 19) 0, type := 0, pos := "parse.go:221", after := _, guard := some (10, true) }) (v := undef) rfl (by kernel_rfl) (by kernel_rfl) (by kernel_rfl) (fun _ _ _ h => h) (Or.inr ⟨by rfl, rfl⟩) hH ?r14d15
    try simp only [Act.put, List.setIfInBounds_toArray, List.set_cons_zero, List.set_cons_succ]
    refine wpAnyH_take (i := 15) (oi := { dst := some 21, op := Op.load 9 (Operand.tmp 20), type := 9, pos := "parse.go:221", after := _, guard := some (10, true) }) (v := undef) rfl (by kernel_rfl) (by kernel_rfl) (by kernel_rfl) (fun _ _ _ h => h) (Or.inr ⟨by rfl, rfl⟩) hH ?r15d16
    try simp only [Act.put, List.setIfInBounds_toArray, List.set_cons_zero, List.set_cons_succ]
    refine wpAnyH_take (i := 16) (oi := { dst := some 22, op := Op.move (Operand.tmp 0), type := 77, pos := "parse.go:221", after := _, guard := some (10, true) }) (v := undef) rfl (by kernel_rfl) (by kernel_rfl) (by kernel_rfl) (fun _ _ _ h => h) (Or.inr ⟨by rfl, rfl⟩) hH ?r16d17
    try simp only [Act.put, List.setIfInBounds_toArray, List.set_cons_zero, List.set_cons_succ]
    refine wpAnyH_take (i := 17) (oi := { dst := some 23, op := Op.nilCheck (Operand.tmp 22), type := 0, pos := "parse.go:221", after := _, guard := some (10, true) }) (v := undef) rfl (by kernel_rfl) (by kernel_rfl) (by kernel_rfl) (fun _ _ _ h => h) (Or.inr ⟨by rfl, rfl⟩) hH ?r17d18
    try simp only [Act.put, List.setIfInBounds_toArray, List.set_cons_zero, List.set_cons_succ]
    refine wpAnyH_take (i := 18) (oi := { dst := some 24, op := Op.fieldAddr 55 (Operand.tmp 23) 2, type := 0, pos := "parse.go:221", after := _, guard := some (10, true) }) (v := undef) rfl (by kernel_rfl) (by kernel_rfl) (by kernel_rfl) (fun _ _ _ h => h) (Or.inr ⟨by rfl, rfl⟩) hH ?r18d19
    try simp only [Act.put, List.setIfInBounds_toArray, List.set_cons_zero, List.set_cons_succ]
    refine wpAnyH_take (i := 19) (oi := { dst := some 25, op := Op.load 3 (Operand.tmp 24), type := 3, pos := "parse.go:221", after := _, guard := some (10, true) }) (v := undef) rfl (by kernel_rfl) (by kernel_rfl) (by kernel_rfl) (fun _ _ _ h => h) (Or.inr ⟨by rfl, rfl⟩) hH ?r19d20
    try simp only [Act.put, List.setIfInBounds_toArray, List.set_cons_zero, List.set_cons_succ]
    refine wpAnyH_take (i := 20) (oi := { dst := some 26, op := Op.index 9 (Operand.tmp 21) (Operand.tmp 25), type := 5, pos := "parse.go:221", after := _, guard := some (10, true) }) (v := undef) rfl (by kernel_rfl) (by kernel_rfl) (by kernel_rfl) (fun _ _ _ h => h) (Or.inr ⟨by rfl, rfl⟩) hH ?r20d21
    try simp only [Act.put, List.setIfInBounds_toArray, List.set_cons_zero, List.set_cons_succ]
    refine wpAnyH_take (i := 21) (oi := { dst := some 27, op := Op.call { callee := Callee.value (Operand.func 72), args := #[Operand.tmp 17, Operand.tmp 26], argTypes := #[24, 5] }, type := 4, pos := "parse.go:221", after := _, guard := some (10, true) }) (v := undef) rfl (by kernel_rfl) (by kernel_rfl) (by kernel_rfl) (fun _ _ _ h => h) (Or.inr ⟨by rfl, rfl⟩) hH ?r21d22
    try simp only [Act.put, List.setIfInBounds_toArray, List.set_cons_zero, List.set_cons_succ]
    refine wpAnyH_take (i := 22) (oi := { dst := some 28, op := Op.pick (Operand.tmp 16) (Operand.tmp 27) (Operand.const (Value.bool false)), type := 4, pos := "parse.go:221", after := _, guard := none }) (v := ?v22d23) rfl (by kernel_rfl) (by kernel_rfl) (by kernel_rfl) (fun _ _ _ h => h) (Or.inl ⟨by rfl, ?hy22d23⟩) hH ?r22d23
    case hy22d23 => (intro W hSw; (try dsimp only at hSw); go_simp; try (with_reducible rfl))
    try simp only [Act.put, List.setIfInBounds_toArray, List.set_cons_zero, List.set_cons_succ]
    refine wpAnyH_done (by kernel_rfl) ?_ _
    refine NoPanic.normal ?_
    go_wp2_with fail
    go_meet
    case rel => exact ⟨rfl, KQ⟩
   case rest =>
    obtain ⟨rfl, k2⟩ := hcut
    rename World => W2
    have R2 : Hid (Rd W2 P s ere j n g d) := R.out.kp k2
    have K2 : Hid (Ks P w W2) := K.out.kpt k2 hP
    clear k2 A R K
    go_wp2_with fail
    go_ret2
    exact ⟨by rw [E.out]; rfl, by rw [E.out]; exact R2.out, K2.out⟩
end Go.Proofs.YtikmgckefbjbkaaGreatDoor

/-! ### Int -/

namespace Go.Proofs.YtikmgckefbjbkaaGreatDoor
open Go.RowKit

theorem pNumL_le (s : ByteArray) : ∀ f m ok i, i ≤ s.size → m ≤ 21 → i ≤ (pNumL s f m ok i).2.2 ∧ (pNumL s f m ok i).2.2 ≤ s.size ∧ (pNumL s f m ok i).1 ≤ 21
 | 0, m, ok, i, h, hm => by unfold pNumL; exact ⟨Nat.le_refl _, h, hm⟩
 | f + 1, m, ok, i, h, hm => by
  unfold pNumL
  split
  ·
   rename_i hc
   have hlt : i < s.size := by simp at hc; exact hc.1
   have := pNumL_le s f (min (10 * m + (ch s i - 48)) 21) true (i + 1) (by omega) (by omega)
   exact ⟨by omega, this.2.1, this.2.2⟩
  ·
   exact ⟨Nat.le_refl _, h, hm⟩
theorem pNum_le (s : ByteArray) (i : Nat) (h : i ≤ s.size) : i ≤ (pNum s i).2.2 ∧ (pNum s i).2.2 ≤ s.size ∧ (pNum s i).1 ≤ 21 := pNumL_le s _ 0 false i h (by omega)
theorem pHigh_le (s : ByteArray) (lo i : Nat) (h : i ≤ s.size) (hl : lo ≤ 21) : i ≤ (pHigh s lo i).2 ∧ (pHigh s lo i).2 ≤ s.size ∧ -1 ≤ (pHigh s lo i).1 ∧ (pHigh s lo i).1 ≤ 21 := by
 unfold pHigh
 split
 ·
  rename_i hp
  have h1 : i + 1 ≤ s.size := pfx_le hp h
  have := pNum_le s (i + 1) h1
  refine ⟨by show i ≤ (pNum s (i + 1)).2.2; omega, this.2.1, ?_, ?_⟩
  ·
   show -1 ≤ (if _ then _ else _ : Int)
   split <;> omega
  ·
   show (if _ then _ else _ : Int) ≤ 21
   split <;> omega
 ·
  exact ⟨Nat.le_refl _, h, by show (-1 : Int) ≤ (lo : Int); omega, by show (lo : Int) ≤ 21; omega⟩

/-- What a call that reads an interval leaves. -/
structure RetI (w0 : World) (P : Nat) (s : ByteArray) (ere : Bool) (o : Option (Int × Int) × Nat) (n g d : Nat) (a b : Int) (ok : Bool) (w' : World) : Prop where
 eq : o.1 = if ok = true then some (a, b) else none
 rd : Rd w' P s ere o.2 n g d
 ks : Ks P w0 w'

structure RetIE (w0 : World) (P : Nat) (s : ByteArray) (ere : Bool) (o : Option (Int × Int) × Nat) (n g d : Nat) (e : Ending) (w' : World) : Prop where
 ex : ∃ a b ok, e = .returned (.tuple #[.int .i64 a, .int .i64 b, .bool ok]) ∧ RetI w0 P s ere o n g d a b ok w'

set_option maxRecDepth 100000 in
theorem interval_any (x y z : Nat) (s : ByteArray) (ere : Bool) (i n g d P : Nat) (w : World) (h : Rd w P s ere i n g d) (hi : i + z ≤ s.size) (hs : s.size ≤ 1000000) :
  Calls Tryz.prog 96 #[.pointer (some ⟨P, 0, none⟩), .agg #[.int .i64 (x : Int), .int .u8 (y : Int), .int .i64 (z : Int)]] w fun e w' => RetIE w P s ere (pInt s ere i z) n g d e w' := by
 have R : Hid (Rd w P s ere i n g d) := h
 have hP : P < w.heap.size := h.lt
 clear h
 have gw : IntKind.i64.wrap ((i : Int) + (z : Int)) = (i : Int) + (z : Int) := by rw [IntKind.wrap_i64]; omega
 obtain ⟨a, oka, ia, ha⟩ : ∃ a oka ia, pNum s (i + z) = (a, oka, ia) := ⟨_, _, _, rfl⟩
 have hle := pNum_le s (i + z) hi
 rw [ha] at hle
 obtain ⟨hle1, hle2, hle3⟩ := hle
 simp only at hle1 hle2 hle3
 have HA := hid ha
 clear ha
 go_enter Tryz.func96, Tryz.ntmps96
 go_upto_region 1 with fail
 refine opq (fun W0 => Rd W0 P s ere i n g d ∧ W0.heap[w.heap.size]? = some (sgo x y z) ∧ Kp w W0) ⟨by exact R.out.kp (by repeat (first | exact Kp.refl _ | refine Kp.alloc ?_ _ | refine Kp.drew ?_ | refine Kp.drewN _ ?_)), by (first | exact last_at _ _ _ (by simp) | (refine bl_alloc ?_ _; first | exact last_at _ _ _ (by simp) | (refine bl_alloc ?_ _; first | exact last_at _ _ _ (by simp) | (refine bl_alloc ?_ _; exact last_at _ _ _ (by simp))))), by exact (by repeat (first | exact Kp.refl _ | refine Kp.alloc ?_ _ | refine Kp.drew ?_ | refine Kp.drewN _ ?_))⟩ ?_
 rintro W0 ⟨xR0, xG0, xK0⟩
 have R0 : Hid (Rd W0 P s ere i n g d) := xR0
 have G0 : Hid (W0.heap[w.heap.size]? = some (sgo x y z)) := xG0
 have K0 : Hid (Kp w W0) := xK0
 clear xR0 xG0 xK0
 have p2 := R0.out.cells.2.2.1
 clear R
 go_upto_region 2 with fail
 clear p2
 have ks0 : Hid (Ks P w W0) := K0.out.ks (Nat.le_of_lt hP)
 clear K0
 go_cut [] (fun wc => Rd wc P s ere (i + z) n g d ∧ Ks P w wc)
 case first =>
  have Q0 : Kp W0 W0.drew := (Kp.refl _).drew
  have MK : Hid (∀ W, Kp W0 W → W.cell? ⟨P, 2, none⟩ = some (.int .i64 (i : Int)) ∧ W.cell? ⟨w.heap.size, 2, none⟩ = some (.int .i64 (z : Int)) ∧ Hid (Kp W0 W)) := fun W k => ⟨(R0.out.kp k).cells.2.2.1, bl_cell (bl_kp G0.out k) 2 _ rfl, k⟩
  refine wp_region_noPanic ?_
  refine region_Z (z := 9) (S := (fun W => W.cell? ⟨P, 2, none⟩ = some (.int .i64 (i : Int)) ∧ W.cell? ⟨w.heap.size, 2, none⟩ = some (.int .i64 (z : Int)) ∧ Hid (Kp W0 W))) (by kernel_rfl) ?_ (fun hH => ?_)
  ·
   exact MK.out _ Q0
  have KQ := Q0
  refine anyZ_take (z := 9) (ks := []) (i := 0) (oi := { dst := some 13, op := Op.move (Operand.tmp 0), type := 77, pos := "parse.go:196", after := #[], guard := none }) (v := ?v0a1) rfl (by kernel_rfl) (by kernel_rfl) (by kernel_rfl) (by kernel_rfl) (by kernel_rfl) (fun _ _ _ h => h) (Or.inl ⟨by rfl, ?hy0a1⟩) hH ?r0a1
  case hy0a1 => (intro W hSw; (try dsimp only at hSw); go_simp; try (with_reducible rfl))
  try simp only [Act.put, List.setIfInBounds_toArray, List.set_cons_zero, List.set_cons_succ]
  refine anyZ_take (z := 9) (ks := []) (i := 1) (oi := { dst := some 14, op := Op.nilCheck (Operand.tmp 13), type := 0, pos := "parse.go:196", after := #[{ on := 0, ground := Ground.data }], guard := none }) (v := ?v1a2) rfl (by kernel_rfl) (by kernel_rfl) (by kernel_rfl) (by kernel_rfl) (by kernel_rfl) (fun _ _ _ h => h) (Or.inl ⟨by rfl, ?hy1a2⟩) hH ?r1a2
  case hy1a2 => (intro W hSw; (try dsimp only at hSw); go_simp; try (with_reducible rfl))
  try simp only [Act.put, List.setIfInBounds_toArray, List.set_cons_zero, List.set_cons_succ]
  refine anyZ_take (z := 9) (ks := []) (i := 2) (oi := { dst := some 15, op := Op.fieldAddr 55 (Operand.tmp 14) 2, type := 0, pos := "parse.go:196", after := #[{ on := 1, ground := Ground.data }], guard := none }) (v := ?v2a3) rfl (by kernel_rfl) (by kernel_rfl) (by kernel_rfl) (by kernel_rfl) (by kernel_rfl) (fun _ _ _ h => h) (Or.inl ⟨by rfl, ?hy2a3⟩) hH ?r2a3
  case hy2a3 => (intro W hSw; (try dsimp only at hSw); go_simp; try (with_reducible rfl))
  try simp only [Act.put, List.setIfInBounds_toArray, List.set_cons_zero, List.set_cons_succ]
  refine anyZ_take (z := 9) (ks := []) (i := 3) (oi := { dst := some 16, op := Op.load 3 (Operand.tmp 15), type := 3, pos := "parse.go:196", after := #[{ on := 2, ground := Ground.data }], guard := none }) (v := ?v3a4) rfl (by kernel_rfl) (by kernel_rfl) (by kernel_rfl) (by kernel_rfl) (by kernel_rfl) (fun _ _ _ h => h) (Or.inl ⟨by rfl, ?hy3a4⟩) hH ?r3a4
  case hy3a4 => (intro W hSw; (try dsimp only at hSw); go_simp; try (with_reducible rfl))
  try simp only [Act.put, List.setIfInBounds_toArray, List.set_cons_zero, List.set_cons_succ]
  refine anyZ_take (z := 9) (ks := []) (i := 4) (oi := { dst := some 17, op := Op.fieldAddr 91 (Operand.tmp 3) 2, type := 0, pos := "parse.go:196", after := #[], guard := none }) (v := ?v4a5) rfl (by kernel_rfl) (by kernel_rfl) (by kernel_rfl) (by kernel_rfl) (by kernel_rfl) (fun _ _ _ h => h) (Or.inl ⟨by rfl, ?hy4a5⟩) hH ?r4a5
  case hy4a5 => (intro W hSw; (try dsimp only at hSw); go_simp; try (with_reducible rfl))
  try simp only [Act.put, List.setIfInBounds_toArray, List.set_cons_zero, List.set_cons_succ]
  refine anyZ_take (z := 9) (ks := []) (i := 5) (oi := { dst := some 18, op := Op.load 3 (Operand.tmp 17), type := 3, pos := "parse.go:196", after := #[{ on := 4, ground := Ground.data }], guard := none }) (v := ?v5a6) rfl (by kernel_rfl) (by kernel_rfl) (by kernel_rfl) (by kernel_rfl) (by kernel_rfl) (fun _ _ _ h => h) (Or.inl ⟨by rfl, ?hy5a6⟩) hH ?r5a6
  case hy5a6 => (intro W hSw; (try dsimp only at hSw); go_simp; try (with_reducible rfl))
  try simp only [Act.put, List.setIfInBounds_toArray, List.set_cons_zero, List.set_cons_succ]
  refine anyZ_take (z := 9) (ks := []) (i := 6) (oi := { dst := some 19, op := Op.binOp BinOp.add 3 (Operand.tmp 16) (Operand.tmp 18) 3, type := 3, pos := "parse.go:196", after := #[{ on := 3, ground := Ground.data }, { on := 5, ground := Ground.data }], guard := none }) (v := ?v6a7) rfl (by kernel_rfl) (by kernel_rfl) (by kernel_rfl) (by kernel_rfl) (by kernel_rfl) (fun _ _ _ h => h) (Or.inl ⟨by rfl, ?hy6a7⟩) hH ?r6a7
  case hy6a7 => (intro W hSw; (try dsimp only at hSw); go_simp; try (with_reducible rfl))
  try simp only [Act.put, List.setIfInBounds_toArray, List.set_cons_zero, List.set_cons_succ]
  refine anyZ_take (z := 9) (ks := [8]) (i := 7) (oi := { dst := some 20, op := Op.nilCheck (Operand.tmp 13), type := 0, pos := "parse.go:196", after := #[{ on := 0, ground := Ground.data }, { on := 0, ground := Ground.phase }, { on := 1, ground := Ground.phase }, { on := 2, ground := Ground.phase }, { on := 3, ground := Ground.phase }, { on := 4, ground := Ground.phase }, { on := 5, ground := Ground.phase }, { on := 6, ground := Ground.phase }], guard := none }) (v := ?v7a8) rfl (by kernel_rfl) (by kernel_rfl) (by kernel_rfl) (by kernel_rfl) (by kernel_rfl) (fun _ _ _ h => h) (Or.inl ⟨by rfl, ?hy7a8⟩) hH ?r7a8
  case hy7a8 => (intro W hSw; (try dsimp only at hSw); go_simp; try (with_reducible rfl))
  try simp only [Act.put, List.setIfInBounds_toArray, List.set_cons_zero, List.set_cons_succ]
  refine anyZ_take (z := 9) (ks := []) (i := 8) (oi := { dst := some 21, op := Op.fieldAddr 55 (Operand.tmp 20) 2, type := 0, pos := "parse.go:196", after := #[{ on := 7, ground := Ground.data }, { on := 0, ground := Ground.phase }, { on := 1, ground := Ground.phase }, { on := 2, ground := Ground.phase }, { on := 3, ground := Ground.phase }, { on := 4, ground := Ground.phase }, { on := 5, ground := Ground.phase }, { on := 6, ground := Ground.phase }], guard := none }) (v := ?v8a9) rfl (by kernel_rfl) (by kernel_rfl) (by kernel_rfl) (by kernel_rfl) (by kernel_rfl) (fun _ _ _ h => h) (Or.inl ⟨by rfl, ?hy8a9⟩) hH ?r8a9
  case hy8a9 => (intro W hSw; (try dsimp only at hSw); go_simp; try (with_reducible rfl))
  try simp only [Act.put, List.setIfInBounds_toArray, List.set_cons_zero, List.set_cons_succ]
  refine anyZ_ready (rs := [9]) (by kernel_rfl) (by simp) ?_
  refine AllZ.last (o := { dst := none, op := Op.store 3 (Operand.tmp 21) (Operand.tmp 19), type := 0, pos := "parse.go:196", after := #[{ on := 8, ground := Ground.data }, { on := 6, ground := Ground.data }, { on := 0, ground := Ground.phase }, { on := 1, ground := Ground.phase }, { on := 2, ground := Ground.phase }, { on := 3, ground := Ground.phase }, { on := 4, ground := Ground.phase }, { on := 5, ground := Ground.phase }, { on := 6, ground := Ground.phase }], guard := none }) rfl (Or.inl rfl) (fun K hKq => ?_) AllZ.nil
  have fq2 := bl_frozen (R0.out.kp KQ).b 2
  have cq2 := (R0.out.kp KQ).cells.2.2.1
  go_simp
  refine hKq.out _ _ ?_
  clear fq2 cq2
  clear hKq K
  try simp only [Act.put, List.setIfInBounds_toArray, List.set_cons_zero, List.set_cons_succ]
  refine anyZ_done (by kernel_rfl) ?_ _
  refine NoPanic.normal ?_
  go_wp2_with fail
  go_meet
  case rel => exact ⟨(R0.out.kp KQ).at (i + z), (ks0.out.kpt KQ hP).set 2 _⟩
 case rest =>
  obtain ⟨r1, k1⟩ := hcut
  rename World => W1
  have R1 := hid r1
  have K1 := hid k1
  clear r1 k1 R0 G0 ks0
  go_wp2_with fail
  refine (number_any s ere (i + z) n g d P _ R1.out hi hs).mono ?_
  rintro e W2 ⟨rfl, r2, k2⟩
  rw [HA.out] at r2 ⊢
  have R2 : Hid (Rd W2 P s ere ia n g d) := r2
  have K2 : Hid (Ks P w W2) := K1.out.trans k2
  clear r2 k2 R1 K1
  dsimp only
  cases oka with
  | false =>
   have E : Hid (pInt s ere i z = (none, ia)) := by show _ = _; unfold pInt; rw [HA.out]; rfl
   have p1 := R2.out.cells.2.1
   have FIN : Hid (RetIE w P s ere (pInt s ere i z) n g d (.returned (.tuple #[.int .i64 0, .int .i64 0, .bool false])) W2) := ⟨0, 0, false, rfl, by rw [E.out]; rfl, by rw [E.out]; exact R2.out, K2.out⟩
   cases ere with
   | true =>
    go_wp2_with fail
    go_ret3
    exact FIN.out
   | false =>
    go_wp2_with fail
    go_ret3
    exact FIN.out
  | true =>
   obtain ⟨hg, ih, hh⟩ : ∃ hg ih, pHigh s a ia = (hg, ih) := ⟨_, _, rfl⟩
   have hle := pHigh_le s a ia hle2 hle3
   rw [hh] at hle
   obtain ⟨hle4, hle5, hle6, hle7⟩ := hle
   simp only at hle4 hle5 hle6 hle7
   have HH := hid hh
   clear hh
   obtain ⟨q, hq⟩ : ∃ q, pfx s ia [44] = q := ⟨_, rfl⟩
   have T1 : Hid (∀ w, Rd w P s ere ia n g d → Calls Tryz.prog 104 #[.pointer (some ⟨P, 0, none⟩), .string ⟨#[44]⟩] w fun e w' => e = .returned (.bool q) ∧ Rd w' P s ere (if q then ia + 1 else ia) n g d ∧ Ks P w w') := by
    intro w h
    have := takes_any ⟨#[44]⟩ s ere ia n g d P w h hle2 hs
    rw [show (⟨#[44]⟩ : ByteArray).data.toList = [44] from rfl, hq] at this
    exact this
   have HQ := hid hq
   have hq1 : q = true → ia + 1 ≤ s.size := fun h => by rw [h] at hq; exact pfx_le hq hle2
   have HQ1 := hid hq1
   clear hq hq1
   go_wp2_with fail
   refine (T1.out _ R2.out).mono ?_
   rintro e W3 ⟨rfl, r3, k3⟩
   have R3 := hid r3
   have K3 : Hid (Ks P w W3) := K2.out.trans k3
   clear r3 k3 R2 K2
   go_upto_if 32 with fail
   go_cut [5, 6] (fun h o wc => h = .int .i64 hg ∧ o = .bool true ∧ Rd wc P s ere ih n g d ∧ Ks P w wc)
   case first =>
    cases q with
    | false =>
     have E : Hid (hg = (a : Int) ∧ ih = ia) := by
      have := HH.out
      unfold pHigh at this
      rw [HQ.out] at this
      injection this with h1 h2
      exact ⟨h1.symm, h2.symm⟩
     go_wp2_with fail
     go_meet
     case rel => exact ⟨by rw [E.out.1], rfl, by rw [E.out.2]; exact R3.out, K3.out⟩
    | true =>
     obtain ⟨b, okb, ib, hb⟩ : ∃ b okb ib, pNum s (ia + 1) = (b, okb, ib) := ⟨_, _, _, rfl⟩
     have HB := hid hb
     clear hb
     have E : Hid (hg = (if okb then (b : Int) else -1) ∧ ih = ib) := by
      have := HH.out
      unfold pHigh at this
      rw [HQ.out, HB.out] at this
      injection this with h1 h2
      exact ⟨h1.symm, h2.symm⟩
     go_wp2_with fail
     refine (number_any s ere (ia + 1) n g d P _ R3.out (HQ1.out (by trivial)) hs).mono ?_
     rintro e W4 ⟨rfl, r4, k4⟩
     rw [HB.out] at r4 ⊢
     have R4 : Hid (Rd W4 P s ere ib n g d) := r4
     have K4 : Hid (Ks P w W4) := K3.out.trans k4
     clear r4 k4 R3 K3
     dsimp only
     cases okb with
     | false =>
      go_wp2_with fail
      go_meet
      case rel => exact ⟨by rw [E.out.1]; rfl, rfl, by rw [E.out.2]; exact R4.out, K4.out⟩
     | true =>
      go_wp2_with fail
      go_meet
      case rel => exact ⟨by rw [E.out.1]; rfl, rfl, by rw [E.out.2]; exact R4.out, K4.out⟩
   case rest =>
    obtain ⟨rfl, rfl, r5, k5⟩ := hcut
    rename World => W5
    have R5 := hid r5
    have K5 := hid k5
    clear r5 k5 R3 K3 T1 HQ HQ1
    have p1 := R5.out.cells.2.1
    obtain ⟨q2, hq2⟩ : ∃ q2, pfx s ih (closeB ere) = q2 := ⟨_, rfl⟩
    have HQ2 := hid hq2
    clear hq2
    obtain ⟨tf, htf⟩ : ∃ tf, timesFit (a : Int) hg = tf := ⟨_, rfl⟩
    have HT := hid htf
    clear htf
    have E : Hid (pInt s ere i z = if q2 then (if tf then (some ((a : Int), hg), ih + (closeB ere).length) else (none, i)) else (none, ih)) := by
     show _ = _
     unfold pInt
     rw [HA.out]
     simp only [HH.out, HQ2.out, HT.out, if_true]
    cases ere with
    | true =>
     go_wp2_with fail
     refine (takes_any ⟨#[125]⟩ s true ih n g d P _ R5.out hle5 hs).mono ?_
     rintro e W6 ⟨rfl, r6, k6⟩
     rw [show pfx s ih (⟨#[125]⟩ : ByteArray).data.toList = q2 from HQ2.out] at r6 ⊢
     have K6 : Hid (Ks P w W6) := K5.out.trans k6
     cases q2 with
     | false =>
      have R6 : Hid (Rd W6 P s true ih n g d) := r6
      clear r6 k6 p1 R5 K5
      go_wp2_with fail
      go_ret3
      exact ⟨0, 0, false, rfl, by rw [E.out]; rfl, by rw [E.out]; exact R6.out, K6.out⟩
     | true =>
      have R6 : Hid (Rd W6 P s true (ih + 1) n g d) := r6
      clear r6 k6 p1 R5 K5
      go_wp2_with fail
      refine (timesFit_any (a : Int) hg _).mono ?_
      rintro e W6 ⟨rfl, rfl⟩
      rw [HT.out]
      cases tf with
      | false =>
       have p2 := R6.out.cells.2.2.1
       have fp2 := bl_frozen R6.out.b 2
       go_wp2_with fail
       go_ret3
       exact ⟨0, 0, false, rfl, by rw [E.out]; rfl, by rw [E.out]; exact R6.out.at i, K6.out.set 2 _⟩
      | true =>
       go_wp2_with fail
       go_ret3
       exact ⟨_, _, true, rfl, by rw [E.out]; rfl, by rw [E.out]; exact R6.out, K6.out⟩
    | false =>
     go_wp2_with fail
     refine (takes_any ⟨#[92, 125]⟩ s false ih n g d P _ R5.out hle5 hs).mono ?_
     rintro e W6 ⟨rfl, r6, k6⟩
     rw [show pfx s ih (⟨#[92, 125]⟩ : ByteArray).data.toList = q2 from HQ2.out] at r6 ⊢
     have K6 : Hid (Ks P w W6) := K5.out.trans k6
     cases q2 with
     | false =>
      have R6 : Hid (Rd W6 P s false ih n g d) := r6
      clear r6 k6 p1 R5 K5
      go_wp2_with fail
      go_ret3
      exact ⟨0, 0, false, rfl, by rw [E.out]; rfl, by rw [E.out]; exact R6.out, K6.out⟩
     | true =>
      have R6 : Hid (Rd W6 P s false (ih + 2) n g d) := r6
      clear r6 k6 p1 R5 K5
      go_wp2_with fail
      refine (timesFit_any (a : Int) hg _).mono ?_
      rintro e W6 ⟨rfl, rfl⟩
      rw [HT.out]
      cases tf with
      | false =>
       have p2 := R6.out.cells.2.2.1
       have fp2 := bl_frozen R6.out.b 2
       go_wp2_with fail
       go_ret3
       exact ⟨0, 0, false, rfl, by rw [E.out]; rfl, by rw [E.out]; exact R6.out.at i, K6.out.set 2 _⟩
      | true =>
       go_wp2_with fail
       go_ret3
       exact ⟨_, _, true, rfl, by rw [E.out]; rfl, by rw [E.out]; exact R6.out, K6.out⟩
end Go.Proofs.YtikmgckefbjbkaaGreatDoor

/-! ### Rep -/

namespace Go.Proofs.YtikmgckefbjbkaaGreatDoor
open Go.RowKit
attribute [local go_sem] field91

def repInt (r : Rx) (o : Option (Int × Int) × Nat) (n g d : Nat) : Out := match o with
 | (none, j) => ⟨rx0, 1, ⟨j, n, g, d⟩⟩
 | (some (a, b), j) => pTake 0 (rrep a b r) ⟨j, n, g, d⟩
theorem pInt_le (s : ByteArray) (ere : Bool) (i z : Nat) (h : i + z ≤ s.size) : (pInt s ere i z).2 ≤ s.size := by
 have h1 := pNum_le s (i + z) h
 unfold pInt
 dsimp only
 split
 ·
  have h2 := pHigh_le s (pNum s (i + z)).1 (pNum s (i + z)).2.2 h1.2.1 h1.2.2
  split
  ·
   rename_i hp
   have h3 := pfx_le hp h2.2.1
   split
   ·
    exact h3
   ·
    show i ≤ s.size; omega
  ·
   exact h2.2.1
 ·
  exact h1.2.1

set_option maxHeartbeats 2000000 in
set_option maxRecDepth 100000 in
theorem repeated_any (r : Rx) (k mn mx m : Int) (t : W4) (ad : Option Addr) (l c : Nat) (s : ByteArray) (ere : Bool) (i n g d P : Nat) (w0 w : World) (h : Rd w P s ere i n g d) (hI : Is w (fun b => w0.heap.size ≤ b) r (rxv k mn mx m t (.slice ad l c))) (hk : Ks P w0 w) (hP : P < w0.heap.size) (hi : i ≤ s.size) (hs : s.size ≤ 1000000) (hn : n ≤ 1000000000) :
  Calls Tryz.prog 81 #[.pointer (some ⟨P, 0, none⟩), rxv k mn mx m t (.slice ad l c)] w fun e w' => RetE w0 P s ere (pRep s ere r ⟨i, n, g, d⟩) e w' := by
 have R : Hid (Rd w P s ere i n g d) := h
 have HI : Hid (Is w (fun b => w0.heap.size ≤ b ∧ b < w.heap.size) r (rxv k mn mx m t (.slice ad l c))) := hI.weak (fun _ hb hl => ⟨hb, hl⟩)
 have HK := hid hk
 have hsw := hk.size
 clear h hI hk
 obtain ⟨x, y, z, hg⟩ : ∃ x y z, sgn s ere i = (x, y, z) := ⟨_, _, _, rfl⟩
 have hz := sgn_sz s ere i hi
 rw [hg] at hz
 obtain ⟨hz1, hz2, _⟩ := hz
 simp only at hz1 hz2
 have HG := hid hg
 have hpr : pRep s ere r ⟨i, n, g, d⟩ = if x = 10 then pTake z (rrep 0 (-1) r) ⟨i, n, g, d⟩ else if x = 11 then pTake z (rrep 1 (-1) r) ⟨i, n, g, d⟩ else if x = 12 then pTake z (rrep 0 1 r) ⟨i, n, g, d⟩ else if x = 13 then repInt r (pInt s ere i z) n g d else ⟨r, 0, ⟨i, n, g, d⟩⟩ := by
  unfold pRep; rw [hg]; rfl
 have HPR := hid hpr
 clear hg hpr
 go_enter Tryz.func81, Tryz.ntmps81
 go_upto_region 1 with fail
 refine opq (fun W0 => Rd W0 P s ere i n g d ∧ W0.heap[w.heap.size]? = some (rxo k mn mx m t (.slice ad l c)) ∧ W0.heap[(w.heap.size + 1)]? = some rzo ∧ Is W0 (fun b => w0.heap.size ≤ b ∧ b < w.heap.size) r (rxv k mn mx m t (.slice ad l c)) ∧ Ks P w0 W0) ⟨by exact R.out.kp (by repeat (first | exact Kp.refl _ | refine Kp.alloc ?_ _ | refine Kp.drew ?_ | refine Kp.drewN _ ?_)), by (first | exact last_at _ _ _ (by simp) | (refine bl_alloc ?_ _; first | exact last_at _ _ _ (by simp) | (refine bl_alloc ?_ _; first | exact last_at _ _ _ (by simp) | (refine bl_alloc ?_ _; exact last_at _ _ _ (by simp))))), by (first | exact last_at _ _ _ (by simp) | (refine bl_alloc ?_ _; first | exact last_at _ _ _ (by simp) | (refine bl_alloc ?_ _; first | exact last_at _ _ _ (by simp) | (refine bl_alloc ?_ _; exact last_at _ _ _ (by simp))))), by exact HI.out.kp (by repeat (first | exact Kp.refl _ | refine Kp.alloc ?_ _ | refine Kp.drew ?_ | refine Kp.drewN _ ?_)), by exact HK.out.kpt (by repeat (first | exact Kp.refl _ | refine Kp.alloc ?_ _ | refine Kp.drew ?_ | refine Kp.drewN _ ?_)) hP⟩ ?_
 rintro W0 ⟨xR0, xA0, xB0, xI0, xK0⟩
 have R0 : Hid (Rd W0 P s ere i n g d) := xR0
 have A0 : Hid (W0.heap[w.heap.size]? = some (rxo k mn mx m t (.slice ad l c))) := xA0
 have B0 : Hid (W0.heap[(w.heap.size + 1)]? = some rzo) := xB0
 have I0 : Hid (Is W0 (fun b => w0.heap.size ≤ b ∧ b < w.heap.size) r (rxv k mn mx m t (.slice ad l c))) := xI0
 have K0 : Hid (Ks P w0 W0) := xK0
 clear xR0 xA0 xB0 xI0 xK0
 clear R HI HK
 go_wp2_with fail
 refine (sign_any s ere i n g d P _ R0.out hi hs).mono ?_
 rintro e w1 ⟨rfl, kq⟩
 rw [HG.out, sg3]
 have hs1 : w.heap.size + 1 < w1.heap.size := bl_lt (bl_kp B0.out kq)
 have KQ : Hid (Kp W0 w1) := kq
 clear kq
 go_upto_region 2 with fail
 refine opq (fun W1 => Rd W1 P s ere i n g d ∧ W1.heap[w.heap.size]? = some (rxo k mn mx m t (.slice ad l c)) ∧ W1.heap[(w.heap.size + 1)]? = some rzo ∧ W1.heap[w1.heap.size]? = some (sgo x y z) ∧ Is W1 (fun b => w0.heap.size ≤ b ∧ b < w.heap.size) r (rxv k mn mx m t (.slice ad l c)) ∧ Ks P w0 W1) ⟨by exact R0.out.kp (KQ.out.trans (by repeat (first | exact Kp.refl _ | refine Kp.alloc ?_ _ | refine Kp.drew ?_ | refine Kp.drewN _ ?_))), by exact bl_kp A0.out (KQ.out.trans (by repeat (first | exact Kp.refl _ | refine Kp.alloc ?_ _ | refine Kp.drew ?_ | refine Kp.drewN _ ?_))), by exact bl_kp B0.out (KQ.out.trans (by repeat (first | exact Kp.refl _ | refine Kp.alloc ?_ _ | refine Kp.drew ?_ | refine Kp.drewN _ ?_))), by (first | exact last_at _ _ _ (by simp) | (refine bl_alloc ?_ _; first | exact last_at _ _ _ (by simp) | (refine bl_alloc ?_ _; first | exact last_at _ _ _ (by simp) | (refine bl_alloc ?_ _; exact last_at _ _ _ (by simp))))), by exact I0.out.kp (KQ.out.trans (by repeat (first | exact Kp.refl _ | refine Kp.alloc ?_ _ | refine Kp.drew ?_ | refine Kp.drewN _ ?_))), by exact K0.out.kpt (KQ.out.trans (by repeat (first | exact Kp.refl _ | refine Kp.alloc ?_ _ | refine Kp.drew ?_ | refine Kp.drewN _ ?_))) hP⟩ ?_
 rintro W1 ⟨xR1, xA1, xB1, xG1, xI1, xK1⟩
 have R1 : Hid (Rd W1 P s ere i n g d) := xR1
 have A1 : Hid (W1.heap[w.heap.size]? = some (rxo k mn mx m t (.slice ad l c))) := xA1
 have B1 : Hid (W1.heap[(w.heap.size + 1)]? = some rzo) := xB1
 have G1 : Hid (W1.heap[w1.heap.size]? = some (sgo x y z)) := xG1
 have I1 : Hid (Is W1 (fun b => w0.heap.size ≤ b ∧ b < w.heap.size) r (rxv k mn mx m t (.slice ad l c))) := xI1
 have K1 : Hid (Ks P w0 W1) := xK1
 clear xR1 xA1 xB1 xG1 xI1 xK1
 clear R0 A0 B0 I0 K0 KQ
 have hs2 : w1.heap.size < W1.heap.size := bl_lt G1.out
 by_cases x10 : x = 10
 ·
  subst x10
  have E : Hid (pRep s ere r ⟨i, n, g, d⟩ = pTake z (rrep 0 (-1) r) ⟨i, n, g, d⟩) := by show _ = _; rw [HPR.out, if_pos rfl]
  have qq0 := bl_cell G1.out 0 _ rfl
  have qq1 := bl_cell G1.out 1 _ rfl
  have qq2 := bl_cell G1.out 2 _ rfl
  obtain ⟨a0, a1, a2, a3, a4, a5, a6, a7, a8⟩ := cells9c A1.out
  go_wp2_with fail
  refine (take_any0 10 y z 4 0 (-1) 0 (some ⟨W1.heap.size, 0, none⟩) 1 1 s ere i n g d P _ (R1.out.kp ((Kp.refl _).alloc _)) (by omega) (by omega) hn).mono ?_
  rintro e w2 ⟨rfl, r2, k2⟩
  have hsW : w.heap.size + 1 < W1.heap.size := bl_lt B1.out
  have hsP : w0.heap.size ≤ W1.heap.size := K1.out.size
  have R2 := hid r2
  have K2 : Hid (Ks P w0 w2) := (K1.out.kpt ((Kp.refl _).alloc _) hP).trans k2
  have B2 : Hid (w2.heap[w.heap.size + 1]? = some rzo) := bl_ks (bl_alloc B1.out _) (by omega) k2
  have I2 : Hid (Is w2 (fun b => w0.heap.size ≤ b ∧ b ≠ w.heap.size + 1) (rrep 0 (-1) r) (rxv 4 0 (-1) 0 W4.z (.slice (some ⟨W1.heap.size, 0, none⟩) 1 1))) :=
   ((((I1.out.weak (ok' := fun b => w0.heap.size ≤ b ∧ b ≠ w.heap.size + 1) (fun _ hb _ => ⟨hb.1, by omega⟩)).kp ((Kp.refl _).alloc _)).one (cells_new _ _ _ _ _ _ _ _ _) ⟨hsP, by omega⟩ (by simp) 4 0 (-1) 0 W4.z).ks k2 (fun _ hb _ => by omega))
  clear r2 k2
  clear qq0 qq1 qq2 a0 a1 a2 a3 a4 a5 a6 a7 a8
  obtain ⟨b0, fb0, b1, fb1, b2, fb2, b3, fb3, b4, fb4, b5, fb5, b6, fb6, b7, fb7, b8, fb8⟩ := cells9 B2.out
  go_wp2_with fail
  refine bodyPost_ret (v := .tuple #[rxv 4 0 (-1) 0 W4.z (.slice (some ⟨W1.heap.size, 0, none⟩) 1 1), .int .i64 0]) (rx_ret2 rfl _ _ _ _ _ rfl rfl (bl_set9 B2.out _ _ _ _ _ _ _ _ _) rfl) rfl ?_
  rw [E.out]
  exact ⟨_, rfl, Ret.fin I2.out R2.out K2.out (ks_set9 _ _ _ _ _ _ _ _ _) hP (by omega)⟩
 by_cases x11 : x = 11
 ·
  subst x11
  have E : Hid (pRep s ere r ⟨i, n, g, d⟩ = pTake z (rrep 1 (-1) r) ⟨i, n, g, d⟩) := by show _ = _; rw [HPR.out, if_neg (by omega), if_pos rfl]
  have qq0 := bl_cell G1.out 0 _ rfl
  have qq1 := bl_cell G1.out 1 _ rfl
  have qq2 := bl_cell G1.out 2 _ rfl
  obtain ⟨a0, a1, a2, a3, a4, a5, a6, a7, a8⟩ := cells9c A1.out
  go_wp2_with fail
  refine (take_any0 11 y z 4 1 (-1) 0 (some ⟨W1.heap.size, 0, none⟩) 1 1 s ere i n g d P _ (R1.out.kp ((Kp.refl _).alloc _)) (by omega) (by omega) hn).mono ?_
  rintro e w2 ⟨rfl, r2, k2⟩
  have hsW : w.heap.size + 1 < W1.heap.size := bl_lt B1.out
  have hsP : w0.heap.size ≤ W1.heap.size := K1.out.size
  have R2 := hid r2
  have K2 : Hid (Ks P w0 w2) := (K1.out.kpt ((Kp.refl _).alloc _) hP).trans k2
  have B2 : Hid (w2.heap[w.heap.size + 1]? = some rzo) := bl_ks (bl_alloc B1.out _) (by omega) k2
  have I2 : Hid (Is w2 (fun b => w0.heap.size ≤ b ∧ b ≠ w.heap.size + 1) (rrep 1 (-1) r) (rxv 4 1 (-1) 0 W4.z (.slice (some ⟨W1.heap.size, 0, none⟩) 1 1))) :=
   ((((I1.out.weak (ok' := fun b => w0.heap.size ≤ b ∧ b ≠ w.heap.size + 1) (fun _ hb _ => ⟨hb.1, by omega⟩)).kp ((Kp.refl _).alloc _)).one (cells_new _ _ _ _ _ _ _ _ _) ⟨hsP, by omega⟩ (by simp) 4 1 (-1) 0 W4.z).ks k2 (fun _ hb _ => by omega))
  clear r2 k2
  clear qq0 qq1 qq2 a0 a1 a2 a3 a4 a5 a6 a7 a8
  obtain ⟨b0, fb0, b1, fb1, b2, fb2, b3, fb3, b4, fb4, b5, fb5, b6, fb6, b7, fb7, b8, fb8⟩ := cells9 B2.out
  go_wp2_with fail
  refine bodyPost_ret (v := .tuple #[rxv 4 1 (-1) 0 W4.z (.slice (some ⟨W1.heap.size, 0, none⟩) 1 1), .int .i64 0]) (rx_ret2 rfl _ _ _ _ _ rfl rfl (bl_set9 B2.out _ _ _ _ _ _ _ _ _) rfl) rfl ?_
  rw [E.out]
  exact ⟨_, rfl, Ret.fin I2.out R2.out K2.out (ks_set9 _ _ _ _ _ _ _ _ _) hP (by omega)⟩
 by_cases x12 : x = 12
 ·
  subst x12
  have E : Hid (pRep s ere r ⟨i, n, g, d⟩ = pTake z (rrep 0 1 r) ⟨i, n, g, d⟩) := by show _ = _; rw [HPR.out, if_neg (by omega), if_neg (by omega), if_pos rfl]
  have qq0 := bl_cell G1.out 0 _ rfl
  have qq1 := bl_cell G1.out 1 _ rfl
  have qq2 := bl_cell G1.out 2 _ rfl
  obtain ⟨a0, a1, a2, a3, a4, a5, a6, a7, a8⟩ := cells9c A1.out
  go_wp2_with fail
  refine (take_any0 12 y z 4 0 1 0 (some ⟨W1.heap.size, 0, none⟩) 1 1 s ere i n g d P _ (R1.out.kp ((Kp.refl _).alloc _)) (by omega) (by omega) hn).mono ?_
  rintro e w2 ⟨rfl, r2, k2⟩
  have hsW : w.heap.size + 1 < W1.heap.size := bl_lt B1.out
  have hsP : w0.heap.size ≤ W1.heap.size := K1.out.size
  have R2 := hid r2
  have K2 : Hid (Ks P w0 w2) := (K1.out.kpt ((Kp.refl _).alloc _) hP).trans k2
  have B2 : Hid (w2.heap[w.heap.size + 1]? = some rzo) := bl_ks (bl_alloc B1.out _) (by omega) k2
  have I2 : Hid (Is w2 (fun b => w0.heap.size ≤ b ∧ b ≠ w.heap.size + 1) (rrep 0 1 r) (rxv 4 0 1 0 W4.z (.slice (some ⟨W1.heap.size, 0, none⟩) 1 1))) :=
   ((((I1.out.weak (ok' := fun b => w0.heap.size ≤ b ∧ b ≠ w.heap.size + 1) (fun _ hb _ => ⟨hb.1, by omega⟩)).kp ((Kp.refl _).alloc _)).one (cells_new _ _ _ _ _ _ _ _ _) ⟨hsP, by omega⟩ (by simp) 4 0 1 0 W4.z).ks k2 (fun _ hb _ => by omega))
  clear r2 k2
  clear qq0 qq1 qq2 a0 a1 a2 a3 a4 a5 a6 a7 a8
  obtain ⟨b0, fb0, b1, fb1, b2, fb2, b3, fb3, b4, fb4, b5, fb5, b6, fb6, b7, fb7, b8, fb8⟩ := cells9 B2.out
  go_wp2_with fail
  refine bodyPost_ret (v := .tuple #[rxv 4 0 1 0 W4.z (.slice (some ⟨W1.heap.size, 0, none⟩) 1 1), .int .i64 0]) (rx_ret2 rfl _ _ _ _ _ rfl rfl (bl_set9 B2.out _ _ _ _ _ _ _ _ _) rfl) rfl ?_
  rw [E.out]
  exact ⟨_, rfl, Ret.fin I2.out R2.out K2.out (ks_set9 _ _ _ _ _ _ _ _ _) hP (by omega)⟩
 by_cases x13 : x = 13
 ·
  subst x13
  obtain ⟨oi, oj, ho⟩ : ∃ oi oj, pInt s ere i z = (oi, oj) := ⟨_, _, rfl⟩
  have HO := hid ho
  clear ho
  have E0 : Hid (pRep s ere r ⟨i, n, g, d⟩ = repInt r (oi, oj) n g d) := by
   show _ = _
   rw [HPR.out, if_neg (by omega), if_neg (by omega), if_neg (by omega), if_pos rfl, HO.out]
  have hoj : Hid (oj ≤ s.size) := by
   have := pInt_le s ere i z hz1
   rw [HO.out] at this
   exact this
  have qq0 := bl_cell G1.out 0 _ rfl
  have qq1 := bl_cell G1.out 1 _ rfl
  have qq2 := bl_cell G1.out 2 _ rfl
  obtain ⟨a0, a1, a2, a3, a4, a5, a6, a7, a8⟩ := cells9c A1.out
  go_wp2_with fail
  refine (interval_any 13 y z s ere i n g d P _ R1.out hz1 hs).mono ?_
  rintro e W2 ⟨⟨a, b, ok, rfl, r2⟩⟩
  rw [HO.out] at r2
  have EQ := hid r2.eq
  have R2 : Hid (Rd W2 P s ere oj n g d) := r2.rd
  have k2 := r2.ks
  have hsz0 := K1.out.size
  have A2 : Hid (W2.heap[w.heap.size]? = some (rxo k mn mx m t (.slice ad l c))) := bl_ks A1.out (by omega) k2
  have B2 : Hid (W2.heap[w.heap.size + 1]? = some rzo) := bl_ks B1.out (by omega) k2
  have G2 : Hid (W2.heap[w1.heap.size]? = some (sgo 13 y z)) := bl_ks G1.out (by omega) k2
  have I2 : Hid (Is W2 (fun b => w0.heap.size ≤ b ∧ b < w.heap.size) r (rxv k mn mx m t (.slice ad l c))) := I1.out.ks k2 (fun _ hb _ => by omega)
  have K2 : Hid (Ks P w0 W2) := K1.out.trans k2
  clear r2 k2 R1 A1 B1 G1 I1 K1
  clear qq0 qq1 qq2 a0 a1 a2 a3 a4 a5 a6 a7 a8
  have gq2 := bl_frozen G2.out 2
  have gc2 := bl_cell G2.out 2 _ rfl
  go_upto_region 13 with fail
  clear gq2 gc2
  refine opq (fun W3 => Rd W3 P s ere oj n g d ∧ W3.heap[w.heap.size]? = some (rxo k mn mx m t (.slice ad l c)) ∧ W3.heap[(w.heap.size + 1)]? = some rzo ∧ W3.heap[w1.heap.size]? = some (sgo 13 y 0) ∧ Is W3 (fun b => w0.heap.size ≤ b ∧ b < w.heap.size) r (rxv k mn mx m t (.slice ad l c)) ∧ Ks P w0 W3) ⟨by exact R2.out.ks ((Ks.refl _ _).set 2 _) (by omega) (by omega), by exact bl_set A2.out (by omega) _, by exact bl_set B2.out (by omega) _, by exact bl_put G2.out _, by exact I2.out.ks ((Ks.refl _ _).set 2 _) (fun _ hb _ => by omega), by exact K2.out.off ((Ks.refl _ _).set 2 _) (by omega) hP⟩ ?_
  rintro W3 ⟨xR3, xA3, xB3, xG1, xI3, xK3⟩
  have R3 : Hid (Rd W3 P s ere oj n g d) := xR3
  have A3 : Hid (W3.heap[w.heap.size]? = some (rxo k mn mx m t (.slice ad l c))) := xA3
  have B3 : Hid (W3.heap[(w.heap.size + 1)]? = some rzo) := xB3
  have G1 : Hid (W3.heap[w1.heap.size]? = some (sgo 13 y 0)) := xG1
  have I3 : Hid (Is W3 (fun b => w0.heap.size ≤ b ∧ b < w.heap.size) r (rxv k mn mx m t (.slice ad l c))) := xI3
  have K3 : Hid (Ks P w0 W3) := xK3
  clear xR3 xA3 xB3 xG1 xI3 xK3
  clear R2 A2 B2 G2 I2 K2
  cases ok with
  | false =>
   have E : Hid (pRep s ere r ⟨i, n, g, d⟩ = ⟨rx0, 1, ⟨oj, n, g, d⟩⟩) := by show _ = _; rw [E0.out, show oi = none from EQ.out]; rfl
   obtain ⟨b0, fb0, b1, fb1, b2, fb2, b3, fb3, b4, fb4, b5, fb5, b6, fb6, b7, fb7, b8, fb8⟩ := cells9 B3.out
   go_wp2_with fail
   refine bodyPost_ret (v := .tuple #[rz, .int .i64 1]) (rx_ret2 rfl _ _ _ _ _ rfl rfl (bl_set9 B3.out _ _ _ _ _ _ _ _ _) rfl) rfl ?_
   rw [E.out]
   exact ⟨_, rfl, Ret.fail R3.out K3.out (ks_set9 _ _ _ _ _ _ _ _ _) hP (by omega)⟩
  | true =>
   have E : Hid (pRep s ere r ⟨i, n, g, d⟩ = pTake 0 (rrep a b r) ⟨oj, n, g, d⟩) := by show _ = _; rw [E0.out, show oi = some (a, b) from EQ.out]; rfl
   have hoj' := hoj.out
   have qq0 := bl_cell G1.out 0 _ rfl
   have qq1 := bl_cell G1.out 1 _ rfl
   have qq2 := bl_cell G1.out 2 _ rfl
   obtain ⟨a0, a1, a2, a3, a4, a5, a6, a7, a8⟩ := cells9c A3.out
   go_wp2_with fail
   refine (take_any0 13 y 0 4 a b 0 (some ⟨W3.heap.size, 0, none⟩) 1 1 s ere oj n g d P _ (R3.out.kp ((Kp.refl _).alloc _)) (by omega) (by omega) hn).mono ?_
   rintro e w2 ⟨rfl, r2, k2⟩
   have hsW : w.heap.size + 1 < W3.heap.size := bl_lt B3.out
   have hsP : w0.heap.size ≤ W3.heap.size := K3.out.size
   have R2 := hid r2
   have K2 : Hid (Ks P w0 w2) := (K3.out.kpt ((Kp.refl _).alloc _) hP).trans k2
   have B2 : Hid (w2.heap[w.heap.size + 1]? = some rzo) := bl_ks (bl_alloc B3.out _) (by omega) k2
   have I2 : Hid (Is w2 (fun b => w0.heap.size ≤ b ∧ b ≠ w.heap.size + 1) (rrep a b r) (rxv 4 a b 0 W4.z (.slice (some ⟨W3.heap.size, 0, none⟩) 1 1))) :=
    ((((I3.out.weak (ok' := fun b => w0.heap.size ≤ b ∧ b ≠ w.heap.size + 1) (fun _ hb _ => ⟨hb.1, by omega⟩)).kp ((Kp.refl _).alloc _)).one (cells_new _ _ _ _ _ _ _ _ _) ⟨hsP, by omega⟩ (by simp) 4 a b 0 W4.z).ks k2 (fun _ hb _ => by omega))
   clear r2 k2
   clear qq0 qq1 qq2 a0 a1 a2 a3 a4 a5 a6 a7 a8
   obtain ⟨b0, fb0, b1, fb1, b2, fb2, b3, fb3, b4, fb4, b5, fb5, b6, fb6, b7, fb7, b8, fb8⟩ := cells9 B2.out
   go_wp2_with fail
   refine bodyPost_ret (v := .tuple #[rxv 4 a b 0 W4.z (.slice (some ⟨W3.heap.size, 0, none⟩) 1 1), .int .i64 0]) (rx_ret2 rfl _ _ _ _ _ rfl rfl (bl_set9 B2.out _ _ _ _ _ _ _ _ _) rfl) rfl ?_
   rw [E.out]
   exact ⟨_, rfl, Ret.fin I2.out R2.out K2.out (ks_set9 _ _ _ _ _ _ _ _ _) hP (by omega)⟩
 have E : Hid (pRep s ere r ⟨i, n, g, d⟩ = ⟨r, 0, ⟨i, n, g, d⟩⟩) := by show _ = _; rw [HPR.out, if_neg x10, if_neg x11, if_neg x12, if_neg x13]
 have g10 : ((x : Int) == 10) = false := by simp; omega
 have g11 : ((x : Int) == 11) = false := by simp; omega
 have g12 : ((x : Int) == 12) = false := by simp; omega
 have g13 : ((x : Int) == 13) = false := by simp; omega
 have qq0 := bl_cell G1.out 0 _ rfl
 have qq1 := bl_cell G1.out 1 _ rfl
 have qq2 := bl_cell G1.out 2 _ rfl
 obtain ⟨a0, a1, a2, a3, a4, a5, a6, a7, a8⟩ := cells9c A1.out
 obtain ⟨b0, fb0, b1, fb1, b2, fb2, b3, fb3, b4, fb4, b5, fb5, b6, fb6, b7, fb7, b8, fb8⟩ := cells9 B1.out
 go_wp2_with fail
 refine bodyPost_ret (v := .tuple #[rxv k mn mx m t (.slice ad l c), .int .i64 0]) (rx_ret2 rfl _ _ _ _ _ rfl rfl (bl_set9 B1.out _ _ _ _ _ _ _ _ _) rfl) rfl ?_
 rw [E.out]
 exact ⟨_, rfl, Ret.fin (I1.out.weak (fun _ hb _ => ⟨hb.1, by omega⟩)) R1.out K1.out (ks_set9 _ _ _ _ _ _ _ _ _) hP (by omega)⟩
end Go.Proofs.YtikmgckefbjbkaaGreatDoor
