/-
  Texts of this claim: Right5.
-/
import Derived.Test.YtommgdgilcemdaaGreatDoorCmdLM20

/-! ### Right5 -/

namespace Go.Proofs.YtommgdgilcemdaaGreatDoor
open Go.RowKit

theorem kidsFit_one {k : Int} {mn mx n : Int} {s : W4} {kids : List Rx} (h : leanB (.mk k mn mx n s kids) = true) (hk : k = 4 ∨ k = 5) : ∃ r, kids = [r] := by
 unfold leanB at h
 simp only [Bool.and_eq_true] at h
 have h2 := h.2
 unfold kidsFit at h2
 rw [if_neg (by omega), if_neg (by omega), if_pos hk] at h2
 exact List.length_eq_one_iff.1 (by simpa using h2)

set_option maxHeartbeats 2000000 in
set_option maxRecDepth 100000 in
theorem right_step (ere : Bool) (k mn mx m : Int) (t : W4) (kids : List Rx) (H : ∀ r, r ∈ kids → RightSaid ere r) (hl : kids.length ≤ 1000000) (hs : t.a < 18446744073709551616 ∧ t.b < 18446744073709551616 ∧ t.c < 18446744073709551616 ∧ t.d < 18446744073709551616) : RightSaid ere (.mk k mn mx m t kids) := by
 refine ⟨fun C ok v b e n g d w hI hok hc hn hg hd => ?_⟩
 obtain ⟨ad, l, c, rfl, hr⟩ := hI.row
 have RR := hid hr
 have hlen := hr.ln
 have HC := hid hc
 have HOK := hid hok
 have HH := hid H
 have hCw := hc.lt
 have LE := hid (fun w => lean_any k mn mx m t kids ad l c w hlen)
 have HSV : Hid (vv t.a t.b t.c t.d = sv (W4.bit t)) := vv_sv t.a t.b t.c t.d hs.1 hs.2.1 hs.2.2.1 hs.2.2.2
 clear hI hr hc hok H hlen
 obtain ⟨o, ho⟩ : ∃ o, chk ere (.mk k mn mx m t kids) b e ⟨n, g, d⟩ = o := ⟨_, rfl⟩
 rw [ho]
 unfold chk at ho
 obtain ⟨lb, hlb⟩ : ∃ lb, leanB (.mk k mn mx m t kids) = lb := ⟨_, rfl⟩
 rw [hlb] at ho LE
 have K1 : lb = true → (k = 4 ∨ k = 5) → ∃ r, kids = [r] := fun h hk => kidsFit_one (by rw [hlb, h]) hk
 have HK1 := hid K1
 have HO := hid ho
 clear hlb ho K1
 have gn : IntKind.i64.wrap ((n : Int) + 1) = (n : Int) + 1 := by rw [IntKind.wrap_i64]; omega
 go_enter Tryz.func78, Tryz.ntmps78
 go_upto_region 1 with fail
 refine opq (fun W0 => W0.heap[w.heap.size]? = some (rxo k mn mx m t (.slice ad l c)) ∧ W0.heap[(w.heap.size + 1)]? = some (.cells #[.bool b, .bool e] 104) ∧ Cb W0 C ere n g d ∧ Kp w W0) ⟨by (first | exact last_at _ _ _ (by simp) | (refine bl_alloc ?_ _; first | exact last_at _ _ _ (by simp) | (refine bl_alloc ?_ _; first | exact last_at _ _ _ (by simp) | (refine bl_alloc ?_ _; exact last_at _ _ _ (by simp))))), by (first | exact last_at _ _ _ (by simp) | (refine bl_alloc ?_ _; first | exact last_at _ _ _ (by simp) | (refine bl_alloc ?_ _; first | exact last_at _ _ _ (by simp) | (refine bl_alloc ?_ _; exact last_at _ _ _ (by simp))))), by exact HC.out.kp (by repeat (first | exact Kp.refl _ | refine Kp.alloc ?_ _ | refine Kp.drew ?_ | refine Kp.drewN _ ?_)), by exact (by repeat (first | exact Kp.refl _ | refine Kp.alloc ?_ _ | refine Kp.drew ?_ | refine Kp.drewN _ ?_))⟩ ?_
 rintro W0 ⟨xA0, xP0, xCB0, xK0⟩
 have A0 : Hid (W0.heap[w.heap.size]? = some (rxo k mn mx m t (.slice ad l c))) := xA0
 have P0 : Hid (W0.heap[(w.heap.size + 1)]? = some (.cells #[.bool b, .bool e] 104)) := xP0
 have CB0 : Hid (Cb W0 C ere n g d) := xCB0
 have K0 : Hid (Kp w W0) := xK0
 clear xA0 xP0 xCB0 xK0
 have c1 := CB0.out.cells.2.1
 have f1 := bl_frozen CB0.out 1
 go_upto_region 2 with fail
 clear c1 f1
 refine opq (fun W1 => W1.heap[w.heap.size]? = some (rxo k mn mx m t (.slice ad l c)) ∧ W1.heap[(w.heap.size + 1)]? = some (.cells #[.bool b, .bool e] 104) ∧ Cb W1 C ere (n + 1) g d ∧ Ks C w W1) ⟨by exact bl_set A0.out (by omega) _, by exact bl_set P0.out (by omega) _, by exact CB0.out.nodes (n + 1), by exact (K0.out.ks (Nat.le_of_lt hCw)).set 1 _⟩ ?_
 rintro W1 ⟨xA1, xP1, xCB1, xKS1⟩
 have A1 : Hid (W1.heap[w.heap.size]? = some (rxo k mn mx m t (.slice ad l c))) := xA1
 have P1 : Hid (W1.heap[(w.heap.size + 1)]? = some (.cells #[.bool b, .bool e] 104)) := xP1
 have CB1 : Hid (Cb W1 C ere (n + 1) g d) := xCB1
 have KS1 : Hid (Ks C w W1) := xKS1
 clear xA1 xP1 xCB1 xKS1
 clear A0 P0 CB0 K0
 have R1 := hid (RR.out.ks KS1.out HOK.out)
 have a0 := bl_cell (A1.out) 0 _ rfl
 have a1 := bl_cell (A1.out) 1 _ rfl
 have a2 := bl_cell (A1.out) 2 _ rfl
 have a3 := bl_cell (A1.out) 3 _ rfl
 have a4 := bl_cell (A1.out) 4 _ rfl
 have a5 := bl_cell (A1.out) 5 _ rfl
 have a6 := bl_cell (A1.out) 6 _ rfl
 have a7 := bl_cell (A1.out) 7 _ rfl
 have a8 := bl_cell (A1.out) 8 _ rfl
 have c1 := CB1.out.cells.2.1
 have hs1 := KS1.out.size
 by_cases h40 : n + 1 > 40
 ·
  have g40 : (40 : Int) < (n : Int) + 1 := by omega
  have E : Hid (o = none) := by show _ = _; rw [← HO.out, if_pos (Or.inl h40)]
  go_wp2_with fail
  go_ret
  exact Ckd.no E.out CB1.out (by omega) (by omega) (by omega) (Nat.le_refl _) KS1.out
 have g40 : ¬ (40 : Int) < (n : Int) + 1 := by omega
 go_wp2_with fail
 refine (LE.out _).mono ?_
 rintro ex W2 ⟨rfl, k2⟩
 have A2 := hid (bl_kp A1.out k2)
 have P2 := hid (bl_kp P1.out k2)
 have CB2 := hid (CB1.out.kp k2)
 have KS2 := hid (KS1.out.kpt' k2 CB1.out.lt)
 have R2 := hid (R1.out.kp k2)
 clear k2 A1 P1 CB1 KS1 R1 a0 a1 a2 a3 a4 a5 a6 a7 a8 c1
 cases lb with
 | false =>
  have E : Hid (o = none) := by show _ = _; rw [← HO.out, if_pos (Or.inr rfl)]
  go_wp2_with fail
  go_ret
  exact Ckd.no E.out CB2.out (by omega) (by omega) (by omega) (Nat.le_refl _) KS2.out
 | true =>
  have a0 := bl_cell (A2.out) 0 _ rfl
  have a1 := bl_cell (A2.out) 1 _ rfl
  have a2 := bl_cell (A2.out) 2 _ rfl
  have a3 := bl_cell (A2.out) 3 _ rfl
  have a4 := bl_cell (A2.out) 4 _ rfl
  have a5 := bl_cell (A2.out) 5 _ rfl
  have a6 := bl_cell (A2.out) 6 _ rfl
  have a7 := bl_cell (A2.out) 7 _ rfl
  have a8 := bl_cell (A2.out) 8 _ rfl
  have q0 := CB2.out.cells.1
  have q2 := CB2.out.cells.2.2.1
  have e0 := bl_cell P2.out 0 _ rfl
  have e1 := bl_cell P2.out 1 _ rfl
  by_cases k1 : k = 1
  ·
   subst k1
   have E0 : Hid (o = if cnt (W4.bit t) 256 > 0 then some ⟨n + 1, g, d⟩ else none) := by show _ = _; rw [← HO.out, if_neg (by simp; omega), if_pos rfl]
   have CN : Hid (∀ w, Calls Tryz.prog 103 #[vv t.a t.b t.c t.d] w fun e w' => e = .returned (.int .i64 (cnt (W4.bit t) 256 : Nat)) ∧ Kp w w') := fun w => by rw [HSV.out]; exact count_any _ w
   go_wp2_with fail
   clear a0 a1 a2 a3 a4 a5 a6 a7 a8 q0 q2 e0 e1
   refine (CN.out _).mono ?_
   rintro ex W3 ⟨rfl, k3⟩
   have CB3 := hid (CB2.out.kp k3)
   have KS3 := hid (KS2.out.kpt' k3 CB2.out.lt)
   clear k3
   by_cases h0 : cnt (W4.bit t) 256 > 0
   ·
    have E : Hid (o = some ⟨n + 1, g, d⟩) := by show _ = _; rw [E0.out, if_pos h0]
    have g0 : (0 : Int) < (cnt (W4.bit t) 256 : Int) := by omega
    go_wp2_with fail
    go_ret
    exact Ckd.yes E.out CB3.out (by omega) (by omega) (by omega) (Nat.le_refl _) KS3.out
   ·
    have E : Hid (o = none) := by show _ = _; rw [E0.out, if_neg h0]
    have g0 : ¬ (0 : Int) < (cnt (W4.bit t) 256 : Int) := by omega
    go_wp2_with fail
    go_ret
    exact Ckd.no E.out CB3.out (by omega) (by omega) (by omega) (Nat.le_refl _) KS3.out
  by_cases k2 : k = 2
  ·
   subst k2
   have E : Hid (o = chkCat ere kids true ⟨n + 1, g, d⟩) := by show _ = _; rw [← HO.out, if_neg (by simp; omega), if_neg (by omega), if_pos rfl]
   go_wp2_with fail
   clear a0 a1 a2 a3 a4 a5 a6 a7 a8 q0 q2 e0 e1
   refine (cat_any ere kids HH.out C ok ad l c (n + 1) g d _ R2.out HOK.out CB2.out (by omega) (by omega) hd hl).mono ?_
   intro ex W3 hcd
   obtain ⟨bq, rfl⟩ : ∃ bq, ex = .returned (.bool bq) := by obtain ⟨bq, h1, _⟩ := hcd.ex; exact ⟨bq, h1⟩
   have CD := hid (hcd.from KS2.out)
   clear hcd
   go_wp2_with fail
   go_ret
   rw [E.out]
   exact CD.out
  by_cases k3 : k = 3
  ·
   subst k3
   have E0 : Hid (o = if ere then chkAlt ere kids ⟨n + 1, g, d⟩ else none) := by show _ = _; rw [← HO.out, if_neg (by simp; omega), if_neg (by omega), if_neg (by omega), if_pos rfl]
   cases ere with
   | false =>
    have E : Hid (o = none) := by show _ = _; rw [E0.out]; rfl
    go_wp2_with fail
    go_ret
    exact Ckd.no E.out CB2.out (by omega) (by omega) (by omega) (Nat.le_refl _) KS2.out
   | true =>
    have E : Hid (o = chkAlt true kids ⟨n + 1, g, d⟩) := by show _ = _; rw [E0.out]; rfl
    go_wp2_with fail
    clear a0 a1 a2 a3 a4 a5 a6 a7 a8 q0 q2 e0 e1
    refine (alt_any true kids HH.out C ok ad l c (n + 1) g d _ R2.out HOK.out CB2.out (by omega) (by omega) hd hl).mono ?_
    intro ex W3 hcd
    obtain ⟨bq, rfl⟩ : ∃ bq, ex = .returned (.bool bq) := by obtain ⟨bq, h1, _⟩ := hcd.ex; exact ⟨bq, h1⟩
    have CD := hid (hcd.from KS2.out)
    clear hcd
    go_wp2_with fail
    go_ret
    rw [E.out]
    exact CD.out
  by_cases k4 : k = 4
  ·
   subst k4
   obtain ⟨r, rfl⟩ := HK1.out rfl (by omega)
   have E : Hid (o = if timesFit mn mx then chkRep ere [r] ⟨n + 1, g, d⟩ else none) := by show _ = _; rw [← HO.out, if_neg (by simp; omega), if_neg (by omega), if_neg (by omega), if_neg (by omega), if_pos rfl]
   go_wp2_with fail
   clear a0 a1 a2 a3 a4 a5 a6 a7 a8 q0 q2 e0 e1
   refine (rep_any ere r (HH.out r (by simp)) C ok 4 mn mx m t ad l c (n + 1) g d _ R2.out HOK.out CB2.out (by omega) (by omega) hd).mono ?_
   intro ex W3 hcd
   obtain ⟨bq, rfl⟩ : ∃ bq, ex = .returned (.bool bq) := by obtain ⟨bq, h1, _⟩ := hcd.ex; exact ⟨bq, h1⟩
   have CD := hid (hcd.from KS2.out)
   clear hcd
   go_wp2_with fail
   go_ret
   rw [E.out]
   exact CD.out
  by_cases k5 : k = 5
  ·
   subst k5
   obtain ⟨r, rfl⟩ := HK1.out rfl (by omega)
   have E : Hid (o = if m ≠ (g + 1 : Nat) ∨ g + 1 > 3 ∨ d = 6 then none else chkGroup ere [r] ⟨n + 1, g + 1, d + 1⟩) := by show _ = _; rw [← HO.out, if_neg (by simp; omega), if_neg (by omega), if_neg (by omega), if_neg (by omega), if_neg (by omega), if_pos rfl]
   go_wp2_with fail
   clear a0 a1 a2 a3 a4 a5 a6 a7 a8 q0 q2 e0 e1
   refine (cgroup_any ere r (HH.out r (by simp)) C ok 5 mn mx m t ad l c (n + 1) g d _ R2.out HOK.out CB2.out (by omega) (by omega) hd).mono ?_
   intro ex W3 hcd
   obtain ⟨bq, rfl⟩ : ∃ bq, ex = .returned (.bool bq) := by obtain ⟨bq, h1, _⟩ := hcd.ex; exact ⟨bq, h1⟩
   have CD := hid (hcd.from KS2.out)
   clear hcd
   go_wp2_with fail
   go_ret
   rw [E.out]
   exact CD.out
  by_cases k6 : k = 6
  ·
   subst k6
   have E0 : Hid (o = if 1 ≤ m ∧ m ≤ (g : Int) then some ⟨n + 1, g, d⟩ else none) := by show _ = _; rw [← HO.out, if_neg (by simp; omega), if_neg (by omega), if_neg (by omega), if_neg (by omega), if_neg (by omega), if_neg (by omega), if_pos rfl]
   by_cases m1 : 1 ≤ m
   ·
    by_cases m2 : m ≤ (g : Int)
    ·
     have E : Hid (o = some ⟨n + 1, g, d⟩) := by show _ = _; rw [E0.out, if_pos ⟨m1, m2⟩]
     go_upto_region 16 with fail
     clear a0 a1 a2 a3 a4 a5 a6 a7 a8 q0 q2 e0 e1
     have Q0 : Kp W2 W2.drew := (Kp.refl _).drew
     have MK : Hid (∀ W, Kp W2 W → W.cell? ⟨w.heap.size, 3, none⟩ = some (.int .i64 m) ∧ W.cell? ⟨C, 2, none⟩ = some (.int .i64 (g : Int)) ∧ Hid (Kp W2 W)) := fun W k => ⟨bl_cell (bl_kp A2.out k) 3 _ rfl, (CB2.out.kp k).cells.2.2.1, k⟩
     refine wp_region_noPanic ?_
     refine wp_region_held_drew (S := (fun W => W.cell? ⟨w.heap.size, 3, none⟩ = some (.int .i64 m) ∧ W.cell? ⟨C, 2, none⟩ = some (.int .i64 (g : Int)) ∧ Hid (Kp W2 W))) (by kernel_rfl) ?_ (fun hH => ?_)
     ·
      exact MK.out _ Q0
     have KQ := Q0
     refine wpAnyH_take (i := 0) (oi := { dst := some 62, op := Op.fieldAddr 27 (Operand.tmp 4) 3, type := 0, pos := "right.go:45", after := #[], guard := none }) (v := ?v0a1) rfl (by kernel_rfl) (by kernel_rfl) (by kernel_rfl) (fun _ _ _ h => h) (Or.inl ⟨by rfl, ?hy0a1⟩) hH ?r0a1
     case hy0a1 => (intro W hSw; (try dsimp only at hSw); go_simp; try (with_reducible rfl))
     try simp only [Act.put, List.setIfInBounds_toArray, List.set_cons_zero, List.set_cons_succ]
     refine wpAnyH_take (i := 1) (oi := { dst := some 63, op := Op.load 3 (Operand.tmp 62), type := 3, pos := "right.go:45", after := #[{ on := 0, ground := Ground.data }], guard := none }) (v := ?v1a2) rfl (by kernel_rfl) (by kernel_rfl) (by kernel_rfl) (fun _ _ _ h => h) (Or.inl ⟨by rfl, ?hy1a2⟩) hH ?r1a2
     case hy1a2 => (intro W hSw; (try dsimp only at hSw); go_simp; try (with_reducible rfl))
     try simp only [Act.put, List.setIfInBounds_toArray, List.set_cons_zero, List.set_cons_succ]
     refine wpAnyH_take (i := 2) (oi := { dst := some 64, op := Op.binOp BinOp.leq 3 (Operand.const (Value.int IntKind.i64 1)) (Operand.tmp 63) 3, type := 4, pos := "right.go:45", after := #[{ on := 1, ground := Ground.data }], guard := none }) (v := ?v2a3) rfl (by kernel_rfl) (by kernel_rfl) (by kernel_rfl) (fun _ _ _ h => h) (Or.inl ⟨by rfl, ?hy2a3⟩) hH ?r2a3
     case hy2a3 => (intro W hSw; (try dsimp only at hSw); go_simp; try (with_reducible rfl))
     try simp only [Act.put, List.setIfInBounds_toArray, List.set_cons_zero, List.set_cons_succ]
     refine wpAnyH_take (i := 3) (oi := { dst := some 65, op := Op.move (Operand.tmp 64), type := 4, pos := "right.go:45", after := #[{ on := 2, ground := Ground.data }], guard := none }) (v := ?v3a4) rfl (by kernel_rfl) (by kernel_rfl) (by kernel_rfl) (fun _ _ _ h => h) (Or.inl ⟨by rfl, ?hy3a4⟩) hH ?r3a4
     case hy3a4 => (intro W hSw; (try dsimp only at hSw); go_simp; try (with_reducible rfl))
     try simp only [Act.put, List.setIfInBounds_toArray, List.set_cons_zero, List.set_cons_succ]
     refine wpAnyH_take (i := 4) (oi := { dst := some 66, op := Op.fieldAddr 27 (Operand.tmp 4) 3, type := 0, pos := "right.go:45", after := #[{ on := 3, ground := Ground.guard }], guard := some (3, true) }) (v := ?v4a5) rfl (by kernel_rfl) (by kernel_rfl) (by kernel_rfl) (fun _ _ _ h => h) (Or.inl ⟨by rfl, ?hy4a5⟩) hH ?r4a5
     case hy4a5 => (intro W hSw; (try dsimp only at hSw); go_simp; try (with_reducible rfl))
     try simp only [Act.put, List.setIfInBounds_toArray, List.set_cons_zero, List.set_cons_succ]
     refine wpAnyH_take (i := 5) (oi := { dst := some 67, op := Op.load 3 (Operand.tmp 66), type := 3, pos := "right.go:45", after := #[{ on := 4, ground := Ground.data }, { on := 3, ground := Ground.guard }], guard := some (3, true) }) (v := ?v5a6) rfl (by kernel_rfl) (by kernel_rfl) (by kernel_rfl) (fun _ _ _ h => h) (Or.inl ⟨by rfl, ?hy5a6⟩) hH ?r5a6
     case hy5a6 => (intro W hSw; (try dsimp only at hSw); go_simp; try (with_reducible rfl))
     try simp only [Act.put, List.setIfInBounds_toArray, List.set_cons_zero, List.set_cons_succ]
     refine wpAnyH_take (i := 6) (oi := { dst := some 68, op := Op.move (Operand.tmp 0), type := 133, pos := "right.go:45", after := #[{ on := 3, ground := Ground.guard }], guard := some (3, true) }) (v := ?v6a7) rfl (by kernel_rfl) (by kernel_rfl) (by kernel_rfl) (fun _ _ _ h => h) (Or.inl ⟨by rfl, ?hy6a7⟩) hH ?r6a7
     case hy6a7 => (intro W hSw; (try dsimp only at hSw); go_simp; try (with_reducible rfl))
     try simp only [Act.put, List.setIfInBounds_toArray, List.set_cons_zero, List.set_cons_succ]
     refine wpAnyH_take (i := 7) (oi := { dst := some 69, op := Op.nilCheck (Operand.tmp 68), type := 0, pos := "right.go:45", after := #[{ on := 6, ground := Ground.data }, { on := 3, ground := Ground.guard }], guard := some (3, true) }) (v := ?v7a8) rfl (by kernel_rfl) (by kernel_rfl) (by kernel_rfl) (fun _ _ _ h => h) (Or.inl ⟨by rfl, ?hy7a8⟩) hH ?r7a8
     case hy7a8 => (intro W hSw; (try dsimp only at hSw); go_simp; try (with_reducible rfl))
     try simp only [Act.put, List.setIfInBounds_toArray, List.set_cons_zero, List.set_cons_succ]
     refine wpAnyH_take (i := 8) (oi := { dst := some 70, op := Op.fieldAddr 101 (Operand.tmp 69) 2, type := 0, pos := "right.go:45", after := #[{ on := 7, ground := Ground.data }, { on := 3, ground := Ground.guard }], guard := some (3, true) }) (v := ?v8a9) rfl (by kernel_rfl) (by kernel_rfl) (by kernel_rfl) (fun _ _ _ h => h) (Or.inl ⟨by rfl, ?hy8a9⟩) hH ?r8a9
     case hy8a9 => (intro W hSw; (try dsimp only at hSw); go_simp; try (with_reducible rfl))
     try simp only [Act.put, List.setIfInBounds_toArray, List.set_cons_zero, List.set_cons_succ]
     refine wpAnyH_take (i := 9) (oi := { dst := some 71, op := Op.load 3 (Operand.tmp 70), type := 3, pos := "right.go:45", after := #[{ on := 8, ground := Ground.data }, { on := 3, ground := Ground.guard }], guard := some (3, true) }) (v := ?v9a10) rfl (by kernel_rfl) (by kernel_rfl) (by kernel_rfl) (fun _ _ _ h => h) (Or.inl ⟨by rfl, ?hy9a10⟩) hH ?r9a10
     case hy9a10 => (intro W hSw; (try dsimp only at hSw); go_simp; try (with_reducible rfl))
     try simp only [Act.put, List.setIfInBounds_toArray, List.set_cons_zero, List.set_cons_succ]
     refine wpAnyH_take (i := 10) (oi := { dst := some 72, op := Op.binOp BinOp.leq 3 (Operand.tmp 67) (Operand.tmp 71) 3, type := 4, pos := "right.go:45", after := #[{ on := 5, ground := Ground.data }, { on := 9, ground := Ground.data }, { on := 3, ground := Ground.guard }], guard := some (3, true) }) (v := ?v10a11) rfl (by kernel_rfl) (by kernel_rfl) (by kernel_rfl) (fun _ _ _ h => h) (Or.inl ⟨by rfl, ?hy10a11⟩) hH ?r10a11
     case hy10a11 => (intro W hSw; (try dsimp only at hSw); go_simp; try (with_reducible rfl))
     try simp only [Act.put, List.setIfInBounds_toArray, List.set_cons_zero, List.set_cons_succ]
     refine wpAnyH_take (i := 11) (oi := { dst := some 73, op := Op.pick (Operand.tmp 65) (Operand.tmp 72) (Operand.const (Value.bool false)), type := 4, pos := "right.go:45", after := #[{ on := 3, ground := Ground.data }, { on := 10, ground := Ground.data }], guard := none }) (v := ?v11a12) rfl (by kernel_rfl) (by kernel_rfl) (by kernel_rfl) (fun _ _ _ h => h) (Or.inl ⟨by rfl, ?hy11a12⟩) hH ?r11a12
     case hy11a12 => (intro W hSw; (try dsimp only at hSw); go_simp; try (with_reducible rfl))
     try simp only [Act.put, List.setIfInBounds_toArray, List.set_cons_zero, List.set_cons_succ]
     refine wpAnyH_take (i := 12) (oi := { dst := some 6, op := Op.assign (Operand.tmp 73), type := 4, pos := "right.go:45", after := #[{ on := 11, ground := Ground.data }, { on := 3, ground := Ground.chain }, { on := 0, ground := Ground.phase }, { on := 1, ground := Ground.phase }, { on := 2, ground := Ground.phase }, { on := 3, ground := Ground.phase }, { on := 4, ground := Ground.phase }, { on := 5, ground := Ground.phase }, { on := 6, ground := Ground.phase }, { on := 7, ground := Ground.phase }, { on := 8, ground := Ground.phase }, { on := 9, ground := Ground.phase }, { on := 10, ground := Ground.phase }, { on := 11, ground := Ground.phase }], guard := none }) (v := ?v12a13) rfl (by kernel_rfl) (by kernel_rfl) (by kernel_rfl) (fun _ _ _ h => h) (Or.inl ⟨by rfl, ?hy12a13⟩) hH ?r12a13
     case hy12a13 => (intro W hSw; (try dsimp only at hSw); go_simp; try (with_reducible rfl))
     try simp only [Act.put, List.setIfInBounds_toArray, List.set_cons_zero, List.set_cons_succ]
     refine wpAnyH_done (by kernel_rfl) ?_ _
     refine NoPanic.normal ?_
     go_wp2_with fail
     go_ret
     exact Ckd.yes E.out (CB2.out.kp KQ) (by omega) (by omega) (by omega) (Nat.le_refl _) (KS2.out.kpt' KQ CB2.out.lt)
    ·
     have E : Hid (o = none) := by show _ = _; rw [E0.out, if_neg (fun h => m2 h.2)]
     have m2d : decide (m ≤ (g : Int)) = false := decide_eq_false m2
     go_upto_region 16 with fail
     clear a0 a1 a2 a3 a4 a5 a6 a7 a8 q0 q2 e0 e1
     have Q0 : Kp W2 W2.drew := (Kp.refl _).drew
     have MK : Hid (∀ W, Kp W2 W → W.cell? ⟨w.heap.size, 3, none⟩ = some (.int .i64 m) ∧ W.cell? ⟨C, 2, none⟩ = some (.int .i64 (g : Int)) ∧ Hid (Kp W2 W)) := fun W k => ⟨bl_cell (bl_kp A2.out k) 3 _ rfl, (CB2.out.kp k).cells.2.2.1, k⟩
     refine wp_region_noPanic ?_
     refine wp_region_held_drew (S := (fun W => W.cell? ⟨w.heap.size, 3, none⟩ = some (.int .i64 m) ∧ W.cell? ⟨C, 2, none⟩ = some (.int .i64 (g : Int)) ∧ Hid (Kp W2 W))) (by kernel_rfl) ?_ (fun hH => ?_)
     ·
      exact MK.out _ Q0
     have KQ := Q0
     refine wpAnyH_take (i := 0) (oi := { dst := some 62, op := Op.fieldAddr 27 (Operand.tmp 4) 3, type := 0, pos := "right.go:45", after := #[], guard := none }) (v := ?v0b1) rfl (by kernel_rfl) (by kernel_rfl) (by kernel_rfl) (fun _ _ _ h => h) (Or.inl ⟨by rfl, ?hy0b1⟩) hH ?r0b1
     case hy0b1 => (intro W hSw; (try dsimp only at hSw); go_simp; try (with_reducible rfl))
     try simp only [Act.put, List.setIfInBounds_toArray, List.set_cons_zero, List.set_cons_succ]
     refine wpAnyH_take (i := 1) (oi := { dst := some 63, op := Op.load 3 (Operand.tmp 62), type := 3, pos := "right.go:45", after := #[{ on := 0, ground := Ground.data }], guard := none }) (v := ?v1b2) rfl (by kernel_rfl) (by kernel_rfl) (by kernel_rfl) (fun _ _ _ h => h) (Or.inl ⟨by rfl, ?hy1b2⟩) hH ?r1b2
     case hy1b2 => (intro W hSw; (try dsimp only at hSw); go_simp; try (with_reducible rfl))
     try simp only [Act.put, List.setIfInBounds_toArray, List.set_cons_zero, List.set_cons_succ]
     refine wpAnyH_take (i := 2) (oi := { dst := some 64, op := Op.binOp BinOp.leq 3 (Operand.const (Value.int IntKind.i64 1)) (Operand.tmp 63) 3, type := 4, pos := "right.go:45", after := #[{ on := 1, ground := Ground.data }], guard := none }) (v := ?v2b3) rfl (by kernel_rfl) (by kernel_rfl) (by kernel_rfl) (fun _ _ _ h => h) (Or.inl ⟨by rfl, ?hy2b3⟩) hH ?r2b3
     case hy2b3 => (intro W hSw; (try dsimp only at hSw); go_simp; try (with_reducible rfl))
     try simp only [Act.put, List.setIfInBounds_toArray, List.set_cons_zero, List.set_cons_succ]
     refine wpAnyH_take (i := 3) (oi := { dst := some 65, op := Op.move (Operand.tmp 64), type := 4, pos := "right.go:45", after := #[{ on := 2, ground := Ground.data }], guard := none }) (v := ?v3b4) rfl (by kernel_rfl) (by kernel_rfl) (by kernel_rfl) (fun _ _ _ h => h) (Or.inl ⟨by rfl, ?hy3b4⟩) hH ?r3b4
     case hy3b4 => (intro W hSw; (try dsimp only at hSw); go_simp; try (with_reducible rfl))
     try simp only [Act.put, List.setIfInBounds_toArray, List.set_cons_zero, List.set_cons_succ]
     refine wpAnyH_take (i := 4) (oi := { dst := some 66, op := Op.fieldAddr 27 (Operand.tmp 4) 3, type := 0, pos := "right.go:45", after := #[{ on := 3, ground := Ground.guard }], guard := some (3, true) }) (v := ?v4b5) rfl (by kernel_rfl) (by kernel_rfl) (by kernel_rfl) (fun _ _ _ h => h) (Or.inl ⟨by rfl, ?hy4b5⟩) hH ?r4b5
     case hy4b5 => (intro W hSw; (try dsimp only at hSw); go_simp; try (with_reducible rfl))
     try simp only [Act.put, List.setIfInBounds_toArray, List.set_cons_zero, List.set_cons_succ]
     refine wpAnyH_take (i := 5) (oi := { dst := some 67, op := Op.load 3 (Operand.tmp 66), type := 3, pos := "right.go:45", after := #[{ on := 4, ground := Ground.data }, { on := 3, ground := Ground.guard }], guard := some (3, true) }) (v := ?v5b6) rfl (by kernel_rfl) (by kernel_rfl) (by kernel_rfl) (fun _ _ _ h => h) (Or.inl ⟨by rfl, ?hy5b6⟩) hH ?r5b6
     case hy5b6 => (intro W hSw; (try dsimp only at hSw); go_simp; try (with_reducible rfl))
     try simp only [Act.put, List.setIfInBounds_toArray, List.set_cons_zero, List.set_cons_succ]
     refine wpAnyH_take (i := 6) (oi := { dst := some 68, op := Op.move (Operand.tmp 0), type := 133, pos := "right.go:45", after := #[{ on := 3, ground := Ground.guard }], guard := some (3, true) }) (v := ?v6b7) rfl (by kernel_rfl) (by kernel_rfl) (by kernel_rfl) (fun _ _ _ h => h) (Or.inl ⟨by rfl, ?hy6b7⟩) hH ?r6b7
     case hy6b7 => (intro W hSw; (try dsimp only at hSw); go_simp; try (with_reducible rfl))
     try simp only [Act.put, List.setIfInBounds_toArray, List.set_cons_zero, List.set_cons_succ]
     refine wpAnyH_take (i := 7) (oi := { dst := some 69, op := Op.nilCheck (Operand.tmp 68), type := 0, pos := "right.go:45", after := #[{ on := 6, ground := Ground.data }, { on := 3, ground := Ground.guard }], guard := some (3, true) }) (v := ?v7b8) rfl (by kernel_rfl) (by kernel_rfl) (by kernel_rfl) (fun _ _ _ h => h) (Or.inl ⟨by rfl, ?hy7b8⟩) hH ?r7b8
     case hy7b8 => (intro W hSw; (try dsimp only at hSw); go_simp; try (with_reducible rfl))
     try simp only [Act.put, List.setIfInBounds_toArray, List.set_cons_zero, List.set_cons_succ]
     refine wpAnyH_take (i := 8) (oi := { dst := some 70, op := Op.fieldAddr 101 (Operand.tmp 69) 2, type := 0, pos := "right.go:45", after := #[{ on := 7, ground := Ground.data }, { on := 3, ground := Ground.guard }], guard := some (3, true) }) (v := ?v8b9) rfl (by kernel_rfl) (by kernel_rfl) (by kernel_rfl) (fun _ _ _ h => h) (Or.inl ⟨by rfl, ?hy8b9⟩) hH ?r8b9
     case hy8b9 => (intro W hSw; (try dsimp only at hSw); go_simp; try (with_reducible rfl))
     try simp only [Act.put, List.setIfInBounds_toArray, List.set_cons_zero, List.set_cons_succ]
     refine wpAnyH_take (i := 9) (oi := { dst := some 71, op := Op.load 3 (Operand.tmp 70), type := 3, pos := "right.go:45", after := #[{ on := 8, ground := Ground.data }, { on := 3, ground := Ground.guard }], guard := some (3, true) }) (v := ?v9b10) rfl (by kernel_rfl) (by kernel_rfl) (by kernel_rfl) (fun _ _ _ h => h) (Or.inl ⟨by rfl, ?hy9b10⟩) hH ?r9b10
     case hy9b10 => (intro W hSw; (try dsimp only at hSw); go_simp; try (with_reducible rfl))
     try simp only [Act.put, List.setIfInBounds_toArray, List.set_cons_zero, List.set_cons_succ]
     refine wpAnyH_take (i := 10) (oi := { dst := some 72, op := Op.binOp BinOp.leq 3 (Operand.tmp 67) (Operand.tmp 71) 3, type := 4, pos := "right.go:45", after := #[{ on := 5, ground := Ground.data }, { on := 9, ground := Ground.data }, { on := 3, ground := Ground.guard }], guard := some (3, true) }) (v := ?v10b11) rfl (by kernel_rfl) (by kernel_rfl) (by kernel_rfl) (fun _ _ _ h => h) (Or.inl ⟨by rfl, ?hy10b11⟩) hH ?r10b11
     case hy10b11 => (intro W hSw; (try dsimp only at hSw); go_simp; try (with_reducible rfl))
     try simp only [Act.put, List.setIfInBounds_toArray, List.set_cons_zero, List.set_cons_succ]
     refine wpAnyH_take (i := 11) (oi := { dst := some 73, op := Op.pick (Operand.tmp 65) (Operand.tmp 72) (Operand.const (Value.bool false)), type := 4, pos := "right.go:45", after := #[{ on := 3, ground := Ground.data }, { on := 10, ground := Ground.data }], guard := none }) (v := ?v11b12) rfl (by kernel_rfl) (by kernel_rfl) (by kernel_rfl) (fun _ _ _ h => h) (Or.inl ⟨by rfl, ?hy11b12⟩) hH ?r11b12
     case hy11b12 => (intro W hSw; (try dsimp only at hSw); go_simp; try (with_reducible rfl))
     try simp only [Act.put, List.setIfInBounds_toArray, List.set_cons_zero, List.set_cons_succ]
     refine wpAnyH_take (i := 12) (oi := { dst := some 6, op := Op.assign (Operand.tmp 73), type := 4, pos := "right.go:45", after := #[{ on := 11, ground := Ground.data }, { on := 3, ground := Ground.chain }, { on := 0, ground := Ground.phase }, { on := 1, ground := Ground.phase }, { on := 2, ground := Ground.phase }, { on := 3, ground := Ground.phase }, { on := 4, ground := Ground.phase }, { on := 5, ground := Ground.phase }, { on := 6, ground := Ground.phase }, { on := 7, ground := Ground.phase }, { on := 8, ground := Ground.phase }, { on := 9, ground := Ground.phase }, { on := 10, ground := Ground.phase }, { on := 11, ground := Ground.phase }], guard := none }) (v := ?v12b13) rfl (by kernel_rfl) (by kernel_rfl) (by kernel_rfl) (fun _ _ _ h => h) (Or.inl ⟨by rfl, ?hy12b13⟩) hH ?r12b13
     case hy12b13 => (intro W hSw; (try dsimp only at hSw); go_simp; try (with_reducible rfl))
     try simp only [Act.put, List.setIfInBounds_toArray, List.set_cons_zero, List.set_cons_succ]
     refine wpAnyH_done (by kernel_rfl) ?_ _
     refine NoPanic.normal ?_
     go_wp2_with fail
     go_ret
     exact Ckd.no E.out (CB2.out.kp KQ) (by omega) (by omega) (by omega) (Nat.le_refl _) (KS2.out.kpt' KQ CB2.out.lt)
   ·
    have E : Hid (o = none) := by show _ = _; rw [E0.out, if_neg (fun h => m1 h.1)]
    have m1d : decide (1 ≤ m) = false := decide_eq_false m1
    go_upto_region 16 with fail
    clear a0 a1 a2 a3 a4 a5 a6 a7 a8 q0 q2 e0 e1
    have Q0 : Kp W2 W2.drew := (Kp.refl _).drew
    have MK : Hid (∀ W, Kp W2 W → W.cell? ⟨w.heap.size, 3, none⟩ = some (.int .i64 m) ∧ W.cell? ⟨C, 2, none⟩ = some (.int .i64 (g : Int)) ∧ Hid (Kp W2 W)) := fun W k => ⟨bl_cell (bl_kp A2.out k) 3 _ rfl, (CB2.out.kp k).cells.2.2.1, k⟩
    refine wp_region_noPanic ?_
    refine wp_region_held_drew (S := (fun W => W.cell? ⟨w.heap.size, 3, none⟩ = some (.int .i64 m) ∧ W.cell? ⟨C, 2, none⟩ = some (.int .i64 (g : Int)) ∧ Hid (Kp W2 W))) (by kernel_rfl) ?_ (fun hH => ?_)
    ·
     exact MK.out _ Q0
    have KQ := Q0
    refine wpAnyH_take (i := 0) (oi := { dst := some 62, op := Op.fieldAddr 27 (Operand.tmp 4) 3, type := 0, pos := "right.go:45", after := #[], guard := none }) (v := ?v0c1) rfl (by kernel_rfl) (by kernel_rfl) (by kernel_rfl) (fun _ _ _ h => h) (Or.inl ⟨by rfl, ?hy0c1⟩) hH ?r0c1
    case hy0c1 => (intro W hSw; (try dsimp only at hSw); go_simp; try (with_reducible rfl))
    try simp only [Act.put, List.setIfInBounds_toArray, List.set_cons_zero, List.set_cons_succ]
    refine wpAnyH_take (i := 1) (oi := { dst := some 63, op := Op.load 3 (Operand.tmp 62), type := 3, pos := "right.go:45", after := #[{ on := 0, ground := Ground.data }], guard := none }) (v := ?v1c2) rfl (by kernel_rfl) (by kernel_rfl) (by kernel_rfl) (fun _ _ _ h => h) (Or.inl ⟨by rfl, ?hy1c2⟩) hH ?r1c2
    case hy1c2 => (intro W hSw; (try dsimp only at hSw); go_simp; try (with_reducible rfl))
    try simp only [Act.put, List.setIfInBounds_toArray, List.set_cons_zero, List.set_cons_succ]
    refine wpAnyH_take (i := 2) (oi := { dst := some 64, op := Op.binOp BinOp.leq 3 (Operand.const (Value.int IntKind.i64 1)) (Operand.tmp 63) 3, type := 4, pos := "right.go:45", after := #[{ on := 1, ground := Ground.data }], guard := none }) (v := ?v2c3) rfl (by kernel_rfl) (by kernel_rfl) (by kernel_rfl) (fun _ _ _ h => h) (Or.inl ⟨by rfl, ?hy2c3⟩) hH ?r2c3
    case hy2c3 => (intro W hSw; (try dsimp only at hSw); go_simp; try (with_reducible rfl))
    try simp only [Act.put, List.setIfInBounds_toArray, List.set_cons_zero, List.set_cons_succ]
    refine wpAnyH_take (i := 3) (oi := { dst := some 65, op := Op.move (Operand.tmp 64), type := 4, pos := "right.go:45", after := #[{ on := 2, ground := Ground.data }], guard := none }) (v := ?v3c4) rfl (by kernel_rfl) (by kernel_rfl) (by kernel_rfl) (fun _ _ _ h => h) (Or.inl ⟨by rfl, ?hy3c4⟩) hH ?r3c4
    case hy3c4 => (intro W hSw; (try dsimp only at hSw); go_simp; try (with_reducible rfl))
    try simp only [Act.put, List.setIfInBounds_toArray, List.set_cons_zero, List.set_cons_succ]
    refine wpAnyH_take (i := 4) (oi := { dst := some 66, op := Op.fieldAddr 27 (Operand.tmp 4) 3, type := 0, pos := "right.go:45", after := #[{ on := 3, ground := Ground.guard }], guard := some (3, true) }) (v := undef) rfl (by kernel_rfl) (by kernel_rfl) (by kernel_rfl) (fun _ _ _ h => h) (Or.inr ⟨by rfl, rfl⟩) hH ?r4c5
    try simp only [Act.put, List.setIfInBounds_toArray, List.set_cons_zero, List.set_cons_succ]
    refine wpAnyH_take (i := 5) (oi := { dst := some 67, op := Op.load 3 (Operand.tmp 66), type := 3, pos := "right.go:45", after := #[{ on := 4, ground := Ground.data }, { on := 3, ground := Ground.guard }], guard := some (3, true) }) (v := undef) rfl (by kernel_rfl) (by kernel_rfl) (by kernel_rfl) (fun _ _ _ h => h) (Or.inr ⟨by rfl, rfl⟩) hH ?r5c6
    try simp only [Act.put, List.setIfInBounds_toArray, List.set_cons_zero, List.set_cons_succ]
    refine wpAnyH_take (i := 6) (oi := { dst := some 68, op := Op.move (Operand.tmp 0), type := 133, pos := "right.go:45", after := #[{ on := 3, ground := Ground.guard }], guard := some (3, true) }) (v := undef) rfl (by kernel_rfl) (by kernel_rfl) (by kernel_rfl) (fun _ _ _ h => h) (Or.inr ⟨by rfl, rfl⟩) hH ?r6c7
    try simp only [Act.put, List.setIfInBounds_toArray, List.set_cons_zero, List.set_cons_succ]
    refine wpAnyH_take (i := 7) (oi := { dst := some 69, op := Op.nilCheck (Operand.tmp 68), type := 0, pos := "right.go:45", after := #[{ on := 6, ground := Ground.data }, { on := 3, ground := Ground.guard }], guard := some (3, true) }) (v := undef) rfl (by kernel_rfl) (by kernel_rfl) (by kernel_rfl) (fun _ _ _ h => h) (Or.inr ⟨by rfl, rfl⟩) hH ?r7c8
    try simp only [Act.put, List.setIfInBounds_toArray, List.set_cons_zero, List.set_cons_succ]
    refine wpAnyH_take (i := 8) (oi := { dst := some 70, op := Op.fieldAddr 101 (Operand.tmp 69) 2, type := 0, pos := "right.go:45", after := #[{ on := 7, ground := Ground.data }, { on := 3, ground := Ground.guard }], guard := some (3, true) }) (v := undef) rfl (by kernel_rfl) (by kernel_rfl) (by kernel_rfl) (fun _ _ _ h => h) (Or.inr ⟨by rfl, rfl⟩) hH ?r8c9
    try simp only [Act.put, List.setIfInBounds_toArray, List.set_cons_zero, List.set_cons_succ]
    refine wpAnyH_take (i := 9) (oi := { dst := some 71, op := Op.load 3 (Operand.tmp 70), type := 3, pos := "right.go:45", after := #[{ on := 8, ground := Ground.data }, { on := 3, ground := Ground.guard }], guard := some (3, true) }) (v := undef) rfl (by kernel_rfl) (by kernel_rfl) (by kernel_rfl) (fun _ _ _ h => h) (Or.inr ⟨by rfl, rfl⟩) hH ?r9c10
    try simp only [Act.put, List.setIfInBounds_toArray, List.set_cons_zero, List.set_cons_succ]
    refine wpAnyH_take (i := 10) (oi := { dst := some 72, op := Op.binOp BinOp.leq 3 (Operand.tmp 67) (Operand.tmp 71) 3, type := 4, pos := "right.go:45", after := #[{ on := 5, ground := Ground.data }, { on := 9, ground := Ground.data }, { on := 3, ground := Ground.guard }], guard := some (3, true) }) (v := undef) rfl (by kernel_rfl) (by kernel_rfl) (by kernel_rfl) (fun _ _ _ h => h) (Or.inr ⟨by rfl, rfl⟩) hH ?r10c11
    try simp only [Act.put, List.setIfInBounds_toArray, List.set_cons_zero, List.set_cons_succ]
    refine wpAnyH_take (i := 11) (oi := { dst := some 73, op := Op.pick (Operand.tmp 65) (Operand.tmp 72) (Operand.const (Value.bool false)), type := 4, pos := "right.go:45", after := #[{ on := 3, ground := Ground.data }, { on := 10, ground := Ground.data }], guard := none }) (v := ?v11c12) rfl (by kernel_rfl) (by kernel_rfl) (by kernel_rfl) (fun _ _ _ h => h) (Or.inl ⟨by rfl, ?hy11c12⟩) hH ?r11c12
    case hy11c12 => (intro W hSw; (try dsimp only at hSw); go_simp; try (with_reducible rfl))
    try simp only [Act.put, List.setIfInBounds_toArray, List.set_cons_zero, List.set_cons_succ]
    refine wpAnyH_take (i := 12) (oi := { dst := some 6, op := Op.assign (Operand.tmp 73), type := 4, pos := "right.go:45", after := #[{ on := 11, ground := Ground.data }, { on := 3, ground := Ground.chain }, { on := 0, ground := Ground.phase }, { on := 1, ground := Ground.phase }, { on := 2, ground := Ground.phase }, { on := 3, ground := Ground.phase }, { on := 4, ground := Ground.phase }, { on := 5, ground := Ground.phase }, { on := 6, ground := Ground.phase }, { on := 7, ground := Ground.phase }, { on := 8, ground := Ground.phase }, { on := 9, ground := Ground.phase }, { on := 10, ground := Ground.phase }, { on := 11, ground := Ground.phase }], guard := none }) (v := ?v12c13) rfl (by kernel_rfl) (by kernel_rfl) (by kernel_rfl) (fun _ _ _ h => h) (Or.inl ⟨by rfl, ?hy12c13⟩) hH ?r12c13
    case hy12c13 => (intro W hSw; (try dsimp only at hSw); go_simp; try (with_reducible rfl))
    try simp only [Act.put, List.setIfInBounds_toArray, List.set_cons_zero, List.set_cons_succ]
    refine wpAnyH_done (by kernel_rfl) ?_ _
    refine NoPanic.normal ?_
    go_wp2_with fail
    go_ret
    exact Ckd.no E.out (CB2.out.kp KQ) (by omega) (by omega) (by omega) (Nat.le_refl _) (KS2.out.kpt' KQ CB2.out.lt)
  by_cases k7 : k = 7
  ·
   subst k7
   have E0 : Hid (o = if ere || b then some ⟨n + 1, g, d⟩ else none) := by show _ = _; rw [← HO.out, if_neg (by simp; omega), if_neg (by omega), if_neg (by omega), if_neg (by omega), if_neg (by omega), if_neg (by omega), if_neg (by omega), if_pos rfl]
   cases ere with
   | true =>
    have E : Hid (o = some ⟨n + 1, g, d⟩) := by show _ = _; rw [E0.out]; rfl
    go_wp2_with fail
    go_ret
    exact Ckd.yes E.out CB2.out (by omega) (by omega) (by omega) (Nat.le_refl _) KS2.out
   | false =>
    cases b with
    | true =>
     have E : Hid (o = some ⟨n + 1, g, d⟩) := by show _ = _; rw [E0.out]; rfl
     go_wp2_with fail
     go_ret
     exact Ckd.yes E.out CB2.out (by omega) (by omega) (by omega) (Nat.le_refl _) KS2.out
    | false =>
     have E : Hid (o = none) := by show _ = _; rw [E0.out]; rfl
     go_wp2_with fail
     go_ret
     exact Ckd.no E.out CB2.out (by omega) (by omega) (by omega) (Nat.le_refl _) KS2.out
  by_cases k8 : k = 8
  ·
   subst k8
   have E0 : Hid (o = if ere || e then some ⟨n + 1, g, d⟩ else none) := by show _ = _; rw [← HO.out, if_neg (by simp; omega), if_neg (by omega), if_neg (by omega), if_neg (by omega), if_neg (by omega), if_neg (by omega), if_neg (by omega), if_neg (by omega), if_pos rfl]
   cases ere with
   | true =>
    have E : Hid (o = some ⟨n + 1, g, d⟩) := by show _ = _; rw [E0.out]; rfl
    go_wp2_with fail
    go_ret
    exact Ckd.yes E.out CB2.out (by omega) (by omega) (by omega) (Nat.le_refl _) KS2.out
   | false =>
    cases e with
    | true =>
     have E : Hid (o = some ⟨n + 1, g, d⟩) := by show _ = _; rw [E0.out]; rfl
     go_wp2_with fail
     go_ret
     exact Ckd.yes E.out CB2.out (by omega) (by omega) (by omega) (Nat.le_refl _) KS2.out
    | false =>
     have E : Hid (o = none) := by show _ = _; rw [E0.out]; rfl
     go_wp2_with fail
     go_ret
     exact Ckd.no E.out CB2.out (by omega) (by omega) (by omega) (Nat.le_refl _) KS2.out
  have g1 : (k == 1) = false := by simp [k1]
  have g2 : (k == 2) = false := by simp [k2]
  have g3 : (k == 3) = false := by simp [k3]
  have g4 : (k == 4) = false := by simp [k4]
  have g5 : (k == 5) = false := by simp [k5]
  have g6 : (k == 6) = false := by simp [k6]
  have g7 : (k == 7) = false := by simp [k7]
  have g8 : (k == 8) = false := by simp [k8]
  have E : Hid (o = none) := by show _ = _; rw [← HO.out, if_neg (by simp; omega), if_neg (by omega), if_neg (by omega), if_neg (by omega), if_neg (by omega), if_neg (by omega), if_neg (by omega), if_neg (by omega), if_neg (by omega)]
  go_wp2_with fail
  go_ret
  exact Ckd.no E.out CB2.out (by omega) (by omega) (by omega) (Nat.le_refl _) KS2.out

/-- Words are words, and no row of kids is too long. -/
def RxOk : Rx → Prop
 | .mk _ _ _ _ s kids => kids.length ≤ 1000000 ∧ (s.a < 18446744073709551616 ∧ s.b < 18446744073709551616 ∧ s.c < 18446744073709551616 ∧ s.d < 18446744073709551616) ∧ ∀ a, a ∈ kids → RxOk a
termination_by r => SizeOf.sizeOf r
decreasing_by
 have := List.sizeOf_lt_of_mem (by assumption)
 simp
 omega
theorem right_all (ere : Bool) : ∀ a, RxOk a → RightSaid ere a
 | .mk k mn mx n s kids, h => by
  unfold RxOk at h
  exact right_step ere k mn mx n s kids (fun a ha => right_all ere a (h.2.2 a ha)) h.1 h.2.1
termination_by a => SizeOf.sizeOf a
decreasing_by
 have := List.sizeOf_lt_of_mem ha
 simp
 omega

set_option maxHeartbeats 2000000 in
set_option maxRecDepth 100000 in
theorem Right_any (r : Rx) (ere : Bool) (ok : Nat → Prop) (k mn mx m : Int) (t : W4) (ad : Option Addr) (l c : Nat) (w : World) (hR : RxOk r) (hI : Is w ok r (rxv k mn mx m t (.slice ad l c))) :
  Calls Tryz.prog 56 #[rxv k mn mx m t (.slice ad l c), .bool ere] w fun e w' => e = .returned (.bool (right ere r)) ∧ Kp w w' := by
 have RA := hid (right_all ere r hR)
 have HI := hid (hI.weak (ok' := fun x => ok x ∧ x < w.heap.size) (fun _ hb hl => ⟨hb, hl⟩))
 clear hR hI
 go_enter Tryz.func56, Tryz.ntmps56
 go_upto_region 2 with fail
 refine opq (fun W0 => W0.heap[w.heap.size]? = some (rxo k mn mx m t (.slice ad l c)) ∧ Cb W0 (w.heap.size + 1) ere 0 0 0 ∧ Is W0 (fun x => ok x ∧ x < w.heap.size) r (rxv k mn mx m t (.slice ad l c)) ∧ Kp w W0) ⟨by (first | exact last_at _ _ _ (by simp) | (refine bl_alloc ?_ _; first | exact last_at _ _ _ (by simp) | (refine bl_alloc ?_ _; first | exact last_at _ _ _ (by simp) | (refine bl_alloc ?_ _; exact last_at _ _ _ (by simp))))), by exact last_at _ _ _ (by simp), by exact HI.out.kp (by repeat (first | exact Kp.refl _ | refine Kp.alloc ?_ _ | refine Kp.drew ?_ | refine Kp.drewN _ ?_)), by exact (by repeat (first | exact Kp.refl _ | refine Kp.alloc ?_ _ | refine Kp.drew ?_ | refine Kp.drewN _ ?_))⟩ ?_
 rintro W0 ⟨xA0, xCB0, xI0, xK0⟩
 have A0 : Hid (W0.heap[w.heap.size]? = some (rxo k mn mx m t (.slice ad l c))) := xA0
 have CB0 : Hid (Cb W0 (w.heap.size + 1) ere 0 0 0) := xCB0
 have I0 : Hid (Is W0 (fun x => ok x ∧ x < w.heap.size) r (rxv k mn mx m t (.slice ad l c))) := xI0
 have K0 : Hid (Kp w W0) := xK0
 clear xA0 xCB0 xI0 xK0
 have a0 := bl_cell (A0.out) 0 _ rfl
 have a1 := bl_cell (A0.out) 1 _ rfl
 have a2 := bl_cell (A0.out) 2 _ rfl
 have a3 := bl_cell (A0.out) 3 _ rfl
 have a4 := bl_cell (A0.out) 4 _ rfl
 have a5 := bl_cell (A0.out) 5 _ rfl
 have a6 := bl_cell (A0.out) 6 _ rfl
 have a7 := bl_cell (A0.out) 7 _ rfl
 have a8 := bl_cell (A0.out) 8 _ rfl
 go_wp2_with fail
 clear a0 a1 a2 a3 a4 a5 a6 a7 a8
 refine (RA.out.all (w.heap.size + 1) _ _ true true 0 0 0 _ I0.out (fun _ hx => by omega) CB0.out (by omega) (by omega) (by omega)).mono ?_
 intro e W1 hcd
 obtain ⟨bq, rfl, hbq, _, hks⟩ := hcd.ex
 have HB : Hid (bq = right ere r) := hbq
 have K1 := hid (hks.up K0.out (by omega))
 clear hcd hbq hks
 go_wp2_with fail
 go_ret
 exact ⟨ret_bool HB.out, K1.out⟩
end Go.Proofs.YtommgdgilcemdaaGreatDoor
