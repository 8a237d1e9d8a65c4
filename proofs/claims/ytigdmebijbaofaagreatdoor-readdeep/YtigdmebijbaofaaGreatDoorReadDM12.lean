/-
  Texts of this claim: Right5, Text3, Count2.
-/
import Derived.Test.YtigdmebijbaofaaGreatDoorReadDM4
import Derived.Test.YtigdmebijbaofaaGreatDoorReadDM11
import Derived.Test.YtigdmebijbaofaaGreatDoorReadDM9
import Derived.Lib.SmallJoins
/-! ### Right5 -/
namespace Go.Proofs.YtigdmebijbaofaaGreatDoor
set_option maxHeartbeats 2000000
set_option maxRecDepth 100000
open Go.RowKit
theorem kidsFit_one {k : Int} {mn mx n : Int} {s : W4} {kids : List Rx} (h : leanB (.mk k mn mx n s kids) = true) (hk : k = 4 ∨ k = 5) : ∃ r, kids = [r] := by
 unfold leanB at h
 simp only [Bool.and_eq_true] at h
 have h2 := h.2
 unfold kidsFit at h2
 rw [if_neg (by omega), if_neg (by omega), if_pos hk] at h2
 exact List.length_eq_one_iff.1 (by simpa using h2)
theorem right_step (ere : Bool) (k mn mx m : Int) (t : W4) (kids : List Rx) (H : ∀ r, r ∈ kids → RightSaid ere r) (hl : kids.length ≤ 1000000) (hs : t.a < 18446744073709551616 ∧ t.b < 18446744073709551616 ∧ t.c < 18446744073709551616 ∧ t.d < 18446744073709551616) : RightSaid ere (.mk k mn mx m t kids) := by
 refine ⟨fun C ok v b e n g d w hI hok hc hn hg hd => ?_⟩
 obtain ⟨ad, l, c, rfl, hr⟩ := hI.row
 have RR := hid hr
 have hlen := hr.ln
 have HC := hid hc
 have HOK := hid hok
 have HH := hid H
 have hCw := hc.lt
 have LE := hid (fun w => lean_any k mn mx m t kids ad l c w hlen)
 have HSV : Hid (vv t.a t.b t.c t.d = sv (W4.bit t)) := vv_sv t.a t.b t.c t.d hs.1 hs.2.1 hs.2.2.1 hs.2.2.2
 clear hI hr hc hok H hlen
 obtain ⟨o, ho⟩ : ∃ o, chk ere (.mk k mn mx m t kids) b e ⟨n, g, d⟩ = o := ⟨_, rfl⟩
 rw [ho]
 unfold chk at ho
 obtain ⟨lb, hlb⟩ : ∃ lb, leanB (.mk k mn mx m t kids) = lb := ⟨_, rfl⟩
 rw [hlb] at ho LE
 have K1 : lb = true → (k = 4 ∨ k = 5) → ∃ r, kids = [r] := fun h hk => kidsFit_one (by rw [hlb, h]) hk
 have HK1 := hid K1
 have HO := hid ho
 clear hlb ho K1
 have gn : IntKind.i64.wrap ((n : Int) + 1) = (n : Int) + 1 := by rw [IntKind.wrap_i64]; omega
 go_enter Tryz.func114, Tryz.ntmps114
 go_upto_region 1 with fail
 refine opq (fun W0 => W0.heap[w.heap.size]? = some (rxo k mn mx m t (.slice ad l c)) ∧ W0.heap[(w.heap.size + 1)]? = some (.cells #[.bool b, .bool e] 156) ∧ Cb W0 C ere n g d ∧ Kp w W0) ⟨by (first | exact last_at _ _ _ (by simp) | (refine bl_alloc ?_ _; first | exact last_at _ _ _ (by simp) | (refine bl_alloc ?_ _; first | exact last_at _ _ _ (by simp) | (refine bl_alloc ?_ _; exact last_at _ _ _ (by simp))))), by (first | exact last_at _ _ _ (by simp) | (refine bl_alloc ?_ _; first | exact last_at _ _ _ (by simp) | (refine bl_alloc ?_ _; first | exact last_at _ _ _ (by simp) | (refine bl_alloc ?_ _; exact last_at _ _ _ (by simp))))), by exact HC.out.kp kpt, by exact kpt⟩ ?_
 rintro W0 ⟨xA0, xP0, xCB0, xK0⟩
 have A0 := hidT xA0
 have P0 := hidT xP0
 have CB0 := hidT xCB0
 have K0 := hidT xK0
 clear xA0 xP0 xCB0 xK0
 have c1 := CB0.out.cells.2.1
 have f1 := bl_frozen CB0.out 1
 go_upto_region 2 with fail
 clear c1 f1
 refine opq (fun W1 => W1.heap[w.heap.size]? = some (rxo k mn mx m t (.slice ad l c)) ∧ W1.heap[(w.heap.size + 1)]? = some (.cells #[.bool b, .bool e] 156) ∧ Cb W1 C ere (n + 1) g d ∧ Ks C w W1) ⟨by exact bl_set A0.out (by omega) _, by exact bl_set P0.out (by omega) _, by exact CB0.out.nodes (n + 1), by exact (K0.out.ks (Nat.le_of_lt hCw)).set 1 _⟩ ?_
 rintro W1 ⟨xA1, xP1, xCB1, xKS1⟩
 have A1 := hidT xA1
 have P1 := hidT xP1
 have CB1 := hidT xCB1
 have KS1 := hidT xKS1
 clear xA1 xP1 xCB1 xKS1
 clear A0 P0 CB0 K0
 have R1 := hid (RR.out.ks KS1.out HOK.out)
 obtain ⟨a0, a1, a2, a3, a4, a5, a6, a7, a8⟩ := cells9 (A1.out)
 have c1 := CB1.out.cells.2.1
 have hs1 := KS1.out.size
 by_cases h40 : n + 1 > 40
 ·
  have g40 : (40 : Int) < (n : Int) + 1 := by omega
  have E : Hid (o = none) := by show _ = _; rw [← HO.out, if_pos (Or.inl h40)]
  go_wp2_with fail
  go_ret
  exact Ckd.no E.out CB1.out (by omega) (by omega) (by omega) (Nat.le_refl _) KS1.out
 have g40 : ¬ (40 : Int) < (n : Int) + 1 := by omega
 go_wp2_with fail
 refine (LE.out _).mono ?_
 rintro ex W2 ⟨rfl, k2⟩
 have A2 := hid (bl_kp A1.out k2)
 have P2 := hid (bl_kp P1.out k2)
 have CB2 := hid (CB1.out.kp k2)
 have KS2 := hid (KS1.out.kpt' k2 CB1.out.lt)
 have R2 := hid (R1.out.kp k2)
 clear k2 A1 P1 CB1 KS1 R1 a0 a1 a2 a3 a4 a5 a6 a7 a8 c1
 cases lb with
 | false =>
  have E : Hid (o = none) := by show _ = _; rw [← HO.out, if_pos (Or.inr rfl)]
  go_wp2_with fail
  go_ret
  exact Ckd.no E.out CB2.out (by omega) (by omega) (by omega) (Nat.le_refl _) KS2.out
 | true =>
  obtain ⟨a0, a1, a2, a3, a4, a5, a6, a7, a8⟩ := cells9 (A2.out)
  have q0 := CB2.out.cells.1
  have q2 := CB2.out.cells.2.2.1
  have e0 := bl_cell P2.out 0 _ rfl
  have e1 := bl_cell P2.out 1 _ rfl
  by_cases k1 : k = 1
  ·
   subst k1
   have E0 : Hid (o = if cnt (W4.bit t) 256 > 0 then some ⟨n + 1, g, d⟩ else none) := by show _ = _; rw [← HO.out, if_neg (by simp; omega), if_pos rfl]
   have CN : Hid (∀ w, Calls Tryz.prog 150 #[vv t.a t.b t.c t.d] w fun e w' => e = .returned (.int .i64 (cnt (W4.bit t) 256 : Nat)) ∧ Kp w w') := fun w => by rw [HSV.out]; exact count_any _ w
   go_wp2_with fail
   clear a0 a1 a2 a3 a4 a5 a6 a7 a8 q0 q2 e0 e1
   refine (CN.out _).mono ?_
   rintro ex W3 ⟨rfl, k3⟩
   have CB3 := hid (CB2.out.kp k3)
   have KS3 := hid (KS2.out.kpt' k3 CB2.out.lt)
   clear k3
   by_cases h0 : cnt (W4.bit t) 256 > 0
   ·
    have E : Hid (o = some ⟨n + 1, g, d⟩) := by show _ = _; rw [E0.out, if_pos h0]
    have g0 : (0 : Int) < (cnt (W4.bit t) 256 : Int) := by omega
    go_wp2_with fail
    go_ret
    exact Ckd.yes E.out CB3.out (by omega) (by omega) (by omega) (Nat.le_refl _) KS3.out
   ·
    have E : Hid (o = none) := by show _ = _; rw [E0.out, if_neg h0]
    have g0 : ¬ (0 : Int) < (cnt (W4.bit t) 256 : Int) := by omega
    go_wp2_with fail
    go_ret
    exact Ckd.no E.out CB3.out (by omega) (by omega) (by omega) (Nat.le_refl _) KS3.out
  by_cases k2 : k = 2
  ·
   subst k2
   have E : Hid (o = chkCat ere kids true ⟨n + 1, g, d⟩) := by show _ = _; rw [← HO.out, if_neg (by simp; omega), if_neg (by omega), if_pos rfl]
   go_wp2_with fail
   clear a0 a1 a2 a3 a4 a5 a6 a7 a8 q0 q2 e0 e1
   refine (cat_any ere kids HH.out C ok ad l c (n + 1) g d _ R2.out HOK.out CB2.out (by omega) (by omega) hd hl).mono ?_
   intro ex W3 hcd
   obtain ⟨bq, rfl⟩ : ∃ bq, ex = .returned (.bool bq) := by obtain ⟨bq, h1, _⟩ := hcd.ex; exact ⟨bq, h1⟩
   have CD := hid (hcd.from KS2.out)
   clear hcd
   go_wp2_with fail
   go_ret
   rw [E.out]
   exact CD.out
  by_cases k3 : k = 3
  ·
   subst k3
   have E0 : Hid (o = if ere then chkAlt ere kids ⟨n + 1, g, d⟩ else none) := by show _ = _; rw [← HO.out, if_neg (by simp; omega), if_neg (by omega), if_neg (by omega), if_pos rfl]
   cases ere with
   | false =>
    have E : Hid (o = none) := by show _ = _; rw [E0.out]; rfl
    go_wp2_with fail
    go_ret
    exact Ckd.no E.out CB2.out (by omega) (by omega) (by omega) (Nat.le_refl _) KS2.out
   | true =>
    have E : Hid (o = chkAlt true kids ⟨n + 1, g, d⟩) := by show _ = _; rw [E0.out]; rfl
    go_wp2_with fail
    clear a0 a1 a2 a3 a4 a5 a6 a7 a8 q0 q2 e0 e1
    refine (alt_any true kids HH.out C ok ad l c (n + 1) g d _ R2.out HOK.out CB2.out (by omega) (by omega) hd hl).mono ?_
    intro ex W3 hcd
    obtain ⟨bq, rfl⟩ : ∃ bq, ex = .returned (.bool bq) := by obtain ⟨bq, h1, _⟩ := hcd.ex; exact ⟨bq, h1⟩
    have CD := hid (hcd.from KS2.out)
    clear hcd
    go_wp2_with fail
    go_ret
    rw [E.out]
    exact CD.out
  by_cases k4 : k = 4
  ·
   subst k4
   obtain ⟨r, rfl⟩ := HK1.out rfl (by omega)
   have E : Hid (o = if timesFit mn mx then chkRep ere [r] ⟨n + 1, g, d⟩ else none) := by show _ = _; rw [← HO.out, if_neg (by simp; omega), if_neg (by omega), if_neg (by omega), if_neg (by omega), if_pos rfl]
   go_wp2_with fail
   clear a0 a1 a2 a3 a4 a5 a6 a7 a8 q0 q2 e0 e1
   refine (rep_any ere r (HH.out r (by simp)) C ok 4 mn mx m t ad l c (n + 1) g d _ R2.out HOK.out CB2.out (by omega) (by omega) hd).mono ?_
   intro ex W3 hcd
   obtain ⟨bq, rfl⟩ : ∃ bq, ex = .returned (.bool bq) := by obtain ⟨bq, h1, _⟩ := hcd.ex; exact ⟨bq, h1⟩
   have CD := hid (hcd.from KS2.out)
   clear hcd
   go_wp2_with fail
   go_ret
   rw [E.out]
   exact CD.out
  by_cases k5 : k = 5
  ·
   subst k5
   obtain ⟨r, rfl⟩ := HK1.out rfl (by omega)
   have E : Hid (o = if m ≠ (g + 1 : Nat) ∨ g + 1 > 3 ∨ d = 6 then none else chkGroup ere [r] ⟨n + 1, g + 1, d + 1⟩) := by show _ = _; rw [← HO.out, if_neg (by simp; omega), if_neg (by omega), if_neg (by omega), if_neg (by omega), if_neg (by omega), if_pos rfl]
   go_wp2_with fail
   clear a0 a1 a2 a3 a4 a5 a6 a7 a8 q0 q2 e0 e1
   refine (cgroup_any ere r (HH.out r (by simp)) C ok 5 mn mx m t ad l c (n + 1) g d _ R2.out HOK.out CB2.out (by omega) (by omega) hd).mono ?_
   intro ex W3 hcd
   obtain ⟨bq, rfl⟩ : ∃ bq, ex = .returned (.bool bq) := by obtain ⟨bq, h1, _⟩ := hcd.ex; exact ⟨bq, h1⟩
   have CD := hid (hcd.from KS2.out)
   clear hcd
   go_wp2_with fail
   go_ret
   rw [E.out]
   exact CD.out
  by_cases k6 : k = 6
  ·
   subst k6
   have E0 : Hid (o = if 1 ≤ m ∧ m ≤ (g : Int) then some ⟨n + 1, g, d⟩ else none) := by show _ = _; rw [← HO.out, if_neg (by simp; omega), if_neg (by omega), if_neg (by omega), if_neg (by omega), if_neg (by omega), if_neg (by omega), if_pos rfl]
   by_cases m1 : 1 ≤ m
   ·
    by_cases m2 : m ≤ (g : Int)
    ·
     have E : Hid (o = some ⟨n + 1, g, d⟩) := by show _ = _; rw [E0.out, if_pos ⟨m1, m2⟩]
     go_upto_region 16 with fail
     clear a0 a1 a2 a3 a4 a5 a6 a7 a8 q0 q2 e0 e1
     have Q0 : Kp W2 W2.drew := (Kp.refl _).drew
     have MK : Hid (∀ W, Kp W2 W → W.cell? ⟨w.heap.size, 3, none⟩ = some (.int .i64 m) ∧ W.cell? ⟨C, 2, none⟩ = some (.int .i64 (g : Int)) ∧ Hid (Kp W2 W)) := fun W k => ⟨bl_cell (bl_kp A2.out k) 3 _ rfl, (CB2.out.kp k).cells.2.2.1, k⟩
     refine wp_region_noPanic ?_
     refine hdrew MK Q0 (fun hH => ?_)
     have KQ := Q0
     refine tk 0 (some 62) (.fieldAddr 27 (.tmp 4) 3) 0 (v := ?v0a1) rfl ?h0a1 hH ?_
     case h0a1 => intro _ _; go_simp; try with_reducible rfl
     try simp only [ps]
     refine tk 1 (some 63) (.load 3 (.tmp 62)) 3 (v := ?v1a2) rfl ?h1a2 hH ?_
     case h1a2 => intro _ _; go_simp; try with_reducible rfl
     try simp only [ps]
     refine tk 2 (some 64) (.binOp .leq 3 (.const (.int .i64 1)) (.tmp 63) 3) 4 (v := ?v2a3) rfl ?h2a3 hH ?_
     case h2a3 => intro _ _; go_simp; try with_reducible rfl
     try simp only [ps]
     refine tk 3 (some 65) (.move (.tmp 64)) 4 (v := ?v3a4) rfl ?h3a4 hH ?_
     case h3a4 => intro _ _; go_simp; try with_reducible rfl
     try simp only [ps]
     refine tk 4 (some 66) (.fieldAddr 27 (.tmp 4) 3) 0 (v := ?v4a5) rfl ?h4a5 hH ?_
     case h4a5 => intro _ _; go_simp; try with_reducible rfl
     try simp only [ps]
     refine tk 5 (some 67) (.load 3 (.tmp 66)) 3 (v := ?v5a6) rfl ?h5a6 hH ?_
     case h5a6 => intro _ _; go_simp; try with_reducible rfl
     try simp only [ps]
     refine tk 6 (some 68) (.move (.tmp 0)) 187 (v := ?v6a7) rfl ?h6a7 hH ?_
     case h6a7 => intro _ _; go_simp; try with_reducible rfl
     try simp only [ps]
     refine tk 7 (some 69) (.nilCheck (.tmp 68)) 0 (v := ?v7a8) rfl ?h7a8 hH ?_
     case h7a8 => intro _ _; go_simp; try with_reducible rfl
     try simp only [ps]
     refine tk 8 (some 70) (.fieldAddr 153 (.tmp 69) 2) 0 (v := ?v8a9) rfl ?h8a9 hH ?_
     case h8a9 => intro _ _; go_simp; try with_reducible rfl
     try simp only [ps]
     refine tk 9 (some 71) (.load 3 (.tmp 70)) 3 (v := ?v9a10) rfl ?h9a10 hH ?_
     case h9a10 => intro _ _; go_simp; try with_reducible rfl
     try simp only [ps]
     refine tk 10 (some 72) (.binOp .leq 3 (.tmp 67) (.tmp 71) 3) 4 (v := ?v10a11) rfl ?h10a11 hH ?_
     case h10a11 => intro _ _; go_simp; try with_reducible rfl
     try simp only [ps]
     refine tk 11 (some 73) (.pick (.tmp 65) (.tmp 72) (.const (.bool false))) 4 (v := ?v11a12) rfl ?h11a12 hH ?_
     case h11a12 => intro _ _; go_simp; try with_reducible rfl
     try simp only [ps]
     refine tk 12 (some 6) (.assign (.tmp 73)) 4 (v := ?v12a13) rfl ?h12a13 hH ?_
     case h12a13 => intro _ _; go_simp; try with_reducible rfl
     try simp only [ps]
     refine wpAnyH_done (by kernel_rfl) ?_ _
     refine NoPanic.normal ?_
     go_wp2_with fail
     go_ret
     exact Ckd.yes E.out (CB2.out.kp KQ) (by omega) (by omega) (by omega) (Nat.le_refl _) (KS2.out.kpt' KQ CB2.out.lt)
    ·
     have E : Hid (o = none) := by show _ = _; rw [E0.out, if_neg (fun h => m2 h.2)]
     have m2d : decide (m ≤ (g : Int)) = false := decide_eq_false m2
     go_upto_region 16 with fail
     clear a0 a1 a2 a3 a4 a5 a6 a7 a8 q0 q2 e0 e1
     have Q0 : Kp W2 W2.drew := (Kp.refl _).drew
     have MK : Hid (∀ W, Kp W2 W → W.cell? ⟨w.heap.size, 3, none⟩ = some (.int .i64 m) ∧ W.cell? ⟨C, 2, none⟩ = some (.int .i64 (g : Int)) ∧ Hid (Kp W2 W)) := fun W k => ⟨bl_cell (bl_kp A2.out k) 3 _ rfl, (CB2.out.kp k).cells.2.2.1, k⟩
     refine wp_region_noPanic ?_
     refine hdrew MK Q0 (fun hH => ?_)
     have KQ := Q0
     refine tk 0 (some 62) (.fieldAddr 27 (.tmp 4) 3) 0 (v := ?v0b1) rfl ?h0b1 hH ?_
     case h0b1 => intro _ _; go_simp; try with_reducible rfl
     try simp only [ps]
     refine tk 1 (some 63) (.load 3 (.tmp 62)) 3 (v := ?v1b2) rfl ?h1b2 hH ?_
     case h1b2 => intro _ _; go_simp; try with_reducible rfl
     try simp only [ps]
     refine tk 2 (some 64) (.binOp .leq 3 (.const (.int .i64 1)) (.tmp 63) 3) 4 (v := ?v2b3) rfl ?h2b3 hH ?_
     case h2b3 => intro _ _; go_simp; try with_reducible rfl
     try simp only [ps]
     refine tk 3 (some 65) (.move (.tmp 64)) 4 (v := ?v3b4) rfl ?h3b4 hH ?_
     case h3b4 => intro _ _; go_simp; try with_reducible rfl
     try simp only [ps]
     refine tk 4 (some 66) (.fieldAddr 27 (.tmp 4) 3) 0 (v := ?v4b5) rfl ?h4b5 hH ?_
     case h4b5 => intro _ _; go_simp; try with_reducible rfl
     try simp only [ps]
     refine tk 5 (some 67) (.load 3 (.tmp 66)) 3 (v := ?v5b6) rfl ?h5b6 hH ?_
     case h5b6 => intro _ _; go_simp; try with_reducible rfl
     try simp only [ps]
     refine tk 6 (some 68) (.move (.tmp 0)) 187 (v := ?v6b7) rfl ?h6b7 hH ?_
     case h6b7 => intro _ _; go_simp; try with_reducible rfl
     try simp only [ps]
     refine tk 7 (some 69) (.nilCheck (.tmp 68)) 0 (v := ?v7b8) rfl ?h7b8 hH ?_
     case h7b8 => intro _ _; go_simp; try with_reducible rfl
     try simp only [ps]
     refine tk 8 (some 70) (.fieldAddr 153 (.tmp 69) 2) 0 (v := ?v8b9) rfl ?h8b9 hH ?_
     case h8b9 => intro _ _; go_simp; try with_reducible rfl
     try simp only [ps]
     refine tk 9 (some 71) (.load 3 (.tmp 70)) 3 (v := ?v9b10) rfl ?h9b10 hH ?_
     case h9b10 => intro _ _; go_simp; try with_reducible rfl
     try simp only [ps]
     refine tk 10 (some 72) (.binOp .leq 3 (.tmp 67) (.tmp 71) 3) 4 (v := ?v10b11) rfl ?h10b11 hH ?_
     case h10b11 => intro _ _; go_simp; try with_reducible rfl
     try simp only [ps]
     refine tk 11 (some 73) (.pick (.tmp 65) (.tmp 72) (.const (.bool false))) 4 (v := ?v11b12) rfl ?h11b12 hH ?_
     case h11b12 => intro _ _; go_simp; try with_reducible rfl
     try simp only [ps]
     refine tk 12 (some 6) (.assign (.tmp 73)) 4 (v := ?v12b13) rfl ?h12b13 hH ?_
     case h12b13 => intro _ _; go_simp; try with_reducible rfl
     try simp only [ps]
     refine wpAnyH_done (by kernel_rfl) ?_ _
     refine NoPanic.normal ?_
     go_wp2_with fail
     go_ret
     exact Ckd.no E.out (CB2.out.kp KQ) (by omega) (by omega) (by omega) (Nat.le_refl _) (KS2.out.kpt' KQ CB2.out.lt)
   ·
    have E : Hid (o = none) := by show _ = _; rw [E0.out, if_neg (fun h => m1 h.1)]
    have m1d : decide (1 ≤ m) = false := decide_eq_false m1
    go_upto_region 16 with fail
    clear a0 a1 a2 a3 a4 a5 a6 a7 a8 q0 q2 e0 e1
    have Q0 : Kp W2 W2.drew := (Kp.refl _).drew
    have MK : Hid (∀ W, Kp W2 W → W.cell? ⟨w.heap.size, 3, none⟩ = some (.int .i64 m) ∧ W.cell? ⟨C, 2, none⟩ = some (.int .i64 (g : Int)) ∧ Hid (Kp W2 W)) := fun W k => ⟨bl_cell (bl_kp A2.out k) 3 _ rfl, (CB2.out.kp k).cells.2.2.1, k⟩
    refine wp_region_noPanic ?_
    refine hdrew MK Q0 (fun hH => ?_)
    have KQ := Q0
    refine tk 0 (some 62) (.fieldAddr 27 (.tmp 4) 3) 0 (v := ?v0c1) rfl ?h0c1 hH ?_
    case h0c1 => intro _ _; go_simp; try with_reducible rfl
    try simp only [ps]
    refine tk 1 (some 63) (.load 3 (.tmp 62)) 3 (v := ?v1c2) rfl ?h1c2 hH ?_
    case h1c2 => intro _ _; go_simp; try with_reducible rfl
    try simp only [ps]
    refine tk 2 (some 64) (.binOp .leq 3 (.const (.int .i64 1)) (.tmp 63) 3) 4 (v := ?v2c3) rfl ?h2c3 hH ?_
    case h2c3 => intro _ _; go_simp; try with_reducible rfl
    try simp only [ps]
    refine tk 3 (some 65) (.move (.tmp 64)) 4 (v := ?v3c4) rfl ?h3c4 hH ?_
    case h3c4 => intro _ _; go_simp; try with_reducible rfl
    try simp only [ps]
    refine tn 4 (some 66) (.fieldAddr 27 (.tmp 4) 3) 0 rfl hH ?_
    try simp only [ps]
    refine tn 5 (some 67) (.load 3 (.tmp 66)) 3 rfl hH ?_
    try simp only [ps]
    refine tn 6 (some 68) (.move (.tmp 0)) 187 rfl hH ?_
    try simp only [ps]
    refine tn 7 (some 69) (.nilCheck (.tmp 68)) 0 rfl hH ?_
    try simp only [ps]
    refine tn 8 (some 70) (.fieldAddr 153 (.tmp 69) 2) 0 rfl hH ?_
    try simp only [ps]
    refine tn 9 (some 71) (.load 3 (.tmp 70)) 3 rfl hH ?_
    try simp only [ps]
    refine tn 10 (some 72) (.binOp .leq 3 (.tmp 67) (.tmp 71) 3) 4 rfl hH ?_
    try simp only [ps]
    refine tk 11 (some 73) (.pick (.tmp 65) (.tmp 72) (.const (.bool false))) 4 (v := ?v11c12) rfl ?h11c12 hH ?_
    case h11c12 => intro _ _; go_simp; try with_reducible rfl
    try simp only [ps]
    refine tk 12 (some 6) (.assign (.tmp 73)) 4 (v := ?v12c13) rfl ?h12c13 hH ?_
    case h12c13 => intro _ _; go_simp; try with_reducible rfl
    try simp only [ps]
    refine wpAnyH_done (by kernel_rfl) ?_ _
    refine NoPanic.normal ?_
    go_wp2_with fail
    go_ret
    exact Ckd.no E.out (CB2.out.kp KQ) (by omega) (by omega) (by omega) (Nat.le_refl _) (KS2.out.kpt' KQ CB2.out.lt)
  by_cases k7 : k = 7
  ·
   subst k7
   have E0 : Hid (o = if ere || b then some ⟨n + 1, g, d⟩ else none) := by show _ = _; rw [← HO.out, if_neg (by simp; omega), if_neg (by omega), if_neg (by omega), if_neg (by omega), if_neg (by omega), if_neg (by omega), if_neg (by omega), if_pos rfl]
   cases ere with
   | true =>
    have E : Hid (o = some ⟨n + 1, g, d⟩) := by show _ = _; rw [E0.out]; rfl
    go_wp2_with fail
    go_ret
    exact Ckd.yes E.out CB2.out (by omega) (by omega) (by omega) (Nat.le_refl _) KS2.out
   | false =>
    cases b with
    | true =>
     have E : Hid (o = some ⟨n + 1, g, d⟩) := by show _ = _; rw [E0.out]; rfl
     go_wp2_with fail
     go_ret
     exact Ckd.yes E.out CB2.out (by omega) (by omega) (by omega) (Nat.le_refl _) KS2.out
    | false =>
     have E : Hid (o = none) := by show _ = _; rw [E0.out]; rfl
     go_wp2_with fail
     go_ret
     exact Ckd.no E.out CB2.out (by omega) (by omega) (by omega) (Nat.le_refl _) KS2.out
  by_cases k8 : k = 8
  ·
   subst k8
   have E0 : Hid (o = if ere || e then some ⟨n + 1, g, d⟩ else none) := by show _ = _; rw [← HO.out, if_neg (by simp; omega), if_neg (by omega), if_neg (by omega), if_neg (by omega), if_neg (by omega), if_neg (by omega), if_neg (by omega), if_neg (by omega), if_pos rfl]
   cases ere with
   | true =>
    have E : Hid (o = some ⟨n + 1, g, d⟩) := by show _ = _; rw [E0.out]; rfl
    go_wp2_with fail
    go_ret
    exact Ckd.yes E.out CB2.out (by omega) (by omega) (by omega) (Nat.le_refl _) KS2.out
   | false =>
    cases e with
    | true =>
     have E : Hid (o = some ⟨n + 1, g, d⟩) := by show _ = _; rw [E0.out]; rfl
     go_wp2_with fail
     go_ret
     exact Ckd.yes E.out CB2.out (by omega) (by omega) (by omega) (Nat.le_refl _) KS2.out
    | false =>
     have E : Hid (o = none) := by show _ = _; rw [E0.out]; rfl
     go_wp2_with fail
     go_ret
     exact Ckd.no E.out CB2.out (by omega) (by omega) (by omega) (Nat.le_refl _) KS2.out
  have g1 : (k == 1) = false := by simp [k1]
  have g2 : (k == 2) = false := by simp [k2]
  have g3 : (k == 3) = false := by simp [k3]
  have g4 : (k == 4) = false := by simp [k4]
  have g5 : (k == 5) = false := by simp [k5]
  have g6 : (k == 6) = false := by simp [k6]
  have g7 : (k == 7) = false := by simp [k7]
  have g8 : (k == 8) = false := by simp [k8]
  have E : Hid (o = none) := by show _ = _; rw [← HO.out, if_neg (by simp; omega), if_neg (by omega), if_neg (by omega), if_neg (by omega), if_neg (by omega), if_neg (by omega), if_neg (by omega), if_neg (by omega), if_neg (by omega)]
  go_wp2_with fail
  go_ret
  exact Ckd.no E.out CB2.out (by omega) (by omega) (by omega) (Nat.le_refl _) KS2.out
def RxOk : Rx → Prop
 | .mk _ _ _ _ s kids => kids.length ≤ 1000000 ∧ (s.a < 18446744073709551616 ∧ s.b < 18446744073709551616 ∧ s.c < 18446744073709551616 ∧ s.d < 18446744073709551616) ∧ ∀ a, a ∈ kids → RxOk a
termination_by r => SizeOf.sizeOf r
decreasing_by
 have := List.sizeOf_lt_of_mem (by assumption)
 simp
 omega
theorem right_all (ere : Bool) : ∀ a, RxOk a → RightSaid ere a
 | .mk k mn mx n s kids, h => by
  unfold RxOk at h
  exact right_step ere k mn mx n s kids (fun a ha => right_all ere a (h.2.2 a ha)) h.1 h.2.1
termination_by a => SizeOf.sizeOf a
decreasing_by
 have := List.sizeOf_lt_of_mem ha
 simp
 omega
theorem Right_any (r : Rx) (ere : Bool) (ok : Nat → Prop) (k mn mx m : Int) (t : W4) (ad : Option Addr) (l c : Nat) (w : World) (hR : RxOk r) (hI : Is w ok r (rxv k mn mx m t (.slice ad l c))) :
  Calls Tryz.prog 81 #[rxv k mn mx m t (.slice ad l c), .bool ere] w fun e w' => e = .returned (.bool (right ere r)) ∧ Kp w w' := by
 have RA := hid (right_all ere r hR)
 have HI := hid (hI.weak (ok' := fun x => ok x ∧ x < w.heap.size) (fun _ hb hl => ⟨hb, hl⟩))
 clear hR hI
 go_enter Tryz.func81, Tryz.ntmps81
 go_upto_region 2 with fail
 refine opq (fun W0 => W0.heap[w.heap.size]? = some (rxo k mn mx m t (.slice ad l c)) ∧ Cb W0 (w.heap.size + 1) ere 0 0 0 ∧ Is W0 (fun x => ok x ∧ x < w.heap.size) r (rxv k mn mx m t (.slice ad l c)) ∧ Kp w W0) ⟨by (first | exact last_at _ _ _ (by simp) | (refine bl_alloc ?_ _; first | exact last_at _ _ _ (by simp) | (refine bl_alloc ?_ _; first | exact last_at _ _ _ (by simp) | (refine bl_alloc ?_ _; exact last_at _ _ _ (by simp))))), by exact last_at _ _ _ (by simp), by exact HI.out.kp kpt, by exact kpt⟩ ?_
 rintro W0 ⟨xA0, xCB0, xI0, xK0⟩
 have A0 := hidT xA0
 have CB0 := hidT xCB0
 have I0 := hidT xI0
 have K0 := hidT xK0
 clear xA0 xCB0 xI0 xK0
 obtain ⟨a0, a1, a2, a3, a4, a5, a6, a7, a8⟩ := cells9 (A0.out)
 go_wp2_with fail
 clear a0 a1 a2 a3 a4 a5 a6 a7 a8
 refine (RA.out.all (w.heap.size + 1) _ _ true true 0 0 0 _ I0.out (fun _ hx => by omega) CB0.out (by omega) (by omega) (by omega)).mono ?_
 intro e W1 hcd
 obtain ⟨bq, rfl, hbq, _, hks⟩ := hcd.ex
 have HB : Hid (bq = right ere r) := hbq
 have K1 := hid (hks.up K0.out (by omega))
 clear hcd hbq hks
 go_wp2_with fail
 go_ret
 exact ⟨ret_bool HB.out, K1.out⟩
mutual
def txt (ere : Bool) : Rx → List UInt8
 | .mk k mn mx n s kids =>
  if k = 1 then setT (W4.bit s) ere
  else if k = 2 then Lib.join (txts ere kids) []
  else if k = 3 then Lib.join (txts ere kids) [124]
  else if k = 4 then (txts ere kids).headD [] ++ timesT mn.toNat mx ere
  else if k = 5 then framedT [40] ((txts ere kids).headD []) [41] ere
  else if k = 6 then [92] ++ dec n.toNat
  else if k = 7 then [94] else [36]
def txts (ere : Bool) : List Rx → List (List UInt8)
 | [] => []
 | r :: rs => txt ere r :: txts ere rs
end
theorem txts_map (ere : Bool) : ∀ (rs : List Rx), txts ere rs = rs.map (txt ere)
 | [] => by rw [txts]; rfl
 | r :: rs => by rw [txts, txts_map ere rs]; rfl
structure TextSaid (ere : Bool) (r : Rx) : Prop where
 all : ∀ (ok : Nat → Prop) (v : Value) (w : World), Is w ok r v → Calls Tryz.prog 82 #[v, .bool ere] w fun e w' => e = .returned (.string (bs (txt ere r))) ∧ Kp w w'
theorem info9 : ∃ i, Tryz.prog.info? 9 = some i ∧ i.zero = some (.string ⟨#[]⟩) ∧ i.size = 1 ∧ i.bytes = 16 := by
 obtain ⟨i, hi, h0, h1, h2⟩ := info_parts (P := Tryz.prog) (e := 9) (z := .string ⟨#[]⟩) (size := 1) (bytes := 16) (by kernel_rfl)
 exact ⟨i, hi, h0, h1, h2⟩
def Os (base : Nat) (w : World) (v : Value) (l : List (List UInt8)) : Prop := w.ownsRow base 9 1 v l.length (l.map fun x => Value.string (bs x))
theorem Os.kp {base : Nat} {w w' : World} {v : Value} {l : List (List UInt8)} (h : Os base w v l) (k : Kp w w') : Os base w' v l := owns_kp h k
theorem wpList_append_s {ops : Array Oper} {rest : List Oper} {o : Oper} {a : Act} {Q : Exit → Act → World → Prop} (W : World) (hgd : o.guard = none) (s x : Operand)
  (ho : o.op = .call { callee := .builtin .append, args := #[s, x], argTypes := #[87, 87] })
  (base : Nat) (v : Value) (b : List UInt8) (l : List (List UInt8)) (hs : a.eval s = v) (hown : Hid (Os base W v l)) (B : Nat) (hB : B = W.heap.size)
  (hx : a.eval x = .slice (some ⟨B, 0, none⟩) 1 1) (h63 : l.length ≤ 900) (hbase : base ≤ W.heap.size)
  (h : ∀ v' w', Os base w' v' (l ++ [b]) → W.grownBy w' v.ownBlock → wpList Tryz.prog ops Q rest (a.put o.dst v') w') :
  wpList Tryz.prog ops Q (o :: rest) a (W.alloc (.cells #[.string (bs b)] 9)) := by
 obtain ⟨i, hi, hz, hsz, hby⟩ := info9
 have kal : Kp W (W.alloc (.cells #[.string (bs b)] 9)) := (Kp.refl _).alloc _
 subst hB
 refine wpList_append_own_at (W.alloc (.cells #[.string (bs b)] 9)) hgd s x 87 ho base 9 i (.string ⟨#[]⟩) 1 16 Tryz.underlying87 hi hz hsz hby rfl (by omega) v l.length (l.map fun x => Value.string (bs x)) hs (hown.out.alloc _) ⟨W.heap.size, 0, none⟩ 1 1 [.string (bs b)] hx rfl ?_ ?_ (by unfold maxLen; omega) (by omega) (by simp; omega) ?_
 ·
  intro j y hj
  match j, hj with
  | 0, hj => simp at hj; subst hj; simp [Addr.add]
 ·
  intro y hy; simp at hy; subst hy; rfl
 ·
  intro v' w' a1 a2 _ _
  refine h v' w' ?_ ⟨a2.os.trans rfl, a2.tape.trans rfl, a2.output.trans rfl, Nat.le_trans kal.size a2.size, fun k hk hne => (a2.block k (Nat.lt_of_lt_of_le hk kal.size) hne).trans (kal.block k hk)⟩
  unfold Os
  rw [List.length_append, List.map_append]
  exact a1
theorem texts_any (ere : Bool) (ts : List Rx) (H : ∀ r, r ∈ ts → TextSaid ere r) (ok : Nat → Prop) (ad : Option Addr) (l c : Nat) (w : World) (hr : RowAt w ok ts ad l c) (hl : ts.length ≤ 100) :
  Calls Tryz.prog 117 #[.slice ad l c, .bool ere] w fun e w' => ∃ v, e = .returned v ∧ Os w.heap.size w' v (txts ere ts) ∧ Kp w w' := by
 have hle := hr.ln
 have hlc := hr.cp
 subst hle
 obtain ⟨L, hL⟩ : ∃ L, ts.length = L := ⟨_, rfl⟩
 rw [hL] at hr hlc hl ⊢
 have HL := hid hL
 have RR := hid hr
 have HH := hid H
 clear hL hr H
 go_enter Tryz.func117, Tryz.ntmps117
 go_wp2_with fail
 go_loopg [5, 10] L (fun gg v i wr => ∃ k : Nat, k + gg = L ∧ i = .int .i64 (k : Int) ∧ Os w.heap.size wr v (txts ere (ts.take k)) ∧ Kp w wr)
 case atStart => exact ⟨0, by omega, rfl, by rw [List.take_zero, txts]; exact World.ownsRow_nil _ _ _ _, Kp.refl _⟩
 case round =>
  obtain ⟨k, hk, rfl, hO, hK⟩ := hrel
  have O := hid hO
  have K := hid hK
  have hsz := hK.size
  clear hO hK
  by_cases hlt : k < L
  ·
   have gkw : IntKind.i64.wrap ((k : Int) + 1) = (k : Int) + 1 := by rw [IntKind.wrap_i64]; omega
   have ga : (k : Int) < (L : Int) := by omega
   have g0 : (0 : Int) ≤ (k : Int) := by omega
   obtain ⟨r, hr⟩ : ∃ r, ts[k]? = some r := ⟨_, List.getElem?_eq_getElem (by rw [HL.out]; exact hlt)⟩
   have htk : txts ere (ts.take (k + 1)) = txts ere (ts.take k) ++ [txt ere r] := by
    rw [txts_map, txts_map, List.take_succ_eq_append_getElem (by rw [HL.out]; exact hlt), List.map_append, (List.getElem?_eq_some_iff.1 hr).2]
    rfl
   have HTK := hid htk
   obtain ⟨bb, oo, kk, mn, mx, mm, tt, ad', ll, cc, e1, hbb, i1, ce1⟩ := (RR.out.kp K.out).at k r hr
   subst e1
   have TS := hid (HH.out r (List.mem_of_getElem? hr))
   have I1 := hid i1
   have CE1 := hid ce1
   clear hr htk i1 ce1
   obtain ⟨x0, x1, x2, x3, x4, x5, x6, x7, x8⟩ := cells_of_is CE1.out
   go_upto_region 5 with fail
   clear x0 x1 x2 x3 x4 x5 x6 x7 x8
   refine opq (fun W => W.heap[wr.heap.size]? = some (rxo kk mn mx mm tt (.slice ad' ll cc)) ∧ Kp wr W) ⟨by exact last_at _ _ _ (by simp), by exact (Kp.refl _).alloc _⟩ ?_
   rintro W1 ⟨y1, y2⟩
   have A1 := hid y1
   have K1 := hid y2
   have hs1 := y2.size
   clear y1 y2
   obtain ⟨a0, a1, a2, a3, a4, a5, a6, a7, a8⟩ := cells9 (A1.out)
   go_wp2_with fail
   clear a0 a1 a2 a3 a4 a5 a6 a7 a8
   refine (TS.out.all ok _ _ (I1.out.kp K1.out)).mono ?_
   rintro e W2 ⟨rfl, k2⟩
   have O2 := hid (O.out.kp (K1.out.trans k2))
   have K2 := hid (K.out.trans (K1.out.trans k2))
   have hs2 := k2.size
   have hln : (txts ere (ts.take k)).length ≤ 900 := by rw [txts_map, List.length_map, List.length_take]; omega
   clear k2
   go_wp2_with (at_builtin; go_must (refine wpList_append_s W2 (by rfl) _ _ (by rfl) w.heap.size u5 (txt ere r) _ (by rfl) O2 _ (by rfl) (by rfl) hln ?h2 ?_))
   case h2 => omega
   intro v' w3 ho3 hg3
   have O3 : Hid (Os w.heap.size w3 v' (txts ere (ts.take (k + 1)))) := by rw [HTK.out]; exact ho3
   have K3 := hid (K2.out.grownby hg3 (fun b hb => (World.ownsRow.lt O2.out b hb).1))
   clear ho3 hg3
   go_wp2_with fail
   go_roundg (gk - 1)
   case measure => omega
   case rel => exact ⟨k + 1, by omega, by go_num, O3.out, K3.out⟩
  ·
   have ga : ¬ (k : Int) < (L : Int) := by omega
   have E : Hid (ts.take k = ts) := List.take_of_length_le (by rw [HL.out]; omega)
   go_wp2
   go_ret
   exact ⟨_, rfl, by rw [← E.out]; exact O.out, K.out⟩
theorem join_any (base : Nat) (xs : List (List UInt8)) (sep : List UInt8) (v : Value) (w : World) (h : Os base w v xs) (hl : xs.length ≤ 100) (hs : (Lib.join xs sep).length ≤ 10000000) :
  Calls Tryz.prog 116 #[v, .string (bs sep)] w fun e w' => e = .returned (.string (bs (Lib.join xs sep))) ∧ Kp w w' := by
 obtain ⟨h1, h2⟩ := h
 have hmap : (xs.map bs).map (·.data.toList) = xs := by
  rw [List.map_map]
  conv => rhs; rw [← List.map_id xs]
  apply List.map_congr_left
  intro a _
  simp [bs]
 have hsep : (bs sep).data.toList = sep := by simp [bs]
 rcases h2 with ⟨rfl, h0⟩ | ⟨g, cap, cur, rfl, hb, hg, hc, hm, hcs, ht⟩
 ·
  have : xs = [] := List.eq_nil_of_length_eq_zero h0
  subst this
  refine (Tryz.strings_Join_none none 0 (bs sep) w).mono ?_
  rintro e w' ⟨rfl, rfl⟩
  exact ⟨rfl, Kp.refl _⟩
 ·
  have := Tryz.strings_Join g 0 cap (xs.map bs) (bs sep) w ?_ (Array.getElem?_eq_some_iff.1 hg).1 (by rw [List.length_map]; omega) (by rw [List.length_map]; omega) (by rw [hmap, hsep]; omega)
  ·
   rw [hmap, hsep, List.length_map] at this
   exact this
  ·
   intro j x hj
   rw [Nat.zero_add]
   rw [List.getElem?_map] at hj
   obtain ⟨y, hy, rfl⟩ : ∃ y, xs[j]? = some y ∧ bs y = x := by
    cases hq : xs[j]? with
    | none => rw [hq] at hj; cases hj
    | some y => rw [hq] at hj; injection hj with hj; exact ⟨y, rfl, hj⟩
   have hj' : j < xs.length := (List.getElem?_eq_some_iff.1 hy).1
   refine bl_cell hg j _ ?_
   have e1 : (cur.toList.take (xs.length * 1))[j]? = (xs.map fun x => Value.string (bs x))[j]? := by rw [ht]
   rw [List.getElem?_take, if_pos (by omega), Array.getElem?_toList] at e1
   rw [e1, List.getElem?_map, hy]
   rfl
def Slim : Rx → Prop
 | .mk _ _ _ _ _ kids => kids.length ≤ 1000000 ∧ ∀ a, a ∈ kids → Slim a
termination_by r => SizeOf.sizeOf r
decreasing_by
 have := List.sizeOf_lt_of_mem (by assumption)
 simp
 omega
/-! ### Groups -/
mutual
def grp : Rx → Nat
 | .mk k _ _ _ _ kids => (if k = 5 then 1 else 0) + grps kids
def grps : List Rx → Nat
 | [] => 0
 | r :: rs => grp r + grps rs
end
theorem grps_app (a b : List Rx) : grps (a ++ b) = grps a + grps b := by
 induction a with
 | nil => simp [grps]
 | cons x a ih => simp only [List.cons_append, grps, ih]; omega
theorem grps_take (a : List Rx) (q : Nat) : grps (a.take q) ≤ grps a := by
 have := grps_app (a.take q) (a.drop q)
 rw [List.take_append_drop] at this
 omega
theorem grps_mem (a : List Rx) (r : Rx) (h : r ∈ a) : grp r ≤ grps a := by
 induction a with
 | nil => cases h
 | cons x a ih =>
  simp only [grps]
  rcases List.mem_cons.1 h with rfl | h
  ·
   omega
  ·
   have := ih h; omega
structure GroupsSaid (r : Rx) : Prop where
 all : ∀ (ok : Nat → Prop) (v : Value) (w : World), Is w ok r v → Calls Tryz.prog 140 #[v] w fun e w' => e = .returned (.int .i64 ((grp r : Nat) : Int)) ∧ Kp w w'
theorem Groups_step (k mn mx m : Int) (t : W4) (kids : List Rx) (H : ∀ r, r ∈ kids → GroupsSaid r) (hB : grp (.mk k mn mx m t kids) ≤ 1000000) (hS : kids.length ≤ 1000000) : GroupsSaid (.mk k mn mx m t kids) := by
 refine ⟨fun ok v w hI => ?_⟩
 obtain ⟨ad, l, c, rfl, hr⟩ := hI.row
 have hle := hr.ln
 have hlc := hr.cp
 subst hle
 obtain ⟨L, hL⟩ : ∃ L, kids.length = L := ⟨_, rfl⟩
 rw [hL] at hr hlc hS ⊢
 have HL := hid hL
 have RR := hid hr
 have HH := hid H
 have hG : grp (.mk k mn mx m t kids) = (if k = 5 then 1 else 0) + grps kids := by unfold grp; rfl
 rw [hG] at hB ⊢
 clear hI hr H hG hL
 by_cases k5 : k = 5
 ·
  subst k5
  rw [if_pos rfl] at hB ⊢
  obtain ⟨M, hM⟩ : ∃ M, grps kids = M := ⟨_, rfl⟩
  rw [hM] at hB ⊢
  have HM := hid hM
  clear hM
  obtain ⟨T, hT⟩ : ∃ T, 1 + M = T := ⟨_, rfl⟩
  rw [hT]
  have HT := hid hT
  clear hT
  go_enter Tryz.func140, Tryz.ntmps140
  go_upto_region 1 with fail
  refine opq (fun W0 => W0.heap[w.heap.size]? = some (rxo 5 mn mx m t (.slice ad L c)) ∧ Kp w W0 ∧ RowAt W0 ok kids ad L c) ⟨by (first | exact last_at _ _ _ (by simp) | (refine bl_alloc ?_ _; first | exact last_at _ _ _ (by simp) | (refine bl_alloc ?_ _; first | exact last_at _ _ _ (by simp) | (refine bl_alloc ?_ _; exact last_at _ _ _ (by simp))))), by exact kpt, by exact RR.out.kp kpt⟩ ?_
  rintro W0 ⟨xA0, xK0, xR0⟩
  have A0 := hidT xA0
  have K0 := hidT xK0
  have R0 := hidT xR0
  clear xA0 xK0 xR0
  obtain ⟨a0, a1, a2, a3, a4, a5, a6, a7, a8⟩ := cells9 (A0.out)
  go_wp2_with fail
  clear a0 a1 a2 a3 a4 a5 a6 a7 a8
  go_loopg [3, 12] L (fun gg v i wr => ∃ q A : Nat, q + gg = L ∧ i = .int .i64 (q : Int) ∧ v = .int .i64 (A : Int) ∧ 1 + grps (kids.take q) = A ∧ Kp W0 wr)
  case atStart => exact ⟨0, 1, by omega, rfl, rfl, by rw [List.take_zero, grps], Kp.refl _⟩
  case round =>
   obtain ⟨q, A, hq, rfl, rfl, hA, hK⟩ := hrel
   have hle := grps_take kids q
   rw [HM.out] at hle
   have hAb : A ≤ 1000001 := by omega
   have HA := hid hA
   have K := hid hK
   clear hA hK hle
   by_cases hlt : q < L
   ·
    have gkw : IntKind.i64.wrap ((q : Int) + 1) = (q : Int) + 1 := by rw [IntKind.wrap_i64]; omega
    have ga : (q : Int) < (L : Int) := by omega
    have g0 : (0 : Int) ≤ (q : Int) := by omega
    obtain ⟨r, hr⟩ : ∃ r, kids[q]? = some r := ⟨_, List.getElem?_eq_getElem (by rw [HL.out]; exact hlt)⟩
    have htk : grps (kids.take (q + 1)) = grps (kids.take q) + grp r := by
     rw [List.take_succ_eq_append_getElem (by rw [HL.out]; exact hlt), grps_app, (List.getElem?_eq_some_iff.1 hr).2]
     simp [grps]
    have hle : grp r ≤ grps kids := grps_mem kids r (List.mem_of_getElem? hr)
    rw [HM.out] at hle
    obtain ⟨bb, oo, kk, mn', mx', mm, tt, ad', ll, cc, e1, hbb, i1, ce1⟩ := (R0.out.kp K.out).at q r hr
    subst e1
    have TS := hid (HH.out r (List.mem_of_getElem? hr)).all
    obtain ⟨G, hG⟩ : ∃ G, grp r = G := ⟨_, rfl⟩
    rw [hG] at TS htk hle
    have HTK := hid htk
    have hw : IntKind.i64.wrap ((A : Int) + (G : Int)) = (A : Int) + (G : Int) := by rw [IntKind.wrap_i64]; omega
    have I1 := hid i1
    have CE1 := hid ce1
    clear hr htk i1 ce1 hG
    obtain ⟨x0, x1, x2, x3, x4, x5, x6, x7, x8⟩ := cells_of_is CE1.out
    go_upto_region 7 with fail
    clear x0 x1 x2 x3 x4 x5 x6 x7 x8
    refine opq (fun W => W.heap[wr.heap.size]? = some (rxo kk mn' mx' mm tt (.slice ad' ll cc)) ∧ Kp wr W) ⟨by exact last_at _ _ _ (by simp), by exact (Kp.refl _).alloc _⟩ ?_
    rintro W1 ⟨y1, y2⟩
    have A1 := hid y1
    have K1 := hid y2
    clear y1 y2
    obtain ⟨a0, a1, a2, a3, a4, a5, a6, a7, a8⟩ := cells9 (A1.out)
    go_wp2_with fail
    clear a0 a1 a2 a3 a4 a5 a6 a7 a8
    refine (TS.out ok _ _ (I1.out.kp K1.out)).mono ?_
    rintro e W2 ⟨rfl, k2⟩
    have K2 := hid (K.out.trans (K1.out.trans k2))
    clear k2
    go_wp2_with fail
    go_roundg (gk - 1)
    case measure => omega
    case rel => exact ⟨q + 1, A + G, by omega, by go_num, by go_num, by rw [HTK.out, ← Nat.add_assoc, HA.out], K2.out⟩
   ·
    have ga : ¬ (q : Int) < (L : Int) := by omega
    have E : Hid (A = T) := by
     show _ = _
     rw [← HT.out, ← HA.out, List.take_of_length_le (by rw [HL.out]; omega), HM.out]
    go_wp2_with fail
    go_ret
    exact ⟨by rw [E.out]; rfl, K0.out.trans K.out⟩
 ·
  have g5 : (k == 5) = false := by simp [k5]
  rw [if_neg k5] at hB ⊢
  obtain ⟨M, hM⟩ : ∃ M, grps kids = M := ⟨_, rfl⟩
  rw [hM] at hB ⊢
  have HM := hid hM
  clear hM
  obtain ⟨T, hT⟩ : ∃ T, 0 + M = T := ⟨_, rfl⟩
  rw [hT]
  have HT := hid hT
  clear hT
  go_enter Tryz.func140, Tryz.ntmps140
  go_upto_region 1 with fail
  refine opq (fun W0 => W0.heap[w.heap.size]? = some (rxo k mn mx m t (.slice ad L c)) ∧ Kp w W0 ∧ RowAt W0 ok kids ad L c) ⟨by (first | exact last_at _ _ _ (by simp) | (refine bl_alloc ?_ _; first | exact last_at _ _ _ (by simp) | (refine bl_alloc ?_ _; first | exact last_at _ _ _ (by simp) | (refine bl_alloc ?_ _; exact last_at _ _ _ (by simp))))), by exact kpt, by exact RR.out.kp kpt⟩ ?_
  rintro W0 ⟨xA0, xK0, xR0⟩
  have A0 := hidT xA0
  have K0 := hidT xK0
  have R0 := hidT xR0
  clear xA0 xK0 xR0
  obtain ⟨a0, a1, a2, a3, a4, a5, a6, a7, a8⟩ := cells9 (A0.out)
  go_wp2_with fail
  clear a0 a1 a2 a3 a4 a5 a6 a7 a8
  go_loopg [3, 12] L (fun gg v i wr => ∃ q A : Nat, q + gg = L ∧ i = .int .i64 (q : Int) ∧ v = .int .i64 (A : Int) ∧ 0 + grps (kids.take q) = A ∧ Kp W0 wr)
  case atStart => exact ⟨0, 0, by omega, rfl, rfl, by rw [List.take_zero, grps], Kp.refl _⟩
  case round =>
   obtain ⟨q, A, hq, rfl, rfl, hA, hK⟩ := hrel
   have hle := grps_take kids q
   rw [HM.out] at hle
   have hAb : A ≤ 1000001 := by omega
   have HA := hid hA
   have K := hid hK
   clear hA hK hle
   by_cases hlt : q < L
   ·
    have gkw : IntKind.i64.wrap ((q : Int) + 1) = (q : Int) + 1 := by rw [IntKind.wrap_i64]; omega
    have ga : (q : Int) < (L : Int) := by omega
    have g0 : (0 : Int) ≤ (q : Int) := by omega
    obtain ⟨r, hr⟩ : ∃ r, kids[q]? = some r := ⟨_, List.getElem?_eq_getElem (by rw [HL.out]; exact hlt)⟩
    have htk : grps (kids.take (q + 1)) = grps (kids.take q) + grp r := by
     rw [List.take_succ_eq_append_getElem (by rw [HL.out]; exact hlt), grps_app, (List.getElem?_eq_some_iff.1 hr).2]
     simp [grps]
    have hle : grp r ≤ grps kids := grps_mem kids r (List.mem_of_getElem? hr)
    rw [HM.out] at hle
    obtain ⟨bb, oo, kk, mn', mx', mm, tt, ad', ll, cc, e1, hbb, i1, ce1⟩ := (R0.out.kp K.out).at q r hr
    subst e1
    have TS := hid (HH.out r (List.mem_of_getElem? hr)).all
    obtain ⟨G, hG⟩ : ∃ G, grp r = G := ⟨_, rfl⟩
    rw [hG] at TS htk hle
    have HTK := hid htk
    have hw : IntKind.i64.wrap ((A : Int) + (G : Int)) = (A : Int) + (G : Int) := by rw [IntKind.wrap_i64]; omega
    have I1 := hid i1
    have CE1 := hid ce1
    clear hr htk i1 ce1 hG
    obtain ⟨x0, x1, x2, x3, x4, x5, x6, x7, x8⟩ := cells_of_is CE1.out
    go_upto_region 7 with fail
    clear x0 x1 x2 x3 x4 x5 x6 x7 x8
    refine opq (fun W => W.heap[wr.heap.size]? = some (rxo kk mn' mx' mm tt (.slice ad' ll cc)) ∧ Kp wr W) ⟨by exact last_at _ _ _ (by simp), by exact (Kp.refl _).alloc _⟩ ?_
    rintro W1 ⟨y1, y2⟩
    have A1 := hid y1
    have K1 := hid y2
    clear y1 y2
    obtain ⟨a0, a1, a2, a3, a4, a5, a6, a7, a8⟩ := cells9 (A1.out)
    go_wp2_with fail
    clear a0 a1 a2 a3 a4 a5 a6 a7 a8
    refine (TS.out ok _ _ (I1.out.kp K1.out)).mono ?_
    rintro e W2 ⟨rfl, k2⟩
    have K2 := hid (K.out.trans (K1.out.trans k2))
    clear k2
    go_wp2_with fail
    go_roundg (gk - 1)
    case measure => omega
    case rel => exact ⟨q + 1, A + G, by omega, by go_num, by go_num, by rw [HTK.out, ← Nat.add_assoc, HA.out], K2.out⟩
   ·
    have ga : ¬ (q : Int) < (L : Int) := by omega
    have E : Hid (A = T) := by
     show _ = _
     rw [← HT.out, ← HA.out, List.take_of_length_le (by rw [HL.out]; omega), HM.out]
    go_wp2_with fail
    go_ret
    exact ⟨by rw [E.out]; rfl, K0.out.trans K.out⟩
theorem Groups_any : ∀ a, grp a ≤ 1000000 → Slim a → GroupsSaid a
 | .mk k mn mx n s kids, h, hs => by
  unfold Slim at hs
  exact Groups_step k mn mx n s kids (fun a ha => Groups_any a (by unfold grp at h; have := grps_mem kids a ha; omega) (hs.2 a ha)) h hs.1
termination_by a => SizeOf.sizeOf a
decreasing_by
 have := List.sizeOf_lt_of_mem ha
 simp
 omega
/-! ### Nodes -/
mutual
def nds : Rx → Nat
 | .mk _ _ _ _ _ kids => 1 + ndss kids
def ndss : List Rx → Nat
 | [] => 0
 | r :: rs => nds r + ndss rs
end
theorem ndss_app (a b : List Rx) : ndss (a ++ b) = ndss a + ndss b := by
 induction a with
 | nil => simp [ndss]
 | cons x a ih => simp only [List.cons_append, ndss, ih]; omega
theorem ndss_mem (a : List Rx) (r : Rx) (h : r ∈ a) : nds r ≤ ndss a := by
 induction a with
 | nil => cases h
 | cons x a ih =>
  simp only [ndss]
  rcases List.mem_cons.1 h with rfl | h
  ·
   omega
  ·
   have := ih h; omega
end Go.Proofs.YtigdmebijbaofaaGreatDoor
