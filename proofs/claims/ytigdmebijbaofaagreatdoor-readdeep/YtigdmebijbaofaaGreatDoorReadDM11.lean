/-
  Texts of this claim: Right3, Right4.
-/
import Derived.Test.YtigdmebijbaofaaGreatDoorReadDM4
import Derived.Test.YtigdmebijbaofaaGreatDoorReadDM10
/-! ### Right3 -/
namespace Go.Proofs.YtigdmebijbaofaaGreatDoor
set_option maxHeartbeats 2000000
set_option maxRecDepth 100000
open Go.RowKit
theorem Cb.groups {w : World} {C : Nat} {ere : Bool} {n g d : Nat} (h : Cb w C ere n g d) (j : Nat) : Cb (w.setCell ⟨C, 2, none⟩ (.int .i64 (j : Int))) C ere n j d := bl_put h _
theorem Cb.deep {w : World} {C : Nat} {ere : Bool} {n g d : Nat} (h : Cb w C ere n g d) (j : Nat) : Cb (w.setCell ⟨C, 3, none⟩ (.int .i64 (j : Int))) C ere n g j := bl_put h _
theorem Cb.nodes {w : World} {C : Nat} {ere : Bool} {n g d : Nat} (h : Cb w C ere n g d) (j : Nat) : Cb (w.setCell ⟨C, 1, none⟩ (.int .i64 (j : Int))) C ere j g d := bl_put h _
theorem rep_any (ere : Bool) (r : Rx) (H : RightSaid ere r) (C : Nat) (ok : Nat → Prop) (k mn mx m : Int) (t : W4) (ad : Option Addr) (l c : Nat) (n g d : Nat) (w : World) (hr : RowAt w ok [r] ad l c) (hok : ∀ x, ok x → x ≠ C) (hc : Cb w C ere n g d) (hn : n ≤ 40) (hg : g ≤ n) (hd : d ≤ 6) :
  Calls Tryz.prog 153 #[.pointer (some ⟨C, 0, none⟩), rxv k mn mx m t (.slice ad l c)] w fun e w' => Ckd C ere d (if timesFit mn mx then chkRep ere [r] ⟨n, g, d⟩ else none) w e w' := by
 have hle : l = 1 := hr.ln
 subst hle
 have hlc := hr.cp
 obtain ⟨bb, oo, kk, mn', mx', mm', tt', ad', ll', cc', e1, hbb, i1, ce1⟩ := hr.at 0 r rfl
 subst e1
 rw [Nat.zero_mul, Nat.add_zero] at ce1
 have I1 := hid i1
 have CE1 := hid ce1
 have hkk : r.k = kk := i1.kind'
 have HKK := hid hkk
 have HC := hid hc
 have hCw := hc.lt
 have HOK := hid hok
 have HH := hid H
 clear hr i1 ce1 hkk hc hok H
 obtain ⟨tf, htf⟩ : ∃ tf, timesFit mn mx = tf := ⟨_, rfl⟩
 have TF : Hid (∀ w, Calls Tryz.prog 188 #[.int .i64 mn, .int .i64 mx] w fun e w' => e = .returned (.bool tf) ∧ w' = w) := fun w => by have := timesFit_any mn mx w; rw [htf] at this; exact this
 rw [htf]
 clear htf
 obtain ⟨mr, hmr⟩ : ∃ mr, mayRep kk = mr := ⟨_, rfl⟩
 have RP : Hid (∀ w, Calls Tryz.prog 189 #[.int .i64 kk] w fun e w' => e = .returned (.bool mr) ∧ w' = w) := fun w => by
  have := repeatable_any kk w
  rw [show (kk == 1 || kk == 5 || kk == 6) = mr from hmr] at this
  exact this
 have E0 : Hid (chkRep ere [r] ⟨n, g, d⟩ = if mr then chk ere r false false ⟨n, g, d⟩ else none) := by show _ = _; rw [chkRep, HKK.out, hmr]
 clear hmr
 go_enter Tryz.func153, Tryz.ntmps153
 go_upto_region 1 with fail
 refine opq (fun W0 => W0.heap[w.heap.size]? = some (rxo k mn mx m t (.slice (some ⟨bb, oo, none⟩) 1 c)) ∧ Kp w W0) ⟨by (first | exact last_at _ _ _ (by simp) | (refine bl_alloc ?_ _; first | exact last_at _ _ _ (by simp) | (refine bl_alloc ?_ _; first | exact last_at _ _ _ (by simp) | (refine bl_alloc ?_ _; exact last_at _ _ _ (by simp))))), by exact kpt⟩ ?_
 rintro W0 ⟨xA0, xK0⟩
 have A0 := hidT xA0
 have K0 := hidT xK0
 clear xA0 xK0
 obtain ⟨a0, a1, a2, a3, a4, a5, a6, a7, a8⟩ := cells9 (A0.out)
 have CB0 := hid (HC.out.kp K0.out)
 have KS0 := hid (K0.out.ks (Nat.le_of_lt hCw))
 have CE0 := hid (CE1.out.turn (K0.out.block _ hbb))
 obtain ⟨x0, x1, x2, x3, x4, x5, x6, x7, x8⟩ := cells_of_is CE0.out
 go_wp2_with fail
 refine (TF.out _).mono ?_
 rintro e W0 ⟨rfl, rfl⟩
 cases tf with
 | false =>
  go_wp2_with fail
  go_ret
  exact Ckd.no rfl CB0.out (by omega) (by omega) (by omega) (Nat.le_refl _) KS0.out
 | true =>
  go_wp2_with fail
  refine (RP.out _).mono ?_
  rintro e W0 ⟨rfl, rfl⟩
  cases mr with
  | false =>
   go_wp2_with fail
   go_ret
   exact Ckd.no (by rw [E0.out]; rfl) CB0.out (by omega) (by omega) (by omega) (Nat.le_refl _) KS0.out
  | true =>
   go_wp2_with fail
   clear x0 x1 x2 x3 x4 x5 x6 x7 x8 a0 a1 a2 a3 a4 a5 a6 a7 a8
   refine (HH.out.all C ok _ false false n g d _ (I1.out.kp K0.out) HOK.out CB0.out hn hg hd).mono ?_
   intro e W2 hcd
   have HE : Hid (chkRep ere [r] ⟨n, g, d⟩ = chk ere r false false ⟨n, g, d⟩) := by show _ = _; rw [E0.out]; rfl
   rw [← HE.out] at hcd
   rcases hcd.form with ⟨c2, ho2, rfl, hcb2, hks2⟩ | ⟨ho2, rfl, ⟨n2, g2', d2, hcb2, b1, b2, b3, b4⟩, hks2⟩
   ·
    have HCD := hid (show Ckd C ere d (if true = true then chkRep ere [r] ⟨n, g, d⟩ else none) w (.returned (.bool true)) W2 from by
     obtain ⟨q, h1, h2, h3, h4⟩ := hcd.ex
     exact ⟨q, h1, h2, h3, KS0.out.trans h4⟩)
    clear hcd ho2 hcb2 hks2
    go_wp2_with fail
    go_ret
    exact HCD.out
   ·
    have HCD := hid (show Ckd C ere d (if true = true then chkRep ere [r] ⟨n, g, d⟩ else none) w (.returned (.bool false)) W2 from by
     obtain ⟨q, h1, h2, h3, h4⟩ := hcd.ex
     exact ⟨q, h1, h2, h3, KS0.out.trans h4⟩)
    clear hcd ho2 hcb2 hks2
    go_wp2_with fail
    go_ret
    exact HCD.out
theorem cgroup_any (ere : Bool) (r : Rx) (H : RightSaid ere r) (C : Nat) (ok : Nat → Prop) (k mn mx m : Int) (t : W4) (ad : Option Addr) (l c : Nat) (n g d : Nat) (w : World) (hr : RowAt w ok [r] ad l c) (hok : ∀ x, ok x → x ≠ C) (hc : Cb w C ere n g d) (hn : n ≤ 40) (hg : g + 1 ≤ n) (hd : d ≤ 6) :
  Calls Tryz.prog 154 #[.pointer (some ⟨C, 0, none⟩), rxv k mn mx m t (.slice ad l c)] w fun e w' => Ckd C ere d (if m ≠ (g + 1 : Nat) ∨ g + 1 > 3 ∨ d = 6 then none else chkGroup ere [r] ⟨n, g + 1, d + 1⟩) w e w' := by
 have hle : l = 1 := hr.ln
 subst hle
 have hlc := hr.cp
 obtain ⟨bb, oo, kk, mn', mx', mm', tt', ad', ll', cc', e1, hbb, i1, ce1⟩ := hr.at 0 r rfl
 subst e1
 rw [Nat.zero_mul, Nat.add_zero] at ce1
 have I1 := hid i1
 have CE1 := hid ce1
 have HC := hid hc
 have hCw := hc.lt
 have HOK := hid hok
 have HH := hid H
 have hbC : Hid (bb ≠ C) := by
  obtain ⟨b', o', h1, h2, _, _⟩ := hr.ex (by simp)
  injection h1 with h1; injection h1 with h1 _
  rw [h1]; exact hok _ h2
 clear hr i1 ce1 hc hok H
 have gg : IntKind.i64.wrap ((g : Int) + 1) = (g : Int) + 1 := by rw [IntKind.wrap_i64]; omega
 have gd : IntKind.i64.wrap ((d : Int) + 1) = (d : Int) + 1 := by rw [IntKind.wrap_i64]; omega
 obtain ⟨o, ho⟩ : ∃ o, (if m ≠ (g + 1 : Nat) ∨ g + 1 > 3 ∨ d = 6 then none else chkGroup ere [r] ⟨n, g + 1, d + 1⟩) = o := ⟨_, rfl⟩
 rw [ho]
 have HO := hid ho
 clear ho
 go_enter Tryz.func154, Tryz.ntmps154
 go_upto_region 1 with fail
 refine opq (fun W0 => W0.heap[w.heap.size]? = some (rxo k mn mx m t (.slice (some ⟨bb, oo, none⟩) 1 c)) ∧ Cb W0 C ere n g d ∧ Kp w W0) ⟨by (first | exact last_at _ _ _ (by simp) | (refine bl_alloc ?_ _; first | exact last_at _ _ _ (by simp) | (refine bl_alloc ?_ _; first | exact last_at _ _ _ (by simp) | (refine bl_alloc ?_ _; exact last_at _ _ _ (by simp))))), by exact HC.out.kp kpt, by exact kpt⟩ ?_
 rintro W0 ⟨xA0, xCB0, xK0⟩
 have A0 := hidT xA0
 have CB0 := hidT xCB0
 have K0 := hidT xK0
 clear xA0 xCB0 xK0
 have c2 := CB0.out.cells.2.2.1
 have f2 := bl_frozen CB0.out 2
 go_upto_region 2 with fail
 clear c2 f2
 refine opq (fun W1 => W1.heap[w.heap.size]? = some (rxo k mn mx m t (.slice (some ⟨bb, oo, none⟩) 1 c)) ∧ Cb W1 C ere n (g + 1) d ∧ Ks C w W1) ⟨by exact bl_set A0.out (by omega) _, by exact CB0.out.groups (g + 1), by exact (K0.out.ks (Nat.le_of_lt hCw)).set 2 _⟩ ?_
 rintro W1 ⟨xA1, xCB1, xKS1⟩
 have A1 := hidT xA1
 have CB1 := hidT xCB1
 have KS1 := hidT xKS1
 clear xA1 xCB1 xKS1
 have CE0 := hid ((CE1.out.turn (K0.out.block _ hbb)))
 have I0 := hid (I1.out.ks KS1.out (fun x hx _ => HOK.out x hx))
 have CEk := hid (CE1.out.turn (KS1.out.block _ hbb hbC.out))
 clear A0 CB0 K0 CE0
 by_cases h1 : m = ((g + 1 : Nat) : Int)
 ·
  have n1 : (m != (g : Int) + 1) = false := by rw [h1]; simp
  have n1' : m = (g : Int) + 1 := by omega
  by_cases h2 : g + 1 > 3
  ·
   have n2 : (3 : Int) < (g : Int) + 1 := by omega
   have E : Hid (o = none) := by show _ = _; rw [← HO.out, if_pos (Or.inr (Or.inl h2))]
   clear h1 n1'
   go_cut [33] (fun v wc => v = .bool true ∧ Kp W1 wc)
   case first =>
    have Q0 : Kp W1 W1.drew := (Kp.refl _).drew
    have MK : Hid (∀ W, Kp W1 W → W.cell? ⟨w.heap.size, 3, none⟩ = some (.int .i64 m) ∧ W.cell? ⟨C, 2, none⟩ = some (.int .i64 ((g : Int) + 1)) ∧ W.cell? ⟨C, 3, none⟩ = some (.int .i64 (d : Int)) ∧ Hid (Kp W1 W)) := fun W k => ⟨bl_cell (bl_kp A1.out k) 3 _ rfl, (CB1.out.kp k).cells.2.2.1, (CB1.out.kp k).cells.2.2.2, k⟩
    refine wp_region_noPanic ?_
    refine hdrew MK Q0 (fun hH => ?_)
    have KQ := Q0
    refine tk 0 (some 13) (.fieldAddr 27 (.tmp 3) 3) 0 (v := ?v0a1) rfl ?h0a1 hH ?_
    case h0a1 => intro _ _; go_simp; try with_reducible rfl
    try simp only [ps]
    refine tk 1 (some 14) (.load 3 (.tmp 13)) 3 (v := ?v1a2) rfl ?h1a2 hH ?_
    case h1a2 => intro _ _; go_simp; try with_reducible rfl
    try simp only [ps]
    refine tk 2 (some 15) (.move (.tmp 0)) 187 (v := ?v2a3) rfl ?h2a3 hH ?_
    case h2a3 => intro _ _; go_simp; try with_reducible rfl
    try simp only [ps]
    refine tk 3 (some 16) (.nilCheck (.tmp 15)) 0 (v := ?v3a4) rfl ?h3a4 hH ?_
    case h3a4 => intro _ _; go_simp; try with_reducible rfl
    try simp only [ps]
    refine tk 4 (some 17) (.fieldAddr 153 (.tmp 16) 2) 0 (v := ?v4a5) rfl ?h4a5 hH ?_
    case h4a5 => intro _ _; go_simp; try with_reducible rfl
    try simp only [ps]
    refine tk 5 (some 18) (.load 3 (.tmp 17)) 3 (v := ?v5a6) rfl ?h5a6 hH ?_
    case h5a6 => intro _ _; go_simp; try with_reducible rfl
    try simp only [ps]
    refine tk 6 (some 19) (.binOp .neq 3 (.tmp 14) (.tmp 18) 3) 4 (v := ?v6a7) rfl ?h6a7 hH ?_
    case h6a7 => intro _ _; go_simp; try with_reducible rfl
    try simp only [ps]
    refine tk 7 (some 20) (.move (.tmp 19)) 4 (v := ?v7a8) rfl ?h7a8 hH ?_
    case h7a8 => intro _ _; go_simp; try with_reducible rfl
    try simp only [ps]
    refine tk 8 (some 21) (.move (.tmp 0)) 187 (v := ?v8a9) rfl ?h8a9 hH ?_
    case h8a9 => intro _ _; go_simp; try with_reducible rfl
    try simp only [ps]
    refine tk 9 (some 22) (.nilCheck (.tmp 21)) 0 (v := ?v9a10) rfl ?h9a10 hH ?_
    case h9a10 => intro _ _; go_simp; try with_reducible rfl
    try simp only [ps]
    refine tk 10 (some 23) (.fieldAddr 153 (.tmp 22) 2) 0 (v := ?v10a11) rfl ?h10a11 hH ?_
    case h10a11 => intro _ _; go_simp; try with_reducible rfl
    try simp only [ps]
    refine tk 11 (some 24) (.load 3 (.tmp 23)) 3 (v := ?v11a12) rfl ?h11a12 hH ?_
    case h11a12 => intro _ _; go_simp; try with_reducible rfl
    try simp only [ps]
    refine tk 12 (some 25) (.binOp .gtr 3 (.tmp 24) (.const (.int .i64 3)) 3) 4 (v := ?v12a13) rfl ?h12a13 hH ?_
    case h12a13 => intro _ _; go_simp; try with_reducible rfl
    try simp only [ps]
    refine tk 13 (some 26) (.pick (.tmp 20) (.const (.bool true)) (.tmp 25)) 4 (v := ?v13a14) rfl ?h13a14 hH ?_
    case h13a14 => intro _ _; go_simp; try with_reducible rfl
    try simp only [ps]
    refine tk 14 (some 27) (.move (.tmp 26)) 4 (v := ?v14a15) rfl ?h14a15 hH ?_
    case h14a15 => intro _ _; go_simp; try with_reducible rfl
    try simp only [ps]
    refine tn 15 (some 28) (.move (.tmp 0)) 187 rfl hH ?_
    try simp only [ps]
    refine tn 16 (some 29) (.nilCheck (.tmp 28)) 0 rfl hH ?_
    try simp only [ps]
    refine tn 17 (some 30) (.fieldAddr 153 (.tmp 29) 3) 0 rfl hH ?_
    try simp only [ps]
    refine tn 18 (some 31) (.load 3 (.tmp 30)) 3 rfl hH ?_
    try simp only [ps]
    refine tn 19 (some 32) (.binOp .eql 3 (.tmp 31) (.const (.int .i64 6)) 3) 4 rfl hH ?_
    try simp only [ps]
    refine tk 20 (some 33) (.pick (.tmp 27) (.const (.bool true)) (.tmp 32)) 4 (v := ?v20a21) rfl ?h20a21 hH ?_
    case h20a21 => intro _ _; go_simp; try with_reducible rfl
    try simp only [ps]
    refine wpAnyH_done (by kernel_rfl) ?_ _
    refine NoPanic.normal ?_
    go_wp2_with fail
    go_meet
    case rel => exact ⟨rfl, KQ⟩
   case rest =>
    obtain ⟨rfl, k2⟩ := hcut
    rename World => W2
    have hC1 := CB1.out.lt
    have CB2 := hid (CB1.out.kp k2)
    have A2 := hid (bl_kp A1.out k2)
    have KS2 := hid (KS1.out.kpt' k2 hC1)
    have I2 := hid (I0.out.kp k2)
    have CE2 := hid (CEk.out.turn (k2.block _ (Nat.lt_of_lt_of_le hbb KS1.out.size)))
    clear k2 CB1 A1 KS1 I0 CEk
    go_wp2_with fail
    go_ret
    exact Ckd.no E.out CB2.out (by omega) (by omega) (by omega) (Nat.le_refl _) KS2.out
  have n2 : ¬ (3 : Int) < (g : Int) + 1 := by omega
  by_cases h3 : d = 6
  ·
   have E : Hid (o = none) := by show _ = _; rw [← HO.out, if_pos (Or.inr (Or.inr h3))]
   subst h3
   clear h1 n1'
   go_cut [33] (fun v wc => v = .bool true ∧ Kp W1 wc)
   case first =>
    have Q0 : Kp W1 W1.drew := (Kp.refl _).drew
    have MK : Hid (∀ W, Kp W1 W → W.cell? ⟨w.heap.size, 3, none⟩ = some (.int .i64 m) ∧ W.cell? ⟨C, 2, none⟩ = some (.int .i64 ((g : Int) + 1)) ∧ W.cell? ⟨C, 3, none⟩ = some (.int .i64 6) ∧ Hid (Kp W1 W)) := fun W k => ⟨bl_cell (bl_kp A1.out k) 3 _ rfl, (CB1.out.kp k).cells.2.2.1, (CB1.out.kp k).cells.2.2.2, k⟩
    refine wp_region_noPanic ?_
    refine hdrew MK Q0 (fun hH => ?_)
    have KQ := Q0
    refine tk 0 (some 13) (.fieldAddr 27 (.tmp 3) 3) 0 (v := ?v0b1) rfl ?h0b1 hH ?_
    case h0b1 => intro _ _; go_simp; try with_reducible rfl
    try simp only [ps]
    refine tk 1 (some 14) (.load 3 (.tmp 13)) 3 (v := ?v1b2) rfl ?h1b2 hH ?_
    case h1b2 => intro _ _; go_simp; try with_reducible rfl
    try simp only [ps]
    refine tk 2 (some 15) (.move (.tmp 0)) 187 (v := ?v2b3) rfl ?h2b3 hH ?_
    case h2b3 => intro _ _; go_simp; try with_reducible rfl
    try simp only [ps]
    refine tk 3 (some 16) (.nilCheck (.tmp 15)) 0 (v := ?v3b4) rfl ?h3b4 hH ?_
    case h3b4 => intro _ _; go_simp; try with_reducible rfl
    try simp only [ps]
    refine tk 4 (some 17) (.fieldAddr 153 (.tmp 16) 2) 0 (v := ?v4b5) rfl ?h4b5 hH ?_
    case h4b5 => intro _ _; go_simp; try with_reducible rfl
    try simp only [ps]
    refine tk 5 (some 18) (.load 3 (.tmp 17)) 3 (v := ?v5b6) rfl ?h5b6 hH ?_
    case h5b6 => intro _ _; go_simp; try with_reducible rfl
    try simp only [ps]
    refine tk 6 (some 19) (.binOp .neq 3 (.tmp 14) (.tmp 18) 3) 4 (v := ?v6b7) rfl ?h6b7 hH ?_
    case h6b7 => intro _ _; go_simp; try with_reducible rfl
    try simp only [ps]
    refine tk 7 (some 20) (.move (.tmp 19)) 4 (v := ?v7b8) rfl ?h7b8 hH ?_
    case h7b8 => intro _ _; go_simp; try with_reducible rfl
    try simp only [ps]
    refine tk 8 (some 21) (.move (.tmp 0)) 187 (v := ?v8b9) rfl ?h8b9 hH ?_
    case h8b9 => intro _ _; go_simp; try with_reducible rfl
    try simp only [ps]
    refine tk 9 (some 22) (.nilCheck (.tmp 21)) 0 (v := ?v9b10) rfl ?h9b10 hH ?_
    case h9b10 => intro _ _; go_simp; try with_reducible rfl
    try simp only [ps]
    refine tk 10 (some 23) (.fieldAddr 153 (.tmp 22) 2) 0 (v := ?v10b11) rfl ?h10b11 hH ?_
    case h10b11 => intro _ _; go_simp; try with_reducible rfl
    try simp only [ps]
    refine tk 11 (some 24) (.load 3 (.tmp 23)) 3 (v := ?v11b12) rfl ?h11b12 hH ?_
    case h11b12 => intro _ _; go_simp; try with_reducible rfl
    try simp only [ps]
    refine tk 12 (some 25) (.binOp .gtr 3 (.tmp 24) (.const (.int .i64 3)) 3) 4 (v := ?v12b13) rfl ?h12b13 hH ?_
    case h12b13 => intro _ _; go_simp; try with_reducible rfl
    try simp only [ps]
    refine tk 13 (some 26) (.pick (.tmp 20) (.const (.bool true)) (.tmp 25)) 4 (v := ?v13b14) rfl ?h13b14 hH ?_
    case h13b14 => intro _ _; go_simp; try with_reducible rfl
    try simp only [ps]
    refine tk 14 (some 27) (.move (.tmp 26)) 4 (v := ?v14b15) rfl ?h14b15 hH ?_
    case h14b15 => intro _ _; go_simp; try with_reducible rfl
    try simp only [ps]
    refine tk 15 (some 28) (.move (.tmp 0)) 187 (v := ?v15b16) rfl ?h15b16 hH ?_
    case h15b16 => intro _ _; go_simp; try with_reducible rfl
    try simp only [ps]
    refine tk 16 (some 29) (.nilCheck (.tmp 28)) 0 (v := ?v16b17) rfl ?h16b17 hH ?_
    case h16b17 => intro _ _; go_simp; try with_reducible rfl
    try simp only [ps]
    refine tk 17 (some 30) (.fieldAddr 153 (.tmp 29) 3) 0 (v := ?v17b18) rfl ?h17b18 hH ?_
    case h17b18 => intro _ _; go_simp; try with_reducible rfl
    try simp only [ps]
    refine tk 18 (some 31) (.load 3 (.tmp 30)) 3 (v := ?v18b19) rfl ?h18b19 hH ?_
    case h18b19 => intro _ _; go_simp; try with_reducible rfl
    try simp only [ps]
    refine tk 19 (some 32) (.binOp .eql 3 (.tmp 31) (.const (.int .i64 6)) 3) 4 (v := ?v19b20) rfl ?h19b20 hH ?_
    case h19b20 => intro _ _; go_simp; try with_reducible rfl
    try simp only [ps]
    refine tk 20 (some 33) (.pick (.tmp 27) (.const (.bool true)) (.tmp 32)) 4 (v := ?v20b21) rfl ?h20b21 hH ?_
    case h20b21 => intro _ _; go_simp; try with_reducible rfl
    try simp only [ps]
    refine wpAnyH_done (by kernel_rfl) ?_ _
    refine NoPanic.normal ?_
    go_wp2_with fail
    go_meet
    case rel => exact ⟨rfl, KQ⟩
   case rest =>
    obtain ⟨rfl, k2⟩ := hcut
    rename World => W2
    have hC1 := CB1.out.lt
    have CB2 := hid (CB1.out.kp k2)
    have A2 := hid (bl_kp A1.out k2)
    have KS2 := hid (KS1.out.kpt' k2 hC1)
    have I2 := hid (I0.out.kp k2)
    have CE2 := hid (CEk.out.turn (k2.block _ (Nat.lt_of_lt_of_le hbb KS1.out.size)))
    clear k2 CB1 A1 KS1 I0 CEk
    go_wp2_with fail
    go_ret
    exact Ckd.no E.out CB2.out (by omega) (by omega) (by omega) (Nat.le_refl _) KS2.out
  have n3 : ((d : Int) == 6) = false := by simp; omega
  have n3' : ¬ (d : Int) = 6 := by omega
  have E0 : Hid (chkGroup ere [r] ⟨n, g + 1, d + 1⟩ = o) := by show _ = _; rw [← HO.out, if_neg (by omega)]
  clear h1 n1'
  go_cut [33] (fun v wc => v = .bool false ∧ Kp W1 wc)
  case first =>
   have Q0 : Kp W1 W1.drew := (Kp.refl _).drew
   have MK : Hid (∀ W, Kp W1 W → W.cell? ⟨w.heap.size, 3, none⟩ = some (.int .i64 m) ∧ W.cell? ⟨C, 2, none⟩ = some (.int .i64 ((g : Int) + 1)) ∧ W.cell? ⟨C, 3, none⟩ = some (.int .i64 (d : Int)) ∧ Hid (Kp W1 W)) := fun W k => ⟨bl_cell (bl_kp A1.out k) 3 _ rfl, (CB1.out.kp k).cells.2.2.1, (CB1.out.kp k).cells.2.2.2, k⟩
   refine wp_region_noPanic ?_
   refine hdrew MK Q0 (fun hH => ?_)
   have KQ := Q0
   refine tk 0 (some 13) (.fieldAddr 27 (.tmp 3) 3) 0 (v := ?v0c1) rfl ?h0c1 hH ?_
   case h0c1 => intro _ _; go_simp; try with_reducible rfl
   try simp only [ps]
   refine tk 1 (some 14) (.load 3 (.tmp 13)) 3 (v := ?v1c2) rfl ?h1c2 hH ?_
   case h1c2 => intro _ _; go_simp; try with_reducible rfl
   try simp only [ps]
   refine tk 2 (some 15) (.move (.tmp 0)) 187 (v := ?v2c3) rfl ?h2c3 hH ?_
   case h2c3 => intro _ _; go_simp; try with_reducible rfl
   try simp only [ps]
   refine tk 3 (some 16) (.nilCheck (.tmp 15)) 0 (v := ?v3c4) rfl ?h3c4 hH ?_
   case h3c4 => intro _ _; go_simp; try with_reducible rfl
   try simp only [ps]
   refine tk 4 (some 17) (.fieldAddr 153 (.tmp 16) 2) 0 (v := ?v4c5) rfl ?h4c5 hH ?_
   case h4c5 => intro _ _; go_simp; try with_reducible rfl
   try simp only [ps]
   refine tk 5 (some 18) (.load 3 (.tmp 17)) 3 (v := ?v5c6) rfl ?h5c6 hH ?_
   case h5c6 => intro _ _; go_simp; try with_reducible rfl
   try simp only [ps]
   refine tk 6 (some 19) (.binOp .neq 3 (.tmp 14) (.tmp 18) 3) 4 (v := ?v6c7) rfl ?h6c7 hH ?_
   case h6c7 => intro _ _; go_simp; try with_reducible rfl
   try simp only [ps]
   refine tk 7 (some 20) (.move (.tmp 19)) 4 (v := ?v7c8) rfl ?h7c8 hH ?_
   case h7c8 => intro _ _; go_simp; try with_reducible rfl
   try simp only [ps]
   refine tk 8 (some 21) (.move (.tmp 0)) 187 (v := ?v8c9) rfl ?h8c9 hH ?_
   case h8c9 => intro _ _; go_simp; try with_reducible rfl
   try simp only [ps]
   refine tk 9 (some 22) (.nilCheck (.tmp 21)) 0 (v := ?v9c10) rfl ?h9c10 hH ?_
   case h9c10 => intro _ _; go_simp; try with_reducible rfl
   try simp only [ps]
   refine tk 10 (some 23) (.fieldAddr 153 (.tmp 22) 2) 0 (v := ?v10c11) rfl ?h10c11 hH ?_
   case h10c11 => intro _ _; go_simp; try with_reducible rfl
   try simp only [ps]
   refine tk 11 (some 24) (.load 3 (.tmp 23)) 3 (v := ?v11c12) rfl ?h11c12 hH ?_
   case h11c12 => intro _ _; go_simp; try with_reducible rfl
   try simp only [ps]
   refine tk 12 (some 25) (.binOp .gtr 3 (.tmp 24) (.const (.int .i64 3)) 3) 4 (v := ?v12c13) rfl ?h12c13 hH ?_
   case h12c13 => intro _ _; go_simp; try with_reducible rfl
   try simp only [ps]
   refine tk 13 (some 26) (.pick (.tmp 20) (.const (.bool true)) (.tmp 25)) 4 (v := ?v13c14) rfl ?h13c14 hH ?_
   case h13c14 => intro _ _; go_simp; try with_reducible rfl
   try simp only [ps]
   refine tk 14 (some 27) (.move (.tmp 26)) 4 (v := ?v14c15) rfl ?h14c15 hH ?_
   case h14c15 => intro _ _; go_simp; try with_reducible rfl
   try simp only [ps]
   refine tk 15 (some 28) (.move (.tmp 0)) 187 (v := ?v15c16) rfl ?h15c16 hH ?_
   case h15c16 => intro _ _; go_simp; try with_reducible rfl
   try simp only [ps]
   refine tk 16 (some 29) (.nilCheck (.tmp 28)) 0 (v := ?v16c17) rfl ?h16c17 hH ?_
   case h16c17 => intro _ _; go_simp; try with_reducible rfl
   try simp only [ps]
   refine tk 17 (some 30) (.fieldAddr 153 (.tmp 29) 3) 0 (v := ?v17c18) rfl ?h17c18 hH ?_
   case h17c18 => intro _ _; go_simp; try with_reducible rfl
   try simp only [ps]
   refine tk 18 (some 31) (.load 3 (.tmp 30)) 3 (v := ?v18c19) rfl ?h18c19 hH ?_
   case h18c19 => intro _ _; go_simp; try with_reducible rfl
   try simp only [ps]
   refine tk 19 (some 32) (.binOp .eql 3 (.tmp 31) (.const (.int .i64 6)) 3) 4 (v := ?v19c20) rfl ?h19c20 hH ?_
   case h19c20 => intro _ _; go_simp; try with_reducible rfl
   try simp only [ps]
   refine tk 20 (some 33) (.pick (.tmp 27) (.const (.bool true)) (.tmp 32)) 4 (v := ?v20c21) rfl ?h20c21 hH ?_
   case h20c21 => intro _ _; go_simp; try with_reducible rfl
   try simp only [ps]
   refine wpAnyH_done (by kernel_rfl) ?_ _
   refine NoPanic.normal ?_
   go_wp2_with fail
   go_meet
   case rel => exact ⟨rfl, KQ⟩
  case rest =>
   obtain ⟨rfl, k2⟩ := hcut
   rename World => W2
   have hC1 := CB1.out.lt
   have CB2 := hid (CB1.out.kp k2)
   have A2 := hid (bl_kp A1.out k2)
   have KS2 := hid (KS1.out.kpt' k2 hC1)
   have I2 := hid (I0.out.kp k2)
   have CE2 := hid (CEk.out.turn (k2.block _ (Nat.lt_of_lt_of_le hbb KS1.out.size)))
   clear k2 CB1 A1 KS1 I0 CEk
   have c3 := CB2.out.cells.2.2.2
   have f3 := bl_frozen CB2.out 3
   have hC2 := CB2.out.lt
   go_upto_region 5 with fail
   clear c3 f3
   refine opq (fun W3 => W3.heap[w.heap.size]? = some (rxo k mn mx m t (.slice (some ⟨bb, oo, none⟩) 1 c)) ∧ Cb W3 C ere n (g + 1) (d + 1) ∧ Ks C w W3 ∧ Is W3 ok r (rxv kk mn' mx' mm' tt' (.slice ad' ll' cc')) ∧ CellsAt W3 bb oo (rxv kk mn' mx' mm' tt' (.slice ad' ll' cc'))) ⟨by exact bl_set A2.out (by omega) _, by exact CB2.out.deep (d + 1), by exact KS2.out.set 3 _, by exact I2.out.ks ((Ks.refl _ _).set 3 _) (fun x hx _ => HOK.out x hx), by exact CE2.out.turn (((Ks.refl C W2).set 3 _).block _ (Nat.lt_of_lt_of_le hbb KS2.out.size) hbC.out)⟩ ?_
   rintro W3 ⟨xA3, xCB3, xKS3, xI3, xCE3⟩
   have A3 := hidT xA3
   have CB3 := hidT xCB3
   have KS3 := hidT xKS3
   have I3 := hidT xI3
   have CE3 := hidT xCE3
   clear xA3 xCB3 xKS3 xI3 xCE3
   clear A2 CB2 KS2 I2 CE2
   obtain ⟨a0, a1, a2, a3, a4, a5, a6, a7, a8⟩ := cells9 (A3.out)
   obtain ⟨x0, x1, x2, x3, x4, x5, x6, x7, x8⟩ := cells_of_is CE3.out
   go_wp2_with fail
   clear x0 x1 x2 x3 x4 x5 x6 x7 x8 a0 a1 a2 a3 a4 a5 a6 a7 a8
   refine (HH.out.all C ok _ true true n (g + 1) (d + 1) _ I3.out HOK.out CB3.out hn (by omega) (by omega)).mono ?_
   intro e W4 hcd
   rcases hcd.form with ⟨⟨c2, g2, d2⟩, ho2, rfl, hcb2, hks2⟩ | ⟨ho2, rfl, ⟨n2, g2', d2, hcb2, b1, b2, b3, b4⟩, hks2⟩
   ·
    have hck := chk_ok ere r true true ⟨n, g + 1, d + 1⟩ ⟨c2, g2, d2⟩ hn (by show g + 1 ≤ n; omega) ho2
    have b1 : c2 ≤ 40 := hck.1.n
    have b2 : g2 ≤ c2 := hck.1.g
    have b3 : d2 = d + 1 := hck.1.d
    subst b3
    have E : Hid (o = some ⟨c2, g2, d⟩) := by show _ = _; rw [← E0.out, chkGroup, ho2]; rfl
    have CB4 : Hid (Cb W4 C ere c2 g2 (d + 1)) := hcb2
    have KS4 := hid (KS3.out.trans hks2)
    have gd1 : IntKind.i64.wrap ((d : Int) + 1 - 1) = (d : Int) := by rw [IntKind.wrap_i64]; omega
    have gd2 : IntKind.i64.wrap (d : Int) = (d : Int) := by rw [IntKind.wrap_i64]; omega
    clear hcd ho2 hcb2 hks2 hck
    have c3 := CB4.out.cells.2.2.2
    have f3 := bl_frozen CB4.out 3
    go_wp2_with fail
    go_ret
    exact Ckd.yes E.out (CB4.out.deep d) (by omega) (by omega) (by omega) (Nat.le_refl _) (KS4.out.set 3 _)
   ·
    have E : Hid (o = none) := by show _ = _; rw [← E0.out, chkGroup, ho2]
    have CB4 : Hid (Cb W4 C ere n2 g2' d2) := hcb2
    have KS4 := hid (KS3.out.trans hks2)
    obtain ⟨d3, rfl⟩ : ∃ d3, d2 = d3 + 1 := ⟨d2 - 1, by omega⟩
    have gd1 : IntKind.i64.wrap ((d3 : Int) + 1 - 1) = (d3 : Int) := by rw [IntKind.wrap_i64]; omega
    have gd2 : IntKind.i64.wrap (d3 : Int) = (d3 : Int) := by rw [IntKind.wrap_i64]; omega
    clear hcd ho2 hcb2 hks2
    have c3 := CB4.out.cells.2.2.2
    have f3 := bl_frozen CB4.out 3
    go_wp2_with fail
    go_ret
    exact Ckd.no E.out (CB4.out.deep d3) b1 b2 (by omega) (by omega) (KS4.out.set 3 _)
 ·
  have n1 : (m != (g : Int) + 1) = true := by simp; omega
  have E : Hid (o = none) := by show _ = _; rw [← HO.out, if_pos (Or.inl h1)]
  go_cut [33] (fun v wc => v = .bool true ∧ Kp W1 wc)
  case first =>
   have Q0 : Kp W1 W1.drew := (Kp.refl _).drew
   have MK : Hid (∀ W, Kp W1 W → W.cell? ⟨w.heap.size, 3, none⟩ = some (.int .i64 m) ∧ W.cell? ⟨C, 2, none⟩ = some (.int .i64 ((g : Int) + 1)) ∧ W.cell? ⟨C, 3, none⟩ = some (.int .i64 (d : Int)) ∧ Hid (Kp W1 W)) := fun W k => ⟨bl_cell (bl_kp A1.out k) 3 _ rfl, (CB1.out.kp k).cells.2.2.1, (CB1.out.kp k).cells.2.2.2, k⟩
   refine wp_region_noPanic ?_
   refine hdrew MK Q0 (fun hH => ?_)
   have KQ := Q0
   refine tk 0 (some 13) (.fieldAddr 27 (.tmp 3) 3) 0 (v := ?v0d1) rfl ?h0d1 hH ?_
   case h0d1 => intro _ _; go_simp; try with_reducible rfl
   try simp only [ps]
   refine tk 1 (some 14) (.load 3 (.tmp 13)) 3 (v := ?v1d2) rfl ?h1d2 hH ?_
   case h1d2 => intro _ _; go_simp; try with_reducible rfl
   try simp only [ps]
   refine tk 2 (some 15) (.move (.tmp 0)) 187 (v := ?v2d3) rfl ?h2d3 hH ?_
   case h2d3 => intro _ _; go_simp; try with_reducible rfl
   try simp only [ps]
   refine tk 3 (some 16) (.nilCheck (.tmp 15)) 0 (v := ?v3d4) rfl ?h3d4 hH ?_
   case h3d4 => intro _ _; go_simp; try with_reducible rfl
   try simp only [ps]
   refine tk 4 (some 17) (.fieldAddr 153 (.tmp 16) 2) 0 (v := ?v4d5) rfl ?h4d5 hH ?_
   case h4d5 => intro _ _; go_simp; try with_reducible rfl
   try simp only [ps]
   refine tk 5 (some 18) (.load 3 (.tmp 17)) 3 (v := ?v5d6) rfl ?h5d6 hH ?_
   case h5d6 => intro _ _; go_simp; try with_reducible rfl
   try simp only [ps]
   refine tk 6 (some 19) (.binOp .neq 3 (.tmp 14) (.tmp 18) 3) 4 (v := ?v6d7) rfl ?h6d7 hH ?_
   case h6d7 => intro _ _; go_simp; try with_reducible rfl
   try simp only [ps]
   refine tk 7 (some 20) (.move (.tmp 19)) 4 (v := ?v7d8) rfl ?h7d8 hH ?_
   case h7d8 => intro _ _; go_simp; try with_reducible rfl
   try simp only [ps]
   refine tn 8 (some 21) (.move (.tmp 0)) 187 rfl hH ?_
   try simp only [ps]
   refine tn 9 (some 22) (.nilCheck (.tmp 21)) 0 rfl hH ?_
   try simp only [ps]
   refine tn 10 (some 23) (.fieldAddr 153 (.tmp 22) 2) 0 rfl hH ?_
   try simp only [ps]
   refine tn 11 (some 24) (.load 3 (.tmp 23)) 3 rfl hH ?_
   try simp only [ps]
   refine tn 12 (some 25) (.binOp .gtr 3 (.tmp 24) (.const (.int .i64 3)) 3) 4 rfl hH ?_
   try simp only [ps]
   refine tk 13 (some 26) (.pick (.tmp 20) (.const (.bool true)) (.tmp 25)) 4 (v := ?v13d14) rfl ?h13d14 hH ?_
   case h13d14 => intro _ _; go_simp; try with_reducible rfl
   try simp only [ps]
   refine tk 14 (some 27) (.move (.tmp 26)) 4 (v := ?v14d15) rfl ?h14d15 hH ?_
   case h14d15 => intro _ _; go_simp; try with_reducible rfl
   try simp only [ps]
   refine tn 15 (some 28) (.move (.tmp 0)) 187 rfl hH ?_
   try simp only [ps]
   refine tn 16 (some 29) (.nilCheck (.tmp 28)) 0 rfl hH ?_
   try simp only [ps]
   refine tn 17 (some 30) (.fieldAddr 153 (.tmp 29) 3) 0 rfl hH ?_
   try simp only [ps]
   refine tn 18 (some 31) (.load 3 (.tmp 30)) 3 rfl hH ?_
   try simp only [ps]
   refine tn 19 (some 32) (.binOp .eql 3 (.tmp 31) (.const (.int .i64 6)) 3) 4 rfl hH ?_
   try simp only [ps]
   refine tk 20 (some 33) (.pick (.tmp 27) (.const (.bool true)) (.tmp 32)) 4 (v := ?v20d21) rfl ?h20d21 hH ?_
   case h20d21 => intro _ _; go_simp; try with_reducible rfl
   try simp only [ps]
   refine wpAnyH_done (by kernel_rfl) ?_ _
   refine NoPanic.normal ?_
   go_wp2_with fail
   go_meet
   case rel => exact ⟨rfl, KQ⟩
  case rest =>
   obtain ⟨rfl, k2⟩ := hcut
   rename World => W2
   have hC1 := CB1.out.lt
   have CB2 := hid (CB1.out.kp k2)
   have A2 := hid (bl_kp A1.out k2)
   have KS2 := hid (KS1.out.kpt' k2 hC1)
   have I2 := hid (I0.out.kp k2)
   have CE2 := hid (CEk.out.turn (k2.block _ (Nat.lt_of_lt_of_le hbb KS1.out.size)))
   clear k2 CB1 A1 KS1 I0 CEk
   go_wp2_with fail
   go_ret
   exact Ckd.no E.out CB2.out (by omega) (by omega) (by omega) (Nat.le_refl _) KS2.out
theorem chkAlt_cons (ere : Bool) (r : Rx) (rs : List Rx) (c : Ck) : chkAlt ere (r :: rs) c = if r.k = 3 then none else (chk ere r false false c).bind fun c' => chkAlt ere rs c' := by
 rw [chkAlt]
 split
 ·
  rfl
 ·
  cases chk ere r false false c <;> rfl
structure NotD (C : Nat) (ere : Bool) (d0 : Nat) (o : Option Ck) (w : World) (e : Ending) (w' : World) : Prop where
 ex : ∃ b, e = .returned (.bool (!b)) ∧ Ckd C ere d0 o w (.returned (.bool b)) w'
theorem Ckd.from {C : Nat} {ere : Bool} {d0 : Nat} {o : Option Ck} {w w1 w' : World} {e : Ending} (h : Ckd C ere d0 o w1 e w') (k : Ks C w w1) : Ckd C ere d0 o w e w' := by
 obtain ⟨b, h1, h2, h3, h4⟩ := h.ex
 exact ⟨b, h1, h2, h3, k.trans h4⟩
theorem alt1_any (ere : Bool) (r : Rx) (H : RightSaid ere r) (C V : Nat) (ok : Nat → Prop) (k mn mx m : Int) (t : W4) (ad : Option Addr) (l c : Nat) (n g d : Nat) (w : World) (hI : Is w ok r (rxv k mn mx m t (.slice ad l c))) (hok : ∀ x, ok x → x ≠ C) (hc : Cb w C ere n g d) (hV : w.heap[V]? = some (.cells #[.pointer (some ⟨C, 0, none⟩)] 187)) (hn : n ≤ 40) (hg : g ≤ n) (hd : d ≤ 6) :
  Calls Tryz.prog 187 #[rxv k mn mx m t (.slice ad l c), .pointer (some ⟨V, 0, none⟩)] w fun e w' => NotD C ere d (if k = 3 then none else chk ere r false false ⟨n, g, d⟩) w e w' := by
 have HI := hid hI
 have HOK := hid hok
 have HC := hid hc
 have HV := hid hV
 have hCw := hc.lt
 have HH := hid H
 clear hI hok hc hV H
 go_enter Tryz.func187, Tryz.ntmps187
 go_upto_region 1 with fail
 refine opq (fun W0 => W0.heap[w.heap.size]? = some (rxo k mn mx m t (.slice ad l c)) ∧ Cb W0 C ere n g d ∧ W0.heap[V]? = some (.cells #[.pointer (some ⟨C, 0, none⟩)] 187) ∧ Is W0 ok r (rxv k mn mx m t (.slice ad l c)) ∧ Ks C w W0) ⟨by (first | exact last_at _ _ _ (by simp) | (refine bl_alloc ?_ _; first | exact last_at _ _ _ (by simp) | (refine bl_alloc ?_ _; first | exact last_at _ _ _ (by simp) | (refine bl_alloc ?_ _; exact last_at _ _ _ (by simp))))), by exact HC.out.kp kpt, by exact bl_kp HV.out kpt, by exact HI.out.kp kpt, by exact Kp.ks kpt (Nat.le_of_lt hCw)⟩ ?_
 rintro W0 ⟨xA0, xCB0, xV0, xI0, xKS0⟩
 have A0 := hidT xA0
 have CB0 := hidT xCB0
 have V0 := hidT xV0
 have I0 := hidT xI0
 have KS0 := hidT xKS0
 clear xA0 xCB0 xV0 xI0 xKS0
 obtain ⟨a0, a1, a2, a3, a4, a5, a6, a7, a8⟩ := cells9 (A0.out)
 have v0 := bl_cell V0.out 0 _ rfl
 by_cases h3 : k = 3
 ·
  subst h3
  go_wp2_with fail
  go_ret
  exact ⟨false, rfl, Ckd.no rfl CB0.out (by omega) (by omega) (by omega) (Nat.le_refl _) KS0.out⟩
 have g3 : (k == 3) = false := by simp [h3]
 go_wp2_with fail
 clear a0 a1 a2 a3 a4 a5 a6 a7 a8 v0
 refine (HH.out.all C ok _ false false n g d _ I0.out HOK.out CB0.out hn hg hd).mono ?_
 intro e W2 hcd
 obtain ⟨b, rfl, hb⟩ : ∃ b, e = .returned (.bool b) ∧ True := by
  obtain ⟨b, h1, _⟩ := hcd.ex
  exact ⟨b, h1, trivial⟩
 have CD := hid (hcd.from KS0.out)
 clear hcd hb
 go_wp2_with fail
 go_ret
 exact ⟨b, rfl, CD.out⟩
structure Aw (ere : Bool) (C V : Nat) (d0 : Nat) (w : World) (ts : List Rx) (o : Option Ck) (k : Nat) (wr : World) (c : Ck) : Prop where
 cb : Cb wr C ere c.n c.g c.d
 v : wr.heap[V]? = some (.cells #[.pointer (some ⟨C, 0, none⟩)] 187)
 n : c.n ≤ 40
 g : c.g ≤ c.n
 d : c.d = d0
 eq : chkAlt ere (ts.drop k) c = o
 ks : Ks C w wr
structure IdxD (C : Nat) (ere : Bool) (d0 : Nat) (o : Option Ck) (w : World) (e : Ending) (w' : World) : Prop where
 ex : ∃ (i : Int) (b : Bool), e = .returned (.int .i64 i) ∧ decide (0 ≤ i) = !b ∧ Ckd C ere d0 o w (.returned (.bool b)) w'
theorem indexFunc_any (ere : Bool) (ts : List Rx) (H : ∀ r, r ∈ ts → RightSaid ere r) (C V : Nat) (ok : Nat → Prop) (ad : Option Addr) (l c : Nat) (n g d : Nat) (w : World) (hr : RowAt w ok ts ad l c) (hok : ∀ x, ok x → x ≠ C) (hc : Cb w C ere n g d) (hV : w.heap[V]? = some (.cells #[.pointer (some ⟨C, 0, none⟩)] 187)) (hVC : V ≠ C) (hn : n ≤ 40) (hg : g ≤ n) (hd : d ≤ 6) (hl : ts.length ≤ 1000000) :
  Calls Tryz.prog 218 #[.slice ad l c, .func (.func 187) #[] #[.pointer (some ⟨V, 0, none⟩)]] w fun e w' => IdxD C ere d (chkAlt ere ts ⟨n, g, d⟩) w e w' := by
 have hle := hr.ln
 have hlc := hr.cp
 subst hle
 obtain ⟨L, hL⟩ : ∃ L, ts.length = L := ⟨_, rfl⟩
 rw [hL] at hr hlc hl ⊢
 have HL := hid hL
 have RR := hid hr
 have HC := hid hc
 have HV := hid hV
 have HH := hid H
 have HOK := hid hok
 clear hL hr hc H hok hV
 obtain ⟨o, ho⟩ : ∃ o, chkAlt ere ts ⟨n, g, d⟩ = o := ⟨_, rfl⟩
 rw [ho]
 have HO := hid ho
 clear ho
 go_enter Tryz.func218, Tryz.ntmps218
 go_wp2_with fail
 go_loopg [8] L (fun gg v wr => ∃ (k : Nat) (c : Ck), k + gg = L ∧ v = .int .i64 (k : Int) ∧ Aw ere C V d w ts o k wr c)
 case atStart => exact ⟨0, ⟨n, g, d⟩, by omega, rfl, HC.out, HV.out, hn, hg, rfl, HO.out, Ks.refl _ _⟩
 case round =>
  obtain ⟨k, ⟨n1, g1, d1⟩, hk, rfl, hw⟩ := hrel
  have KW := hid hw
  have hn1 : n1 ≤ 40 := hw.n
  have hg1 : g1 ≤ n1 := hw.g
  have hd1 : d1 = d := hw.d
  subst hd1
  clear hw
  by_cases hlt : k < L
  ·
   have gkw : IntKind.i64.wrap ((k : Int) + 1) = (k : Int) + 1 := by rw [IntKind.wrap_i64]; omega
   have ga : (k : Int) < (L : Int) := by omega
   have g0 : (0 : Int) ≤ (k : Int) := by omega
   obtain ⟨r, hr⟩ : ∃ r, ts[k]? = some r := ⟨_, List.getElem?_eq_getElem (by rw [HL.out]; exact hlt)⟩
   have hdrop : ts.drop k = r :: ts.drop (k + 1) := List.drop_eq_getElem_cons (by rw [HL.out]; exact hlt) ▸ by
    have := (List.getElem?_eq_some_iff.1 hr).2
    rw [this]
   have RW := hid (RR.out.ks KW.out.ks HOK.out)
   obtain ⟨bb, oo, kk, mn, mx, mm, tt, ad', ll, cc, e1, hbb, i1, ce1⟩ := RW.out.at k r hr
   subst e1
   have RS := hid (HH.out r (List.mem_of_getElem? hr))
   have hkk : r.k = kk := i1.kind'
   have I1 := hid i1
   have CE1 := hid ce1
   have E0 : Hid (o = if kk = 3 then none else (chk ere r false false ⟨n1, g1, d1⟩).bind fun c' => chkAlt ere (ts.drop (k + 1)) c') := by
    show _ = _
    rw [← KW.out.eq, hdrop, chkAlt_cons, hkk]
   clear hr i1 ce1 hkk hdrop
   obtain ⟨x0, x1, x2, x3, x4, x5, x6, x7, x8⟩ := cells_of_is CE1.out
   go_wp2_with fail
   clear x0 x1 x2 x3 x4 x5 x6 x7 x8
   refine (alt1_any ere r RS.out C V ok kk mn mx mm tt ad' ll cc n1 g1 d1 _ I1.out HOK.out KW.out.cb KW.out.v hn1 hg1 hd).mono ?_
   intro e W2 hnd
   obtain ⟨b, rfl, hcd⟩ := hnd.ex
   clear hnd
   rcases hcd.form with ⟨c2, ho2, hb, hcb2, hks2⟩ | ⟨ho2, hb, ⟨n2, g2', d2, hcb2, b1, b2, b3, b4⟩, hks2⟩
   ·
    have hb' : b = true := by injection hb with hb; injection hb
    subst hb'
    have h3 : ¬ kk = 3 := by intro h; rw [if_pos h] at ho2; cases ho2
    rw [if_neg h3] at ho2
    have hck := chk_ok ere r false false ⟨n1, g1, d1⟩ c2 hn1 hg1 ho2
    have CB2 := hid hcb2
    have V2 := hid (bl_ks KW.out.v hVC hks2)
    have KS2 := hid (KW.out.ks.trans hks2)
    have E2 : Hid (chkAlt ere (ts.drop (k + 1)) c2 = o) := by show _ = _; rw [E0.out, if_neg h3, ho2]; rfl
    have b1 : c2.n ≤ 40 := hck.1.n
    have b2 : c2.g ≤ c2.n := hck.1.g
    have b3 : c2.d = d1 := hck.1.d
    have B3 := hid b3
    clear b3 hcd hcb2 hks2 ho2 hck hb
    go_wp2_with fail
    go_roundg (gk - 1)
    case measure => omega
    case rel => exact ⟨k + 1, c2, by omega, by go_num, CB2.out, V2.out, b1, b2, B3.out, E2.out, KS2.out⟩
   ·
    have hb' : b = false := by injection hb with hb; injection hb
    subst hb'
    have CB2 := hid hcb2
    have KS2 := hid (KW.out.ks.trans hks2)
    have E : Hid (o = none) := by
     show _ = _
     rw [E0.out]
     by_cases h3 : kk = 3
     ·
      rw [if_pos h3]
     ·
      rw [if_neg h3] at ho2 ⊢; rw [ho2]; rfl
    clear hcd hcb2 hks2 ho2 hb
    go_wp2_with fail
    go_ret
    exact ⟨(k : Int), false, rfl, by simp, Ckd.no E.out CB2.out b1 b2 b3 b4 KS2.out⟩
  ·
   have ga : ¬ (k : Int) < (L : Int) := by omega
   have E : Hid (o = some ⟨n1, g1, d1⟩) := by
    have := KW.out.eq
    rw [List.drop_eq_nil_of_le (by rw [HL.out]; omega)] at this
    unfold chkAlt at this
    exact this.symm
   go_wp2
   go_ret
   exact ⟨-1, true, rfl, by decide, Ckd.yes E.out KW.out.cb (by omega) (by omega) (by omega) (Nat.le_refl _) KW.out.ks⟩
theorem containsFunc_any (ere : Bool) (ts : List Rx) (H : ∀ r, r ∈ ts → RightSaid ere r) (C V : Nat) (ok : Nat → Prop) (ad : Option Addr) (l c : Nat) (n g d : Nat) (w : World) (hr : RowAt w ok ts ad l c) (hok : ∀ x, ok x → x ≠ C) (hc : Cb w C ere n g d) (hV : w.heap[V]? = some (.cells #[.pointer (some ⟨C, 0, none⟩)] 187)) (hVC : V ≠ C) (hn : n ≤ 40) (hg : g ≤ n) (hd : d ≤ 6) (hl : ts.length ≤ 1000000) :
  Calls Tryz.prog 186 #[.slice ad l c, .func (.func 187) #[] #[.pointer (some ⟨V, 0, none⟩)]] w fun e w' => NotD C ere d (chkAlt ere ts ⟨n, g, d⟩) w e w' := by
 have IX := hid (indexFunc_any ere ts H C V ok ad l c n g d w hr hok hc hV hVC hn hg hd hl)
 clear hr hok hc hV H
 go_enter Tryz.func186, Tryz.ntmps186
 go_wp2_with fail
 refine IX.out.mono ?_
 intro e W1 hx
 obtain ⟨i, b, rfl, hi, hcd⟩ := hx.ex
 have CD := hid hcd
 have HI := hid hi
 clear hx hcd hi IX
 go_wp2_with fail
 go_ret
 exact ⟨b, by rw [← HI.out]; rfl, CD.out⟩
theorem alt_any (ere : Bool) (ts : List Rx) (H : ∀ r, r ∈ ts → RightSaid ere r) (C : Nat) (ok : Nat → Prop) (ad : Option Addr) (l c : Nat) (n g d : Nat) (w : World) (hr : RowAt w ok ts ad l c) (hok : ∀ x, ok x → x ≠ C) (hc : Cb w C ere n g d) (hn : n ≤ 40) (hg : g ≤ n) (hd : d ≤ 6) (hl : ts.length ≤ 1000000) :
  Calls Tryz.prog 152 #[.pointer (some ⟨C, 0, none⟩), .slice ad l c] w fun e w' => Ckd C ere d (chkAlt ere ts ⟨n, g, d⟩) w e w' := by
 have RR := hid hr
 have HC := hid hc
 have HOK := hid hok
 have HH := hid H
 have hCw := hc.lt
 clear hr hc hok H
 go_enter Tryz.func152, Tryz.ntmps152
 go_upto_region 1 with fail
 refine opq (fun W0 => W0.heap[w.heap.size]? = some (.cells #[.pointer (some ⟨C, 0, none⟩)] 187) ∧ Cb W0 C ere n g d ∧ RowAt W0 ok ts ad l c ∧ Ks C w W0) ⟨by (first | exact last_at _ _ _ (by simp) | (refine bl_alloc ?_ _; first | exact last_at _ _ _ (by simp) | (refine bl_alloc ?_ _; first | exact last_at _ _ _ (by simp) | (refine bl_alloc ?_ _; exact last_at _ _ _ (by simp))))), by exact HC.out.kp kpt, by exact RR.out.kp kpt, by exact Kp.ks kpt (Nat.le_of_lt hCw)⟩ ?_
 rintro W0 ⟨xV0, xCB0, xR0, xKS0⟩
 have V0 := hidT xV0
 have CB0 := hidT xCB0
 have R0 := hidT xR0
 have KS0 := hidT xKS0
 clear xV0 xCB0 xR0 xKS0
 go_wp2_with fail
 refine (containsFunc_any ere ts HH.out C w.heap.size ok ad l c n g d _ R0.out HOK.out CB0.out V0.out (by omega) hn hg hd hl).mono ?_
 intro e W1 hnd
 obtain ⟨b, rfl, hcd⟩ := hnd.ex
 have CD := hid (hcd.from KS0.out)
 clear hnd hcd
 go_wp2_with fail
 go_ret
 cases b <;> exact CD.out
end Go.Proofs.YtigdmebijbaofaaGreatDoor
