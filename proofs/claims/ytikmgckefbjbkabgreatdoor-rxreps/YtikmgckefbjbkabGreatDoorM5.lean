/-
  Texts of this claim: Right3, Right4, Right5, Text3, Text4, Runs, KSame, Within2, Num2, Reps1.
-/
import Derived.Test.YtikmgckefbjbkabGreatDoorM4
import Derived.Lib.SmallJoins
import Derived.Test.YtikmgckefbjbkabGreatDoorM1

/-! ### Right3 -/

namespace Go.Proofs.YtikmgckefbjbkabGreatDoor
open Go.RowKit

theorem Cb.groups {w : World} {C : Nat} {ere : Bool} {n g d : Nat} (h : Cb w C ere n g d) (j : Nat) : Cb (w.setCell ⟨C, 2, none⟩ (.int .i64 (j : Int))) C ere n j d := bl_put h _
theorem Cb.deep {w : World} {C : Nat} {ere : Bool} {n g d : Nat} (h : Cb w C ere n g d) (j : Nat) : Cb (w.setCell ⟨C, 3, none⟩ (.int .i64 (j : Int))) C ere n g j := bl_put h _
theorem Cb.nodes {w : World} {C : Nat} {ere : Bool} {n g d : Nat} (h : Cb w C ere n g d) (j : Nat) : Cb (w.setCell ⟨C, 1, none⟩ (.int .i64 (j : Int))) C ere j g d := bl_put h _

set_option maxHeartbeats 2000000 in
set_option maxRecDepth 100000 in
theorem rep_any (ere : Bool) (r : Rx) (H : RightSaid ere r) (C : Nat) (ok : Nat → Prop) (k mn mx m : Int) (t : W4) (ad : Option Addr) (l c : Nat) (n g d : Nat) (w : World) (hr : RowAt w ok [r] ad l c) (hok : ∀ x, ok x → x ≠ C) (hc : Cb w C ere n g d) (hn : n ≤ 40) (hg : g ≤ n) (hd : d ≤ 6) :
    Calls Tryz.prog 29 #[.pointer (some ⟨C, 0, none⟩), rxv k mn mx m t (.slice ad l c)] w fun e w' => Ckd C ere d (if timesFit mn mx then chkRep ere [r] ⟨n, g, d⟩ else none) w e w' := by
  have hle : l = 1 := hr.ln
  subst hle
  have hlc := hr.cp
  obtain ⟨bb, oo, kk, mn', mx', mm', tt', ad', ll', cc', e1, hbb, i1, ce1⟩ := hr.at 0 r rfl
  subst e1
  rw [Nat.zero_mul, Nat.add_zero] at ce1
  have I1 := hid i1
  have CE1 := hid ce1
  have hkk : r.k = kk := i1.kind'
  have HKK := hid hkk
  have HC := hid hc
  have hCw := hc.lt
  have HOK := hid hok
  have HH := hid H
  clear hr i1 ce1 hkk hc hok H
  obtain ⟨tf, htf⟩ : ∃ tf, timesFit mn mx = tf := ⟨_, rfl⟩
  have TF : Hid (∀ w, Calls Tryz.prog 47 #[.int .i64 mn, .int .i64 mx] w fun e w' => e = .returned (.bool tf) ∧ w' = w) := fun w => by have := timesFit_any mn mx w; rw [htf] at this; exact this
  rw [htf]
  clear htf
  obtain ⟨mr, hmr⟩ : ∃ mr, mayRep kk = mr := ⟨_, rfl⟩
  have RP : Hid (∀ w, Calls Tryz.prog 48 #[.int .i64 kk] w fun e w' => e = .returned (.bool mr) ∧ w' = w) := fun w => by
    have := repeatable_any kk w
    rw [show (kk == 1 || kk == 5 || kk == 6) = mr from hmr] at this
    exact this
  have E0 : Hid (chkRep ere [r] ⟨n, g, d⟩ = if mr then chk ere r false false ⟨n, g, d⟩ else none) := by show _ = _; rw [chkRep, HKK.out, hmr]
  clear hmr
  go_enter Tryz.func29, Tryz.ntmps29
  go_upto_region 1 with fail
  refine opq (fun W0 => W0.heap[w.heap.size]? = some (rxo k mn mx m t (.slice (some ⟨bb, oo, none⟩) 1 c)) ∧ Kp w W0) ⟨by (first | exact last_at _ _ _ (by simp) | (refine bl_alloc ?_ _; first | exact last_at _ _ _ (by simp) | (refine bl_alloc ?_ _; first | exact last_at _ _ _ (by simp) | (refine bl_alloc ?_ _; exact last_at _ _ _ (by simp))))), by exact (by repeat (first | exact Kp.refl _ | refine Kp.alloc ?_ _ | refine Kp.drew ?_ | refine Kp.drewN _ ?_))⟩ ?_
  rintro W0 ⟨xA0, xK0⟩
  have A0 : Hid (W0.heap[w.heap.size]? = some (rxo k mn mx m t (.slice (some ⟨bb, oo, none⟩) 1 c))) := xA0
  have K0 : Hid (Kp w W0) := xK0
  clear xA0 xK0
  have a0 := bl_cell (A0.out) 0 _ rfl
  have a1 := bl_cell (A0.out) 1 _ rfl
  have a2 := bl_cell (A0.out) 2 _ rfl
  have a3 := bl_cell (A0.out) 3 _ rfl
  have a4 := bl_cell (A0.out) 4 _ rfl
  have a5 := bl_cell (A0.out) 5 _ rfl
  have a6 := bl_cell (A0.out) 6 _ rfl
  have a7 := bl_cell (A0.out) 7 _ rfl
  have a8 := bl_cell (A0.out) 8 _ rfl
  have CB0 := hid (HC.out.kp K0.out)
  have KS0 := hid (K0.out.ks (Nat.le_of_lt hCw))
  have CE0 := hid (CE1.out.turn (K0.out.block _ hbb))
  obtain ⟨x0, x1, x2, x3, x4, x5, x6, x7, x8⟩ := cells_of_is CE0.out
  go_wp2_with fail
  refine (TF.out _).mono ?_
  rintro e W0 ⟨rfl, rfl⟩
  cases tf with
  | false =>
    go_wp2_with fail
    go_ret
    exact Ckd.no rfl CB0.out (by omega) (by omega) (by omega) (Nat.le_refl _) KS0.out
  | true =>
    go_wp2_with fail
    refine (RP.out _).mono ?_
    rintro e W0 ⟨rfl, rfl⟩
    cases mr with
    | false =>
      go_wp2_with fail
      go_ret
      exact Ckd.no (by rw [E0.out]; rfl) CB0.out (by omega) (by omega) (by omega) (Nat.le_refl _) KS0.out
    | true =>
      go_wp2_with fail
      clear x0 x1 x2 x3 x4 x5 x6 x7 x8 a0 a1 a2 a3 a4 a5 a6 a7 a8
      refine (HH.out.all C ok _ false false n g d _ (I1.out.kp K0.out) HOK.out CB0.out hn hg hd).mono ?_
      intro e W2 hcd
      have HE : Hid (chkRep ere [r] ⟨n, g, d⟩ = chk ere r false false ⟨n, g, d⟩) := by show _ = _; rw [E0.out]; rfl
      rw [← HE.out] at hcd
      rcases hcd.form with ⟨c2, ho2, rfl, hcb2, hks2⟩ | ⟨ho2, rfl, ⟨n2, g2', d2, hcb2, b1, b2, b3, b4⟩, hks2⟩
      · have HCD := hid (show Ckd C ere d (if true = true then chkRep ere [r] ⟨n, g, d⟩ else none) w (.returned (.bool true)) W2 from by
          obtain ⟨q, h1, h2, h3, h4⟩ := hcd.ex
          exact ⟨q, h1, h2, h3, KS0.out.trans h4⟩)
        clear hcd ho2 hcb2 hks2
        go_wp2_with fail
        go_ret
        exact HCD.out
      · have HCD := hid (show Ckd C ere d (if true = true then chkRep ere [r] ⟨n, g, d⟩ else none) w (.returned (.bool false)) W2 from by
          obtain ⟨q, h1, h2, h3, h4⟩ := hcd.ex
          exact ⟨q, h1, h2, h3, KS0.out.trans h4⟩)
        clear hcd ho2 hcb2 hks2
        go_wp2_with fail
        go_ret
        exact HCD.out

set_option maxHeartbeats 2000000 in
set_option maxRecDepth 100000 in
theorem cgroup_any (ere : Bool) (r : Rx) (H : RightSaid ere r) (C : Nat) (ok : Nat → Prop) (k mn mx m : Int) (t : W4) (ad : Option Addr) (l c : Nat) (n g d : Nat) (w : World) (hr : RowAt w ok [r] ad l c) (hok : ∀ x, ok x → x ≠ C) (hc : Cb w C ere n g d) (hn : n ≤ 40) (hg : g + 1 ≤ n) (hd : d ≤ 6) :
    Calls Tryz.prog 30 #[.pointer (some ⟨C, 0, none⟩), rxv k mn mx m t (.slice ad l c)] w fun e w' => Ckd C ere d (if m ≠ (g + 1 : Nat) ∨ g + 1 > 3 ∨ d = 6 then none else chkGroup ere [r] ⟨n, g + 1, d + 1⟩) w e w' := by
  have hle : l = 1 := hr.ln
  subst hle
  have hlc := hr.cp
  obtain ⟨bb, oo, kk, mn', mx', mm', tt', ad', ll', cc', e1, hbb, i1, ce1⟩ := hr.at 0 r rfl
  subst e1
  rw [Nat.zero_mul, Nat.add_zero] at ce1
  have I1 := hid i1
  have CE1 := hid ce1
  have HC := hid hc
  have hCw := hc.lt
  have HOK := hid hok
  have HH := hid H
  have hbC : Hid (bb ≠ C) := by
    obtain ⟨b', o', h1, h2, _, _⟩ := hr.ex (by simp)
    injection h1 with h1; injection h1 with h1 _
    rw [h1]; exact hok _ h2
  clear hr i1 ce1 hc hok H
  have gg : IntKind.i64.wrap ((g : Int) + 1) = (g : Int) + 1 := by rw [IntKind.wrap_i64]; omega
  have gd : IntKind.i64.wrap ((d : Int) + 1) = (d : Int) + 1 := by rw [IntKind.wrap_i64]; omega
  obtain ⟨o, ho⟩ : ∃ o, (if m ≠ (g + 1 : Nat) ∨ g + 1 > 3 ∨ d = 6 then none else chkGroup ere [r] ⟨n, g + 1, d + 1⟩) = o := ⟨_, rfl⟩
  rw [ho]
  have HO := hid ho
  clear ho
  go_enter Tryz.func30, Tryz.ntmps30
  go_upto_region 1 with fail
  refine opq (fun W0 => W0.heap[w.heap.size]? = some (rxo k mn mx m t (.slice (some ⟨bb, oo, none⟩) 1 c)) ∧ Cb W0 C ere n g d ∧ Kp w W0) ⟨by (first | exact last_at _ _ _ (by simp) | (refine bl_alloc ?_ _; first | exact last_at _ _ _ (by simp) | (refine bl_alloc ?_ _; first | exact last_at _ _ _ (by simp) | (refine bl_alloc ?_ _; exact last_at _ _ _ (by simp))))), by exact HC.out.kp (by repeat (first | exact Kp.refl _ | refine Kp.alloc ?_ _ | refine Kp.drew ?_ | refine Kp.drewN _ ?_)), by exact (by repeat (first | exact Kp.refl _ | refine Kp.alloc ?_ _ | refine Kp.drew ?_ | refine Kp.drewN _ ?_))⟩ ?_
  rintro W0 ⟨xA0, xCB0, xK0⟩
  have A0 : Hid (W0.heap[w.heap.size]? = some (rxo k mn mx m t (.slice (some ⟨bb, oo, none⟩) 1 c))) := xA0
  have CB0 : Hid (Cb W0 C ere n g d) := xCB0
  have K0 : Hid (Kp w W0) := xK0
  clear xA0 xCB0 xK0
  have c2 := CB0.out.cells.2.2.1
  have f2 := bl_frozen CB0.out 2
  go_upto_region 2 with fail
  clear c2 f2
  refine opq (fun W1 => W1.heap[w.heap.size]? = some (rxo k mn mx m t (.slice (some ⟨bb, oo, none⟩) 1 c)) ∧ Cb W1 C ere n (g + 1) d ∧ Ks C w W1) ⟨by exact bl_set A0.out (by omega) _, by exact CB0.out.groups (g + 1), by exact (K0.out.ks (Nat.le_of_lt hCw)).set 2 _⟩ ?_
  rintro W1 ⟨xA1, xCB1, xKS1⟩
  have A1 : Hid (W1.heap[w.heap.size]? = some (rxo k mn mx m t (.slice (some ⟨bb, oo, none⟩) 1 c))) := xA1
  have CB1 : Hid (Cb W1 C ere n (g + 1) d) := xCB1
  have KS1 : Hid (Ks C w W1) := xKS1
  clear xA1 xCB1 xKS1
  have CE0 := hid ((CE1.out.turn (K0.out.block _ hbb)))
  have I0 := hid (I1.out.ks KS1.out (fun x hx _ => HOK.out x hx))
  have CEk := hid (CE1.out.turn (KS1.out.block _ hbb hbC.out))
  clear A0 CB0 K0 CE0
  by_cases h1 : m = ((g + 1 : Nat) : Int)
  · have n1 : (m != (g : Int) + 1) = false := by rw [h1]; simp
    have n1' : m = (g : Int) + 1 := by omega
    by_cases h2 : g + 1 > 3
    · have n2 : (3 : Int) < (g : Int) + 1 := by omega
      have E : Hid (o = none) := by show _ = _; rw [← HO.out, if_pos (Or.inr (Or.inl h2))]
      clear h1 n1'
      go_cut [33] (fun v wc => v = .bool true ∧ Kp W1 wc)
      case first =>
        have Q0 : Kp W1 W1.drew := (Kp.refl _).drew
        have MK : Hid (∀ W, Kp W1 W → W.cell? ⟨w.heap.size, 3, none⟩ = some (.int .i64 m) ∧ W.cell? ⟨C, 2, none⟩ = some (.int .i64 ((g : Int) + 1)) ∧ W.cell? ⟨C, 3, none⟩ = some (.int .i64 (d : Int)) ∧ Hid (Kp W1 W)) := fun W k => ⟨bl_cell (bl_kp A1.out k) 3 _ rfl, (CB1.out.kp k).cells.2.2.1, (CB1.out.kp k).cells.2.2.2, k⟩
        refine wp_region_noPanic ?_
        refine wp_region_held_drew (S := (fun W => W.cell? ⟨w.heap.size, 3, none⟩ = some (.int .i64 m) ∧ W.cell? ⟨C, 2, none⟩ = some (.int .i64 ((g : Int) + 1)) ∧ W.cell? ⟨C, 3, none⟩ = some (.int .i64 (d : Int)) ∧ Hid (Kp W1 W))) (by kernel_rfl) ?_ (fun hH => ?_)
        · exact MK.out _ Q0
        have KQ := Q0
        refine wpAnyH_take (i := 0) (oi := { dst := some 13, op := Op.fieldAddr 30 (Operand.tmp 3) 3, type := 0, pos := "right.go:116", after := #[], guard := none }) (v := ?v0a1) rfl (by kernel_rfl) (by kernel_rfl) (by kernel_rfl) (fun _ _ _ h => h) (Or.inl ⟨by rfl, ?hy0a1⟩) hH ?r0a1
        case hy0a1 => (intro W hSw; (try dsimp only at hSw); go_simp; try (with_reducible rfl))
        try simp only [Act.put, List.setIfInBounds_toArray, List.set_cons_zero, List.set_cons_succ]
        refine wpAnyH_take (i := 1) (oi := { dst := some 14, op := Op.load 3 (Operand.tmp 13), type := 3, pos := "right.go:116", after := #[{ on := 0, ground := Ground.data }], guard := none }) (v := ?v1a2) rfl (by kernel_rfl) (by kernel_rfl) (by kernel_rfl) (fun _ _ _ h => h) (Or.inl ⟨by rfl, ?hy1a2⟩) hH ?r1a2
        case hy1a2 => (intro W hSw; (try dsimp only at hSw); go_simp; try (with_reducible rfl))
        try simp only [Act.put, List.setIfInBounds_toArray, List.set_cons_zero, List.set_cons_succ]
        refine wpAnyH_take (i := 2) (oi := { dst := some 15, op := Op.move (Operand.tmp 0), type := 64, pos := "right.go:116", after := #[], guard := none }) (v := ?v2a3) rfl (by kernel_rfl) (by kernel_rfl) (by kernel_rfl) (fun _ _ _ h => h) (Or.inl ⟨by rfl, ?hy2a3⟩) hH ?r2a3
        case hy2a3 => (intro W hSw; (try dsimp only at hSw); go_simp; try (with_reducible rfl))
        try simp only [Act.put, List.setIfInBounds_toArray, List.set_cons_zero, List.set_cons_succ]
        refine wpAnyH_take (i := 3) (oi := { dst := some 16, op := Op.nilCheck (Operand.tmp 15), type := 0, pos := "right.go:116", after := #[{ on := 2, ground := Ground.data }], guard := none }) (v := ?v3a4) rfl (by kernel_rfl) (by kernel_rfl) (by kernel_rfl) (fun _ _ _ h => h) (Or.inl ⟨by rfl, ?hy3a4⟩) hH ?r3a4
        case hy3a4 => (intro W hSw; (try dsimp only at hSw); go_simp; try (with_reducible rfl))
        try simp only [Act.put, List.setIfInBounds_toArray, List.set_cons_zero, List.set_cons_succ]
        refine wpAnyH_take (i := 4) (oi := { dst := some 17, op := Op.fieldAddr 53 (Operand.tmp 16) 2, type := 0, pos := "right.go:116", after := #[{ on := 3, ground := Ground.data }], guard := none }) (v := ?v4a5) rfl (by kernel_rfl) (by kernel_rfl) (by kernel_rfl) (fun _ _ _ h => h) (Or.inl ⟨by rfl, ?hy4a5⟩) hH ?r4a5
        case hy4a5 => (intro W hSw; (try dsimp only at hSw); go_simp; try (with_reducible rfl))
        try simp only [Act.put, List.setIfInBounds_toArray, List.set_cons_zero, List.set_cons_succ]
        refine wpAnyH_take (i := 5) (oi := { dst := some 18, op := Op.load 3 (Operand.tmp 17), type := 3, pos := "right.go:116", after := #[{ on := 4, ground := Ground.data }], guard := none }) (v := ?v5a6) rfl (by kernel_rfl) (by kernel_rfl) (by kernel_rfl) (fun _ _ _ h => h) (Or.inl ⟨by rfl, ?hy5a6⟩) hH ?r5a6
        case hy5a6 => (intro W hSw; (try dsimp only at hSw); go_simp; try (with_reducible rfl))
        try simp only [Act.put, List.setIfInBounds_toArray, List.set_cons_zero, List.set_cons_succ]
        refine wpAnyH_take (i := 6) (oi := { dst := some 19, op := Op.binOp BinOp.neq 3 (Operand.tmp 14) (Operand.tmp 18) 3, type := 4, pos := "right.go:116", after := #[{ on := 1, ground := Ground.data }, { on := 5, ground := Ground.data }], guard := none }) (v := ?v6a7) rfl (by kernel_rfl) (by kernel_rfl) (by kernel_rfl) (fun _ _ _ h => h) (Or.inl ⟨by rfl, ?hy6a7⟩) hH ?r6a7
        case hy6a7 => (intro W hSw; (try dsimp only at hSw); go_simp; try (with_reducible rfl))
        try simp only [Act.put, List.setIfInBounds_toArray, List.set_cons_zero, List.set_cons_succ]
        refine wpAnyH_take (i := 7) (oi := { dst := some 20, op := Op.move (Operand.tmp 19), type := 4, pos := "right.go:116", after := #[{ on := 6, ground := Ground.data }], guard := none }) (v := ?v7a8) rfl (by kernel_rfl) (by kernel_rfl) (by kernel_rfl) (fun _ _ _ h => h) (Or.inl ⟨by rfl, ?hy7a8⟩) hH ?r7a8
        case hy7a8 => (intro W hSw; (try dsimp only at hSw); go_simp; try (with_reducible rfl))
        try simp only [Act.put, List.setIfInBounds_toArray, List.set_cons_zero, List.set_cons_succ]
        refine wpAnyH_take (i := 8) (oi := { dst := some 21, op := Op.move (Operand.tmp 0), type := 64, pos := "right.go:116", after := #[{ on := 7, ground := Ground.guard }], guard := some (7, false) }) (v := ?v8a9) rfl (by kernel_rfl) (by kernel_rfl) (by kernel_rfl) (fun _ _ _ h => h) (Or.inl ⟨by rfl, ?hy8a9⟩) hH ?r8a9
        case hy8a9 => (intro W hSw; (try dsimp only at hSw); go_simp; try (with_reducible rfl))
        try simp only [Act.put, List.setIfInBounds_toArray, List.set_cons_zero, List.set_cons_succ]
        refine wpAnyH_take (i := 9) (oi := { dst := some 22, op := Op.nilCheck (Operand.tmp 21), type := 0, pos := "right.go:116", after := #[{ on := 8, ground := Ground.data }, { on := 7, ground := Ground.guard }], guard := some (7, false) }) (v := ?v9a10) rfl (by kernel_rfl) (by kernel_rfl) (by kernel_rfl) (fun _ _ _ h => h) (Or.inl ⟨by rfl, ?hy9a10⟩) hH ?r9a10
        case hy9a10 => (intro W hSw; (try dsimp only at hSw); go_simp; try (with_reducible rfl))
        try simp only [Act.put, List.setIfInBounds_toArray, List.set_cons_zero, List.set_cons_succ]
        refine wpAnyH_take (i := 10) (oi := { dst := some 23, op := Op.fieldAddr 53 (Operand.tmp 22) 2, type := 0, pos := "right.go:116", after := #[{ on := 9, ground := Ground.data }, { on := 7, ground := Ground.guard }], guard := some (7, false) }) (v := ?v10a11) rfl (by kernel_rfl) (by kernel_rfl) (by kernel_rfl) (fun _ _ _ h => h) (Or.inl ⟨by rfl, ?hy10a11⟩) hH ?r10a11
        case hy10a11 => (intro W hSw; (try dsimp only at hSw); go_simp; try (with_reducible rfl))
        try simp only [Act.put, List.setIfInBounds_toArray, List.set_cons_zero, List.set_cons_succ]
        refine wpAnyH_take (i := 11) (oi := { dst := some 24, op := Op.load 3 (Operand.tmp 23), type := 3, pos := "right.go:116", after := #[{ on := 10, ground := Ground.data }, { on := 7, ground := Ground.guard }], guard := some (7, false) }) (v := ?v11a12) rfl (by kernel_rfl) (by kernel_rfl) (by kernel_rfl) (fun _ _ _ h => h) (Or.inl ⟨by rfl, ?hy11a12⟩) hH ?r11a12
        case hy11a12 => (intro W hSw; (try dsimp only at hSw); go_simp; try (with_reducible rfl))
        try simp only [Act.put, List.setIfInBounds_toArray, List.set_cons_zero, List.set_cons_succ]
        refine wpAnyH_take (i := 12) (oi := { dst := some 25, op := Op.binOp BinOp.gtr 3 (Operand.tmp 24) (Operand.const (Value.int IntKind.i64 3)) 3, type := 4, pos := "right.go:116", after := #[{ on := 11, ground := Ground.data }, { on := 7, ground := Ground.guard }], guard := some (7, false) }) (v := ?v12a13) rfl (by kernel_rfl) (by kernel_rfl) (by kernel_rfl) (fun _ _ _ h => h) (Or.inl ⟨by rfl, ?hy12a13⟩) hH ?r12a13
        case hy12a13 => (intro W hSw; (try dsimp only at hSw); go_simp; try (with_reducible rfl))
        try simp only [Act.put, List.setIfInBounds_toArray, List.set_cons_zero, List.set_cons_succ]
        refine wpAnyH_take (i := 13) (oi := { dst := some 26, op := Op.pick (Operand.tmp 20) (Operand.const (Value.bool true)) (Operand.tmp 25), type := 4, pos := "right.go:116", after := #[{ on := 7, ground := Ground.data }, { on := 12, ground := Ground.data }], guard := none }) (v := ?v13a14) rfl (by kernel_rfl) (by kernel_rfl) (by kernel_rfl) (fun _ _ _ h => h) (Or.inl ⟨by rfl, ?hy13a14⟩) hH ?r13a14
        case hy13a14 => (intro W hSw; (try dsimp only at hSw); go_simp; try (with_reducible rfl))
        try simp only [Act.put, List.setIfInBounds_toArray, List.set_cons_zero, List.set_cons_succ]
        refine wpAnyH_take (i := 14) (oi := { dst := some 27, op := Op.move (Operand.tmp 26), type := 4, pos := "right.go:116", after := #[{ on := 13, ground := Ground.data }, { on := 7, ground := Ground.chain }], guard := none }) (v := ?v14a15) rfl (by kernel_rfl) (by kernel_rfl) (by kernel_rfl) (fun _ _ _ h => h) (Or.inl ⟨by rfl, ?hy14a15⟩) hH ?r14a15
        case hy14a15 => (intro W hSw; (try dsimp only at hSw); go_simp; try (with_reducible rfl))
        try simp only [Act.put, List.setIfInBounds_toArray, List.set_cons_zero, List.set_cons_succ]
        refine wpAnyH_take (i := 15) (oi := { dst := some 28, op := Op.move (Operand.tmp 0), type := 64, pos := "right.go:116", after := #[{ on := 14, ground := Ground.guard }], guard := some (14, false) }) (v := undef) rfl (by kernel_rfl) (by kernel_rfl) (by kernel_rfl) (fun _ _ _ h => h) (Or.inr ⟨by rfl, rfl⟩) hH ?r15a16
        try simp only [Act.put, List.setIfInBounds_toArray, List.set_cons_zero, List.set_cons_succ]
        refine wpAnyH_take (i := 16) (oi := { dst := some 29, op := Op.nilCheck (Operand.tmp 28), type := 0, pos := "right.go:116", after := #[{ on := 15, ground := Ground.data }, { on := 14, ground := Ground.guard }], guard := some (14, false) }) (v := undef) rfl (by kernel_rfl) (by kernel_rfl) (by kernel_rfl) (fun _ _ _ h => h) (Or.inr ⟨by rfl, rfl⟩) hH ?r16a17
        try simp only [Act.put, List.setIfInBounds_toArray, List.set_cons_zero, List.set_cons_succ]
        refine wpAnyH_take (i := 17) (oi := { dst := some 30, op := Op.fieldAddr 53 (Operand.tmp 29) 3, type := 0, pos := "right.go:116", after := #[{ on := 16, ground := Ground.data }, { on := 14, ground := Ground.guard }], guard := some (14, false) }) (v := undef) rfl (by kernel_rfl) (by kernel_rfl) (by kernel_rfl) (fun _ _ _ h => h) (Or.inr ⟨by rfl, rfl⟩) hH ?r17a18
        try simp only [Act.put, List.setIfInBounds_toArray, List.set_cons_zero, List.set_cons_succ]
        refine wpAnyH_take (i := 18) (oi := { dst := some 31, op := Op.load 3 (Operand.tmp 30), type := 3, pos := "right.go:116", after := #[{ on := 17, ground := Ground.data }, { on := 14, ground := Ground.guard }], guard := some (14, false) }) (v := undef) rfl (by kernel_rfl) (by kernel_rfl) (by kernel_rfl) (fun _ _ _ h => h) (Or.inr ⟨by rfl, rfl⟩) hH ?r18a19
        try simp only [Act.put, List.setIfInBounds_toArray, List.set_cons_zero, List.set_cons_succ]
        refine wpAnyH_take (i := 19) (oi := { dst := some 32, op := Op.binOp BinOp.eql 3 (Operand.tmp 31) (Operand.const (Value.int IntKind.i64 6)) 3, type := 4, pos := "right.go:116", after := #[{ on := 18, ground := Ground.data }, { on := 14, ground := Ground.guard }], guard := some (14, false) }) (v := undef) rfl (by kernel_rfl) (by kernel_rfl) (by kernel_rfl) (fun _ _ _ h => h) (Or.inr ⟨by rfl, rfl⟩) hH ?r19a20
        try simp only [Act.put, List.setIfInBounds_toArray, List.set_cons_zero, List.set_cons_succ]
        refine wpAnyH_take (i := 20) (oi := { dst := some 33, op := Op.pick (Operand.tmp 27) (Operand.const (Value.bool true)) (Operand.tmp 32), type := 4, pos := "right.go:116", after := #[{ on := 14, ground := Ground.data }, { on := 19, ground := Ground.data }], guard := none }) (v := ?v20a21) rfl (by kernel_rfl) (by kernel_rfl) (by kernel_rfl) (fun _ _ _ h => h) (Or.inl ⟨by rfl, ?hy20a21⟩) hH ?r20a21
        case hy20a21 => (intro W hSw; (try dsimp only at hSw); go_simp; try (with_reducible rfl))
        try simp only [Act.put, List.setIfInBounds_toArray, List.set_cons_zero, List.set_cons_succ]
        refine wpAnyH_done (by kernel_rfl) ?_ _
        refine NoPanic.normal ?_
        go_wp2_with fail
        go_meet
        case rel => exact ⟨rfl, KQ⟩
      case rest =>
        obtain ⟨rfl, k2⟩ := hcut
        rename World => W2
        have hC1 := CB1.out.lt
        have CB2 := hid (CB1.out.kp k2)
        have A2 := hid (bl_kp A1.out k2)
        have KS2 := hid (KS1.out.kpt' k2 hC1)
        have I2 := hid (I0.out.kp k2)
        have CE2 := hid (CEk.out.turn (k2.block _ (Nat.lt_of_lt_of_le hbb KS1.out.size)))
        clear k2 CB1 A1 KS1 I0 CEk
        go_wp2_with fail
        go_ret
        exact Ckd.no E.out CB2.out (by omega) (by omega) (by omega) (Nat.le_refl _) KS2.out
    have n2 : ¬ (3 : Int) < (g : Int) + 1 := by omega
    by_cases h3 : d = 6
    · have E : Hid (o = none) := by show _ = _; rw [← HO.out, if_pos (Or.inr (Or.inr h3))]
      subst h3
      clear h1 n1'
      go_cut [33] (fun v wc => v = .bool true ∧ Kp W1 wc)
      case first =>
        have Q0 : Kp W1 W1.drew := (Kp.refl _).drew
        have MK : Hid (∀ W, Kp W1 W → W.cell? ⟨w.heap.size, 3, none⟩ = some (.int .i64 m) ∧ W.cell? ⟨C, 2, none⟩ = some (.int .i64 ((g : Int) + 1)) ∧ W.cell? ⟨C, 3, none⟩ = some (.int .i64 6) ∧ Hid (Kp W1 W)) := fun W k => ⟨bl_cell (bl_kp A1.out k) 3 _ rfl, (CB1.out.kp k).cells.2.2.1, (CB1.out.kp k).cells.2.2.2, k⟩
        refine wp_region_noPanic ?_
        refine wp_region_held_drew (S := (fun W => W.cell? ⟨w.heap.size, 3, none⟩ = some (.int .i64 m) ∧ W.cell? ⟨C, 2, none⟩ = some (.int .i64 ((g : Int) + 1)) ∧ W.cell? ⟨C, 3, none⟩ = some (.int .i64 6) ∧ Hid (Kp W1 W))) (by kernel_rfl) ?_ (fun hH => ?_)
        · exact MK.out _ Q0
        have KQ := Q0
        refine wpAnyH_take (i := 0) (oi := { dst := some 13, op := Op.fieldAddr 30 (Operand.tmp 3) 3, type := 0, pos := "right.go:116", after := #[], guard := none }) (v := ?v0b1) rfl (by kernel_rfl) (by kernel_rfl) (by kernel_rfl) (fun _ _ _ h => h) (Or.inl ⟨by rfl, ?hy0b1⟩) hH ?r0b1
        case hy0b1 => (intro W hSw; (try dsimp only at hSw); go_simp; try (with_reducible rfl))
        try simp only [Act.put, List.setIfInBounds_toArray, List.set_cons_zero, List.set_cons_succ]
        refine wpAnyH_take (i := 1) (oi := { dst := some 14, op := Op.load 3 (Operand.tmp 13), type := 3, pos := "right.go:116", after := #[{ on := 0, ground := Ground.data }], guard := none }) (v := ?v1b2) rfl (by kernel_rfl) (by kernel_rfl) (by kernel_rfl) (fun _ _ _ h => h) (Or.inl ⟨by rfl, ?hy1b2⟩) hH ?r1b2
        case hy1b2 => (intro W hSw; (try dsimp only at hSw); go_simp; try (with_reducible rfl))
        try simp only [Act.put, List.setIfInBounds_toArray, List.set_cons_zero, List.set_cons_succ]
        refine wpAnyH_take (i := 2) (oi := { dst := some 15, op := Op.move (Operand.tmp 0), type := 64, pos := "right.go:116", after := #[], guard := none }) (v := ?v2b3) rfl (by kernel_rfl) (by kernel_rfl) (by kernel_rfl) (fun _ _ _ h => h) (Or.inl ⟨by rfl, ?hy2b3⟩) hH ?r2b3
        case hy2b3 => (intro W hSw; (try dsimp only at hSw); go_simp; try (with_reducible rfl))
        try simp only [Act.put, List.setIfInBounds_toArray, List.set_cons_zero, List.set_cons_succ]
        refine wpAnyH_take (i := 3) (oi := { dst := some 16, op := Op.nilCheck (Operand.tmp 15), type := 0, pos := "right.go:116", after := #[{ on := 2, ground := Ground.data }], guard := none }) (v := ?v3b4) rfl (by kernel_rfl) (by kernel_rfl) (by kernel_rfl) (fun _ _ _ h => h) (Or.inl ⟨by rfl, ?hy3b4⟩) hH ?r3b4
        case hy3b4 => (intro W hSw; (try dsimp only at hSw); go_simp; try (with_reducible rfl))
        try simp only [Act.put, List.setIfInBounds_toArray, List.set_cons_zero, List.set_cons_succ]
        refine wpAnyH_take (i := 4) (oi := { dst := some 17, op := Op.fieldAddr 53 (Operand.tmp 16) 2, type := 0, pos := "right.go:116", after := #[{ on := 3, ground := Ground.data }], guard := none }) (v := ?v4b5) rfl (by kernel_rfl) (by kernel_rfl) (by kernel_rfl) (fun _ _ _ h => h) (Or.inl ⟨by rfl, ?hy4b5⟩) hH ?r4b5
        case hy4b5 => (intro W hSw; (try dsimp only at hSw); go_simp; try (with_reducible rfl))
        try simp only [Act.put, List.setIfInBounds_toArray, List.set_cons_zero, List.set_cons_succ]
        refine wpAnyH_take (i := 5) (oi := { dst := some 18, op := Op.load 3 (Operand.tmp 17), type := 3, pos := "right.go:116", after := #[{ on := 4, ground := Ground.data }], guard := none }) (v := ?v5b6) rfl (by kernel_rfl) (by kernel_rfl) (by kernel_rfl) (fun _ _ _ h => h) (Or.inl ⟨by rfl, ?hy5b6⟩) hH ?r5b6
        case hy5b6 => (intro W hSw; (try dsimp only at hSw); go_simp; try (with_reducible rfl))
        try simp only [Act.put, List.setIfInBounds_toArray, List.set_cons_zero, List.set_cons_succ]
        refine wpAnyH_take (i := 6) (oi := { dst := some 19, op := Op.binOp BinOp.neq 3 (Operand.tmp 14) (Operand.tmp 18) 3, type := 4, pos := "right.go:116", after := #[{ on := 1, ground := Ground.data }, { on := 5, ground := Ground.data }], guard := none }) (v := ?v6b7) rfl (by kernel_rfl) (by kernel_rfl) (by kernel_rfl) (fun _ _ _ h => h) (Or.inl ⟨by rfl, ?hy6b7⟩) hH ?r6b7
        case hy6b7 => (intro W hSw; (try dsimp only at hSw); go_simp; try (with_reducible rfl))
        try simp only [Act.put, List.setIfInBounds_toArray, List.set_cons_zero, List.set_cons_succ]
        refine wpAnyH_take (i := 7) (oi := { dst := some 20, op := Op.move (Operand.tmp 19), type := 4, pos := "right.go:116", after := #[{ on := 6, ground := Ground.data }], guard := none }) (v := ?v7b8) rfl (by kernel_rfl) (by kernel_rfl) (by kernel_rfl) (fun _ _ _ h => h) (Or.inl ⟨by rfl, ?hy7b8⟩) hH ?r7b8
        case hy7b8 => (intro W hSw; (try dsimp only at hSw); go_simp; try (with_reducible rfl))
        try simp only [Act.put, List.setIfInBounds_toArray, List.set_cons_zero, List.set_cons_succ]
        refine wpAnyH_take (i := 8) (oi := { dst := some 21, op := Op.move (Operand.tmp 0), type := 64, pos := "right.go:116", after := #[{ on := 7, ground := Ground.guard }], guard := some (7, false) }) (v := ?v8b9) rfl (by kernel_rfl) (by kernel_rfl) (by kernel_rfl) (fun _ _ _ h => h) (Or.inl ⟨by rfl, ?hy8b9⟩) hH ?r8b9
        case hy8b9 => (intro W hSw; (try dsimp only at hSw); go_simp; try (with_reducible rfl))
        try simp only [Act.put, List.setIfInBounds_toArray, List.set_cons_zero, List.set_cons_succ]
        refine wpAnyH_take (i := 9) (oi := { dst := some 22, op := Op.nilCheck (Operand.tmp 21), type := 0, pos := "right.go:116", after := #[{ on := 8, ground := Ground.data }, { on := 7, ground := Ground.guard }], guard := some (7, false) }) (v := ?v9b10) rfl (by kernel_rfl) (by kernel_rfl) (by kernel_rfl) (fun _ _ _ h => h) (Or.inl ⟨by rfl, ?hy9b10⟩) hH ?r9b10
        case hy9b10 => (intro W hSw; (try dsimp only at hSw); go_simp; try (with_reducible rfl))
        try simp only [Act.put, List.setIfInBounds_toArray, List.set_cons_zero, List.set_cons_succ]
        refine wpAnyH_take (i := 10) (oi := { dst := some 23, op := Op.fieldAddr 53 (Operand.tmp 22) 2, type := 0, pos := "right.go:116", after := #[{ on := 9, ground := Ground.data }, { on := 7, ground := Ground.guard }], guard := some (7, false) }) (v := ?v10b11) rfl (by kernel_rfl) (by kernel_rfl) (by kernel_rfl) (fun _ _ _ h => h) (Or.inl ⟨by rfl, ?hy10b11⟩) hH ?r10b11
        case hy10b11 => (intro W hSw; (try dsimp only at hSw); go_simp; try (with_reducible rfl))
        try simp only [Act.put, List.setIfInBounds_toArray, List.set_cons_zero, List.set_cons_succ]
        refine wpAnyH_take (i := 11) (oi := { dst := some 24, op := Op.load 3 (Operand.tmp 23), type := 3, pos := "right.go:116", after := #[{ on := 10, ground := Ground.data }, { on := 7, ground := Ground.guard }], guard := some (7, false) }) (v := ?v11b12) rfl (by kernel_rfl) (by kernel_rfl) (by kernel_rfl) (fun _ _ _ h => h) (Or.inl ⟨by rfl, ?hy11b12⟩) hH ?r11b12
        case hy11b12 => (intro W hSw; (try dsimp only at hSw); go_simp; try (with_reducible rfl))
        try simp only [Act.put, List.setIfInBounds_toArray, List.set_cons_zero, List.set_cons_succ]
        refine wpAnyH_take (i := 12) (oi := { dst := some 25, op := Op.binOp BinOp.gtr 3 (Operand.tmp 24) (Operand.const (Value.int IntKind.i64 3)) 3, type := 4, pos := "right.go:116", after := #[{ on := 11, ground := Ground.data }, { on := 7, ground := Ground.guard }], guard := some (7, false) }) (v := ?v12b13) rfl (by kernel_rfl) (by kernel_rfl) (by kernel_rfl) (fun _ _ _ h => h) (Or.inl ⟨by rfl, ?hy12b13⟩) hH ?r12b13
        case hy12b13 => (intro W hSw; (try dsimp only at hSw); go_simp; try (with_reducible rfl))
        try simp only [Act.put, List.setIfInBounds_toArray, List.set_cons_zero, List.set_cons_succ]
        refine wpAnyH_take (i := 13) (oi := { dst := some 26, op := Op.pick (Operand.tmp 20) (Operand.const (Value.bool true)) (Operand.tmp 25), type := 4, pos := "right.go:116", after := #[{ on := 7, ground := Ground.data }, { on := 12, ground := Ground.data }], guard := none }) (v := ?v13b14) rfl (by kernel_rfl) (by kernel_rfl) (by kernel_rfl) (fun _ _ _ h => h) (Or.inl ⟨by rfl, ?hy13b14⟩) hH ?r13b14
        case hy13b14 => (intro W hSw; (try dsimp only at hSw); go_simp; try (with_reducible rfl))
        try simp only [Act.put, List.setIfInBounds_toArray, List.set_cons_zero, List.set_cons_succ]
        refine wpAnyH_take (i := 14) (oi := { dst := some 27, op := Op.move (Operand.tmp 26), type := 4, pos := "right.go:116", after := #[{ on := 13, ground := Ground.data }, { on := 7, ground := Ground.chain }], guard := none }) (v := ?v14b15) rfl (by kernel_rfl) (by kernel_rfl) (by kernel_rfl) (fun _ _ _ h => h) (Or.inl ⟨by rfl, ?hy14b15⟩) hH ?r14b15
        case hy14b15 => (intro W hSw; (try dsimp only at hSw); go_simp; try (with_reducible rfl))
        try simp only [Act.put, List.setIfInBounds_toArray, List.set_cons_zero, List.set_cons_succ]
        refine wpAnyH_take (i := 15) (oi := { dst := some 28, op := Op.move (Operand.tmp 0), type := 64, pos := "right.go:116", after := #[{ on := 14, ground := Ground.guard }], guard := some (14, false) }) (v := ?v15b16) rfl (by kernel_rfl) (by kernel_rfl) (by kernel_rfl) (fun _ _ _ h => h) (Or.inl ⟨by rfl, ?hy15b16⟩) hH ?r15b16
        case hy15b16 => (intro W hSw; (try dsimp only at hSw); go_simp; try (with_reducible rfl))
        try simp only [Act.put, List.setIfInBounds_toArray, List.set_cons_zero, List.set_cons_succ]
        refine wpAnyH_take (i := 16) (oi := { dst := some 29, op := Op.nilCheck (Operand.tmp 28), type := 0, pos := "right.go:116", after := #[{ on := 15, ground := Ground.data }, { on := 14, ground := Ground.guard }], guard := some (14, false) }) (v := ?v16b17) rfl (by kernel_rfl) (by kernel_rfl) (by kernel_rfl) (fun _ _ _ h => h) (Or.inl ⟨by rfl, ?hy16b17⟩) hH ?r16b17
        case hy16b17 => (intro W hSw; (try dsimp only at hSw); go_simp; try (with_reducible rfl))
        try simp only [Act.put, List.setIfInBounds_toArray, List.set_cons_zero, List.set_cons_succ]
        refine wpAnyH_take (i := 17) (oi := { dst := some 30, op := Op.fieldAddr 53 (Operand.tmp 29) 3, type := 0, pos := "right.go:116", after := #[{ on := 16, ground := Ground.data }, { on := 14, ground := Ground.guard }], guard := some (14, false) }) (v := ?v17b18) rfl (by kernel_rfl) (by kernel_rfl) (by kernel_rfl) (fun _ _ _ h => h) (Or.inl ⟨by rfl, ?hy17b18⟩) hH ?r17b18
        case hy17b18 => (intro W hSw; (try dsimp only at hSw); go_simp; try (with_reducible rfl))
        try simp only [Act.put, List.setIfInBounds_toArray, List.set_cons_zero, List.set_cons_succ]
        refine wpAnyH_take (i := 18) (oi := { dst := some 31, op := Op.load 3 (Operand.tmp 30), type := 3, pos := "right.go:116", after := #[{ on := 17, ground := Ground.data }, { on := 14, ground := Ground.guard }], guard := some (14, false) }) (v := ?v18b19) rfl (by kernel_rfl) (by kernel_rfl) (by kernel_rfl) (fun _ _ _ h => h) (Or.inl ⟨by rfl, ?hy18b19⟩) hH ?r18b19
        case hy18b19 => (intro W hSw; (try dsimp only at hSw); go_simp; try (with_reducible rfl))
        try simp only [Act.put, List.setIfInBounds_toArray, List.set_cons_zero, List.set_cons_succ]
        refine wpAnyH_take (i := 19) (oi := { dst := some 32, op := Op.binOp BinOp.eql 3 (Operand.tmp 31) (Operand.const (Value.int IntKind.i64 6)) 3, type := 4, pos := "right.go:116", after := #[{ on := 18, ground := Ground.data }, { on := 14, ground := Ground.guard }], guard := some (14, false) }) (v := ?v19b20) rfl (by kernel_rfl) (by kernel_rfl) (by kernel_rfl) (fun _ _ _ h => h) (Or.inl ⟨by rfl, ?hy19b20⟩) hH ?r19b20
        case hy19b20 => (intro W hSw; (try dsimp only at hSw); go_simp; try (with_reducible rfl))
        try simp only [Act.put, List.setIfInBounds_toArray, List.set_cons_zero, List.set_cons_succ]
        refine wpAnyH_take (i := 20) (oi := { dst := some 33, op := Op.pick (Operand.tmp 27) (Operand.const (Value.bool true)) (Operand.tmp 32), type := 4, pos := "right.go:116", after := #[{ on := 14, ground := Ground.data }, { on := 19, ground := Ground.data }], guard := none }) (v := ?v20b21) rfl (by kernel_rfl) (by kernel_rfl) (by kernel_rfl) (fun _ _ _ h => h) (Or.inl ⟨by rfl, ?hy20b21⟩) hH ?r20b21
        case hy20b21 => (intro W hSw; (try dsimp only at hSw); go_simp; try (with_reducible rfl))
        try simp only [Act.put, List.setIfInBounds_toArray, List.set_cons_zero, List.set_cons_succ]
        refine wpAnyH_done (by kernel_rfl) ?_ _
        refine NoPanic.normal ?_
        go_wp2_with fail
        go_meet
        case rel => exact ⟨rfl, KQ⟩
      case rest =>
        obtain ⟨rfl, k2⟩ := hcut
        rename World => W2
        have hC1 := CB1.out.lt
        have CB2 := hid (CB1.out.kp k2)
        have A2 := hid (bl_kp A1.out k2)
        have KS2 := hid (KS1.out.kpt' k2 hC1)
        have I2 := hid (I0.out.kp k2)
        have CE2 := hid (CEk.out.turn (k2.block _ (Nat.lt_of_lt_of_le hbb KS1.out.size)))
        clear k2 CB1 A1 KS1 I0 CEk
        go_wp2_with fail
        go_ret
        exact Ckd.no E.out CB2.out (by omega) (by omega) (by omega) (Nat.le_refl _) KS2.out
    have n3 : ((d : Int) == 6) = false := by simp; omega
    have n3' : ¬ (d : Int) = 6 := by omega
    have E0 : Hid (chkGroup ere [r] ⟨n, g + 1, d + 1⟩ = o) := by show _ = _; rw [← HO.out, if_neg (by omega)]
    clear h1 n1'
    go_cut [33] (fun v wc => v = .bool false ∧ Kp W1 wc)
    case first =>
      have Q0 : Kp W1 W1.drew := (Kp.refl _).drew
      have MK : Hid (∀ W, Kp W1 W → W.cell? ⟨w.heap.size, 3, none⟩ = some (.int .i64 m) ∧ W.cell? ⟨C, 2, none⟩ = some (.int .i64 ((g : Int) + 1)) ∧ W.cell? ⟨C, 3, none⟩ = some (.int .i64 (d : Int)) ∧ Hid (Kp W1 W)) := fun W k => ⟨bl_cell (bl_kp A1.out k) 3 _ rfl, (CB1.out.kp k).cells.2.2.1, (CB1.out.kp k).cells.2.2.2, k⟩
      refine wp_region_noPanic ?_
      refine wp_region_held_drew (S := (fun W => W.cell? ⟨w.heap.size, 3, none⟩ = some (.int .i64 m) ∧ W.cell? ⟨C, 2, none⟩ = some (.int .i64 ((g : Int) + 1)) ∧ W.cell? ⟨C, 3, none⟩ = some (.int .i64 (d : Int)) ∧ Hid (Kp W1 W))) (by kernel_rfl) ?_ (fun hH => ?_)
      · exact MK.out _ Q0
      have KQ := Q0
      refine wpAnyH_take (i := 0) (oi := { dst := some 13, op := Op.fieldAddr 30 (Operand.tmp 3) 3, type := 0, pos := "right.go:116", after := #[], guard := none }) (v := ?v0c1) rfl (by kernel_rfl) (by kernel_rfl) (by kernel_rfl) (fun _ _ _ h => h) (Or.inl ⟨by rfl, ?hy0c1⟩) hH ?r0c1
      case hy0c1 => (intro W hSw; (try dsimp only at hSw); go_simp; try (with_reducible rfl))
      try simp only [Act.put, List.setIfInBounds_toArray, List.set_cons_zero, List.set_cons_succ]
      refine wpAnyH_take (i := 1) (oi := { dst := some 14, op := Op.load 3 (Operand.tmp 13), type := 3, pos := "right.go:116", after := #[{ on := 0, ground := Ground.data }], guard := none }) (v := ?v1c2) rfl (by kernel_rfl) (by kernel_rfl) (by kernel_rfl) (fun _ _ _ h => h) (Or.inl ⟨by rfl, ?hy1c2⟩) hH ?r1c2
      case hy1c2 => (intro W hSw; (try dsimp only at hSw); go_simp; try (with_reducible rfl))
      try simp only [Act.put, List.setIfInBounds_toArray, List.set_cons_zero, List.set_cons_succ]
      refine wpAnyH_take (i := 2) (oi := { dst := some 15, op := Op.move (Operand.tmp 0), type := 64, pos := "right.go:116", after := #[], guard := none }) (v := ?v2c3) rfl (by kernel_rfl) (by kernel_rfl) (by kernel_rfl) (fun _ _ _ h => h) (Or.inl ⟨by rfl, ?hy2c3⟩) hH ?r2c3
      case hy2c3 => (intro W hSw; (try dsimp only at hSw); go_simp; try (with_reducible rfl))
      try simp only [Act.put, List.setIfInBounds_toArray, List.set_cons_zero, List.set_cons_succ]
      refine wpAnyH_take (i := 3) (oi := { dst := some 16, op := Op.nilCheck (Operand.tmp 15), type := 0, pos := "right.go:116", after := #[{ on := 2, ground := Ground.data }], guard := none }) (v := ?v3c4) rfl (by kernel_rfl) (by kernel_rfl) (by kernel_rfl) (fun _ _ _ h => h) (Or.inl ⟨by rfl, ?hy3c4⟩) hH ?r3c4
      case hy3c4 => (intro W hSw; (try dsimp only at hSw); go_simp; try (with_reducible rfl))
      try simp only [Act.put, List.setIfInBounds_toArray, List.set_cons_zero, List.set_cons_succ]
      refine wpAnyH_take (i := 4) (oi := { dst := some 17, op := Op.fieldAddr 53 (Operand.tmp 16) 2, type := 0, pos := "right.go:116", after := #[{ on := 3, ground := Ground.data }], guard := none }) (v := ?v4c5) rfl (by kernel_rfl) (by kernel_rfl) (by kernel_rfl) (fun _ _ _ h => h) (Or.inl ⟨by rfl, ?hy4c5⟩) hH ?r4c5
      case hy4c5 => (intro W hSw; (try dsimp only at hSw); go_simp; try (with_reducible rfl))
      try simp only [Act.put, List.setIfInBounds_toArray, List.set_cons_zero, List.set_cons_succ]
      refine wpAnyH_take (i := 5) (oi := { dst := some 18, op := Op.load 3 (Operand.tmp 17), type := 3, pos := "right.go:116", after := #[{ on := 4, ground := Ground.data }], guard := none }) (v := ?v5c6) rfl (by kernel_rfl) (by kernel_rfl) (by kernel_rfl) (fun _ _ _ h => h) (Or.inl ⟨by rfl, ?hy5c6⟩) hH ?r5c6
      case hy5c6 => (intro W hSw; (try dsimp only at hSw); go_simp; try (with_reducible rfl))
      try simp only [Act.put, List.setIfInBounds_toArray, List.set_cons_zero, List.set_cons_succ]
      refine wpAnyH_take (i := 6) (oi := { dst := some 19, op := Op.binOp BinOp.neq 3 (Operand.tmp 14) (Operand.tmp 18) 3, type := 4, pos := "right.go:116", after := #[{ on := 1, ground := Ground.data }, { on := 5, ground := Ground.data }], guard := none }) (v := ?v6c7) rfl (by kernel_rfl) (by kernel_rfl) (by kernel_rfl) (fun _ _ _ h => h) (Or.inl ⟨by rfl, ?hy6c7⟩) hH ?r6c7
      case hy6c7 => (intro W hSw; (try dsimp only at hSw); go_simp; try (with_reducible rfl))
      try simp only [Act.put, List.setIfInBounds_toArray, List.set_cons_zero, List.set_cons_succ]
      refine wpAnyH_take (i := 7) (oi := { dst := some 20, op := Op.move (Operand.tmp 19), type := 4, pos := "right.go:116", after := #[{ on := 6, ground := Ground.data }], guard := none }) (v := ?v7c8) rfl (by kernel_rfl) (by kernel_rfl) (by kernel_rfl) (fun _ _ _ h => h) (Or.inl ⟨by rfl, ?hy7c8⟩) hH ?r7c8
      case hy7c8 => (intro W hSw; (try dsimp only at hSw); go_simp; try (with_reducible rfl))
      try simp only [Act.put, List.setIfInBounds_toArray, List.set_cons_zero, List.set_cons_succ]
      refine wpAnyH_take (i := 8) (oi := { dst := some 21, op := Op.move (Operand.tmp 0), type := 64, pos := "right.go:116", after := #[{ on := 7, ground := Ground.guard }], guard := some (7, false) }) (v := ?v8c9) rfl (by kernel_rfl) (by kernel_rfl) (by kernel_rfl) (fun _ _ _ h => h) (Or.inl ⟨by rfl, ?hy8c9⟩) hH ?r8c9
      case hy8c9 => (intro W hSw; (try dsimp only at hSw); go_simp; try (with_reducible rfl))
      try simp only [Act.put, List.setIfInBounds_toArray, List.set_cons_zero, List.set_cons_succ]
      refine wpAnyH_take (i := 9) (oi := { dst := some 22, op := Op.nilCheck (Operand.tmp 21), type := 0, pos := "right.go:116", after := #[{ on := 8, ground := Ground.data }, { on := 7, ground := Ground.guard }], guard := some (7, false) }) (v := ?v9c10) rfl (by kernel_rfl) (by kernel_rfl) (by kernel_rfl) (fun _ _ _ h => h) (Or.inl ⟨by rfl, ?hy9c10⟩) hH ?r9c10
      case hy9c10 => (intro W hSw; (try dsimp only at hSw); go_simp; try (with_reducible rfl))
      try simp only [Act.put, List.setIfInBounds_toArray, List.set_cons_zero, List.set_cons_succ]
      refine wpAnyH_take (i := 10) (oi := { dst := some 23, op := Op.fieldAddr 53 (Operand.tmp 22) 2, type := 0, pos := "right.go:116", after := #[{ on := 9, ground := Ground.data }, { on := 7, ground := Ground.guard }], guard := some (7, false) }) (v := ?v10c11) rfl (by kernel_rfl) (by kernel_rfl) (by kernel_rfl) (fun _ _ _ h => h) (Or.inl ⟨by rfl, ?hy10c11⟩) hH ?r10c11
      case hy10c11 => (intro W hSw; (try dsimp only at hSw); go_simp; try (with_reducible rfl))
      try simp only [Act.put, List.setIfInBounds_toArray, List.set_cons_zero, List.set_cons_succ]
      refine wpAnyH_take (i := 11) (oi := { dst := some 24, op := Op.load 3 (Operand.tmp 23), type := 3, pos := "right.go:116", after := #[{ on := 10, ground := Ground.data }, { on := 7, ground := Ground.guard }], guard := some (7, false) }) (v := ?v11c12) rfl (by kernel_rfl) (by kernel_rfl) (by kernel_rfl) (fun _ _ _ h => h) (Or.inl ⟨by rfl, ?hy11c12⟩) hH ?r11c12
      case hy11c12 => (intro W hSw; (try dsimp only at hSw); go_simp; try (with_reducible rfl))
      try simp only [Act.put, List.setIfInBounds_toArray, List.set_cons_zero, List.set_cons_succ]
      refine wpAnyH_take (i := 12) (oi := { dst := some 25, op := Op.binOp BinOp.gtr 3 (Operand.tmp 24) (Operand.const (Value.int IntKind.i64 3)) 3, type := 4, pos := "right.go:116", after := #[{ on := 11, ground := Ground.data }, { on := 7, ground := Ground.guard }], guard := some (7, false) }) (v := ?v12c13) rfl (by kernel_rfl) (by kernel_rfl) (by kernel_rfl) (fun _ _ _ h => h) (Or.inl ⟨by rfl, ?hy12c13⟩) hH ?r12c13
      case hy12c13 => (intro W hSw; (try dsimp only at hSw); go_simp; try (with_reducible rfl))
      try simp only [Act.put, List.setIfInBounds_toArray, List.set_cons_zero, List.set_cons_succ]
      refine wpAnyH_take (i := 13) (oi := { dst := some 26, op := Op.pick (Operand.tmp 20) (Operand.const (Value.bool true)) (Operand.tmp 25), type := 4, pos := "right.go:116", after := #[{ on := 7, ground := Ground.data }, { on := 12, ground := Ground.data }], guard := none }) (v := ?v13c14) rfl (by kernel_rfl) (by kernel_rfl) (by kernel_rfl) (fun _ _ _ h => h) (Or.inl ⟨by rfl, ?hy13c14⟩) hH ?r13c14
      case hy13c14 => (intro W hSw; (try dsimp only at hSw); go_simp; try (with_reducible rfl))
      try simp only [Act.put, List.setIfInBounds_toArray, List.set_cons_zero, List.set_cons_succ]
      refine wpAnyH_take (i := 14) (oi := { dst := some 27, op := Op.move (Operand.tmp 26), type := 4, pos := "right.go:116", after := #[{ on := 13, ground := Ground.data }, { on := 7, ground := Ground.chain }], guard := none }) (v := ?v14c15) rfl (by kernel_rfl) (by kernel_rfl) (by kernel_rfl) (fun _ _ _ h => h) (Or.inl ⟨by rfl, ?hy14c15⟩) hH ?r14c15
      case hy14c15 => (intro W hSw; (try dsimp only at hSw); go_simp; try (with_reducible rfl))
      try simp only [Act.put, List.setIfInBounds_toArray, List.set_cons_zero, List.set_cons_succ]
      refine wpAnyH_take (i := 15) (oi := { dst := some 28, op := Op.move (Operand.tmp 0), type := 64, pos := "right.go:116", after := #[{ on := 14, ground := Ground.guard }], guard := some (14, false) }) (v := ?v15c16) rfl (by kernel_rfl) (by kernel_rfl) (by kernel_rfl) (fun _ _ _ h => h) (Or.inl ⟨by rfl, ?hy15c16⟩) hH ?r15c16
      case hy15c16 => (intro W hSw; (try dsimp only at hSw); go_simp; try (with_reducible rfl))
      try simp only [Act.put, List.setIfInBounds_toArray, List.set_cons_zero, List.set_cons_succ]
      refine wpAnyH_take (i := 16) (oi := { dst := some 29, op := Op.nilCheck (Operand.tmp 28), type := 0, pos := "right.go:116", after := #[{ on := 15, ground := Ground.data }, { on := 14, ground := Ground.guard }], guard := some (14, false) }) (v := ?v16c17) rfl (by kernel_rfl) (by kernel_rfl) (by kernel_rfl) (fun _ _ _ h => h) (Or.inl ⟨by rfl, ?hy16c17⟩) hH ?r16c17
      case hy16c17 => (intro W hSw; (try dsimp only at hSw); go_simp; try (with_reducible rfl))
      try simp only [Act.put, List.setIfInBounds_toArray, List.set_cons_zero, List.set_cons_succ]
      refine wpAnyH_take (i := 17) (oi := { dst := some 30, op := Op.fieldAddr 53 (Operand.tmp 29) 3, type := 0, pos := "right.go:116", after := #[{ on := 16, ground := Ground.data }, { on := 14, ground := Ground.guard }], guard := some (14, false) }) (v := ?v17c18) rfl (by kernel_rfl) (by kernel_rfl) (by kernel_rfl) (fun _ _ _ h => h) (Or.inl ⟨by rfl, ?hy17c18⟩) hH ?r17c18
      case hy17c18 => (intro W hSw; (try dsimp only at hSw); go_simp; try (with_reducible rfl))
      try simp only [Act.put, List.setIfInBounds_toArray, List.set_cons_zero, List.set_cons_succ]
      refine wpAnyH_take (i := 18) (oi := { dst := some 31, op := Op.load 3 (Operand.tmp 30), type := 3, pos := "right.go:116", after := #[{ on := 17, ground := Ground.data }, { on := 14, ground := Ground.guard }], guard := some (14, false) }) (v := ?v18c19) rfl (by kernel_rfl) (by kernel_rfl) (by kernel_rfl) (fun _ _ _ h => h) (Or.inl ⟨by rfl, ?hy18c19⟩) hH ?r18c19
      case hy18c19 => (intro W hSw; (try dsimp only at hSw); go_simp; try (with_reducible rfl))
      try simp only [Act.put, List.setIfInBounds_toArray, List.set_cons_zero, List.set_cons_succ]
      refine wpAnyH_take (i := 19) (oi := { dst := some 32, op := Op.binOp BinOp.eql 3 (Operand.tmp 31) (Operand.const (Value.int IntKind.i64 6)) 3, type := 4, pos := "right.go:116", after := #[{ on := 18, ground := Ground.data }, { on := 14, ground := Ground.guard }], guard := some (14, false) }) (v := ?v19c20) rfl (by kernel_rfl) (by kernel_rfl) (by kernel_rfl) (fun _ _ _ h => h) (Or.inl ⟨by rfl, ?hy19c20⟩) hH ?r19c20
      case hy19c20 => (intro W hSw; (try dsimp only at hSw); go_simp; try (with_reducible rfl))
      try simp only [Act.put, List.setIfInBounds_toArray, List.set_cons_zero, List.set_cons_succ]
      refine wpAnyH_take (i := 20) (oi := { dst := some 33, op := Op.pick (Operand.tmp 27) (Operand.const (Value.bool true)) (Operand.tmp 32), type := 4, pos := "right.go:116", after := #[{ on := 14, ground := Ground.data }, { on := 19, ground := Ground.data }], guard := none }) (v := ?v20c21) rfl (by kernel_rfl) (by kernel_rfl) (by kernel_rfl) (fun _ _ _ h => h) (Or.inl ⟨by rfl, ?hy20c21⟩) hH ?r20c21
      case hy20c21 => (intro W hSw; (try dsimp only at hSw); go_simp; try (with_reducible rfl))
      try simp only [Act.put, List.setIfInBounds_toArray, List.set_cons_zero, List.set_cons_succ]
      refine wpAnyH_done (by kernel_rfl) ?_ _
      refine NoPanic.normal ?_
      go_wp2_with fail
      go_meet
      case rel => exact ⟨rfl, KQ⟩
    case rest =>
      obtain ⟨rfl, k2⟩ := hcut
      rename World => W2
      have hC1 := CB1.out.lt
      have CB2 := hid (CB1.out.kp k2)
      have A2 := hid (bl_kp A1.out k2)
      have KS2 := hid (KS1.out.kpt' k2 hC1)
      have I2 := hid (I0.out.kp k2)
      have CE2 := hid (CEk.out.turn (k2.block _ (Nat.lt_of_lt_of_le hbb KS1.out.size)))
      clear k2 CB1 A1 KS1 I0 CEk
      have c3 := CB2.out.cells.2.2.2
      have f3 := bl_frozen CB2.out 3
      have hC2 := CB2.out.lt
      go_upto_region 5 with fail
      clear c3 f3
      refine opq (fun W3 => W3.heap[w.heap.size]? = some (rxo k mn mx m t (.slice (some ⟨bb, oo, none⟩) 1 c)) ∧ Cb W3 C ere n (g + 1) (d + 1) ∧ Ks C w W3 ∧ Is W3 ok r (rxv kk mn' mx' mm' tt' (.slice ad' ll' cc')) ∧ CellsAt W3 bb oo (rxv kk mn' mx' mm' tt' (.slice ad' ll' cc'))) ⟨by exact bl_set A2.out (by omega) _, by exact CB2.out.deep (d + 1), by exact KS2.out.set 3 _, by exact I2.out.ks ((Ks.refl _ _).set 3 _) (fun x hx _ => HOK.out x hx), by exact CE2.out.turn (((Ks.refl C W2).set 3 _).block _ (Nat.lt_of_lt_of_le hbb KS2.out.size) hbC.out)⟩ ?_
      rintro W3 ⟨xA3, xCB3, xKS3, xI3, xCE3⟩
      have A3 : Hid (W3.heap[w.heap.size]? = some (rxo k mn mx m t (.slice (some ⟨bb, oo, none⟩) 1 c))) := xA3
      have CB3 : Hid (Cb W3 C ere n (g + 1) (d + 1)) := xCB3
      have KS3 : Hid (Ks C w W3) := xKS3
      have I3 : Hid (Is W3 ok r (rxv kk mn' mx' mm' tt' (.slice ad' ll' cc'))) := xI3
      have CE3 : Hid (CellsAt W3 bb oo (rxv kk mn' mx' mm' tt' (.slice ad' ll' cc'))) := xCE3
      clear xA3 xCB3 xKS3 xI3 xCE3
      clear A2 CB2 KS2 I2 CE2
      have a0 := bl_cell (A3.out) 0 _ rfl
      have a1 := bl_cell (A3.out) 1 _ rfl
      have a2 := bl_cell (A3.out) 2 _ rfl
      have a3 := bl_cell (A3.out) 3 _ rfl
      have a4 := bl_cell (A3.out) 4 _ rfl
      have a5 := bl_cell (A3.out) 5 _ rfl
      have a6 := bl_cell (A3.out) 6 _ rfl
      have a7 := bl_cell (A3.out) 7 _ rfl
      have a8 := bl_cell (A3.out) 8 _ rfl
      obtain ⟨x0, x1, x2, x3, x4, x5, x6, x7, x8⟩ := cells_of_is CE3.out
      go_wp2_with fail
      clear x0 x1 x2 x3 x4 x5 x6 x7 x8 a0 a1 a2 a3 a4 a5 a6 a7 a8
      refine (HH.out.all C ok _ true true n (g + 1) (d + 1) _ I3.out HOK.out CB3.out hn (by omega) (by omega)).mono ?_
      intro e W4 hcd
      rcases hcd.form with ⟨⟨c2, g2, d2⟩, ho2, rfl, hcb2, hks2⟩ | ⟨ho2, rfl, ⟨n2, g2', d2, hcb2, b1, b2, b3, b4⟩, hks2⟩
      · have hck := chk_ok ere r true true ⟨n, g + 1, d + 1⟩ ⟨c2, g2, d2⟩ hn (by show g + 1 ≤ n; omega) ho2
        have b1 : c2 ≤ 40 := hck.1.n
        have b2 : g2 ≤ c2 := hck.1.g
        have b3 : d2 = d + 1 := hck.1.d
        subst b3
        have E : Hid (o = some ⟨c2, g2, d⟩) := by show _ = _; rw [← E0.out, chkGroup, ho2]; rfl
        have CB4 : Hid (Cb W4 C ere c2 g2 (d + 1)) := hcb2
        have KS4 := hid (KS3.out.trans hks2)
        have gd1 : IntKind.i64.wrap ((d : Int) + 1 - 1) = (d : Int) := by rw [IntKind.wrap_i64]; omega
        have gd2 : IntKind.i64.wrap (d : Int) = (d : Int) := by rw [IntKind.wrap_i64]; omega
        clear hcd ho2 hcb2 hks2 hck
        have c3 := CB4.out.cells.2.2.2
        have f3 := bl_frozen CB4.out 3
        go_wp2_with fail
        go_ret
        exact Ckd.yes E.out (CB4.out.deep d) (by omega) (by omega) (by omega) (Nat.le_refl _) (KS4.out.set 3 _)
      · have E : Hid (o = none) := by show _ = _; rw [← E0.out, chkGroup, ho2]
        have CB4 : Hid (Cb W4 C ere n2 g2' d2) := hcb2
        have KS4 := hid (KS3.out.trans hks2)
        obtain ⟨d3, rfl⟩ : ∃ d3, d2 = d3 + 1 := ⟨d2 - 1, by omega⟩
        have gd1 : IntKind.i64.wrap ((d3 : Int) + 1 - 1) = (d3 : Int) := by rw [IntKind.wrap_i64]; omega
        have gd2 : IntKind.i64.wrap (d3 : Int) = (d3 : Int) := by rw [IntKind.wrap_i64]; omega
        clear hcd ho2 hcb2 hks2
        have c3 := CB4.out.cells.2.2.2
        have f3 := bl_frozen CB4.out 3
        go_wp2_with fail
        go_ret
        exact Ckd.no E.out (CB4.out.deep d3) b1 b2 (by omega) (by omega) (KS4.out.set 3 _)
  · have n1 : (m != (g : Int) + 1) = true := by simp; omega
    have E : Hid (o = none) := by show _ = _; rw [← HO.out, if_pos (Or.inl h1)]
    go_cut [33] (fun v wc => v = .bool true ∧ Kp W1 wc)
    case first =>
      have Q0 : Kp W1 W1.drew := (Kp.refl _).drew
      have MK : Hid (∀ W, Kp W1 W → W.cell? ⟨w.heap.size, 3, none⟩ = some (.int .i64 m) ∧ W.cell? ⟨C, 2, none⟩ = some (.int .i64 ((g : Int) + 1)) ∧ W.cell? ⟨C, 3, none⟩ = some (.int .i64 (d : Int)) ∧ Hid (Kp W1 W)) := fun W k => ⟨bl_cell (bl_kp A1.out k) 3 _ rfl, (CB1.out.kp k).cells.2.2.1, (CB1.out.kp k).cells.2.2.2, k⟩
      refine wp_region_noPanic ?_
      refine wp_region_held_drew (S := (fun W => W.cell? ⟨w.heap.size, 3, none⟩ = some (.int .i64 m) ∧ W.cell? ⟨C, 2, none⟩ = some (.int .i64 ((g : Int) + 1)) ∧ W.cell? ⟨C, 3, none⟩ = some (.int .i64 (d : Int)) ∧ Hid (Kp W1 W))) (by kernel_rfl) ?_ (fun hH => ?_)
      · exact MK.out _ Q0
      have KQ := Q0
      refine wpAnyH_take (i := 0) (oi := { dst := some 13, op := Op.fieldAddr 30 (Operand.tmp 3) 3, type := 0, pos := "right.go:116", after := #[], guard := none }) (v := ?v0d1) rfl (by kernel_rfl) (by kernel_rfl) (by kernel_rfl) (fun _ _ _ h => h) (Or.inl ⟨by rfl, ?hy0d1⟩) hH ?r0d1
      case hy0d1 => (intro W hSw; (try dsimp only at hSw); go_simp; try (with_reducible rfl))
      try simp only [Act.put, List.setIfInBounds_toArray, List.set_cons_zero, List.set_cons_succ]
      refine wpAnyH_take (i := 1) (oi := { dst := some 14, op := Op.load 3 (Operand.tmp 13), type := 3, pos := "right.go:116", after := #[{ on := 0, ground := Ground.data }], guard := none }) (v := ?v1d2) rfl (by kernel_rfl) (by kernel_rfl) (by kernel_rfl) (fun _ _ _ h => h) (Or.inl ⟨by rfl, ?hy1d2⟩) hH ?r1d2
      case hy1d2 => (intro W hSw; (try dsimp only at hSw); go_simp; try (with_reducible rfl))
      try simp only [Act.put, List.setIfInBounds_toArray, List.set_cons_zero, List.set_cons_succ]
      refine wpAnyH_take (i := 2) (oi := { dst := some 15, op := Op.move (Operand.tmp 0), type := 64, pos := "right.go:116", after := #[], guard := none }) (v := ?v2d3) rfl (by kernel_rfl) (by kernel_rfl) (by kernel_rfl) (fun _ _ _ h => h) (Or.inl ⟨by rfl, ?hy2d3⟩) hH ?r2d3
      case hy2d3 => (intro W hSw; (try dsimp only at hSw); go_simp; try (with_reducible rfl))
      try simp only [Act.put, List.setIfInBounds_toArray, List.set_cons_zero, List.set_cons_succ]
      refine wpAnyH_take (i := 3) (oi := { dst := some 16, op := Op.nilCheck (Operand.tmp 15), type := 0, pos := "right.go:116", after := #[{ on := 2, ground := Ground.data }], guard := none }) (v := ?v3d4) rfl (by kernel_rfl) (by kernel_rfl) (by kernel_rfl) (fun _ _ _ h => h) (Or.inl ⟨by rfl, ?hy3d4⟩) hH ?r3d4
      case hy3d4 => (intro W hSw; (try dsimp only at hSw); go_simp; try (with_reducible rfl))
      try simp only [Act.put, List.setIfInBounds_toArray, List.set_cons_zero, List.set_cons_succ]
      refine wpAnyH_take (i := 4) (oi := { dst := some 17, op := Op.fieldAddr 53 (Operand.tmp 16) 2, type := 0, pos := "right.go:116", after := #[{ on := 3, ground := Ground.data }], guard := none }) (v := ?v4d5) rfl (by kernel_rfl) (by kernel_rfl) (by kernel_rfl) (fun _ _ _ h => h) (Or.inl ⟨by rfl, ?hy4d5⟩) hH ?r4d5
      case hy4d5 => (intro W hSw; (try dsimp only at hSw); go_simp; try (with_reducible rfl))
      try simp only [Act.put, List.setIfInBounds_toArray, List.set_cons_zero, List.set_cons_succ]
      refine wpAnyH_take (i := 5) (oi := { dst := some 18, op := Op.load 3 (Operand.tmp 17), type := 3, pos := "right.go:116", after := #[{ on := 4, ground := Ground.data }], guard := none }) (v := ?v5d6) rfl (by kernel_rfl) (by kernel_rfl) (by kernel_rfl) (fun _ _ _ h => h) (Or.inl ⟨by rfl, ?hy5d6⟩) hH ?r5d6
      case hy5d6 => (intro W hSw; (try dsimp only at hSw); go_simp; try (with_reducible rfl))
      try simp only [Act.put, List.setIfInBounds_toArray, List.set_cons_zero, List.set_cons_succ]
      refine wpAnyH_take (i := 6) (oi := { dst := some 19, op := Op.binOp BinOp.neq 3 (Operand.tmp 14) (Operand.tmp 18) 3, type := 4, pos := "right.go:116", after := #[{ on := 1, ground := Ground.data }, { on := 5, ground := Ground.data }], guard := none }) (v := ?v6d7) rfl (by kernel_rfl) (by kernel_rfl) (by kernel_rfl) (fun _ _ _ h => h) (Or.inl ⟨by rfl, ?hy6d7⟩) hH ?r6d7
      case hy6d7 => (intro W hSw; (try dsimp only at hSw); go_simp; try (with_reducible rfl))
      try simp only [Act.put, List.setIfInBounds_toArray, List.set_cons_zero, List.set_cons_succ]
      refine wpAnyH_take (i := 7) (oi := { dst := some 20, op := Op.move (Operand.tmp 19), type := 4, pos := "right.go:116", after := #[{ on := 6, ground := Ground.data }], guard := none }) (v := ?v7d8) rfl (by kernel_rfl) (by kernel_rfl) (by kernel_rfl) (fun _ _ _ h => h) (Or.inl ⟨by rfl, ?hy7d8⟩) hH ?r7d8
      case hy7d8 => (intro W hSw; (try dsimp only at hSw); go_simp; try (with_reducible rfl))
      try simp only [Act.put, List.setIfInBounds_toArray, List.set_cons_zero, List.set_cons_succ]
      refine wpAnyH_take (i := 8) (oi := { dst := some 21, op := Op.move (Operand.tmp 0), type := 64, pos := "right.go:116", after := #[{ on := 7, ground := Ground.guard }], guard := some (7, false) }) (v := undef) rfl (by kernel_rfl) (by kernel_rfl) (by kernel_rfl) (fun _ _ _ h => h) (Or.inr ⟨by rfl, rfl⟩) hH ?r8d9
      try simp only [Act.put, List.setIfInBounds_toArray, List.set_cons_zero, List.set_cons_succ]
      refine wpAnyH_take (i := 9) (oi := { dst := some 22, op := Op.nilCheck (Operand.tmp 21), type := 0, pos := "right.go:116", after := #[{ on := 8, ground := Ground.data }, { on := 7, ground := Ground.guard }], guard := some (7, false) }) (v := undef) rfl (by kernel_rfl) (by kernel_rfl) (by kernel_rfl) (fun _ _ _ h => h) (Or.inr ⟨by rfl, rfl⟩) hH ?r9d10
      try simp only [Act.put, List.setIfInBounds_toArray, List.set_cons_zero, List.set_cons_succ]
      refine wpAnyH_take (i := 10) (oi := { dst := some 23, op := Op.fieldAddr 53 (Operand.tmp 22) 2, type := 0, pos := "right.go:116", after := #[{ on := 9, ground := Ground.data }, { on := 7, ground := Ground.guard }], guard := some (7, false) }) (v := undef) rfl (by kernel_rfl) (by kernel_rfl) (by kernel_rfl) (fun _ _ _ h => h) (Or.inr ⟨by rfl, rfl⟩) hH ?r10d11
      try simp only [Act.put, List.setIfInBounds_toArray, List.set_cons_zero, List.set_cons_succ]
      refine wpAnyH_take (i := 11) (oi := { dst := some 24, op := Op.load 3 (Operand.tmp 23), type := 3, pos := "right.go:116", after := #[{ on := 10, ground := Ground.data }, { on := 7, ground := Ground.guard }], guard := some (7, false) }) (v := undef) rfl (by kernel_rfl) (by kernel_rfl) (by kernel_rfl) (fun _ _ _ h => h) (Or.inr ⟨by rfl, rfl⟩) hH ?r11d12
      try simp only [Act.put, List.setIfInBounds_toArray, List.set_cons_zero, List.set_cons_succ]
      refine wpAnyH_take (i := 12) (oi := { dst := some 25, op := Op.binOp BinOp.gtr 3 (Operand.tmp 24) (Operand.const (Value.int IntKind.i64 3)) 3, type := 4, pos := "right.go:116", after := #[{ on := 11, ground := Ground.data }, { on := 7, ground := Ground.guard }], guard := some (7, false) }) (v := undef) rfl (by kernel_rfl) (by kernel_rfl) (by kernel_rfl) (fun _ _ _ h => h) (Or.inr ⟨by rfl, rfl⟩) hH ?r12d13
      try simp only [Act.put, List.setIfInBounds_toArray, List.set_cons_zero, List.set_cons_succ]
      refine wpAnyH_take (i := 13) (oi := { dst := some 26, op := Op.pick (Operand.tmp 20) (Operand.const (Value.bool true)) (Operand.tmp 25), type := 4, pos := "right.go:116", after := #[{ on := 7, ground := Ground.data }, { on := 12, ground := Ground.data }], guard := none }) (v := ?v13d14) rfl (by kernel_rfl) (by kernel_rfl) (by kernel_rfl) (fun _ _ _ h => h) (Or.inl ⟨by rfl, ?hy13d14⟩) hH ?r13d14
      case hy13d14 => (intro W hSw; (try dsimp only at hSw); go_simp; try (with_reducible rfl))
      try simp only [Act.put, List.setIfInBounds_toArray, List.set_cons_zero, List.set_cons_succ]
      refine wpAnyH_take (i := 14) (oi := { dst := some 27, op := Op.move (Operand.tmp 26), type := 4, pos := "right.go:116", after := #[{ on := 13, ground := Ground.data }, { on := 7, ground := Ground.chain }], guard := none }) (v := ?v14d15) rfl (by kernel_rfl) (by kernel_rfl) (by kernel_rfl) (fun _ _ _ h => h) (Or.inl ⟨by rfl, ?hy14d15⟩) hH ?r14d15
      case hy14d15 => (intro W hSw; (try dsimp only at hSw); go_simp; try (with_reducible rfl))
      try simp only [Act.put, List.setIfInBounds_toArray, List.set_cons_zero, List.set_cons_succ]
      refine wpAnyH_take (i := 15) (oi := { dst := some 28, op := Op.move (Operand.tmp 0), type := 64, pos := "right.go:116", after := #[{ on := 14, ground := Ground.guard }], guard := some (14, false) }) (v := undef) rfl (by kernel_rfl) (by kernel_rfl) (by kernel_rfl) (fun _ _ _ h => h) (Or.inr ⟨by rfl, rfl⟩) hH ?r15d16
      try simp only [Act.put, List.setIfInBounds_toArray, List.set_cons_zero, List.set_cons_succ]
      refine wpAnyH_take (i := 16) (oi := { dst := some 29, op := Op.nilCheck (Operand.tmp 28), type := 0, pos := "right.go:116", after := #[{ on := 15, ground := Ground.data }, { on := 14, ground := Ground.guard }], guard := some (14, false) }) (v := undef) rfl (by kernel_rfl) (by kernel_rfl) (by kernel_rfl) (fun _ _ _ h => h) (Or.inr ⟨by rfl, rfl⟩) hH ?r16d17
      try simp only [Act.put, List.setIfInBounds_toArray, List.set_cons_zero, List.set_cons_succ]
      refine wpAnyH_take (i := 17) (oi := { dst := some 30, op := Op.fieldAddr 53 (Operand.tmp 29) 3, type := 0, pos := "right.go:116", after := #[{ on := 16, ground := Ground.data }, { on := 14, ground := Ground.guard }], guard := some (14, false) }) (v := undef) rfl (by kernel_rfl) (by kernel_rfl) (by kernel_rfl) (fun _ _ _ h => h) (Or.inr ⟨by rfl, rfl⟩) hH ?r17d18
      try simp only [Act.put, List.setIfInBounds_toArray, List.set_cons_zero, List.set_cons_succ]
      refine wpAnyH_take (i := 18) (oi := { dst := some 31, op := Op.load 3 (Operand.tmp 30), type := 3, pos := "right.go:116", after := #[{ on := 17, ground := Ground.data }, { on := 14, ground := Ground.guard }], guard := some (14, false) }) (v := undef) rfl (by kernel_rfl) (by kernel_rfl) (by kernel_rfl) (fun _ _ _ h => h) (Or.inr ⟨by rfl, rfl⟩) hH ?r18d19
      try simp only [Act.put, List.setIfInBounds_toArray, List.set_cons_zero, List.set_cons_succ]
      refine wpAnyH_take (i := 19) (oi := { dst := some 32, op := Op.binOp BinOp.eql 3 (Operand.tmp 31) (Operand.const (Value.int IntKind.i64 6)) 3, type := 4, pos := "right.go:116", after := #[{ on := 18, ground := Ground.data }, { on := 14, ground := Ground.guard }], guard := some (14, false) }) (v := undef) rfl (by kernel_rfl) (by kernel_rfl) (by kernel_rfl) (fun _ _ _ h => h) (Or.inr ⟨by rfl, rfl⟩) hH ?r19d20
      try simp only [Act.put, List.setIfInBounds_toArray, List.set_cons_zero, List.set_cons_succ]
      refine wpAnyH_take (i := 20) (oi := { dst := some 33, op := Op.pick (Operand.tmp 27) (Operand.const (Value.bool true)) (Operand.tmp 32), type := 4, pos := "right.go:116", after := #[{ on := 14, ground := Ground.data }, { on := 19, ground := Ground.data }], guard := none }) (v := ?v20d21) rfl (by kernel_rfl) (by kernel_rfl) (by kernel_rfl) (fun _ _ _ h => h) (Or.inl ⟨by rfl, ?hy20d21⟩) hH ?r20d21
      case hy20d21 => (intro W hSw; (try dsimp only at hSw); go_simp; try (with_reducible rfl))
      try simp only [Act.put, List.setIfInBounds_toArray, List.set_cons_zero, List.set_cons_succ]
      refine wpAnyH_done (by kernel_rfl) ?_ _
      refine NoPanic.normal ?_
      go_wp2_with fail
      go_meet
      case rel => exact ⟨rfl, KQ⟩
    case rest =>
      obtain ⟨rfl, k2⟩ := hcut
      rename World => W2
      have hC1 := CB1.out.lt
      have CB2 := hid (CB1.out.kp k2)
      have A2 := hid (bl_kp A1.out k2)
      have KS2 := hid (KS1.out.kpt' k2 hC1)
      have I2 := hid (I0.out.kp k2)
      have CE2 := hid (CEk.out.turn (k2.block _ (Nat.lt_of_lt_of_le hbb KS1.out.size)))
      clear k2 CB1 A1 KS1 I0 CEk
      go_wp2_with fail
      go_ret
      exact Ckd.no E.out CB2.out (by omega) (by omega) (by omega) (Nat.le_refl _) KS2.out
end Go.Proofs.YtikmgckefbjbkabGreatDoor

/-! ### Right4 -/

namespace Go.Proofs.YtikmgckefbjbkabGreatDoor
open Go.RowKit

theorem chkAlt_cons (ere : Bool) (r : Rx) (rs : List Rx) (c : Ck) : chkAlt ere (r :: rs) c = if r.k = 3 then none else (chk ere r false false c).bind fun c' => chkAlt ere rs c' := by
  rw [chkAlt]
  split
  · rfl
  · cases chk ere r false false c <;> rfl

/-- One of a choice: is it not as it should be? -/
structure NotD (C : Nat) (ere : Bool) (d0 : Nat) (o : Option Ck) (w : World) (e : Ending) (w' : World) : Prop where
  ex : ∃ b, e = .returned (.bool (!b)) ∧ Ckd C ere d0 o w (.returned (.bool b)) w'
theorem Ckd.from {C : Nat} {ere : Bool} {d0 : Nat} {o : Option Ck} {w w1 w' : World} {e : Ending} (h : Ckd C ere d0 o w1 e w') (k : Ks C w w1) : Ckd C ere d0 o w e w' := by
  obtain ⟨b, h1, h2, h3, h4⟩ := h.ex
  exact ⟨b, h1, h2, h3, k.trans h4⟩

set_option maxHeartbeats 2000000 in
set_option maxRecDepth 100000 in
theorem alt1_any (ere : Bool) (r : Rx) (H : RightSaid ere r) (C V : Nat) (ok : Nat → Prop) (k mn mx m : Int) (t : W4) (ad : Option Addr) (l c : Nat) (n g d : Nat) (w : World) (hI : Is w ok r (rxv k mn mx m t (.slice ad l c))) (hok : ∀ x, ok x → x ≠ C) (hc : Cb w C ere n g d) (hV : w.heap[V]? = some (.cells #[.pointer (some ⟨C, 0, none⟩)] 64)) (hn : n ≤ 40) (hg : g ≤ n) (hd : d ≤ 6) :
    Calls Tryz.prog 46 #[rxv k mn mx m t (.slice ad l c), .pointer (some ⟨V, 0, none⟩)] w fun e w' => NotD C ere d (if k = 3 then none else chk ere r false false ⟨n, g, d⟩) w e w' := by
  have HI := hid hI
  have HOK := hid hok
  have HC := hid hc
  have HV := hid hV
  have hCw := hc.lt
  have HH := hid H
  clear hI hok hc hV H
  go_enter Tryz.func46, Tryz.ntmps46
  go_upto_region 1 with fail
  refine opq (fun W0 => W0.heap[w.heap.size]? = some (rxo k mn mx m t (.slice ad l c)) ∧ Cb W0 C ere n g d ∧ W0.heap[V]? = some (.cells #[.pointer (some ⟨C, 0, none⟩)] 64) ∧ Is W0 ok r (rxv k mn mx m t (.slice ad l c)) ∧ Ks C w W0) ⟨by (first | exact last_at _ _ _ (by simp) | (refine bl_alloc ?_ _; first | exact last_at _ _ _ (by simp) | (refine bl_alloc ?_ _; first | exact last_at _ _ _ (by simp) | (refine bl_alloc ?_ _; exact last_at _ _ _ (by simp))))), by exact HC.out.kp (by repeat (first | exact Kp.refl _ | refine Kp.alloc ?_ _ | refine Kp.drew ?_ | refine Kp.drewN _ ?_)), by exact bl_kp HV.out (by repeat (first | exact Kp.refl _ | refine Kp.alloc ?_ _ | refine Kp.drew ?_ | refine Kp.drewN _ ?_)), by exact HI.out.kp (by repeat (first | exact Kp.refl _ | refine Kp.alloc ?_ _ | refine Kp.drew ?_ | refine Kp.drewN _ ?_)), by exact Kp.ks (by repeat (first | exact Kp.refl _ | refine Kp.alloc ?_ _ | refine Kp.drew ?_ | refine Kp.drewN _ ?_)) (Nat.le_of_lt hCw)⟩ ?_
  rintro W0 ⟨xA0, xCB0, xV0, xI0, xKS0⟩
  have A0 : Hid (W0.heap[w.heap.size]? = some (rxo k mn mx m t (.slice ad l c))) := xA0
  have CB0 : Hid (Cb W0 C ere n g d) := xCB0
  have V0 : Hid (W0.heap[V]? = some (.cells #[.pointer (some ⟨C, 0, none⟩)] 64)) := xV0
  have I0 : Hid (Is W0 ok r (rxv k mn mx m t (.slice ad l c))) := xI0
  have KS0 : Hid (Ks C w W0) := xKS0
  clear xA0 xCB0 xV0 xI0 xKS0
  have a0 := bl_cell (A0.out) 0 _ rfl
  have a1 := bl_cell (A0.out) 1 _ rfl
  have a2 := bl_cell (A0.out) 2 _ rfl
  have a3 := bl_cell (A0.out) 3 _ rfl
  have a4 := bl_cell (A0.out) 4 _ rfl
  have a5 := bl_cell (A0.out) 5 _ rfl
  have a6 := bl_cell (A0.out) 6 _ rfl
  have a7 := bl_cell (A0.out) 7 _ rfl
  have a8 := bl_cell (A0.out) 8 _ rfl
  have v0 := bl_cell V0.out 0 _ rfl
  by_cases h3 : k = 3
  · subst h3
    go_wp2_with fail
    go_ret
    exact ⟨false, rfl, Ckd.no rfl CB0.out (by omega) (by omega) (by omega) (Nat.le_refl _) KS0.out⟩
  have g3 : (k == 3) = false := by simp [h3]
  go_wp2_with fail
  clear a0 a1 a2 a3 a4 a5 a6 a7 a8 v0
  refine (HH.out.all C ok _ false false n g d _ I0.out HOK.out CB0.out hn hg hd).mono ?_
  intro e W2 hcd
  obtain ⟨b, rfl, hb⟩ : ∃ b, e = .returned (.bool b) ∧ True := by
    obtain ⟨b, h1, _⟩ := hcd.ex
    exact ⟨b, h1, trivial⟩
  have CD := hid (hcd.from KS0.out)
  clear hcd hb
  go_wp2_with fail
  go_ret
  exact ⟨b, rfl, CD.out⟩

/-- In the loop of a choice's check. -/
structure Aw (ere : Bool) (C V : Nat) (d0 : Nat) (w : World) (ts : List Rx) (o : Option Ck) (k : Nat) (wr : World) (c : Ck) : Prop where
  cb : Cb wr C ere c.n c.g c.d
  v : wr.heap[V]? = some (.cells #[.pointer (some ⟨C, 0, none⟩)] 64)
  n : c.n ≤ 40
  g : c.g ≤ c.n
  d : c.d = d0
  eq : chkAlt ere (ts.drop k) c = o
  ks : Ks C w wr
/-- Which of them is not right: below nought, if none. -/
structure IdxD (C : Nat) (ere : Bool) (d0 : Nat) (o : Option Ck) (w : World) (e : Ending) (w' : World) : Prop where
  ex : ∃ (i : Int) (b : Bool), e = .returned (.int .i64 i) ∧ decide (0 ≤ i) = !b ∧ Ckd C ere d0 o w (.returned (.bool b)) w'

set_option maxHeartbeats 2000000 in
set_option maxRecDepth 100000 in
theorem indexFunc_any (ere : Bool) (ts : List Rx) (H : ∀ r, r ∈ ts → RightSaid ere r) (C V : Nat) (ok : Nat → Prop) (ad : Option Addr) (l c : Nat) (n g d : Nat) (w : World) (hr : RowAt w ok ts ad l c) (hok : ∀ x, ok x → x ≠ C) (hc : Cb w C ere n g d) (hV : w.heap[V]? = some (.cells #[.pointer (some ⟨C, 0, none⟩)] 64)) (hVC : V ≠ C) (hn : n ≤ 40) (hg : g ≤ n) (hd : d ≤ 6) (hl : ts.length ≤ 1000000) :
    Calls Tryz.prog 62 #[.slice ad l c, .func (.func 46) #[] #[.pointer (some ⟨V, 0, none⟩)]] w fun e w' => IdxD C ere d (chkAlt ere ts ⟨n, g, d⟩) w e w' := by
  have hle := hr.ln
  have hlc := hr.cp
  subst hle
  obtain ⟨L, hL⟩ : ∃ L, ts.length = L := ⟨_, rfl⟩
  rw [hL] at hr hlc hl ⊢
  have HL := hid hL
  have RR := hid hr
  have HC := hid hc
  have HV := hid hV
  have HH := hid H
  have HOK := hid hok
  clear hL hr hc H hok hV
  obtain ⟨o, ho⟩ : ∃ o, chkAlt ere ts ⟨n, g, d⟩ = o := ⟨_, rfl⟩
  rw [ho]
  have HO := hid ho
  clear ho
  go_enter Tryz.func62, Tryz.ntmps62
  go_wp2_with fail
  go_loopg [8] L (fun gg v wr => ∃ (k : Nat) (c : Ck), k + gg = L ∧ v = .int .i64 (k : Int) ∧ Aw ere C V d w ts o k wr c)
  case atStart => exact ⟨0, ⟨n, g, d⟩, by omega, rfl, HC.out, HV.out, hn, hg, rfl, HO.out, Ks.refl _ _⟩
  case round =>
    obtain ⟨k, ⟨n1, g1, d1⟩, hk, rfl, hw⟩ := hrel
    have KW := hid hw
    have hn1 : n1 ≤ 40 := hw.n
    have hg1 : g1 ≤ n1 := hw.g
    have hd1 : d1 = d := hw.d
    subst hd1
    clear hw
    by_cases hlt : k < L
    · have gkw : IntKind.i64.wrap ((k : Int) + 1) = (k : Int) + 1 := by rw [IntKind.wrap_i64]; omega
      have ga : (k : Int) < (L : Int) := by omega
      have g0 : (0 : Int) ≤ (k : Int) := by omega
      obtain ⟨r, hr⟩ : ∃ r, ts[k]? = some r := ⟨_, List.getElem?_eq_getElem (by rw [HL.out]; exact hlt)⟩
      have hdrop : ts.drop k = r :: ts.drop (k + 1) := List.drop_eq_getElem_cons (by rw [HL.out]; exact hlt) ▸ by
        have := (List.getElem?_eq_some_iff.1 hr).2
        rw [this]
      have RW := hid (RR.out.ks KW.out.ks HOK.out)
      obtain ⟨bb, oo, kk, mn, mx, mm, tt, ad', ll, cc, e1, hbb, i1, ce1⟩ := RW.out.at k r hr
      subst e1
      have RS := hid (HH.out r (List.mem_of_getElem? hr))
      have hkk : r.k = kk := i1.kind'
      have I1 := hid i1
      have CE1 := hid ce1
      have E0 : Hid (o = if kk = 3 then none else (chk ere r false false ⟨n1, g1, d1⟩).bind fun c' => chkAlt ere (ts.drop (k + 1)) c') := by
        show _ = _
        rw [← KW.out.eq, hdrop, chkAlt_cons, hkk]
      clear hr i1 ce1 hkk hdrop
      obtain ⟨x0, x1, x2, x3, x4, x5, x6, x7, x8⟩ := cells_of_is CE1.out
      go_wp2_with fail
      clear x0 x1 x2 x3 x4 x5 x6 x7 x8
      refine (alt1_any ere r RS.out C V ok kk mn mx mm tt ad' ll cc n1 g1 d1 _ I1.out HOK.out KW.out.cb KW.out.v hn1 hg1 hd).mono ?_
      intro e W2 hnd
      obtain ⟨b, rfl, hcd⟩ := hnd.ex
      clear hnd
      rcases hcd.form with ⟨c2, ho2, hb, hcb2, hks2⟩ | ⟨ho2, hb, ⟨n2, g2', d2, hcb2, b1, b2, b3, b4⟩, hks2⟩
      · have hb' : b = true := by injection hb with hb; injection hb
        subst hb'
        have h3 : ¬ kk = 3 := by intro h; rw [if_pos h] at ho2; cases ho2
        rw [if_neg h3] at ho2
        have hck := chk_ok ere r false false ⟨n1, g1, d1⟩ c2 hn1 hg1 ho2
        have CB2 := hid hcb2
        have V2 := hid (bl_ks KW.out.v hVC hks2)
        have KS2 := hid (KW.out.ks.trans hks2)
        have E2 : Hid (chkAlt ere (ts.drop (k + 1)) c2 = o) := by show _ = _; rw [E0.out, if_neg h3, ho2]; rfl
        have b1 : c2.n ≤ 40 := hck.1.n
        have b2 : c2.g ≤ c2.n := hck.1.g
        have b3 : c2.d = d1 := hck.1.d
        have B3 := hid b3
        clear b3 hcd hcb2 hks2 ho2 hck hb
        go_wp2_with fail
        go_roundg (gk - 1)
        case measure => omega
        case rel => exact ⟨k + 1, c2, by omega, by go_num, CB2.out, V2.out, b1, b2, B3.out, E2.out, KS2.out⟩
      · have hb' : b = false := by injection hb with hb; injection hb
        subst hb'
        have CB2 := hid hcb2
        have KS2 := hid (KW.out.ks.trans hks2)
        have E : Hid (o = none) := by
          show _ = _
          rw [E0.out]
          by_cases h3 : kk = 3
          · rw [if_pos h3]
          · rw [if_neg h3] at ho2 ⊢; rw [ho2]; rfl
        clear hcd hcb2 hks2 ho2 hb
        go_wp2_with fail
        go_ret
        exact ⟨(k : Int), false, rfl, by simp, Ckd.no E.out CB2.out b1 b2 b3 b4 KS2.out⟩
    · have ga : ¬ (k : Int) < (L : Int) := by omega
      have E : Hid (o = some ⟨n1, g1, d1⟩) := by
        have := KW.out.eq
        rw [List.drop_eq_nil_of_le (by rw [HL.out]; omega)] at this
        unfold chkAlt at this
        exact this.symm
      go_wp2
      go_ret
      exact ⟨-1, true, rfl, by decide, Ckd.yes E.out KW.out.cb (by omega) (by omega) (by omega) (Nat.le_refl _) KW.out.ks⟩

set_option maxHeartbeats 2000000 in
set_option maxRecDepth 100000 in
theorem containsFunc_any (ere : Bool) (ts : List Rx) (H : ∀ r, r ∈ ts → RightSaid ere r) (C V : Nat) (ok : Nat → Prop) (ad : Option Addr) (l c : Nat) (n g d : Nat) (w : World) (hr : RowAt w ok ts ad l c) (hok : ∀ x, ok x → x ≠ C) (hc : Cb w C ere n g d) (hV : w.heap[V]? = some (.cells #[.pointer (some ⟨C, 0, none⟩)] 64)) (hVC : V ≠ C) (hn : n ≤ 40) (hg : g ≤ n) (hd : d ≤ 6) (hl : ts.length ≤ 1000000) :
    Calls Tryz.prog 45 #[.slice ad l c, .func (.func 46) #[] #[.pointer (some ⟨V, 0, none⟩)]] w fun e w' => NotD C ere d (chkAlt ere ts ⟨n, g, d⟩) w e w' := by
  have IX := hid (indexFunc_any ere ts H C V ok ad l c n g d w hr hok hc hV hVC hn hg hd hl)
  clear hr hok hc hV H
  go_enter Tryz.func45, Tryz.ntmps45
  go_wp2_with fail
  refine IX.out.mono ?_
  intro e W1 hx
  obtain ⟨i, b, rfl, hi, hcd⟩ := hx.ex
  have CD := hid hcd
  have HI := hid hi
  clear hx hcd hi IX
  go_wp2_with fail
  go_ret
  exact ⟨b, by rw [← HI.out]; rfl, CD.out⟩

set_option maxHeartbeats 2000000 in
set_option maxRecDepth 100000 in
theorem alt_any (ere : Bool) (ts : List Rx) (H : ∀ r, r ∈ ts → RightSaid ere r) (C : Nat) (ok : Nat → Prop) (ad : Option Addr) (l c : Nat) (n g d : Nat) (w : World) (hr : RowAt w ok ts ad l c) (hok : ∀ x, ok x → x ≠ C) (hc : Cb w C ere n g d) (hn : n ≤ 40) (hg : g ≤ n) (hd : d ≤ 6) (hl : ts.length ≤ 1000000) :
    Calls Tryz.prog 28 #[.pointer (some ⟨C, 0, none⟩), .slice ad l c] w fun e w' => Ckd C ere d (chkAlt ere ts ⟨n, g, d⟩) w e w' := by
  have RR := hid hr
  have HC := hid hc
  have HOK := hid hok
  have HH := hid H
  have hCw := hc.lt
  clear hr hc hok H
  go_enter Tryz.func28, Tryz.ntmps28
  go_upto_region 1 with fail
  refine opq (fun W0 => W0.heap[w.heap.size]? = some (.cells #[.pointer (some ⟨C, 0, none⟩)] 64) ∧ Cb W0 C ere n g d ∧ RowAt W0 ok ts ad l c ∧ Ks C w W0) ⟨by (first | exact last_at _ _ _ (by simp) | (refine bl_alloc ?_ _; first | exact last_at _ _ _ (by simp) | (refine bl_alloc ?_ _; first | exact last_at _ _ _ (by simp) | (refine bl_alloc ?_ _; exact last_at _ _ _ (by simp))))), by exact HC.out.kp (by repeat (first | exact Kp.refl _ | refine Kp.alloc ?_ _ | refine Kp.drew ?_ | refine Kp.drewN _ ?_)), by exact RR.out.kp (by repeat (first | exact Kp.refl _ | refine Kp.alloc ?_ _ | refine Kp.drew ?_ | refine Kp.drewN _ ?_)), by exact Kp.ks (by repeat (first | exact Kp.refl _ | refine Kp.alloc ?_ _ | refine Kp.drew ?_ | refine Kp.drewN _ ?_)) (Nat.le_of_lt hCw)⟩ ?_
  rintro W0 ⟨xV0, xCB0, xR0, xKS0⟩
  have V0 : Hid (W0.heap[w.heap.size]? = some (.cells #[.pointer (some ⟨C, 0, none⟩)] 64)) := xV0
  have CB0 : Hid (Cb W0 C ere n g d) := xCB0
  have R0 : Hid (RowAt W0 ok ts ad l c) := xR0
  have KS0 : Hid (Ks C w W0) := xKS0
  clear xV0 xCB0 xR0 xKS0
  go_wp2_with fail
  refine (containsFunc_any ere ts HH.out C w.heap.size ok ad l c n g d _ R0.out HOK.out CB0.out V0.out (by omega) hn hg hd hl).mono ?_
  intro e W1 hnd
  obtain ⟨b, rfl, hcd⟩ := hnd.ex
  have CD := hid (hcd.from KS0.out)
  clear hnd hcd
  go_wp2_with fail
  go_ret
  cases b <;> exact CD.out
end Go.Proofs.YtikmgckefbjbkabGreatDoor

/-! ### Right5 -/

namespace Go.Proofs.YtikmgckefbjbkabGreatDoor
open Go.RowKit

theorem kidsFit_one {k : Int} {mn mx n : Int} {s : W4} {kids : List Rx} (h : leanB (.mk k mn mx n s kids) = true) (hk : k = 4 ∨ k = 5) : ∃ r, kids = [r] := by
  unfold leanB at h
  simp only [Bool.and_eq_true] at h
  have h2 := h.2
  unfold kidsFit at h2
  rw [if_neg (by omega), if_neg (by omega), if_pos hk] at h2
  exact List.length_eq_one_iff.1 (by simpa using h2)

set_option maxHeartbeats 2000000 in
set_option maxRecDepth 100000 in
theorem right_step (ere : Bool) (k mn mx m : Int) (t : W4) (kids : List Rx) (H : ∀ r, r ∈ kids → RightSaid ere r) (hl : kids.length ≤ 1000000) (hs : t.a < 18446744073709551616 ∧ t.b < 18446744073709551616 ∧ t.c < 18446744073709551616 ∧ t.d < 18446744073709551616) : RightSaid ere (.mk k mn mx m t kids) := by
  refine ⟨fun C ok v b e n g d w hI hok hc hn hg hd => ?_⟩
  obtain ⟨ad, l, c, rfl, hr⟩ := hI.row
  have RR := hid hr
  have hlen := hr.ln
  have HC := hid hc
  have HOK := hid hok
  have HH := hid H
  have hCw := hc.lt
  have LE := hid (fun w => lean_any k mn mx m t kids ad l c w hlen)
  have HSV : Hid (vv t.a t.b t.c t.d = sv (W4.bit t)) := vv_sv t.a t.b t.c t.d hs.1 hs.2.1 hs.2.2.1 hs.2.2.2
  clear hI hr hc hok H hlen
  obtain ⟨o, ho⟩ : ∃ o, chk ere (.mk k mn mx m t kids) b e ⟨n, g, d⟩ = o := ⟨_, rfl⟩
  rw [ho]
  unfold chk at ho
  obtain ⟨lb, hlb⟩ : ∃ lb, leanB (.mk k mn mx m t kids) = lb := ⟨_, rfl⟩
  rw [hlb] at ho LE
  have K1 : lb = true → (k = 4 ∨ k = 5) → ∃ r, kids = [r] := fun h hk => kidsFit_one (by rw [hlb, h]) hk
  have HK1 := hid K1
  have HO := hid ho
  clear hlb ho K1
  have gn : IntKind.i64.wrap ((n : Int) + 1) = (n : Int) + 1 := by rw [IntKind.wrap_i64]; omega
  go_enter Tryz.func20, Tryz.ntmps20
  go_upto_region 1 with fail
  refine opq (fun W0 => W0.heap[w.heap.size]? = some (rxo k mn mx m t (.slice ad l c)) ∧ W0.heap[(w.heap.size + 1)]? = some (.cells #[.bool b, .bool e] 56) ∧ Cb W0 C ere n g d ∧ Kp w W0) ⟨by (first | exact last_at _ _ _ (by simp) | (refine bl_alloc ?_ _; first | exact last_at _ _ _ (by simp) | (refine bl_alloc ?_ _; first | exact last_at _ _ _ (by simp) | (refine bl_alloc ?_ _; exact last_at _ _ _ (by simp))))), by (first | exact last_at _ _ _ (by simp) | (refine bl_alloc ?_ _; first | exact last_at _ _ _ (by simp) | (refine bl_alloc ?_ _; first | exact last_at _ _ _ (by simp) | (refine bl_alloc ?_ _; exact last_at _ _ _ (by simp))))), by exact HC.out.kp (by repeat (first | exact Kp.refl _ | refine Kp.alloc ?_ _ | refine Kp.drew ?_ | refine Kp.drewN _ ?_)), by exact (by repeat (first | exact Kp.refl _ | refine Kp.alloc ?_ _ | refine Kp.drew ?_ | refine Kp.drewN _ ?_))⟩ ?_
  rintro W0 ⟨xA0, xP0, xCB0, xK0⟩
  have A0 : Hid (W0.heap[w.heap.size]? = some (rxo k mn mx m t (.slice ad l c))) := xA0
  have P0 : Hid (W0.heap[(w.heap.size + 1)]? = some (.cells #[.bool b, .bool e] 56)) := xP0
  have CB0 : Hid (Cb W0 C ere n g d) := xCB0
  have K0 : Hid (Kp w W0) := xK0
  clear xA0 xP0 xCB0 xK0
  have c1 := CB0.out.cells.2.1
  have f1 := bl_frozen CB0.out 1
  go_upto_region 2 with fail
  clear c1 f1
  refine opq (fun W1 => W1.heap[w.heap.size]? = some (rxo k mn mx m t (.slice ad l c)) ∧ W1.heap[(w.heap.size + 1)]? = some (.cells #[.bool b, .bool e] 56) ∧ Cb W1 C ere (n + 1) g d ∧ Ks C w W1) ⟨by exact bl_set A0.out (by omega) _, by exact bl_set P0.out (by omega) _, by exact CB0.out.nodes (n + 1), by exact (K0.out.ks (Nat.le_of_lt hCw)).set 1 _⟩ ?_
  rintro W1 ⟨xA1, xP1, xCB1, xKS1⟩
  have A1 : Hid (W1.heap[w.heap.size]? = some (rxo k mn mx m t (.slice ad l c))) := xA1
  have P1 : Hid (W1.heap[(w.heap.size + 1)]? = some (.cells #[.bool b, .bool e] 56)) := xP1
  have CB1 : Hid (Cb W1 C ere (n + 1) g d) := xCB1
  have KS1 : Hid (Ks C w W1) := xKS1
  clear xA1 xP1 xCB1 xKS1
  clear A0 P0 CB0 K0
  have R1 := hid (RR.out.ks KS1.out HOK.out)
  have a0 := bl_cell (A1.out) 0 _ rfl
  have a1 := bl_cell (A1.out) 1 _ rfl
  have a2 := bl_cell (A1.out) 2 _ rfl
  have a3 := bl_cell (A1.out) 3 _ rfl
  have a4 := bl_cell (A1.out) 4 _ rfl
  have a5 := bl_cell (A1.out) 5 _ rfl
  have a6 := bl_cell (A1.out) 6 _ rfl
  have a7 := bl_cell (A1.out) 7 _ rfl
  have a8 := bl_cell (A1.out) 8 _ rfl
  have c1 := CB1.out.cells.2.1
  have hs1 := KS1.out.size
  by_cases h40 : n + 1 > 40
  · have g40 : (40 : Int) < (n : Int) + 1 := by omega
    have E : Hid (o = none) := by show _ = _; rw [← HO.out, if_pos (Or.inl h40)]
    go_wp2_with fail
    go_ret
    exact Ckd.no E.out CB1.out (by omega) (by omega) (by omega) (Nat.le_refl _) KS1.out
  have g40 : ¬ (40 : Int) < (n : Int) + 1 := by omega
  go_wp2_with fail
  refine (LE.out _).mono ?_
  rintro ex W2 ⟨rfl, k2⟩
  have A2 := hid (bl_kp A1.out k2)
  have P2 := hid (bl_kp P1.out k2)
  have CB2 := hid (CB1.out.kp k2)
  have KS2 := hid (KS1.out.kpt' k2 CB1.out.lt)
  have R2 := hid (R1.out.kp k2)
  clear k2 A1 P1 CB1 KS1 R1 a0 a1 a2 a3 a4 a5 a6 a7 a8 c1
  cases lb with
  | false =>
    have E : Hid (o = none) := by show _ = _; rw [← HO.out, if_pos (Or.inr rfl)]
    go_wp2_with fail
    go_ret
    exact Ckd.no E.out CB2.out (by omega) (by omega) (by omega) (Nat.le_refl _) KS2.out
  | true =>
    have a0 := bl_cell (A2.out) 0 _ rfl
    have a1 := bl_cell (A2.out) 1 _ rfl
    have a2 := bl_cell (A2.out) 2 _ rfl
    have a3 := bl_cell (A2.out) 3 _ rfl
    have a4 := bl_cell (A2.out) 4 _ rfl
    have a5 := bl_cell (A2.out) 5 _ rfl
    have a6 := bl_cell (A2.out) 6 _ rfl
    have a7 := bl_cell (A2.out) 7 _ rfl
    have a8 := bl_cell (A2.out) 8 _ rfl
    have q0 := CB2.out.cells.1
    have q2 := CB2.out.cells.2.2.1
    have e0 := bl_cell P2.out 0 _ rfl
    have e1 := bl_cell P2.out 1 _ rfl
    by_cases k1 : k = 1
    · subst k1
      have E0 : Hid (o = if cnt (W4.bit t) 256 > 0 then some ⟨n + 1, g, d⟩ else none) := by show _ = _; rw [← HO.out, if_neg (by simp; omega), if_pos rfl]
      have CN : Hid (∀ w, Calls Tryz.prog 21 #[vv t.a t.b t.c t.d] w fun e w' => e = .returned (.int .i64 (cnt (W4.bit t) 256 : Nat)) ∧ Kp w w') := fun w => by rw [HSV.out]; exact count_any _ w
      go_wp2_with fail
      clear a0 a1 a2 a3 a4 a5 a6 a7 a8 q0 q2 e0 e1
      refine (CN.out _).mono ?_
      rintro ex W3 ⟨rfl, k3⟩
      have CB3 := hid (CB2.out.kp k3)
      have KS3 := hid (KS2.out.kpt' k3 CB2.out.lt)
      clear k3
      by_cases h0 : cnt (W4.bit t) 256 > 0
      · have E : Hid (o = some ⟨n + 1, g, d⟩) := by show _ = _; rw [E0.out, if_pos h0]
        have g0 : (0 : Int) < (cnt (W4.bit t) 256 : Int) := by omega
        go_wp2_with fail
        go_ret
        exact Ckd.yes E.out CB3.out (by omega) (by omega) (by omega) (Nat.le_refl _) KS3.out
      · have E : Hid (o = none) := by show _ = _; rw [E0.out, if_neg h0]
        have g0 : ¬ (0 : Int) < (cnt (W4.bit t) 256 : Int) := by omega
        go_wp2_with fail
        go_ret
        exact Ckd.no E.out CB3.out (by omega) (by omega) (by omega) (Nat.le_refl _) KS3.out
    by_cases k2 : k = 2
    · subst k2
      have E : Hid (o = chkCat ere kids true ⟨n + 1, g, d⟩) := by show _ = _; rw [← HO.out, if_neg (by simp; omega), if_neg (by omega), if_pos rfl]
      go_wp2_with fail
      clear a0 a1 a2 a3 a4 a5 a6 a7 a8 q0 q2 e0 e1
      refine (cat_any ere kids HH.out C ok ad l c (n + 1) g d _ R2.out HOK.out CB2.out (by omega) (by omega) hd hl).mono ?_
      intro ex W3 hcd
      obtain ⟨bq, rfl⟩ : ∃ bq, ex = .returned (.bool bq) := by obtain ⟨bq, h1, _⟩ := hcd.ex; exact ⟨bq, h1⟩
      have CD := hid (hcd.from KS2.out)
      clear hcd
      go_wp2_with fail
      go_ret
      rw [E.out]
      exact CD.out
    by_cases k3 : k = 3
    · subst k3
      have E0 : Hid (o = if ere then chkAlt ere kids ⟨n + 1, g, d⟩ else none) := by show _ = _; rw [← HO.out, if_neg (by simp; omega), if_neg (by omega), if_neg (by omega), if_pos rfl]
      cases ere with
      | false =>
        have E : Hid (o = none) := by show _ = _; rw [E0.out]; rfl
        go_wp2_with fail
        go_ret
        exact Ckd.no E.out CB2.out (by omega) (by omega) (by omega) (Nat.le_refl _) KS2.out
      | true =>
        have E : Hid (o = chkAlt true kids ⟨n + 1, g, d⟩) := by show _ = _; rw [E0.out]; rfl
        go_wp2_with fail
        clear a0 a1 a2 a3 a4 a5 a6 a7 a8 q0 q2 e0 e1
        refine (alt_any true kids HH.out C ok ad l c (n + 1) g d _ R2.out HOK.out CB2.out (by omega) (by omega) hd hl).mono ?_
        intro ex W3 hcd
        obtain ⟨bq, rfl⟩ : ∃ bq, ex = .returned (.bool bq) := by obtain ⟨bq, h1, _⟩ := hcd.ex; exact ⟨bq, h1⟩
        have CD := hid (hcd.from KS2.out)
        clear hcd
        go_wp2_with fail
        go_ret
        rw [E.out]
        exact CD.out
    by_cases k4 : k = 4
    · subst k4
      obtain ⟨r, rfl⟩ := HK1.out rfl (by omega)
      have E : Hid (o = if timesFit mn mx then chkRep ere [r] ⟨n + 1, g, d⟩ else none) := by show _ = _; rw [← HO.out, if_neg (by simp; omega), if_neg (by omega), if_neg (by omega), if_neg (by omega), if_pos rfl]
      go_wp2_with fail
      clear a0 a1 a2 a3 a4 a5 a6 a7 a8 q0 q2 e0 e1
      refine (rep_any ere r (HH.out r (by simp)) C ok 4 mn mx m t ad l c (n + 1) g d _ R2.out HOK.out CB2.out (by omega) (by omega) hd).mono ?_
      intro ex W3 hcd
      obtain ⟨bq, rfl⟩ : ∃ bq, ex = .returned (.bool bq) := by obtain ⟨bq, h1, _⟩ := hcd.ex; exact ⟨bq, h1⟩
      have CD := hid (hcd.from KS2.out)
      clear hcd
      go_wp2_with fail
      go_ret
      rw [E.out]
      exact CD.out
    by_cases k5 : k = 5
    · subst k5
      obtain ⟨r, rfl⟩ := HK1.out rfl (by omega)
      have E : Hid (o = if m ≠ (g + 1 : Nat) ∨ g + 1 > 3 ∨ d = 6 then none else chkGroup ere [r] ⟨n + 1, g + 1, d + 1⟩) := by show _ = _; rw [← HO.out, if_neg (by simp; omega), if_neg (by omega), if_neg (by omega), if_neg (by omega), if_neg (by omega), if_pos rfl]
      go_wp2_with fail
      clear a0 a1 a2 a3 a4 a5 a6 a7 a8 q0 q2 e0 e1
      refine (cgroup_any ere r (HH.out r (by simp)) C ok 5 mn mx m t ad l c (n + 1) g d _ R2.out HOK.out CB2.out (by omega) (by omega) hd).mono ?_
      intro ex W3 hcd
      obtain ⟨bq, rfl⟩ : ∃ bq, ex = .returned (.bool bq) := by obtain ⟨bq, h1, _⟩ := hcd.ex; exact ⟨bq, h1⟩
      have CD := hid (hcd.from KS2.out)
      clear hcd
      go_wp2_with fail
      go_ret
      rw [E.out]
      exact CD.out
    by_cases k6 : k = 6
    · subst k6
      have E0 : Hid (o = if 1 ≤ m ∧ m ≤ (g : Int) then some ⟨n + 1, g, d⟩ else none) := by show _ = _; rw [← HO.out, if_neg (by simp; omega), if_neg (by omega), if_neg (by omega), if_neg (by omega), if_neg (by omega), if_neg (by omega), if_pos rfl]
      by_cases m1 : 1 ≤ m
      · by_cases m2 : m ≤ (g : Int)
        · have E : Hid (o = some ⟨n + 1, g, d⟩) := by show _ = _; rw [E0.out, if_pos ⟨m1, m2⟩]
          go_upto_region 16 with fail
          clear a0 a1 a2 a3 a4 a5 a6 a7 a8 q0 q2 e0 e1
          have Q0 : Kp W2 W2.drew := (Kp.refl _).drew
          have MK : Hid (∀ W, Kp W2 W → W.cell? ⟨w.heap.size, 3, none⟩ = some (.int .i64 m) ∧ W.cell? ⟨C, 2, none⟩ = some (.int .i64 (g : Int)) ∧ Hid (Kp W2 W)) := fun W k => ⟨bl_cell (bl_kp A2.out k) 3 _ rfl, (CB2.out.kp k).cells.2.2.1, k⟩
          refine wp_region_noPanic ?_
          refine wp_region_held_drew (S := (fun W => W.cell? ⟨w.heap.size, 3, none⟩ = some (.int .i64 m) ∧ W.cell? ⟨C, 2, none⟩ = some (.int .i64 (g : Int)) ∧ Hid (Kp W2 W))) (by kernel_rfl) ?_ (fun hH => ?_)
          · exact MK.out _ Q0
          have KQ := Q0
          refine wpAnyH_take (i := 0) (oi := { dst := some 62, op := Op.fieldAddr 30 (Operand.tmp 4) 3, type := 0, pos := "right.go:45", after := #[], guard := none }) (v := ?v0a1) rfl (by kernel_rfl) (by kernel_rfl) (by kernel_rfl) (fun _ _ _ h => h) (Or.inl ⟨by rfl, ?hy0a1⟩) hH ?r0a1
          case hy0a1 => (intro W hSw; (try dsimp only at hSw); go_simp; try (with_reducible rfl))
          try simp only [Act.put, List.setIfInBounds_toArray, List.set_cons_zero, List.set_cons_succ]
          refine wpAnyH_take (i := 1) (oi := { dst := some 63, op := Op.load 3 (Operand.tmp 62), type := 3, pos := "right.go:45", after := #[{ on := 0, ground := Ground.data }], guard := none }) (v := ?v1a2) rfl (by kernel_rfl) (by kernel_rfl) (by kernel_rfl) (fun _ _ _ h => h) (Or.inl ⟨by rfl, ?hy1a2⟩) hH ?r1a2
          case hy1a2 => (intro W hSw; (try dsimp only at hSw); go_simp; try (with_reducible rfl))
          try simp only [Act.put, List.setIfInBounds_toArray, List.set_cons_zero, List.set_cons_succ]
          refine wpAnyH_take (i := 2) (oi := { dst := some 64, op := Op.binOp BinOp.leq 3 (Operand.const (Value.int IntKind.i64 1)) (Operand.tmp 63) 3, type := 4, pos := "right.go:45", after := #[{ on := 1, ground := Ground.data }], guard := none }) (v := ?v2a3) rfl (by kernel_rfl) (by kernel_rfl) (by kernel_rfl) (fun _ _ _ h => h) (Or.inl ⟨by rfl, ?hy2a3⟩) hH ?r2a3
          case hy2a3 => (intro W hSw; (try dsimp only at hSw); go_simp; try (with_reducible rfl))
          try simp only [Act.put, List.setIfInBounds_toArray, List.set_cons_zero, List.set_cons_succ]
          refine wpAnyH_take (i := 3) (oi := { dst := some 65, op := Op.move (Operand.tmp 64), type := 4, pos := "right.go:45", after := #[{ on := 2, ground := Ground.data }], guard := none }) (v := ?v3a4) rfl (by kernel_rfl) (by kernel_rfl) (by kernel_rfl) (fun _ _ _ h => h) (Or.inl ⟨by rfl, ?hy3a4⟩) hH ?r3a4
          case hy3a4 => (intro W hSw; (try dsimp only at hSw); go_simp; try (with_reducible rfl))
          try simp only [Act.put, List.setIfInBounds_toArray, List.set_cons_zero, List.set_cons_succ]
          refine wpAnyH_take (i := 4) (oi := { dst := some 66, op := Op.fieldAddr 30 (Operand.tmp 4) 3, type := 0, pos := "right.go:45", after := #[{ on := 3, ground := Ground.guard }], guard := some (3, true) }) (v := ?v4a5) rfl (by kernel_rfl) (by kernel_rfl) (by kernel_rfl) (fun _ _ _ h => h) (Or.inl ⟨by rfl, ?hy4a5⟩) hH ?r4a5
          case hy4a5 => (intro W hSw; (try dsimp only at hSw); go_simp; try (with_reducible rfl))
          try simp only [Act.put, List.setIfInBounds_toArray, List.set_cons_zero, List.set_cons_succ]
          refine wpAnyH_take (i := 5) (oi := { dst := some 67, op := Op.load 3 (Operand.tmp 66), type := 3, pos := "right.go:45", after := #[{ on := 4, ground := Ground.data }, { on := 3, ground := Ground.guard }], guard := some (3, true) }) (v := ?v5a6) rfl (by kernel_rfl) (by kernel_rfl) (by kernel_rfl) (fun _ _ _ h => h) (Or.inl ⟨by rfl, ?hy5a6⟩) hH ?r5a6
          case hy5a6 => (intro W hSw; (try dsimp only at hSw); go_simp; try (with_reducible rfl))
          try simp only [Act.put, List.setIfInBounds_toArray, List.set_cons_zero, List.set_cons_succ]
          refine wpAnyH_take (i := 6) (oi := { dst := some 68, op := Op.move (Operand.tmp 0), type := 64, pos := "right.go:45", after := #[{ on := 3, ground := Ground.guard }], guard := some (3, true) }) (v := ?v6a7) rfl (by kernel_rfl) (by kernel_rfl) (by kernel_rfl) (fun _ _ _ h => h) (Or.inl ⟨by rfl, ?hy6a7⟩) hH ?r6a7
          case hy6a7 => (intro W hSw; (try dsimp only at hSw); go_simp; try (with_reducible rfl))
          try simp only [Act.put, List.setIfInBounds_toArray, List.set_cons_zero, List.set_cons_succ]
          refine wpAnyH_take (i := 7) (oi := { dst := some 69, op := Op.nilCheck (Operand.tmp 68), type := 0, pos := "right.go:45", after := #[{ on := 6, ground := Ground.data }, { on := 3, ground := Ground.guard }], guard := some (3, true) }) (v := ?v7a8) rfl (by kernel_rfl) (by kernel_rfl) (by kernel_rfl) (fun _ _ _ h => h) (Or.inl ⟨by rfl, ?hy7a8⟩) hH ?r7a8
          case hy7a8 => (intro W hSw; (try dsimp only at hSw); go_simp; try (with_reducible rfl))
          try simp only [Act.put, List.setIfInBounds_toArray, List.set_cons_zero, List.set_cons_succ]
          refine wpAnyH_take (i := 8) (oi := { dst := some 70, op := Op.fieldAddr 53 (Operand.tmp 69) 2, type := 0, pos := "right.go:45", after := #[{ on := 7, ground := Ground.data }, { on := 3, ground := Ground.guard }], guard := some (3, true) }) (v := ?v8a9) rfl (by kernel_rfl) (by kernel_rfl) (by kernel_rfl) (fun _ _ _ h => h) (Or.inl ⟨by rfl, ?hy8a9⟩) hH ?r8a9
          case hy8a9 => (intro W hSw; (try dsimp only at hSw); go_simp; try (with_reducible rfl))
          try simp only [Act.put, List.setIfInBounds_toArray, List.set_cons_zero, List.set_cons_succ]
          refine wpAnyH_take (i := 9) (oi := { dst := some 71, op := Op.load 3 (Operand.tmp 70), type := 3, pos := "right.go:45", after := #[{ on := 8, ground := Ground.data }, { on := 3, ground := Ground.guard }], guard := some (3, true) }) (v := ?v9a10) rfl (by kernel_rfl) (by kernel_rfl) (by kernel_rfl) (fun _ _ _ h => h) (Or.inl ⟨by rfl, ?hy9a10⟩) hH ?r9a10
          case hy9a10 => (intro W hSw; (try dsimp only at hSw); go_simp; try (with_reducible rfl))
          try simp only [Act.put, List.setIfInBounds_toArray, List.set_cons_zero, List.set_cons_succ]
          refine wpAnyH_take (i := 10) (oi := { dst := some 72, op := Op.binOp BinOp.leq 3 (Operand.tmp 67) (Operand.tmp 71) 3, type := 4, pos := "right.go:45", after := #[{ on := 5, ground := Ground.data }, { on := 9, ground := Ground.data }, { on := 3, ground := Ground.guard }], guard := some (3, true) }) (v := ?v10a11) rfl (by kernel_rfl) (by kernel_rfl) (by kernel_rfl) (fun _ _ _ h => h) (Or.inl ⟨by rfl, ?hy10a11⟩) hH ?r10a11
          case hy10a11 => (intro W hSw; (try dsimp only at hSw); go_simp; try (with_reducible rfl))
          try simp only [Act.put, List.setIfInBounds_toArray, List.set_cons_zero, List.set_cons_succ]
          refine wpAnyH_take (i := 11) (oi := { dst := some 73, op := Op.pick (Operand.tmp 65) (Operand.tmp 72) (Operand.const (Value.bool false)), type := 4, pos := "right.go:45", after := #[{ on := 3, ground := Ground.data }, { on := 10, ground := Ground.data }], guard := none }) (v := ?v11a12) rfl (by kernel_rfl) (by kernel_rfl) (by kernel_rfl) (fun _ _ _ h => h) (Or.inl ⟨by rfl, ?hy11a12⟩) hH ?r11a12
          case hy11a12 => (intro W hSw; (try dsimp only at hSw); go_simp; try (with_reducible rfl))
          try simp only [Act.put, List.setIfInBounds_toArray, List.set_cons_zero, List.set_cons_succ]
          refine wpAnyH_take (i := 12) (oi := { dst := some 6, op := Op.assign (Operand.tmp 73), type := 4, pos := "right.go:45", after := #[{ on := 11, ground := Ground.data }, { on := 3, ground := Ground.chain }, { on := 0, ground := Ground.phase }, { on := 1, ground := Ground.phase }, { on := 2, ground := Ground.phase }, { on := 3, ground := Ground.phase }, { on := 4, ground := Ground.phase }, { on := 5, ground := Ground.phase }, { on := 6, ground := Ground.phase }, { on := 7, ground := Ground.phase }, { on := 8, ground := Ground.phase }, { on := 9, ground := Ground.phase }, { on := 10, ground := Ground.phase }, { on := 11, ground := Ground.phase }], guard := none }) (v := ?v12a13) rfl (by kernel_rfl) (by kernel_rfl) (by kernel_rfl) (fun _ _ _ h => h) (Or.inl ⟨by rfl, ?hy12a13⟩) hH ?r12a13
          case hy12a13 => (intro W hSw; (try dsimp only at hSw); go_simp; try (with_reducible rfl))
          try simp only [Act.put, List.setIfInBounds_toArray, List.set_cons_zero, List.set_cons_succ]
          refine wpAnyH_done (by kernel_rfl) ?_ _
          refine NoPanic.normal ?_
          go_wp2_with fail
          go_ret
          exact Ckd.yes E.out (CB2.out.kp KQ) (by omega) (by omega) (by omega) (Nat.le_refl _) (KS2.out.kpt' KQ CB2.out.lt)
        · have E : Hid (o = none) := by show _ = _; rw [E0.out, if_neg (fun h => m2 h.2)]
          have m2d : decide (m ≤ (g : Int)) = false := decide_eq_false m2
          go_upto_region 16 with fail
          clear a0 a1 a2 a3 a4 a5 a6 a7 a8 q0 q2 e0 e1
          have Q0 : Kp W2 W2.drew := (Kp.refl _).drew
          have MK : Hid (∀ W, Kp W2 W → W.cell? ⟨w.heap.size, 3, none⟩ = some (.int .i64 m) ∧ W.cell? ⟨C, 2, none⟩ = some (.int .i64 (g : Int)) ∧ Hid (Kp W2 W)) := fun W k => ⟨bl_cell (bl_kp A2.out k) 3 _ rfl, (CB2.out.kp k).cells.2.2.1, k⟩
          refine wp_region_noPanic ?_
          refine wp_region_held_drew (S := (fun W => W.cell? ⟨w.heap.size, 3, none⟩ = some (.int .i64 m) ∧ W.cell? ⟨C, 2, none⟩ = some (.int .i64 (g : Int)) ∧ Hid (Kp W2 W))) (by kernel_rfl) ?_ (fun hH => ?_)
          · exact MK.out _ Q0
          have KQ := Q0
          refine wpAnyH_take (i := 0) (oi := { dst := some 62, op := Op.fieldAddr 30 (Operand.tmp 4) 3, type := 0, pos := "right.go:45", after := #[], guard := none }) (v := ?v0b1) rfl (by kernel_rfl) (by kernel_rfl) (by kernel_rfl) (fun _ _ _ h => h) (Or.inl ⟨by rfl, ?hy0b1⟩) hH ?r0b1
          case hy0b1 => (intro W hSw; (try dsimp only at hSw); go_simp; try (with_reducible rfl))
          try simp only [Act.put, List.setIfInBounds_toArray, List.set_cons_zero, List.set_cons_succ]
          refine wpAnyH_take (i := 1) (oi := { dst := some 63, op := Op.load 3 (Operand.tmp 62), type := 3, pos := "right.go:45", after := #[{ on := 0, ground := Ground.data }], guard := none }) (v := ?v1b2) rfl (by kernel_rfl) (by kernel_rfl) (by kernel_rfl) (fun _ _ _ h => h) (Or.inl ⟨by rfl, ?hy1b2⟩) hH ?r1b2
          case hy1b2 => (intro W hSw; (try dsimp only at hSw); go_simp; try (with_reducible rfl))
          try simp only [Act.put, List.setIfInBounds_toArray, List.set_cons_zero, List.set_cons_succ]
          refine wpAnyH_take (i := 2) (oi := { dst := some 64, op := Op.binOp BinOp.leq 3 (Operand.const (Value.int IntKind.i64 1)) (Operand.tmp 63) 3, type := 4, pos := "right.go:45", after := #[{ on := 1, ground := Ground.data }], guard := none }) (v := ?v2b3) rfl (by kernel_rfl) (by kernel_rfl) (by kernel_rfl) (fun _ _ _ h => h) (Or.inl ⟨by rfl, ?hy2b3⟩) hH ?r2b3
          case hy2b3 => (intro W hSw; (try dsimp only at hSw); go_simp; try (with_reducible rfl))
          try simp only [Act.put, List.setIfInBounds_toArray, List.set_cons_zero, List.set_cons_succ]
          refine wpAnyH_take (i := 3) (oi := { dst := some 65, op := Op.move (Operand.tmp 64), type := 4, pos := "right.go:45", after := #[{ on := 2, ground := Ground.data }], guard := none }) (v := ?v3b4) rfl (by kernel_rfl) (by kernel_rfl) (by kernel_rfl) (fun _ _ _ h => h) (Or.inl ⟨by rfl, ?hy3b4⟩) hH ?r3b4
          case hy3b4 => (intro W hSw; (try dsimp only at hSw); go_simp; try (with_reducible rfl))
          try simp only [Act.put, List.setIfInBounds_toArray, List.set_cons_zero, List.set_cons_succ]
          refine wpAnyH_take (i := 4) (oi := { dst := some 66, op := Op.fieldAddr 30 (Operand.tmp 4) 3, type := 0, pos := "right.go:45", after := #[{ on := 3, ground := Ground.guard }], guard := some (3, true) }) (v := ?v4b5) rfl (by kernel_rfl) (by kernel_rfl) (by kernel_rfl) (fun _ _ _ h => h) (Or.inl ⟨by rfl, ?hy4b5⟩) hH ?r4b5
          case hy4b5 => (intro W hSw; (try dsimp only at hSw); go_simp; try (with_reducible rfl))
          try simp only [Act.put, List.setIfInBounds_toArray, List.set_cons_zero, List.set_cons_succ]
          refine wpAnyH_take (i := 5) (oi := { dst := some 67, op := Op.load 3 (Operand.tmp 66), type := 3, pos := "right.go:45", after := #[{ on := 4, ground := Ground.data }, { on := 3, ground := Ground.guard }], guard := some (3, true) }) (v := ?v5b6) rfl (by kernel_rfl) (by kernel_rfl) (by kernel_rfl) (fun _ _ _ h => h) (Or.inl ⟨by rfl, ?hy5b6⟩) hH ?r5b6
          case hy5b6 => (intro W hSw; (try dsimp only at hSw); go_simp; try (with_reducible rfl))
          try simp only [Act.put, List.setIfInBounds_toArray, List.set_cons_zero, List.set_cons_succ]
          refine wpAnyH_take (i := 6) (oi := { dst := some 68, op := Op.move (Operand.tmp 0), type := 64, pos := "right.go:45", after := #[{ on := 3, ground := Ground.guard }], guard := some (3, true) }) (v := ?v6b7) rfl (by kernel_rfl) (by kernel_rfl) (by kernel_rfl) (fun _ _ _ h => h) (Or.inl ⟨by rfl, ?hy6b7⟩) hH ?r6b7
          case hy6b7 => (intro W hSw; (try dsimp only at hSw); go_simp; try (with_reducible rfl))
          try simp only [Act.put, List.setIfInBounds_toArray, List.set_cons_zero, List.set_cons_succ]
          refine wpAnyH_take (i := 7) (oi := { dst := some 69, op := Op.nilCheck (Operand.tmp 68), type := 0, pos := "right.go:45", after := #[{ on := 6, ground := Ground.data }, { on := 3, ground := Ground.guard }], guard := some (3, true) }) (v := ?v7b8) rfl (by kernel_rfl) (by kernel_rfl) (by kernel_rfl) (fun _ _ _ h => h) (Or.inl ⟨by rfl, ?hy7b8⟩) hH ?r7b8
          case hy7b8 => (intro W hSw; (try dsimp only at hSw); go_simp; try (with_reducible rfl))
          try simp only [Act.put, List.setIfInBounds_toArray, List.set_cons_zero, List.set_cons_succ]
          refine wpAnyH_take (i := 8) (oi := { dst := some 70, op := Op.fieldAddr 53 (Operand.tmp 69) 2, type := 0, pos := "right.go:45", after := #[{ on := 7, ground := Ground.data }, { on := 3, ground := Ground.guard }], guard := some (3, true) }) (v := ?v8b9) rfl (by kernel_rfl) (by kernel_rfl) (by kernel_rfl) (fun _ _ _ h => h) (Or.inl ⟨by rfl, ?hy8b9⟩) hH ?r8b9
          case hy8b9 => (intro W hSw; (try dsimp only at hSw); go_simp; try (with_reducible rfl))
          try simp only [Act.put, List.setIfInBounds_toArray, List.set_cons_zero, List.set_cons_succ]
          refine wpAnyH_take (i := 9) (oi := { dst := some 71, op := Op.load 3 (Operand.tmp 70), type := 3, pos := "right.go:45", after := #[{ on := 8, ground := Ground.data }, { on := 3, ground := Ground.guard }], guard := some (3, true) }) (v := ?v9b10) rfl (by kernel_rfl) (by kernel_rfl) (by kernel_rfl) (fun _ _ _ h => h) (Or.inl ⟨by rfl, ?hy9b10⟩) hH ?r9b10
          case hy9b10 => (intro W hSw; (try dsimp only at hSw); go_simp; try (with_reducible rfl))
          try simp only [Act.put, List.setIfInBounds_toArray, List.set_cons_zero, List.set_cons_succ]
          refine wpAnyH_take (i := 10) (oi := { dst := some 72, op := Op.binOp BinOp.leq 3 (Operand.tmp 67) (Operand.tmp 71) 3, type := 4, pos := "right.go:45", after := #[{ on := 5, ground := Ground.data }, { on := 9, ground := Ground.data }, { on := 3, ground := Ground.guard }], guard := some (3, true) }) (v := ?v10b11) rfl (by kernel_rfl) (by kernel_rfl) (by kernel_rfl) (fun _ _ _ h => h) (Or.inl ⟨by rfl, ?hy10b11⟩) hH ?r10b11
          case hy10b11 => (intro W hSw; (try dsimp only at hSw); go_simp; try (with_reducible rfl))
          try simp only [Act.put, List.setIfInBounds_toArray, List.set_cons_zero, List.set_cons_succ]
          refine wpAnyH_take (i := 11) (oi := { dst := some 73, op := Op.pick (Operand.tmp 65) (Operand.tmp 72) (Operand.const (Value.bool false)), type := 4, pos := "right.go:45", after := #[{ on := 3, ground := Ground.data }, { on := 10, ground := Ground.data }], guard := none }) (v := ?v11b12) rfl (by kernel_rfl) (by kernel_rfl) (by kernel_rfl) (fun _ _ _ h => h) (Or.inl ⟨by rfl, ?hy11b12⟩) hH ?r11b12
          case hy11b12 => (intro W hSw; (try dsimp only at hSw); go_simp; try (with_reducible rfl))
          try simp only [Act.put, List.setIfInBounds_toArray, List.set_cons_zero, List.set_cons_succ]
          refine wpAnyH_take (i := 12) (oi := { dst := some 6, op := Op.assign (Operand.tmp 73), type := 4, pos := "right.go:45", after := #[{ on := 11, ground := Ground.data }, { on := 3, ground := Ground.chain }, { on := 0, ground := Ground.phase }, { on := 1, ground := Ground.phase }, { on := 2, ground := Ground.phase }, { on := 3, ground := Ground.phase }, { on := 4, ground := Ground.phase }, { on := 5, ground := Ground.phase }, { on := 6, ground := Ground.phase }, { on := 7, ground := Ground.phase }, { on := 8, ground := Ground.phase }, { on := 9, ground := Ground.phase }, { on := 10, ground := Ground.phase }, { on := 11, ground := Ground.phase }], guard := none }) (v := ?v12b13) rfl (by kernel_rfl) (by kernel_rfl) (by kernel_rfl) (fun _ _ _ h => h) (Or.inl ⟨by rfl, ?hy12b13⟩) hH ?r12b13
          case hy12b13 => (intro W hSw; (try dsimp only at hSw); go_simp; try (with_reducible rfl))
          try simp only [Act.put, List.setIfInBounds_toArray, List.set_cons_zero, List.set_cons_succ]
          refine wpAnyH_done (by kernel_rfl) ?_ _
          refine NoPanic.normal ?_
          go_wp2_with fail
          go_ret
          exact Ckd.no E.out (CB2.out.kp KQ) (by omega) (by omega) (by omega) (Nat.le_refl _) (KS2.out.kpt' KQ CB2.out.lt)
      · have E : Hid (o = none) := by show _ = _; rw [E0.out, if_neg (fun h => m1 h.1)]
        have m1d : decide (1 ≤ m) = false := decide_eq_false m1
        go_upto_region 16 with fail
        clear a0 a1 a2 a3 a4 a5 a6 a7 a8 q0 q2 e0 e1
        have Q0 : Kp W2 W2.drew := (Kp.refl _).drew
        have MK : Hid (∀ W, Kp W2 W → W.cell? ⟨w.heap.size, 3, none⟩ = some (.int .i64 m) ∧ W.cell? ⟨C, 2, none⟩ = some (.int .i64 (g : Int)) ∧ Hid (Kp W2 W)) := fun W k => ⟨bl_cell (bl_kp A2.out k) 3 _ rfl, (CB2.out.kp k).cells.2.2.1, k⟩
        refine wp_region_noPanic ?_
        refine wp_region_held_drew (S := (fun W => W.cell? ⟨w.heap.size, 3, none⟩ = some (.int .i64 m) ∧ W.cell? ⟨C, 2, none⟩ = some (.int .i64 (g : Int)) ∧ Hid (Kp W2 W))) (by kernel_rfl) ?_ (fun hH => ?_)
        · exact MK.out _ Q0
        have KQ := Q0
        refine wpAnyH_take (i := 0) (oi := { dst := some 62, op := Op.fieldAddr 30 (Operand.tmp 4) 3, type := 0, pos := "right.go:45", after := #[], guard := none }) (v := ?v0c1) rfl (by kernel_rfl) (by kernel_rfl) (by kernel_rfl) (fun _ _ _ h => h) (Or.inl ⟨by rfl, ?hy0c1⟩) hH ?r0c1
        case hy0c1 => (intro W hSw; (try dsimp only at hSw); go_simp; try (with_reducible rfl))
        try simp only [Act.put, List.setIfInBounds_toArray, List.set_cons_zero, List.set_cons_succ]
        refine wpAnyH_take (i := 1) (oi := { dst := some 63, op := Op.load 3 (Operand.tmp 62), type := 3, pos := "right.go:45", after := #[{ on := 0, ground := Ground.data }], guard := none }) (v := ?v1c2) rfl (by kernel_rfl) (by kernel_rfl) (by kernel_rfl) (fun _ _ _ h => h) (Or.inl ⟨by rfl, ?hy1c2⟩) hH ?r1c2
        case hy1c2 => (intro W hSw; (try dsimp only at hSw); go_simp; try (with_reducible rfl))
        try simp only [Act.put, List.setIfInBounds_toArray, List.set_cons_zero, List.set_cons_succ]
        refine wpAnyH_take (i := 2) (oi := { dst := some 64, op := Op.binOp BinOp.leq 3 (Operand.const (Value.int IntKind.i64 1)) (Operand.tmp 63) 3, type := 4, pos := "right.go:45", after := #[{ on := 1, ground := Ground.data }], guard := none }) (v := ?v2c3) rfl (by kernel_rfl) (by kernel_rfl) (by kernel_rfl) (fun _ _ _ h => h) (Or.inl ⟨by rfl, ?hy2c3⟩) hH ?r2c3
        case hy2c3 => (intro W hSw; (try dsimp only at hSw); go_simp; try (with_reducible rfl))
        try simp only [Act.put, List.setIfInBounds_toArray, List.set_cons_zero, List.set_cons_succ]
        refine wpAnyH_take (i := 3) (oi := { dst := some 65, op := Op.move (Operand.tmp 64), type := 4, pos := "right.go:45", after := #[{ on := 2, ground := Ground.data }], guard := none }) (v := ?v3c4) rfl (by kernel_rfl) (by kernel_rfl) (by kernel_rfl) (fun _ _ _ h => h) (Or.inl ⟨by rfl, ?hy3c4⟩) hH ?r3c4
        case hy3c4 => (intro W hSw; (try dsimp only at hSw); go_simp; try (with_reducible rfl))
        try simp only [Act.put, List.setIfInBounds_toArray, List.set_cons_zero, List.set_cons_succ]
        refine wpAnyH_take (i := 4) (oi := { dst := some 66, op := Op.fieldAddr 30 (Operand.tmp 4) 3, type := 0, pos := "right.go:45", after := #[{ on := 3, ground := Ground.guard }], guard := some (3, true) }) (v := undef) rfl (by kernel_rfl) (by kernel_rfl) (by kernel_rfl) (fun _ _ _ h => h) (Or.inr ⟨by rfl, rfl⟩) hH ?r4c5
        try simp only [Act.put, List.setIfInBounds_toArray, List.set_cons_zero, List.set_cons_succ]
        refine wpAnyH_take (i := 5) (oi := { dst := some 67, op := Op.load 3 (Operand.tmp 66), type := 3, pos := "right.go:45", after := #[{ on := 4, ground := Ground.data }, { on := 3, ground := Ground.guard }], guard := some (3, true) }) (v := undef) rfl (by kernel_rfl) (by kernel_rfl) (by kernel_rfl) (fun _ _ _ h => h) (Or.inr ⟨by rfl, rfl⟩) hH ?r5c6
        try simp only [Act.put, List.setIfInBounds_toArray, List.set_cons_zero, List.set_cons_succ]
        refine wpAnyH_take (i := 6) (oi := { dst := some 68, op := Op.move (Operand.tmp 0), type := 64, pos := "right.go:45", after := #[{ on := 3, ground := Ground.guard }], guard := some (3, true) }) (v := undef) rfl (by kernel_rfl) (by kernel_rfl) (by kernel_rfl) (fun _ _ _ h => h) (Or.inr ⟨by rfl, rfl⟩) hH ?r6c7
        try simp only [Act.put, List.setIfInBounds_toArray, List.set_cons_zero, List.set_cons_succ]
        refine wpAnyH_take (i := 7) (oi := { dst := some 69, op := Op.nilCheck (Operand.tmp 68), type := 0, pos := "right.go:45", after := #[{ on := 6, ground := Ground.data }, { on := 3, ground := Ground.guard }], guard := some (3, true) }) (v := undef) rfl (by kernel_rfl) (by kernel_rfl) (by kernel_rfl) (fun _ _ _ h => h) (Or.inr ⟨by rfl, rfl⟩) hH ?r7c8
        try simp only [Act.put, List.setIfInBounds_toArray, List.set_cons_zero, List.set_cons_succ]
        refine wpAnyH_take (i := 8) (oi := { dst := some 70, op := Op.fieldAddr 53 (Operand.tmp 69) 2, type := 0, pos := "right.go:45", after := #[{ on := 7, ground := Ground.data }, { on := 3, ground := Ground.guard }], guard := some (3, true) }) (v := undef) rfl (by kernel_rfl) (by kernel_rfl) (by kernel_rfl) (fun _ _ _ h => h) (Or.inr ⟨by rfl, rfl⟩) hH ?r8c9
        try simp only [Act.put, List.setIfInBounds_toArray, List.set_cons_zero, List.set_cons_succ]
        refine wpAnyH_take (i := 9) (oi := { dst := some 71, op := Op.load 3 (Operand.tmp 70), type := 3, pos := "right.go:45", after := #[{ on := 8, ground := Ground.data }, { on := 3, ground := Ground.guard }], guard := some (3, true) }) (v := undef) rfl (by kernel_rfl) (by kernel_rfl) (by kernel_rfl) (fun _ _ _ h => h) (Or.inr ⟨by rfl, rfl⟩) hH ?r9c10
        try simp only [Act.put, List.setIfInBounds_toArray, List.set_cons_zero, List.set_cons_succ]
        refine wpAnyH_take (i := 10) (oi := { dst := some 72, op := Op.binOp BinOp.leq 3 (Operand.tmp 67) (Operand.tmp 71) 3, type := 4, pos := "right.go:45", after := #[{ on := 5, ground := Ground.data }, { on := 9, ground := Ground.data }, { on := 3, ground := Ground.guard }], guard := some (3, true) }) (v := undef) rfl (by kernel_rfl) (by kernel_rfl) (by kernel_rfl) (fun _ _ _ h => h) (Or.inr ⟨by rfl, rfl⟩) hH ?r10c11
        try simp only [Act.put, List.setIfInBounds_toArray, List.set_cons_zero, List.set_cons_succ]
        refine wpAnyH_take (i := 11) (oi := { dst := some 73, op := Op.pick (Operand.tmp 65) (Operand.tmp 72) (Operand.const (Value.bool false)), type := 4, pos := "right.go:45", after := #[{ on := 3, ground := Ground.data }, { on := 10, ground := Ground.data }], guard := none }) (v := ?v11c12) rfl (by kernel_rfl) (by kernel_rfl) (by kernel_rfl) (fun _ _ _ h => h) (Or.inl ⟨by rfl, ?hy11c12⟩) hH ?r11c12
        case hy11c12 => (intro W hSw; (try dsimp only at hSw); go_simp; try (with_reducible rfl))
        try simp only [Act.put, List.setIfInBounds_toArray, List.set_cons_zero, List.set_cons_succ]
        refine wpAnyH_take (i := 12) (oi := { dst := some 6, op := Op.assign (Operand.tmp 73), type := 4, pos := "right.go:45", after := #[{ on := 11, ground := Ground.data }, { on := 3, ground := Ground.chain }, { on := 0, ground := Ground.phase }, { on := 1, ground := Ground.phase }, { on := 2, ground := Ground.phase }, { on := 3, ground := Ground.phase }, { on := 4, ground := Ground.phase }, { on := 5, ground := Ground.phase }, { on := 6, ground := Ground.phase }, { on := 7, ground := Ground.phase }, { on := 8, ground := Ground.phase }, { on := 9, ground := Ground.phase }, { on := 10, ground := Ground.phase }, { on := 11, ground := Ground.phase }], guard := none }) (v := ?v12c13) rfl (by kernel_rfl) (by kernel_rfl) (by kernel_rfl) (fun _ _ _ h => h) (Or.inl ⟨by rfl, ?hy12c13⟩) hH ?r12c13
        case hy12c13 => (intro W hSw; (try dsimp only at hSw); go_simp; try (with_reducible rfl))
        try simp only [Act.put, List.setIfInBounds_toArray, List.set_cons_zero, List.set_cons_succ]
        refine wpAnyH_done (by kernel_rfl) ?_ _
        refine NoPanic.normal ?_
        go_wp2_with fail
        go_ret
        exact Ckd.no E.out (CB2.out.kp KQ) (by omega) (by omega) (by omega) (Nat.le_refl _) (KS2.out.kpt' KQ CB2.out.lt)
    by_cases k7 : k = 7
    · subst k7
      have E0 : Hid (o = if ere || b then some ⟨n + 1, g, d⟩ else none) := by show _ = _; rw [← HO.out, if_neg (by simp; omega), if_neg (by omega), if_neg (by omega), if_neg (by omega), if_neg (by omega), if_neg (by omega), if_neg (by omega), if_pos rfl]
      cases ere with
      | true =>
        have E : Hid (o = some ⟨n + 1, g, d⟩) := by show _ = _; rw [E0.out]; rfl
        go_wp2_with fail
        go_ret
        exact Ckd.yes E.out CB2.out (by omega) (by omega) (by omega) (Nat.le_refl _) KS2.out
      | false =>
        cases b with
        | true =>
          have E : Hid (o = some ⟨n + 1, g, d⟩) := by show _ = _; rw [E0.out]; rfl
          go_wp2_with fail
          go_ret
          exact Ckd.yes E.out CB2.out (by omega) (by omega) (by omega) (Nat.le_refl _) KS2.out
        | false =>
          have E : Hid (o = none) := by show _ = _; rw [E0.out]; rfl
          go_wp2_with fail
          go_ret
          exact Ckd.no E.out CB2.out (by omega) (by omega) (by omega) (Nat.le_refl _) KS2.out
    by_cases k8 : k = 8
    · subst k8
      have E0 : Hid (o = if ere || e then some ⟨n + 1, g, d⟩ else none) := by show _ = _; rw [← HO.out, if_neg (by simp; omega), if_neg (by omega), if_neg (by omega), if_neg (by omega), if_neg (by omega), if_neg (by omega), if_neg (by omega), if_neg (by omega), if_pos rfl]
      cases ere with
      | true =>
        have E : Hid (o = some ⟨n + 1, g, d⟩) := by show _ = _; rw [E0.out]; rfl
        go_wp2_with fail
        go_ret
        exact Ckd.yes E.out CB2.out (by omega) (by omega) (by omega) (Nat.le_refl _) KS2.out
      | false =>
        cases e with
        | true =>
          have E : Hid (o = some ⟨n + 1, g, d⟩) := by show _ = _; rw [E0.out]; rfl
          go_wp2_with fail
          go_ret
          exact Ckd.yes E.out CB2.out (by omega) (by omega) (by omega) (Nat.le_refl _) KS2.out
        | false =>
          have E : Hid (o = none) := by show _ = _; rw [E0.out]; rfl
          go_wp2_with fail
          go_ret
          exact Ckd.no E.out CB2.out (by omega) (by omega) (by omega) (Nat.le_refl _) KS2.out
    have g1 : (k == 1) = false := by simp [k1]
    have g2 : (k == 2) = false := by simp [k2]
    have g3 : (k == 3) = false := by simp [k3]
    have g4 : (k == 4) = false := by simp [k4]
    have g5 : (k == 5) = false := by simp [k5]
    have g6 : (k == 6) = false := by simp [k6]
    have g7 : (k == 7) = false := by simp [k7]
    have g8 : (k == 8) = false := by simp [k8]
    have E : Hid (o = none) := by show _ = _; rw [← HO.out, if_neg (by simp; omega), if_neg (by omega), if_neg (by omega), if_neg (by omega), if_neg (by omega), if_neg (by omega), if_neg (by omega), if_neg (by omega), if_neg (by omega)]
    go_wp2_with fail
    go_ret
    exact Ckd.no E.out CB2.out (by omega) (by omega) (by omega) (Nat.le_refl _) KS2.out

/-- Words are words, and no row of kids is too long. -/
def RxOk : Rx → Prop
  | .mk _ _ _ _ s kids => kids.length ≤ 1000000 ∧ (s.a < 18446744073709551616 ∧ s.b < 18446744073709551616 ∧ s.c < 18446744073709551616 ∧ s.d < 18446744073709551616) ∧ ∀ a, a ∈ kids → RxOk a
termination_by r => SizeOf.sizeOf r
decreasing_by
  have := List.sizeOf_lt_of_mem (by assumption)
  simp
  omega
theorem right_all (ere : Bool) : ∀ a, RxOk a → RightSaid ere a
  | .mk k mn mx n s kids, h => by
    unfold RxOk at h
    exact right_step ere k mn mx n s kids (fun a ha => right_all ere a (h.2.2 a ha)) h.1 h.2.1
termination_by a => SizeOf.sizeOf a
decreasing_by
  have := List.sizeOf_lt_of_mem ha
  simp
  omega

set_option maxHeartbeats 2000000 in
set_option maxRecDepth 100000 in
theorem Right_any (r : Rx) (ere : Bool) (ok : Nat → Prop) (k mn mx m : Int) (t : W4) (ad : Option Addr) (l c : Nat) (w : World) (hR : RxOk r) (hI : Is w ok r (rxv k mn mx m t (.slice ad l c))) :
    Calls Tryz.prog 11 #[rxv k mn mx m t (.slice ad l c), .bool ere] w fun e w' => e = .returned (.bool (right ere r)) ∧ Kp w w' := by
  have RA := hid (right_all ere r hR)
  have HI := hid (hI.weak (ok' := fun x => ok x ∧ x < w.heap.size) (fun _ hb hl => ⟨hb, hl⟩))
  clear hR hI
  go_enter Tryz.func11, Tryz.ntmps11
  go_upto_region 2 with fail
  refine opq (fun W0 => W0.heap[w.heap.size]? = some (rxo k mn mx m t (.slice ad l c)) ∧ Cb W0 (w.heap.size + 1) ere 0 0 0 ∧ Is W0 (fun x => ok x ∧ x < w.heap.size) r (rxv k mn mx m t (.slice ad l c)) ∧ Kp w W0) ⟨by (first | exact last_at _ _ _ (by simp) | (refine bl_alloc ?_ _; first | exact last_at _ _ _ (by simp) | (refine bl_alloc ?_ _; first | exact last_at _ _ _ (by simp) | (refine bl_alloc ?_ _; exact last_at _ _ _ (by simp))))), by exact last_at _ _ _ (by simp), by exact HI.out.kp (by repeat (first | exact Kp.refl _ | refine Kp.alloc ?_ _ | refine Kp.drew ?_ | refine Kp.drewN _ ?_)), by exact (by repeat (first | exact Kp.refl _ | refine Kp.alloc ?_ _ | refine Kp.drew ?_ | refine Kp.drewN _ ?_))⟩ ?_
  rintro W0 ⟨xA0, xCB0, xI0, xK0⟩
  have A0 : Hid (W0.heap[w.heap.size]? = some (rxo k mn mx m t (.slice ad l c))) := xA0
  have CB0 : Hid (Cb W0 (w.heap.size + 1) ere 0 0 0) := xCB0
  have I0 : Hid (Is W0 (fun x => ok x ∧ x < w.heap.size) r (rxv k mn mx m t (.slice ad l c))) := xI0
  have K0 : Hid (Kp w W0) := xK0
  clear xA0 xCB0 xI0 xK0
  have a0 := bl_cell (A0.out) 0 _ rfl
  have a1 := bl_cell (A0.out) 1 _ rfl
  have a2 := bl_cell (A0.out) 2 _ rfl
  have a3 := bl_cell (A0.out) 3 _ rfl
  have a4 := bl_cell (A0.out) 4 _ rfl
  have a5 := bl_cell (A0.out) 5 _ rfl
  have a6 := bl_cell (A0.out) 6 _ rfl
  have a7 := bl_cell (A0.out) 7 _ rfl
  have a8 := bl_cell (A0.out) 8 _ rfl
  go_wp2_with fail
  clear a0 a1 a2 a3 a4 a5 a6 a7 a8
  refine (RA.out.all (w.heap.size + 1) _ _ true true 0 0 0 _ I0.out (fun _ hx => by omega) CB0.out (by omega) (by omega) (by omega)).mono ?_
  intro e W1 hcd
  obtain ⟨bq, rfl, hbq, _, hks⟩ := hcd.ex
  have HB : Hid (bq = right ere r) := hbq
  have K1 := hid (hks.up K0.out (by omega))
  clear hcd hbq hks
  go_wp2_with fail
  go_ret
  exact ⟨ret_bool HB.out, K1.out⟩
end Go.Proofs.YtikmgckefbjbkabGreatDoor

/-! ### Text3 -/

namespace Go.Proofs.YtikmgckefbjbkabGreatDoor
open Go.RowKit

mutual
def txt (ere : Bool) : Rx → List UInt8
  | .mk k mn mx n s kids =>
    if k = 1 then setT (W4.bit s) ere
    else if k = 2 then Lib.join (txts ere kids) []
    else if k = 3 then Lib.join (txts ere kids) [124]
    else if k = 4 then (txts ere kids).headD [] ++ timesT mn.toNat mx ere
    else if k = 5 then framedT [40] ((txts ere kids).headD []) [41] ere
    else if k = 6 then [92] ++ dec n.toNat
    else if k = 7 then [94] else [36]
def txts (ere : Bool) : List Rx → List (List UInt8)
  | [] => []
  | r :: rs => txt ere r :: txts ere rs
end
theorem txts_map (ere : Bool) : ∀ (rs : List Rx), txts ere rs = rs.map (txt ere)
  | [] => by rw [txts]; rfl
  | r :: rs => by rw [txts, txts_map ere rs]; rfl

/-- What is asked of a tree ahead of its text: what a right one is; and that the text isn't too long. -/
structure TxOk (ere : Bool) (n : Nat) (k mn mx m : Int) (t : W4) (kids : List Rx) : Prop where
  rep : k = 4 → (∃ r, kids = [r]) ∧ 0 ≤ mn ∧ mn ≤ 20 ∧ -1 ≤ mx ∧ mx ≤ 20
  grp : k = 5 → ∃ r, kids = [r]
  bak : k = 6 → 0 ≤ m ∧ m < 100
  len : kids.length ≤ 100
  w4 : t.a < 18446744073709551616 ∧ t.b < 18446744073709551616 ∧ t.c < 18446744073709551616 ∧ t.d < 18446744073709551616
  kid : ∀ r, r ∈ kids → (txt ere r).length ≤ n
structure TextSaid (ere : Bool) (r : Rx) : Prop where
  all : ∀ (ok : Nat → Prop) (v : Value) (w : World), Is w ok r v → Calls Tryz.prog 23 #[v, .bool ere] w fun e w' => e = .returned (.string (bs (txt ere r))) ∧ Kp w w'

theorem info9 : ∃ i, Tryz.prog.info? 9 = some i ∧ i.zero = some (.string ⟨#[]⟩) ∧ i.size = 1 ∧ i.bytes = 16 := by
  obtain ⟨i, hi, h0, h1, h2⟩ := info_parts (P := Tryz.prog) (e := 9) (z := .string ⟨#[]⟩) (size := 1) (bytes := 16) (by kernel_rfl)
  exact ⟨i, hi, h0, h1, h2⟩
/-- A row of texts that the call owns. -/
def Os (base : Nat) (w : World) (v : Value) (l : List (List UInt8)) : Prop := w.ownsRow base 9 1 v l.length (l.map fun x => Value.string (bs x))
theorem Os.kp {base : Nat} {w w' : World} {v : Value} {l : List (List UInt8)} (h : Os base w v l) (k : Kp w w') : Os base w' v l := owns_kp h k
theorem wpList_append_s {ops : Array Oper} {rest : List Oper} {o : Oper} {a : Act} {Q : Exit → Act → World → Prop} (W : World) (hgd : o.guard = none) (s x : Operand)
    (ho : o.op = .call { callee := .builtin .append, args := #[s, x], argTypes := #[73, 73] })
    (base : Nat) (v : Value) (b : List UInt8) (l : List (List UInt8)) (hs : a.eval s = v) (hown : Hid (Os base W v l)) (B : Nat) (hB : B = W.heap.size)
    (hx : a.eval x = .slice (some ⟨B, 0, none⟩) 1 1) (h63 : l.length ≤ 900) (hbase : base ≤ W.heap.size)
    (h : ∀ v' w', Os base w' v' (l ++ [b]) → W.grownBy w' v.ownBlock → wpList Tryz.prog ops Q rest (a.put o.dst v') w') :
    wpList Tryz.prog ops Q (o :: rest) a (W.alloc (.cells #[.string (bs b)] 9)) := by
  obtain ⟨i, hi, hz, hsz, hby⟩ := info9
  have kal : Kp W (W.alloc (.cells #[.string (bs b)] 9)) := (Kp.refl _).alloc _
  subst hB
  refine wpList_append_own_at (W.alloc (.cells #[.string (bs b)] 9)) hgd s x 73 ho base 9 i (.string ⟨#[]⟩) 1 16 Tryz.underlying73 hi hz hsz hby rfl (by omega) v l.length (l.map fun x => Value.string (bs x)) hs (hown.out.alloc _) ⟨W.heap.size, 0, none⟩ 1 1 [.string (bs b)] hx rfl ?_ ?_ (by unfold maxLen; omega) (by omega) (by simp; omega) ?_
  · intro j y hj
    match j, hj with
    | 0, hj => simp at hj; subst hj; simp [Addr.add]
  · intro y hy; simp at hy; subst hy; rfl
  · intro v' w' a1 a2 _ _
    refine h v' w' ?_ ⟨a2.os.trans rfl, a2.tape.trans rfl, a2.output.trans rfl, Nat.le_trans kal.size a2.size, fun k hk hne => (a2.block k (Nat.lt_of_lt_of_le hk kal.size) hne).trans (kal.block k hk)⟩
    unfold Os
    rw [List.length_append, List.map_append]
    exact a1

set_option maxHeartbeats 2000000 in
set_option maxRecDepth 100000 in
theorem texts_any (ere : Bool) (ts : List Rx) (H : ∀ r, r ∈ ts → TextSaid ere r) (ok : Nat → Prop) (ad : Option Addr) (l c : Nat) (w : World) (hr : RowAt w ok ts ad l c) (hl : ts.length ≤ 100) :
    Calls Tryz.prog 36 #[.slice ad l c, .bool ere] w fun e w' => ∃ v, e = .returned v ∧ Os w.heap.size w' v (txts ere ts) ∧ Kp w w' := by
  have hle := hr.ln
  have hlc := hr.cp
  subst hle
  obtain ⟨L, hL⟩ : ∃ L, ts.length = L := ⟨_, rfl⟩
  rw [hL] at hr hlc hl ⊢
  have HL := hid hL
  have RR := hid hr
  have HH := hid H
  clear hL hr H
  go_enter Tryz.func36, Tryz.ntmps36
  go_wp2_with fail
  go_loopg [5, 10] L (fun gg v i wr => ∃ k : Nat, k + gg = L ∧ i = .int .i64 (k : Int) ∧ Os w.heap.size wr v (txts ere (ts.take k)) ∧ Kp w wr)
  case atStart => exact ⟨0, by omega, rfl, by rw [List.take_zero, txts]; exact World.ownsRow_nil _ _ _ _, Kp.refl _⟩
  case round =>
    obtain ⟨k, hk, rfl, hO, hK⟩ := hrel
    have O := hid hO
    have K := hid hK
    have hsz := hK.size
    clear hO hK
    by_cases hlt : k < L
    · have gkw : IntKind.i64.wrap ((k : Int) + 1) = (k : Int) + 1 := by rw [IntKind.wrap_i64]; omega
      have ga : (k : Int) < (L : Int) := by omega
      have g0 : (0 : Int) ≤ (k : Int) := by omega
      obtain ⟨r, hr⟩ : ∃ r, ts[k]? = some r := ⟨_, List.getElem?_eq_getElem (by rw [HL.out]; exact hlt)⟩
      have htk : txts ere (ts.take (k + 1)) = txts ere (ts.take k) ++ [txt ere r] := by
        rw [txts_map, txts_map, List.take_succ_eq_append_getElem (by rw [HL.out]; exact hlt), List.map_append, (List.getElem?_eq_some_iff.1 hr).2]
        rfl
      have HTK := hid htk
      obtain ⟨bb, oo, kk, mn, mx, mm, tt, ad', ll, cc, e1, hbb, i1, ce1⟩ := (RR.out.kp K.out).at k r hr
      subst e1
      have TS := hid (HH.out r (List.mem_of_getElem? hr))
      have I1 := hid i1
      have CE1 := hid ce1
      clear hr htk i1 ce1
      obtain ⟨x0, x1, x2, x3, x4, x5, x6, x7, x8⟩ := cells_of_is CE1.out
      go_upto_region 5 with fail
      clear x0 x1 x2 x3 x4 x5 x6 x7 x8
      refine opq (fun W => W.heap[wr.heap.size]? = some (rxo kk mn mx mm tt (.slice ad' ll cc)) ∧ Kp wr W) ⟨by exact last_at _ _ _ (by simp), by exact (Kp.refl _).alloc _⟩ ?_
      rintro W1 ⟨y1, y2⟩
      have A1 := hid y1
      have K1 := hid y2
      have hs1 := y2.size
      clear y1 y2
      have a0 := bl_cell (A1.out) 0 _ rfl
      have a1 := bl_cell (A1.out) 1 _ rfl
      have a2 := bl_cell (A1.out) 2 _ rfl
      have a3 := bl_cell (A1.out) 3 _ rfl
      have a4 := bl_cell (A1.out) 4 _ rfl
      have a5 := bl_cell (A1.out) 5 _ rfl
      have a6 := bl_cell (A1.out) 6 _ rfl
      have a7 := bl_cell (A1.out) 7 _ rfl
      have a8 := bl_cell (A1.out) 8 _ rfl
      go_wp2_with fail
      clear a0 a1 a2 a3 a4 a5 a6 a7 a8
      refine (TS.out.all ok _ _ (I1.out.kp K1.out)).mono ?_
      rintro e W2 ⟨rfl, k2⟩
      have O2 := hid (O.out.kp (K1.out.trans k2))
      have K2 := hid (K.out.trans (K1.out.trans k2))
      have hs2 := k2.size
      have hln : (txts ere (ts.take k)).length ≤ 900 := by rw [txts_map, List.length_map, List.length_take]; omega
      clear k2
      go_wp2_with (at_builtin; go_must (refine wpList_append_s W2 (by rfl) _ _ (by rfl) w.heap.size u5 (txt ere r) _ (by rfl) O2 _ (by rfl) (by rfl) hln ?h2 ?_))
      case h2 => omega
      intro v' w3 ho3 hg3
      have O3 : Hid (Os w.heap.size w3 v' (txts ere (ts.take (k + 1)))) := by rw [HTK.out]; exact ho3
      have K3 := hid (K2.out.grownby hg3 (fun b hb => (World.ownsRow.lt O2.out b hb).1))
      clear ho3 hg3
      go_wp2_with fail
      go_roundg (gk - 1)
      case measure => omega
      case rel => exact ⟨k + 1, by omega, by go_num, O3.out, K3.out⟩
    · have ga : ¬ (k : Int) < (L : Int) := by omega
      have E : Hid (ts.take k = ts) := List.take_of_length_le (by rw [HL.out]; omega)
      go_wp2
      go_ret
      exact ⟨_, rfl, by rw [← E.out]; exact O.out, K.out⟩

theorem join_any (base : Nat) (xs : List (List UInt8)) (sep : List UInt8) (v : Value) (w : World) (h : Os base w v xs) (hl : xs.length ≤ 100) (hs : (Lib.join xs sep).length ≤ 10000000) :
    Calls Tryz.prog 35 #[v, .string (bs sep)] w fun e w' => e = .returned (.string (bs (Lib.join xs sep))) ∧ Kp w w' := by
  obtain ⟨h1, h2⟩ := h
  have hmap : (xs.map bs).map (·.data.toList) = xs := by
    rw [List.map_map]
    conv => rhs; rw [← List.map_id xs]
    apply List.map_congr_left
    intro a _
    simp [bs]
  have hsep : (bs sep).data.toList = sep := by simp [bs]
  rcases h2 with ⟨rfl, h0⟩ | ⟨g, cap, cur, rfl, hb, hg, hc, hm, hcs, ht⟩
  · have : xs = [] := List.eq_nil_of_length_eq_zero h0
    subst this
    refine (Tryz.strings_Join_none none 0 (bs sep) w).mono ?_
    rintro e w' ⟨rfl, rfl⟩
    exact ⟨rfl, Kp.refl _⟩
  · have := Tryz.strings_Join g 0 cap (xs.map bs) (bs sep) w ?_ (Array.getElem?_eq_some_iff.1 hg).1 (by rw [List.length_map]; omega) (by rw [List.length_map]; omega) (by rw [hmap, hsep]; omega)
    · rw [hmap, hsep, List.length_map] at this
      exact this
    · intro j x hj
      rw [Nat.zero_add]
      rw [List.getElem?_map] at hj
      obtain ⟨y, hy, rfl⟩ : ∃ y, xs[j]? = some y ∧ bs y = x := by
        cases hq : xs[j]? with
        | none => rw [hq] at hj; cases hj
        | some y => rw [hq] at hj; injection hj with hj; exact ⟨y, rfl, hj⟩
      have hj' : j < xs.length := (List.getElem?_eq_some_iff.1 hy).1
      refine bl_cell hg j _ ?_
      have e1 : (cur.toList.take (xs.length * 1))[j]? = (xs.map fun x => Value.string (bs x))[j]? := by rw [ht]
      rw [List.getElem?_take, if_pos (by omega), Array.getElem?_toList] at e1
      rw [e1, List.getElem?_map, hy]
      rfl
end Go.Proofs.YtikmgckefbjbkabGreatDoor

/-! ### Text4 -/

namespace Go.Proofs.YtikmgckefbjbkabGreatDoor
open Go.RowKit

/-- What is asked of one node ahead of its text. -/
structure TxNode (ere : Bool) (k mn mx m : Int) (t : W4) (kids : List Rx) : Prop where
  rep : k = 4 → (∃ r, kids = [r]) ∧ 0 ≤ mn ∧ mn ≤ 20 ∧ -1 ≤ mx ∧ mx ≤ 20
  grp : k = 5 → ∃ r, kids = [r]
  bak : k = 6 → 0 ≤ m ∧ m < 100
  len : kids.length ≤ 100
  w4 : t.a < 18446744073709551616 ∧ t.b < 18446744073709551616 ∧ t.c < 18446744073709551616 ∧ t.d < 18446744073709551616
  all : (txt ere (.mk k mn mx m t kids)).length ≤ 1000000
  kid : ∀ r, r ∈ kids → (txt ere r).length ≤ 1000000

set_option maxHeartbeats 2000000 in
set_option maxRecDepth 100000 in
theorem text_step (ere : Bool) (k mn mx m : Int) (t : W4) (kids : List Rx) (H : ∀ r, r ∈ kids → TextSaid ere r) (hN : TxNode ere k mn mx m t kids) : TextSaid ere (.mk k mn mx m t kids) := by
  refine ⟨fun ok v w hI => ?_⟩
  obtain ⟨ad, l, c, rfl, hr⟩ := hI.row
  have RR := hid hr
  have HN := hid hN
  have HH := hid H
  have HSV : Hid (vv t.a t.b t.c t.d = sv (W4.bit t)) := vv_sv t.a t.b t.c t.d hN.w4.1 hN.w4.2.1 hN.w4.2.2.1 hN.w4.2.2.2
  have HA := hid hN.all
  clear hI hr hN H
  obtain ⟨o, ho⟩ : ∃ o, txt ere (.mk k mn mx m t kids) = o := ⟨_, rfl⟩
  rw [ho] at HA ⊢
  unfold txt at ho
  have HO := hid ho
  clear ho
  go_enter Tryz.func23, Tryz.ntmps23
  go_upto_region 1 with fail
  refine opq (fun W0 => W0.heap[w.heap.size]? = some (rxo k mn mx m t (.slice ad l c)) ∧ Kp w W0 ∧ RowAt W0 ok kids ad l c) ⟨by (first | exact last_at _ _ _ (by simp) | (refine bl_alloc ?_ _; first | exact last_at _ _ _ (by simp) | (refine bl_alloc ?_ _; first | exact last_at _ _ _ (by simp) | (refine bl_alloc ?_ _; exact last_at _ _ _ (by simp))))), by exact (by repeat (first | exact Kp.refl _ | refine Kp.alloc ?_ _ | refine Kp.drew ?_ | refine Kp.drewN _ ?_)), by exact RR.out.kp (by repeat (first | exact Kp.refl _ | refine Kp.alloc ?_ _ | refine Kp.drew ?_ | refine Kp.drewN _ ?_))⟩ ?_
  rintro W0 ⟨xA0, xK0, xR0⟩
  have A0 : Hid (W0.heap[w.heap.size]? = some (rxo k mn mx m t (.slice ad l c))) := xA0
  have K0 : Hid (Kp w W0) := xK0
  have R0 : Hid (RowAt W0 ok kids ad l c) := xR0
  clear xA0 xK0 xR0
  have a0 := bl_cell (A0.out) 0 _ rfl
  have a1 := bl_cell (A0.out) 1 _ rfl
  have a2 := bl_cell (A0.out) 2 _ rfl
  have a3 := bl_cell (A0.out) 3 _ rfl
  have a4 := bl_cell (A0.out) 4 _ rfl
  have a5 := bl_cell (A0.out) 5 _ rfl
  have a6 := bl_cell (A0.out) 6 _ rfl
  have a7 := bl_cell (A0.out) 7 _ rfl
  have a8 := bl_cell (A0.out) 8 _ rfl
  by_cases k1 : k = 1
  · subst k1
    have E : Hid (o = setT (W4.bit t) ere) := by show _ = _; rw [← HO.out, if_pos rfl]
    have ST : Hid (∀ w, Calls Tryz.prog 34 #[vv t.a t.b t.c t.d, .bool ere] w fun e w' => e = .returned (.string (bs (setT (W4.bit t) ere))) ∧ Kp w w') := fun w => by rw [HSV.out]; exact setText_any _ _ w
    go_wp2_with fail
    clear a0 a1 a2 a3 a4 a5 a6 a7 a8
    refine (ST.out _).mono ?_
    rintro e W1 ⟨rfl, k1⟩
    have K1 := hid (K0.out.trans k1)
    clear k1
    go_wp2_with fail
    go_ret
    exact ⟨by rw [E.out]; rfl, K1.out⟩
  by_cases k2 : k = 2
  · subst k2
    have E : Hid (o = Lib.join (txts ere kids) []) := by show _ = _; rw [← HO.out, if_neg (by omega), if_pos rfl]
    have hlen : (txts ere kids).length ≤ 100 := by rw [txts_map, List.length_map]; exact HN.out.len
    have hjl : Hid ((Lib.join (txts ere kids) []).length ≤ 1000000) := by have := HA.out; rw [E.out] at this; exact this
    go_wp2_with fail
    clear a0 a1 a2 a3 a4 a5 a6 a7 a8
    refine (texts_any ere kids HH.out ok ad l c _ R0.out HN.out.len).mono ?_
    rintro e W1 ⟨v1, rfl, o1, k1⟩
    have O1 := hid o1
    have K1 := hid (K0.out.trans k1)
    clear k1 o1
    go_wp2_with fail
    refine (join_any _ (txts ere kids) [] v1 _ O1.out hlen (by have := hjl.out; omega)).mono ?_
    rintro e W2 ⟨rfl, k2⟩
    have K2 := hid (K1.out.trans k2)
    clear k2
    go_wp2_with fail
    go_ret
    exact ⟨by rw [E.out]; rfl, K2.out⟩
  by_cases k3 : k = 3
  · subst k3
    have E : Hid (o = Lib.join (txts ere kids) [124]) := by show _ = _; rw [← HO.out, if_neg (by omega), if_neg (by omega), if_pos rfl]
    have hlen : (txts ere kids).length ≤ 100 := by rw [txts_map, List.length_map]; exact HN.out.len
    have hjl : Hid ((Lib.join (txts ere kids) [124]).length ≤ 1000000) := by have := HA.out; rw [E.out] at this; exact this
    go_wp2_with fail
    clear a0 a1 a2 a3 a4 a5 a6 a7 a8
    refine (texts_any ere kids HH.out ok ad l c _ R0.out HN.out.len).mono ?_
    rintro e W1 ⟨v1, rfl, o1, k1⟩
    have O1 := hid o1
    have K1 := hid (K0.out.trans k1)
    clear k1 o1
    go_wp2_with fail
    refine (join_any _ (txts ere kids) [124] v1 _ O1.out hlen (by have := hjl.out; omega)).mono ?_
    rintro e W2 ⟨rfl, k2⟩
    have K2 := hid (K1.out.trans k2)
    clear k2
    go_wp2_with fail
    go_ret
    exact ⟨by rw [E.out]; rfl, K2.out⟩
  by_cases k4 : k = 4
  · subst k4
    obtain ⟨⟨r, rfl⟩, b1, b2, b3, b4⟩ := HN.out.rep rfl
    obtain ⟨lo, rfl⟩ : ∃ lo : Nat, mn = lo := ⟨mn.toNat, by omega⟩
    have E : Hid (o = txt ere r ++ timesT lo mx ere) := by show _ = _; rw [← HO.out, if_neg (by omega), if_neg (by omega), if_neg (by omega), if_pos rfl]; rfl
    obtain ⟨bb, oo, kk, mn', mx', mm', tt', ad', ll', cc', e1, hbb, i1, ce1⟩ := R0.out.at 0 r rfl
    subst e1
    rw [Nat.zero_mul, Nat.add_zero] at ce1
    have hl1 : l = 1 := R0.out.ln
    subst hl1
    have I0 := hid i1
    have CE0 := hid ce1
    have hcap := R0.out.cp
    have TS := hid (HH.out r (by simp))
    have hkl : Hid ((txt ere r).length ≤ 1000000) := HN.out.kid r (by simp)
    clear i1 ce1
    have hb2 : lo ≤ 20 := by omega
    have hz1 : (bs (txt ere r)).size ≤ 1000000 := by rw [bs_size]; exact hkl.out
    have hz2 : (bs (timesT lo mx ere)).size ≤ 1000000 := by rw [bs_size]; have := HA.out; rw [E.out, List.length_append] at this; omega
    have E2 : Hid (bs o = bs (txt ere r) ++ bs (timesT lo mx ere)) := by show _ = _; rw [E.out, bs_app]
    obtain ⟨X, hX⟩ : ∃ X, bs (txt ere r) = X := ⟨_, rfl⟩
    obtain ⟨Y, hY⟩ : ∃ Y, bs (timesT lo mx ere) = Y := ⟨_, rfl⟩
    have TT : Hid (∀ w, Calls Tryz.prog 37 #[.int .i64 (lo : Int), .int .i64 mx, .bool ere] w fun e w' => e = .returned (.string Y) ∧ w' = w) := fun w => by rw [← hY]; exact timesText_any lo mx ere hb2 b3 b4 w
    rw [hX, hY] at E2
    rw [hX] at hz1
    rw [hY] at hz2
    have HX := hid hX
    clear hX hY
    go_upto_region 9 with fail
    clear a0 a1 a2 a3 a4 a5 a6 a7 a8
    have Q0 : Kp W0 W0.drew := (Kp.refl _).drew
    have MK : Hid (∀ W, Kp W0 W → W.cell? ⟨w.heap.size, 8, none⟩ = some (.slice (some ⟨bb, oo, none⟩) 1 c) ∧ W.cell? ⟨w.heap.size, 1, none⟩ = some (.int .i64 (lo : Int)) ∧ W.cell? ⟨w.heap.size, 2, none⟩ = some (.int .i64 mx) ∧ W.cell? ⟨bb, oo, none⟩ = some (.int .i64 kk) ∧ W.cell? ⟨bb, (oo + 1), none⟩ = some (.int .i64 mn') ∧ W.cell? ⟨bb, (oo + 2), none⟩ = some (.int .i64 mx') ∧ W.cell? ⟨bb, (oo + 3), none⟩ = some (.int .i64 mm') ∧ W.cell? ⟨bb, (oo + 4), none⟩ = some (Value.int .u64 (tt'.a : Int)) ∧ W.cell? ⟨bb, (oo + 5), none⟩ = some (Value.int .u64 (tt'.b : Int)) ∧ W.cell? ⟨bb, (oo + 6), none⟩ = some (Value.int .u64 (tt'.c : Int)) ∧ W.cell? ⟨bb, (oo + 7), none⟩ = some (Value.int .u64 (tt'.d : Int)) ∧ W.cell? ⟨bb, (oo + 8), none⟩ = some (Value.slice ad' ll' cc') ∧ Hid (Kp W0 W)) := fun W k => ⟨bl_cell (bl_kp A0.out k) 8 _ rfl, bl_cell (bl_kp A0.out k) 1 _ rfl, bl_cell (bl_kp A0.out k) 2 _ rfl, (cells_of_is (CE0.out.turn (k.block _ hbb))).1, (cells_of_is (CE0.out.turn (k.block _ hbb))).2.1, (cells_of_is (CE0.out.turn (k.block _ hbb))).2.2.1, (cells_of_is (CE0.out.turn (k.block _ hbb))).2.2.2.1, (cells_of_is (CE0.out.turn (k.block _ hbb))).2.2.2.2.1, (cells_of_is (CE0.out.turn (k.block _ hbb))).2.2.2.2.2.1, (cells_of_is (CE0.out.turn (k.block _ hbb))).2.2.2.2.2.2.1, (cells_of_is (CE0.out.turn (k.block _ hbb))).2.2.2.2.2.2.2.1, (cells_of_is (CE0.out.turn (k.block _ hbb))).2.2.2.2.2.2.2.2, k⟩
    refine wp_region_noPanic ?_
    refine wp_region_held_drew (S := (fun W => W.cell? ⟨w.heap.size, 8, none⟩ = some (.slice (some ⟨bb, oo, none⟩) 1 c) ∧ W.cell? ⟨w.heap.size, 1, none⟩ = some (.int .i64 (lo : Int)) ∧ W.cell? ⟨w.heap.size, 2, none⟩ = some (.int .i64 mx) ∧ W.cell? ⟨bb, oo, none⟩ = some (.int .i64 kk) ∧ W.cell? ⟨bb, (oo + 1), none⟩ = some (.int .i64 mn') ∧ W.cell? ⟨bb, (oo + 2), none⟩ = some (.int .i64 mx') ∧ W.cell? ⟨bb, (oo + 3), none⟩ = some (.int .i64 mm') ∧ W.cell? ⟨bb, (oo + 4), none⟩ = some (Value.int .u64 (tt'.a : Int)) ∧ W.cell? ⟨bb, (oo + 5), none⟩ = some (Value.int .u64 (tt'.b : Int)) ∧ W.cell? ⟨bb, (oo + 6), none⟩ = some (Value.int .u64 (tt'.c : Int)) ∧ W.cell? ⟨bb, (oo + 7), none⟩ = some (Value.int .u64 (tt'.d : Int)) ∧ W.cell? ⟨bb, (oo + 8), none⟩ = some (Value.slice ad' ll' cc') ∧ Hid (Kp W0 W))) (by kernel_rfl) ?_ (fun hH => ?_)
    · exact MK.out _ Q0
    have KQ := Q0
    refine wpAnyH_take (i := 0) (oi := { dst := some 29, op := Op.fieldAddr 30 (Operand.tmp 2) 5, type := 0, pos := "print.go:47", after := #[], guard := none }) (v := ?v0a1) rfl (by kernel_rfl) (by kernel_rfl) (by kernel_rfl) (fun _ _ _ h => h) (Or.inl ⟨by rfl, ?hy0a1⟩) hH ?r0a1
    case hy0a1 => (intro W hSw; (try dsimp only at hSw); go_simp; try (with_reducible rfl))
    try simp only [Act.put, List.setIfInBounds_toArray, List.set_cons_zero, List.set_cons_succ]
    refine wpAnyH_take (i := 1) (oi := { dst := some 30, op := Op.load 28 (Operand.tmp 29), type := 28, pos := "print.go:47", after := #[{ on := 0, ground := Ground.data }], guard := none }) (v := ?v1a2) rfl (by kernel_rfl) (by kernel_rfl) (by kernel_rfl) (fun _ _ _ h => h) (Or.inl ⟨by rfl, ?hy1a2⟩) hH ?r1a2
    case hy1a2 => (intro W hSw; (try dsimp only at hSw); go_simp; try (with_reducible rfl))
    try simp only [Act.put, List.setIfInBounds_toArray, List.set_cons_zero, List.set_cons_succ]
    refine wpAnyH_take (i := 2) (oi := { dst := some 31, op := Op.indexAddr 28 (Operand.tmp 30) (Operand.const (Value.int IntKind.i64 0)), type := 0, pos := "print.go:47", after := #[{ on := 1, ground := Ground.data }], guard := none }) (v := ?v2a3) rfl (by kernel_rfl) (by kernel_rfl) (by kernel_rfl) (fun _ _ _ h => h) (Or.inl ⟨by rfl, ?hy2a3⟩) hH ?r2a3
    case hy2a3 => (intro W hSw; (try dsimp only at hSw); go_simp; try (with_reducible rfl))
    try simp only [Act.put, List.setIfInBounds_toArray, List.set_cons_zero, List.set_cons_succ]
    refine wpAnyH_take (i := 3) (oi := { dst := some 32, op := Op.load 30 (Operand.tmp 31), type := 30, pos := "print.go:47", after := #[{ on := 2, ground := Ground.data }], guard := none }) (v := ?v3a4) rfl (by kernel_rfl) (by kernel_rfl) (by kernel_rfl) (fun _ _ _ h => h) (Or.inl ⟨by rfl, ?hy3a4⟩) hH ?r3a4
    case hy3a4 => (intro W hSw; (try dsimp only at hSw); go_simp; try (with_reducible rfl))
    try simp only [Act.put, List.setIfInBounds_toArray, List.set_cons_zero, List.set_cons_succ]
    refine wpAnyH_take (i := 4) (oi := { dst := some 33, op := Op.move (Operand.tmp 1), type := 4, pos := "print.go:47", after := #[], guard := none }) (v := ?v4a5) rfl (by kernel_rfl) (by kernel_rfl) (by kernel_rfl) (fun _ _ _ h => h) (Or.inl ⟨by rfl, ?hy4a5⟩) hH ?r4a5
    case hy4a5 => (intro W hSw; (try dsimp only at hSw); go_simp; try (with_reducible rfl))
    try simp only [Act.put, List.setIfInBounds_toArray, List.set_cons_zero, List.set_cons_succ]
    refine wpAnyH_take (i := 6) (oi := { dst := some 35, op := Op.fieldAddr 30 (Operand.tmp 2) 1, type := 0, pos := "print.go:47", after := #[], guard := none }) (v := ?v6a6) rfl (by kernel_rfl) (by kernel_rfl) (by kernel_rfl) (fun _ _ _ h => h) (Or.inl ⟨by rfl, ?hy6a6⟩) hH ?r6a6
    case hy6a6 => (intro W hSw; (try dsimp only at hSw); go_simp; try (with_reducible rfl))
    try simp only [Act.put, List.setIfInBounds_toArray, List.set_cons_zero, List.set_cons_succ]
    refine wpAnyH_take (i := 7) (oi := { dst := some 36, op := Op.load 3 (Operand.tmp 35), type := 3, pos := "print.go:47", after := #[{ on := 6, ground := Ground.data }], guard := none }) (v := ?v7a7) rfl (by kernel_rfl) (by kernel_rfl) (by kernel_rfl) (fun _ _ _ h => h) (Or.inl ⟨by rfl, ?hy7a7⟩) hH ?r7a7
    case hy7a7 => (intro W hSw; (try dsimp only at hSw); go_simp; try (with_reducible rfl))
    try simp only [Act.put, List.setIfInBounds_toArray, List.set_cons_zero, List.set_cons_succ]
    refine wpAnyH_take (i := 8) (oi := { dst := some 37, op := Op.fieldAddr 30 (Operand.tmp 2) 2, type := 0, pos := "print.go:47", after := #[], guard := none }) (v := ?v8a8) rfl (by kernel_rfl) (by kernel_rfl) (by kernel_rfl) (fun _ _ _ h => h) (Or.inl ⟨by rfl, ?hy8a8⟩) hH ?r8a8
    case hy8a8 => (intro W hSw; (try dsimp only at hSw); go_simp; try (with_reducible rfl))
    try simp only [Act.put, List.setIfInBounds_toArray, List.set_cons_zero, List.set_cons_succ]
    refine wpAnyH_take (i := 9) (oi := { dst := some 38, op := Op.load 3 (Operand.tmp 37), type := 3, pos := "print.go:47", after := #[{ on := 8, ground := Ground.data }], guard := none }) (v := ?v9a9) rfl (by kernel_rfl) (by kernel_rfl) (by kernel_rfl) (fun _ _ _ h => h) (Or.inl ⟨by rfl, ?hy9a9⟩) hH ?r9a9
    case hy9a9 => (intro W hSw; (try dsimp only at hSw); go_simp; try (with_reducible rfl))
    try simp only [Act.put, List.setIfInBounds_toArray, List.set_cons_zero, List.set_cons_succ]
    refine wpAnyH_take (i := 10) (oi := { dst := some 39, op := Op.move (Operand.tmp 1), type := 4, pos := "print.go:47", after := #[], guard := none }) (v := ?v10a10) rfl (by kernel_rfl) (by kernel_rfl) (by kernel_rfl) (fun _ _ _ h => h) (Or.inl ⟨by rfl, ?hy10a10⟩) hH ?r10a10
    case hy10a10 => (intro W hSw; (try dsimp only at hSw); go_simp; try (with_reducible rfl))
    try simp only [Act.put, List.setIfInBounds_toArray, List.set_cons_zero, List.set_cons_succ]
    refine wpAnyH_ready (rs := [5]) (by kernel_rfl) (by simp) ?_
    refine AllReadyH.cons (o := { dst := some 34, op := Op.call { callee := Callee.value (Operand.func 23), args := #[Operand.tmp 32, Operand.tmp 33], argTypes := #[30, 4] }, type := 9, pos := "print.go:47", after := #[{ on := 3, ground := Ground.data }, { on := 4, ground := Ground.data }], guard := none }) rfl (fun K hKq => ?_) AllReadyH.nil
    go_simp
    refine (TS.out.all ok _ _ (I0.out.kp KQ)).mono ?_
    rintro e y1 ⟨rfl, kq⟩
    rw [HX.out]
    refine hKq.out _ _ (MK.out _ (KQ.trans kq)) (fun hN => ?_)
    clear kq
    clear hKq K hH KQ
    have hH := hN
    clear hN
    have KQ := hH.2.2.2.2.2.2.2.2.2.2.2.2.out
    try simp only [Act.put, List.setIfInBounds_toArray, List.set_cons_zero, List.set_cons_succ]
    refine wpAnyH_ready (rs := [11]) (by kernel_rfl) (by simp) ?_
    refine AllReadyH.cons (o := { dst := some 40, op := Op.call { callee := Callee.value (Operand.func 37), args := #[Operand.tmp 36, Operand.tmp 38, Operand.tmp 39], argTypes := #[3, 3, 4] }, type := 9, pos := "print.go:47", after := #[{ on := 7, ground := Ground.data }, { on := 9, ground := Ground.data }, { on := 10, ground := Ground.data }, { on := 5, ground := Ground.chain }], guard := none }) rfl (fun K hKq => ?_) AllReadyH.nil
    go_simp
    refine (TT.out _).mono ?_
    rintro e yy ⟨rfl, rfl⟩
    refine hKq.out _ _ (MK.out _ KQ) (fun hN => ?_)
    clear hKq K hH KQ
    have hH := hN
    clear hN
    have KQ := hH.2.2.2.2.2.2.2.2.2.2.2.2.out
    try simp only [Act.put, List.setIfInBounds_toArray, List.set_cons_zero, List.set_cons_succ]
    refine wpAnyH_take (i := 12) (oi := { dst := some 41, op := Op.binOp BinOp.add 9 (Operand.tmp 34) (Operand.tmp 40) 9, type := 9, pos := "print.go:47", after := #[{ on := 5, ground := Ground.data }, { on := 11, ground := Ground.data }], guard := none }) (v := ?v12a11) rfl (by kernel_rfl) (by kernel_rfl) (by kernel_rfl) (fun _ _ _ h => h) (Or.inl ⟨by rfl, ?hy12a11⟩) hH ?r12a11
    case hy12a11 => (intro W hSw; (try dsimp only at hSw); go_simp; rw [if_neg (by omega)])
    try simp only [Act.put, List.setIfInBounds_toArray, List.set_cons_zero, List.set_cons_succ]
    refine wpAnyH_take (i := 13) (oi := { dst := some 4, op := Op.assign (Operand.tmp 41), type := 9, pos := "print.go:47", after := #[{ on := 12, ground := Ground.data }, { on := 11, ground := Ground.chain }, { on := 0, ground := Ground.phase }, { on := 1, ground := Ground.phase }, { on := 2, ground := Ground.phase }, { on := 3, ground := Ground.phase }, { on := 4, ground := Ground.phase }, { on := 5, ground := Ground.phase }, { on := 6, ground := Ground.phase }, { on := 7, ground := Ground.phase }, { on := 8, ground := Ground.phase }, { on := 9, ground := Ground.phase }, { on := 10, ground := Ground.phase }, { on := 11, ground := Ground.phase }, { on := 12, ground := Ground.phase }], guard := none }) (v := ?v13a12) rfl (by kernel_rfl) (by kernel_rfl) (by kernel_rfl) (fun _ _ _ h => h) (Or.inl ⟨by rfl, ?hy13a12⟩) hH ?r13a12
    case hy13a12 => (intro W hSw; (try dsimp only at hSw); go_simp; try (with_reducible rfl))
    try simp only [Act.put, List.setIfInBounds_toArray, List.set_cons_zero, List.set_cons_succ]
    refine wpAnyH_done (by kernel_rfl) ?_ _
    refine NoPanic.normal ?_
    go_wp2_with fail
    go_ret
    exact ⟨by rw [E2.out]; rfl, K0.out.trans KQ⟩
  by_cases k5 : k = 5
  · subst k5
    obtain ⟨r, rfl⟩ := HN.out.grp rfl
    have E : Hid (o = framedT [40] (txt ere r) [41] ere) := by show _ = _; rw [← HO.out, if_neg (by omega), if_neg (by omega), if_neg (by omega), if_neg (by omega), if_pos rfl]; rfl
    obtain ⟨bb, oo, kk, mn', mx', mm', tt', ad', ll', cc', e1, hbb, i1, ce1⟩ := R0.out.at 0 r rfl
    subst e1
    rw [Nat.zero_mul, Nat.add_zero] at ce1
    have hl1 : l = 1 := R0.out.ln
    subst hl1
    have I0 := hid i1
    have CE0 := hid ce1
    have hcap := R0.out.cp
    have TS := hid (HH.out r (by simp))
    have hkl : Hid ((txt ere r).length ≤ 1000000) := HN.out.kid r (by simp)
    clear i1 ce1
    have FR := hid (framed_any [40] (txt ere r) [41] ere (by simp) (by have := hkl.out; omega) (by simp))
    obtain ⟨x0, x1, x2, x3, x4, x5, x6, x7, x8⟩ := cells_of_is CE0.out
    go_wp2_with fail
    clear x0 x1 x2 x3 x4 x5 x6 x7 x8
    clear a0 a1 a2 a3 a4 a5 a6 a7 a8
    refine (TS.out.all ok _ _ I0.out).mono ?_
    rintro e W1 ⟨rfl, k1⟩
    have K1 := hid (K0.out.trans k1)
    clear k1
    go_wp2_with fail
    refine (FR.out _).mono ?_
    rintro e W1 ⟨rfl, rfl⟩
    go_wp2_with fail
    go_ret
    exact ⟨by rw [E.out]; rfl, K1.out⟩
  by_cases k6 : k = 6
  · subst k6
    obtain ⟨b1, b2⟩ := HN.out.bak rfl
    obtain ⟨q, rfl⟩ : ∃ q : Nat, m = q := ⟨m.toNat, by omega⟩
    have E : Hid (o = [92] ++ dec q) := by show _ = _; rw [← HO.out, if_neg (by omega), if_neg (by omega), if_neg (by omega), if_neg (by omega), if_neg (by omega), if_pos rfl]; rfl
    have hz : (bs (dec q)).size ≤ 2 := by rw [bs_size]; exact dec_len q (by omega)
    have E2 : Hid (bs o = bs [92] ++ bs (dec q)) := by show _ = _; rw [E.out, bs_app]
    obtain ⟨X, hX⟩ : ∃ X, bs (dec q) = X := ⟨_, rfl⟩
    have IT : Hid (∀ w, Calls Tryz.prog 39 #[.int .i64 (q : Int)] w fun e w' => e = .returned (.string X) ∧ w' = w) := fun w => by rw [← hX]; exact itoa_any q (by omega) w
    rw [hX] at hz E2
    clear hX
    go_wp2_with fail
    clear a0 a1 a2 a3 a4 a5 a6 a7 a8
    refine (IT.out _).mono ?_
    rintro e W0 ⟨rfl, rfl⟩
    go_wp2_with fail
    go_ret
    exact ⟨by rw [E2.out]; rfl, K0.out⟩
  by_cases k7 : k = 7
  · subst k7
    have E : Hid (o = [94]) := by show _ = _; rw [← HO.out, if_neg (by omega), if_neg (by omega), if_neg (by omega), if_neg (by omega), if_neg (by omega), if_neg (by omega), if_pos rfl]
    go_wp2_with fail
    go_ret
    exact ⟨by rw [E.out]; rfl, K0.out⟩
  have g1 : (k == 1) = false := by simp [k1]
  have g2 : (k == 2) = false := by simp [k2]
  have g3 : (k == 3) = false := by simp [k3]
  have g4 : (k == 4) = false := by simp [k4]
  have g5 : (k == 5) = false := by simp [k5]
  have g6 : (k == 6) = false := by simp [k6]
  have g7 : (k == 7) = false := by simp [k7]
  have E : Hid (o = [36]) := by show _ = _; rw [← HO.out, if_neg (by omega), if_neg (by omega), if_neg (by omega), if_neg (by omega), if_neg (by omega), if_neg (by omega), if_neg (by omega)]
  go_wp2_with fail
  go_ret
  exact ⟨by rw [E.out]; rfl, K0.out⟩

/-- A tree whose text can be made. -/
def TxFit (ere : Bool) : Rx → Prop
  | .mk k mn mx m t kids => TxNode ere k mn mx m t kids ∧ ∀ a, a ∈ kids → TxFit ere a
termination_by r => SizeOf.sizeOf r
decreasing_by
  have := List.sizeOf_lt_of_mem (by assumption)
  simp
  omega
theorem text_all (ere : Bool) : ∀ a, TxFit ere a → TextSaid ere a
  | .mk k mn mx n s kids, h => by
    unfold TxFit at h
    exact text_step ere k mn mx n s kids (fun a ha => text_all ere a (h.2 a ha)) h.1
termination_by a => SizeOf.sizeOf a
decreasing_by
  have := List.sizeOf_lt_of_mem ha
  simp
  omega

/-- What Print answers. -/
def printT (ere : Bool) (r : Rx) : List UInt8 := if right ere r then txt ere r else []
set_option maxHeartbeats 2000000 in
set_option maxRecDepth 100000 in
theorem print_any (r : Rx) (ere : Bool) (ok : Nat → Prop) (k mn mx m : Int) (t : W4) (ad : Option Addr) (l c : Nat) (w : World) (hR : RxOk r) (hT : right ere r = true → TxFit ere r) (hI : Is w ok r (rxv k mn mx m t (.slice ad l c))) :
    Calls Tryz.prog 16 #[rxv k mn mx m t (.slice ad l c), .bool ere] w fun e w' => e = .returned (.string (bs (printT ere r))) ∧ Kp w w' := by
  have HI := hid hI
  have HR := hid hR
  have HT := hid hT
  clear hI hR hT
  obtain ⟨q, hq⟩ : ∃ q, right ere r = q := ⟨_, rfl⟩
  have HQ := hid hq
  clear hq
  go_enter Tryz.func16, Tryz.ntmps16
  go_upto_region 1 with fail
  refine opq (fun W0 => W0.heap[w.heap.size]? = some (rxo k mn mx m t (.slice ad l c)) ∧ Kp w W0 ∧ Is W0 ok r (rxv k mn mx m t (.slice ad l c))) ⟨by (first | exact last_at _ _ _ (by simp) | (refine bl_alloc ?_ _; first | exact last_at _ _ _ (by simp) | (refine bl_alloc ?_ _; first | exact last_at _ _ _ (by simp) | (refine bl_alloc ?_ _; exact last_at _ _ _ (by simp))))), by exact (by repeat (first | exact Kp.refl _ | refine Kp.alloc ?_ _ | refine Kp.drew ?_ | refine Kp.drewN _ ?_)), by exact HI.out.kp (by repeat (first | exact Kp.refl _ | refine Kp.alloc ?_ _ | refine Kp.drew ?_ | refine Kp.drewN _ ?_))⟩ ?_
  rintro W0 ⟨xA0, xK0, xI0⟩
  have A0 : Hid (W0.heap[w.heap.size]? = some (rxo k mn mx m t (.slice ad l c))) := xA0
  have K0 : Hid (Kp w W0) := xK0
  have I0 : Hid (Is W0 ok r (rxv k mn mx m t (.slice ad l c))) := xI0
  clear xA0 xK0 xI0
  have a0 := bl_cell (A0.out) 0 _ rfl
  have a1 := bl_cell (A0.out) 1 _ rfl
  have a2 := bl_cell (A0.out) 2 _ rfl
  have a3 := bl_cell (A0.out) 3 _ rfl
  have a4 := bl_cell (A0.out) 4 _ rfl
  have a5 := bl_cell (A0.out) 5 _ rfl
  have a6 := bl_cell (A0.out) 6 _ rfl
  have a7 := bl_cell (A0.out) 7 _ rfl
  have a8 := bl_cell (A0.out) 8 _ rfl
  go_wp2_with fail
  clear a0 a1 a2 a3 a4 a5 a6 a7 a8
  refine (Right_any r ere ok k mn mx m t ad l c _ HR.out I0.out).mono ?_
  rintro e W1 ⟨rfl, k1⟩
  rw [HQ.out]
  have A1 := hid (bl_kp A0.out k1)
  have I1 := hid (I0.out.kp k1)
  have K1 := hid (K0.out.trans k1)
  clear k1
  cases q with
  | false =>
    have E : Hid (printT ere r = []) := by show _ = _; unfold printT; rw [HQ.out]; rfl
    go_wp2_with fail
    go_ret
    exact ⟨by rw [E.out]; rfl, K1.out⟩
  | true =>
    have E : Hid (printT ere r = txt ere r) := by show _ = _; unfold printT; rw [HQ.out]; rfl
    have a0 := bl_cell (A1.out) 0 _ rfl
    have a1 := bl_cell (A1.out) 1 _ rfl
    have a2 := bl_cell (A1.out) 2 _ rfl
    have a3 := bl_cell (A1.out) 3 _ rfl
    have a4 := bl_cell (A1.out) 4 _ rfl
    have a5 := bl_cell (A1.out) 5 _ rfl
    have a6 := bl_cell (A1.out) 6 _ rfl
    have a7 := bl_cell (A1.out) 7 _ rfl
    have a8 := bl_cell (A1.out) 8 _ rfl
    go_wp2_with fail
    clear a0 a1 a2 a3 a4 a5 a6 a7 a8
    refine ((text_all ere r (HT.out HQ.out)).all ok _ _ I1.out).mono ?_
    rintro e W2 ⟨rfl, k2⟩
    have K2 := hid (K1.out.trans k2)
    clear k2
    go_wp2_with fail
    go_ret
    exact ⟨by rw [E.out]; rfl, K2.out⟩
end Go.Proofs.YtikmgckefbjbkabGreatDoor

/-! ### Runs -/

namespace Go.Proofs.YtikmgckefbjbkabGreatDoor
open Go.RowKit

def Rx.kn : Rx → Nat | .mk _ _ _ _ _ kids => kids.length
def Rx.set : Rx → W4 | .mk _ _ _ _ s _ => s
mutual
def rxOkB : Rx → Bool
  | .mk _ _ _ _ s kids => decide (kids.length ≤ 1000000) && decide (s.a < 18446744073709551616) && decide (s.b < 18446744073709551616) && decide (s.c < 18446744073709551616) && decide (s.d < 18446744073709551616) && rxOkL kids
def rxOkL : List Rx → Bool
  | [] => true
  | r :: rs => rxOkB r && rxOkL rs
end
theorem rxOkL_mem : ∀ (rs : List Rx), rxOkL rs = true → ∀ r ∈ rs, rxOkB r = true
  | [], _, r, h => by simp at h
  | x :: rs, h, r, hr => by
    unfold rxOkL at h
    rw [Bool.and_eq_true] at h
    rcases List.mem_cons.1 hr with rfl | hr
    · exact h.1
    · exact rxOkL_mem rs h.2 r hr
theorem rxOk_of : ∀ r, rxOkB r = true → RxOk r
  | .mk k mn mx n s kids, h => by
    unfold rxOkB at h
    simp only [Bool.and_eq_true, decide_eq_true_eq] at h
    obtain ⟨⟨⟨⟨⟨h1, h2⟩, h3⟩, h4⟩, h5⟩, h6⟩ := h
    unfold RxOk
    exact ⟨h1, ⟨h2, h3, h4, h5⟩, fun a ha => rxOk_of a (rxOkL_mem kids h6 a ha)⟩
termination_by r => SizeOf.sizeOf r
decreasing_by
  have := List.sizeOf_lt_of_mem ha
  simp
  omega
def txNodeB (ere : Bool) (k mn mx m : Int) (t : W4) (kids : List Rx) : Bool :=
  (k != 4 || (kids.length == 1 && decide (0 ≤ mn) && decide (mn ≤ 20) && decide (-1 ≤ mx) && decide (mx ≤ 20))) && (k != 5 || kids.length == 1) && (k != 6 || (decide (0 ≤ m) && decide (m < 100))) && decide (kids.length ≤ 100)
  && (decide (t.a < 18446744073709551616) && decide (t.b < 18446744073709551616) && decide (t.c < 18446744073709551616) && decide (t.d < 18446744073709551616)) && decide ((txt ere (.mk k mn mx m t kids)).length ≤ 1000000) && kids.all fun r => decide ((txt ere r).length ≤ 1000000)
theorem txNode_of {ere : Bool} {k mn mx m : Int} {t : W4} {kids : List Rx} (h : txNodeB ere k mn mx m t kids = true) : TxNode ere k mn mx m t kids := by
  unfold txNodeB at h
  simp only [Bool.and_eq_true, Bool.or_eq_true, bne_iff_ne, beq_iff_eq, decide_eq_true_eq, List.all_eq_true] at h
  obtain ⟨⟨⟨⟨⟨⟨h1, h2⟩, h3⟩, h4⟩, ⟨⟨h5, h6⟩, h7⟩, h8⟩, h9⟩, h10⟩ := h
  refine ⟨fun hk => ?_, fun hk => ?_, fun hk => ?_, h4, ⟨h5, h6, h7, h8⟩, h9, h10⟩
  · rcases h1 with h1 | h1
    · exact absurd hk h1
    · exact ⟨List.length_eq_one_iff.1 h1.1.1.1.1, h1.1.1.1.2, h1.1.1.2, h1.1.2, h1.2⟩
  · rcases h2 with h2 | h2
    · exact absurd hk h2
    · exact List.length_eq_one_iff.1 h2
  · rcases h3 with h3 | h3
    · exact absurd hk h3
    · exact h3
mutual
def txB (ere : Bool) : Rx → Bool
  | .mk k mn mx m t kids => txNodeB ere k mn mx m t kids && txBL ere kids
def txBL (ere : Bool) : List Rx → Bool
  | [] => true
  | r :: rs => txB ere r && txBL ere rs
end
theorem txBL_mem (ere : Bool) : ∀ (rs : List Rx), txBL ere rs = true → ∀ r ∈ rs, txB ere r = true
  | [], _, r, h => by simp at h
  | x :: rs, h, r, hr => by
    unfold txBL at h
    rw [Bool.and_eq_true] at h
    rcases List.mem_cons.1 hr with rfl | hr
    · exact h.1
    · exact txBL_mem ere rs h.2 r hr
theorem txFit_of (ere : Bool) : ∀ r, txB ere r = true → TxFit ere r
  | .mk k mn mx n s kids, h => by
    unfold txB at h
    rw [Bool.and_eq_true] at h
    unfold TxFit
    exact ⟨txNode_of h.1, fun a ha => txFit_of ere a (txBL_mem ere kids h.2 a ha)⟩
termination_by r => SizeOf.sizeOf r
decreasing_by
  have := List.sizeOf_lt_of_mem ha
  simp
  omega

/-- What the parse of a text leaves in a variable. -/
structure Pd (w : World) (T : Rx) (k mn mx m : Int) (t : W4) (ad : Option Addr) (l c : Nat) : Prop where
  is : Is w (fun _ => True) T (rxv k mn mx m t (.slice ad l c))
theorem Pd.kp {w w' : World} {T : Rx} {k mn mx m : Int} {t : W4} {ad : Option Addr} {l c : Nat} (h : Pd w T k mn mx m t ad l c) (q : Kp w w') : Pd w' T k mn mx m t ad l c := ⟨h.is.kp q⟩
theorem Pd.all {w : World} {T : Rx} {k mn mx m : Int} {t : W4} {ad : Option Addr} {l c : Nat} (h : Pd w T k mn mx m t ad l c) : l = T.kn ∧ k = T.k ∧ t = T.set := by
  cases T with
  | mk k' mn' mx' n' s' kids =>
    obtain ⟨ad', l', c', he, hr⟩ := h.is.row
    injection he with he
    injection he with he
    simp at he
    obtain ⟨rfl, _, _, _, h1, h2, h3, h4, _, rfl, _⟩ := he
    refine ⟨hr.ln, rfl, ?_⟩
    show t = s'
    obtain ⟨t1, t2, t3, t4⟩ := t
    obtain ⟨q1, q2, q3, q4⟩ := s'
    have e1 : t1 = q1 := Int.ofNat.inj h1
    have e2 : t2 = q2 := Int.ofNat.inj h2
    have e3 : t3 = q3 := Int.ofNat.inj h3
    have e4 : t4 = q4 := Int.ofNat.inj h4
    subst e1; subst e2; subst e3; subst e4
    rfl

def t1 : ByteArray := ⟨#[97, 92, 40, 98, 42, 92, 41, 92, 49, 36]⟩
def t2 : ByteArray := ⟨#[40, 97, 124, 98, 41, 43]⟩
def t3 : ByteArray := ⟨#[91, 94, 97, 93]⟩
def t4 : ByteArray := ⟨#[97, 124, 98]⟩
def t5 : ByteArray := ⟨#[42, 97]⟩
theorem p1 : (pParse t1 false).2 = (0, 0) ∧ (pParse t1 false).1.kn = 4 := by decide +kernel
theorem p2 : (pParse t2 true).2 = (0, 0) ∧ rxOkB (pParse t2 true).1 = true ∧ txB true (pParse t2 true).1 = true ∧ printT true (pParse t2 true).1 = [40, 97, 124, 98, 41, 43] := by decide +kernel
theorem p3 : (pParse t3 true).2 = (0, 0) ∧ (pParse t3 true).1.k = 1 ∧ cnt (W4.bit (pParse t3 true).1.set) 256 = 255 ∧ rxOkB (pParse t3 true).1 = true := by decide +kernel
theorem p4 : (pParse t4 false).2 = (0, 0) ∧ (pParse t4 false).1.kn = 3 := by decide +kernel
theorem p5 : (pParse t5 true).2.2 = 1 := by decide +kernel
theorem rxOk_set {r : Rx} (h : rxOkB r = true) : r.set.a < 18446744073709551616 ∧ r.set.b < 18446744073709551616 ∧ r.set.c < 18446744073709551616 ∧ r.set.d < 18446744073709551616 := by
  have := rxOk_of r h
  cases r with
  | mk k mn mx n s kids => unfold RxOk at this; exact this.2.1
/-- A parse, with its answer. -/
theorem parse_at (s : ByteArray) (ere : Bool) (T : Rx) (n e : Nat) (hs : s.size ≤ 1000000) (hp : pParse s ere = (T, n, e)) (w : World) (h0 : ∃ m, w.cell? ⟨0, 0, none⟩ = some (.int .i64 m)) :
    Calls Tryz.prog 9 #[.string s, .bool ere] w fun en w' => ∃ k mn mx m t ad l c, en = .returned (.tuple #[rxv k mn mx m t (.slice ad l c), .int .i64 (n : Int), .int .i64 (e : Int)]) ∧ Pd w' T k mn mx m t ad l c ∧ Kp w w' := by
  refine (parse_any s ere w h0 hs).mono ?_
  intro en w' hx
  obtain ⟨v, rfl, hI, hk⟩ := hx.ex
  rw [hp] at hI ⊢
  obtain ⟨k, mn, mx, m, t, ad, l, c, rfl⟩ := hI.form
  exact ⟨k, mn, mx, m, t, ad, l, c, rfl, ⟨hI.weak (fun _ _ _ => trivial)⟩, hk⟩
theorem cell0 {w w' : World} (h : ∃ m, w.cell? ⟨0, 0, none⟩ = some (.int .i64 m)) (k : Kp w w') : ∃ m, w'.cell? ⟨0, 0, none⟩ = some (.int .i64 m) := by
  obtain ⟨m, hm⟩ := h
  exact ⟨m, (k.cell (World.block_lt_of_cell? w _ hm)).trans hm⟩

set_option maxHeartbeats 2000000 in
set_option maxRecDepth 100000 in
theorem runs_any (w : World) (h0 : ∃ m, w.cell? ⟨0, 0, none⟩ = some (.int .i64 m)) : Calls Tryz.prog 12 #[] w fun e w' => e = .returned (.bool true) ∧ Kp w w' := by
  have Z0 := hid h0
  clear h0
  obtain ⟨T1, n1, e1, hp1⟩ : ∃ T n e, pParse t1 false = (T, n, e) := ⟨_, _, _, rfl⟩
  have f1 := p1
  rw [hp1] at f1
  have PA1 := hid (parse_at t1 false T1 n1 e1 (by decide) hp1)
  have F1 := hid f1
  have hn1 : n1 = 0 := by have := f1.1; injection this
  have he1 : e1 = 0 := by have := f1.1; injection this
  subst hn1
  subst he1
  clear hp1 f1
  obtain ⟨T2, n2, e2, hp2⟩ : ∃ T n e, pParse t2 true = (T, n, e) := ⟨_, _, _, rfl⟩
  have f2 := p2
  rw [hp2] at f2
  have PA2 := hid (parse_at t2 true T2 n2 e2 (by decide) hp2)
  have F2 := hid f2
  have hn2 : n2 = 0 := by have := f2.1; injection this
  have he2 : e2 = 0 := by have := f2.1; injection this
  subst hn2
  subst he2
  clear hp2 f2
  obtain ⟨T3, n3, e3, hp3⟩ : ∃ T n e, pParse t3 true = (T, n, e) := ⟨_, _, _, rfl⟩
  have f3 := p3
  rw [hp3] at f3
  have PA3 := hid (parse_at t3 true T3 n3 e3 (by decide) hp3)
  have F3 := hid f3
  have hn3 : n3 = 0 := by have := f3.1; injection this
  have he3 : e3 = 0 := by have := f3.1; injection this
  subst hn3
  subst he3
  clear hp3 f3
  obtain ⟨T4, n4, e4, hp4⟩ : ∃ T n e, pParse t4 false = (T, n, e) := ⟨_, _, _, rfl⟩
  have f4 := p4
  rw [hp4] at f4
  have PA4 := hid (parse_at t4 false T4 n4 e4 (by decide) hp4)
  have F4 := hid f4
  have hn4 : n4 = 0 := by have := f4.1; injection this
  have he4 : e4 = 0 := by have := f4.1; injection this
  subst hn4
  subst he4
  clear hp4 f4
  obtain ⟨T5, n5, e5, hp5⟩ : ∃ T n e, pParse t5 true = (T, n, e) := ⟨_, _, _, rfl⟩
  have f5 := p5
  rw [hp5] at f5
  have PA5 := hid (parse_at t5 true T5 n5 e5 (by decide) hp5)
  have he5 : e5 = 1 := f5
  subst he5
  clear hp5 f5
  go_enter Tryz.func12, Tryz.ntmps12
  go_wp2_with fail
  refine (PA1.out _ Z0.out).mono ?_
  rintro en V1 ⟨k1, mn1, mx1, m1, s1, ad1, l1, c1, rfl, pd1, kv1⟩
  have KV1 := hid kv1
  have PD1 := hid pd1
  have hsv1 := kv1.size
  clear kv1 pd1
  go_upto_region 2 with fail
  refine opq (fun U1 => U1.heap[V1.heap.size]? = some (rxo k1 mn1 mx1 m1 s1 (.slice ad1 l1 c1)) ∧ Pd U1 T1 k1 mn1 mx1 m1 s1 ad1 l1 c1 ∧ Kp w U1 ∧ ∃ mz, U1.cell? ⟨0, 0, none⟩ = some (.int .i64 mz)) ⟨by (first | exact last_at _ _ _ (by simp) | (refine bl_alloc ?_ _; first | exact last_at _ _ _ (by simp) | (refine bl_alloc ?_ _; first | exact last_at _ _ _ (by simp) | (refine bl_alloc ?_ _; exact last_at _ _ _ (by simp))))), by exact PD1.out.kp (by repeat (first | exact Kp.refl _ | refine Kp.alloc ?_ _ | refine Kp.drew ?_ | refine Kp.drewN _ ?_)), by exact KV1.out.trans (by repeat (first | exact Kp.refl _ | refine Kp.alloc ?_ _ | refine Kp.drew ?_ | refine Kp.drewN _ ?_)), by exact cell0 Z0.out (KV1.out.trans (by repeat (first | exact Kp.refl _ | refine Kp.alloc ?_ _ | refine Kp.drew ?_ | refine Kp.drewN _ ?_)))⟩ ?_
  rintro U1 ⟨xA1x, xPD1x, xK1, xZ1⟩
  have A1x : Hid (U1.heap[V1.heap.size]? = some (rxo k1 mn1 mx1 m1 s1 (.slice ad1 l1 c1))) := xA1x
  have PD1x : Hid (Pd U1 T1 k1 mn1 mx1 m1 s1 ad1 l1 c1) := xPD1x
  have K1 : Hid (Kp w U1) := xK1
  have Z1 : Hid (∃ mz, U1.cell? ⟨0, 0, none⟩ = some (.int .i64 mz)) := xZ1
  clear xA1x xPD1x xK1 xZ1
  clear  PD1 KV1
  have A1 := A1x
  have PD1 := PD1x
  clear A1x PD1x
  go_wp2_with fail
  refine (PA2.out _ Z1.out).mono ?_
  rintro en V2 ⟨k2, mn2, mx2, m2, s2, ad2, l2, c2, rfl, pd2, kv2⟩
  have KV2 := hid kv2
  have PD2 := hid pd2
  have hsv2 := kv2.size
  clear kv2 pd2
  go_upto_region 3 with fail
  refine opq (fun U2 => U2.heap[V1.heap.size]? = some (rxo k1 mn1 mx1 m1 s1 (.slice ad1 l1 c1)) ∧ Pd U2 T1 k1 mn1 mx1 m1 s1 ad1 l1 c1 ∧ U2.heap[V2.heap.size]? = some (rxo k2 mn2 mx2 m2 s2 (.slice ad2 l2 c2)) ∧ Pd U2 T2 k2 mn2 mx2 m2 s2 ad2 l2 c2 ∧ Kp w U2 ∧ ∃ mz, U2.cell? ⟨0, 0, none⟩ = some (.int .i64 mz)) ⟨by exact bl_kp A1.out (KV2.out.trans (by repeat (first | exact Kp.refl _ | refine Kp.alloc ?_ _ | refine Kp.drew ?_ | refine Kp.drewN _ ?_))), by exact PD1.out.kp (KV2.out.trans (by repeat (first | exact Kp.refl _ | refine Kp.alloc ?_ _ | refine Kp.drew ?_ | refine Kp.drewN _ ?_))), by (first | exact last_at _ _ _ (by simp) | (refine bl_alloc ?_ _; first | exact last_at _ _ _ (by simp) | (refine bl_alloc ?_ _; first | exact last_at _ _ _ (by simp) | (refine bl_alloc ?_ _; exact last_at _ _ _ (by simp))))), by exact PD2.out.kp (by repeat (first | exact Kp.refl _ | refine Kp.alloc ?_ _ | refine Kp.drew ?_ | refine Kp.drewN _ ?_)), by exact K1.out.trans (KV2.out.trans (by repeat (first | exact Kp.refl _ | refine Kp.alloc ?_ _ | refine Kp.drew ?_ | refine Kp.drewN _ ?_))), by exact cell0 Z1.out (KV2.out.trans (by repeat (first | exact Kp.refl _ | refine Kp.alloc ?_ _ | refine Kp.drew ?_ | refine Kp.drewN _ ?_)))⟩ ?_
  rintro U2 ⟨xA1x, xPD1x, xA2x, xPD2x, xK2, xZ2⟩
  have A1x : Hid (U2.heap[V1.heap.size]? = some (rxo k1 mn1 mx1 m1 s1 (.slice ad1 l1 c1))) := xA1x
  have PD1x : Hid (Pd U2 T1 k1 mn1 mx1 m1 s1 ad1 l1 c1) := xPD1x
  have A2x : Hid (U2.heap[V2.heap.size]? = some (rxo k2 mn2 mx2 m2 s2 (.slice ad2 l2 c2))) := xA2x
  have PD2x : Hid (Pd U2 T2 k2 mn2 mx2 m2 s2 ad2 l2 c2) := xPD2x
  have K2 : Hid (Kp w U2) := xK2
  have Z2 : Hid (∃ mz, U2.cell? ⟨0, 0, none⟩ = some (.int .i64 mz)) := xZ2
  clear xA1x xPD1x xA2x xPD2x xK2 xZ2
  clear A1 PD1 PD2 KV2 K1 Z1
  have A1 := A1x
  have PD1 := PD1x
  clear A1x PD1x
  have A2 := A2x
  have PD2 := PD2x
  clear A2x PD2x
  go_wp2_with fail
  refine (PA3.out _ Z2.out).mono ?_
  rintro en V3 ⟨k3, mn3, mx3, m3, s3, ad3, l3, c3, rfl, pd3, kv3⟩
  have KV3 := hid kv3
  have PD3 := hid pd3
  have hsv3 := kv3.size
  clear kv3 pd3
  go_upto_region 4 with fail
  refine opq (fun U3 => U3.heap[V1.heap.size]? = some (rxo k1 mn1 mx1 m1 s1 (.slice ad1 l1 c1)) ∧ Pd U3 T1 k1 mn1 mx1 m1 s1 ad1 l1 c1 ∧ U3.heap[V2.heap.size]? = some (rxo k2 mn2 mx2 m2 s2 (.slice ad2 l2 c2)) ∧ Pd U3 T2 k2 mn2 mx2 m2 s2 ad2 l2 c2 ∧ U3.heap[V3.heap.size]? = some (rxo k3 mn3 mx3 m3 s3 (.slice ad3 l3 c3)) ∧ Pd U3 T3 k3 mn3 mx3 m3 s3 ad3 l3 c3 ∧ Kp w U3 ∧ ∃ mz, U3.cell? ⟨0, 0, none⟩ = some (.int .i64 mz)) ⟨by exact bl_kp A1.out (KV3.out.trans (by repeat (first | exact Kp.refl _ | refine Kp.alloc ?_ _ | refine Kp.drew ?_ | refine Kp.drewN _ ?_))), by exact PD1.out.kp (KV3.out.trans (by repeat (first | exact Kp.refl _ | refine Kp.alloc ?_ _ | refine Kp.drew ?_ | refine Kp.drewN _ ?_))), by exact bl_kp A2.out (KV3.out.trans (by repeat (first | exact Kp.refl _ | refine Kp.alloc ?_ _ | refine Kp.drew ?_ | refine Kp.drewN _ ?_))), by exact PD2.out.kp (KV3.out.trans (by repeat (first | exact Kp.refl _ | refine Kp.alloc ?_ _ | refine Kp.drew ?_ | refine Kp.drewN _ ?_))), by (first | exact last_at _ _ _ (by simp) | (refine bl_alloc ?_ _; first | exact last_at _ _ _ (by simp) | (refine bl_alloc ?_ _; first | exact last_at _ _ _ (by simp) | (refine bl_alloc ?_ _; exact last_at _ _ _ (by simp))))), by exact PD3.out.kp (by repeat (first | exact Kp.refl _ | refine Kp.alloc ?_ _ | refine Kp.drew ?_ | refine Kp.drewN _ ?_)), by exact K2.out.trans (KV3.out.trans (by repeat (first | exact Kp.refl _ | refine Kp.alloc ?_ _ | refine Kp.drew ?_ | refine Kp.drewN _ ?_))), by exact cell0 Z2.out (KV3.out.trans (by repeat (first | exact Kp.refl _ | refine Kp.alloc ?_ _ | refine Kp.drew ?_ | refine Kp.drewN _ ?_)))⟩ ?_
  rintro U3 ⟨xA1x, xPD1x, xA2x, xPD2x, xA3x, xPD3x, xK3, xZ3⟩
  have A1x : Hid (U3.heap[V1.heap.size]? = some (rxo k1 mn1 mx1 m1 s1 (.slice ad1 l1 c1))) := xA1x
  have PD1x : Hid (Pd U3 T1 k1 mn1 mx1 m1 s1 ad1 l1 c1) := xPD1x
  have A2x : Hid (U3.heap[V2.heap.size]? = some (rxo k2 mn2 mx2 m2 s2 (.slice ad2 l2 c2))) := xA2x
  have PD2x : Hid (Pd U3 T2 k2 mn2 mx2 m2 s2 ad2 l2 c2) := xPD2x
  have A3x : Hid (U3.heap[V3.heap.size]? = some (rxo k3 mn3 mx3 m3 s3 (.slice ad3 l3 c3))) := xA3x
  have PD3x : Hid (Pd U3 T3 k3 mn3 mx3 m3 s3 ad3 l3 c3) := xPD3x
  have K3 : Hid (Kp w U3) := xK3
  have Z3 : Hid (∃ mz, U3.cell? ⟨0, 0, none⟩ = some (.int .i64 mz)) := xZ3
  clear xA1x xPD1x xA2x xPD2x xA3x xPD3x xK3 xZ3
  clear A1 PD1 A2 PD2 PD3 KV3 K2 Z2
  have A1 := A1x
  have PD1 := PD1x
  clear A1x PD1x
  have A2 := A2x
  have PD2 := PD2x
  clear A2x PD2x
  have A3 := A3x
  have PD3 := PD3x
  clear A3x PD3x
  go_wp2_with fail
  refine (PA4.out _ Z3.out).mono ?_
  rintro en V4 ⟨k4, mn4, mx4, m4, s4, ad4, l4, c4, rfl, pd4, kv4⟩
  have KV4 := hid kv4
  have PD4 := hid pd4
  have hsv4 := kv4.size
  clear kv4 pd4
  go_upto_region 5 with fail
  refine opq (fun U4 => U4.heap[V1.heap.size]? = some (rxo k1 mn1 mx1 m1 s1 (.slice ad1 l1 c1)) ∧ Pd U4 T1 k1 mn1 mx1 m1 s1 ad1 l1 c1 ∧ U4.heap[V2.heap.size]? = some (rxo k2 mn2 mx2 m2 s2 (.slice ad2 l2 c2)) ∧ Pd U4 T2 k2 mn2 mx2 m2 s2 ad2 l2 c2 ∧ U4.heap[V3.heap.size]? = some (rxo k3 mn3 mx3 m3 s3 (.slice ad3 l3 c3)) ∧ Pd U4 T3 k3 mn3 mx3 m3 s3 ad3 l3 c3 ∧ U4.heap[V4.heap.size]? = some (rxo k4 mn4 mx4 m4 s4 (.slice ad4 l4 c4)) ∧ Pd U4 T4 k4 mn4 mx4 m4 s4 ad4 l4 c4 ∧ Kp w U4 ∧ ∃ mz, U4.cell? ⟨0, 0, none⟩ = some (.int .i64 mz)) ⟨by exact bl_kp A1.out (KV4.out.trans (by repeat (first | exact Kp.refl _ | refine Kp.alloc ?_ _ | refine Kp.drew ?_ | refine Kp.drewN _ ?_))), by exact PD1.out.kp (KV4.out.trans (by repeat (first | exact Kp.refl _ | refine Kp.alloc ?_ _ | refine Kp.drew ?_ | refine Kp.drewN _ ?_))), by exact bl_kp A2.out (KV4.out.trans (by repeat (first | exact Kp.refl _ | refine Kp.alloc ?_ _ | refine Kp.drew ?_ | refine Kp.drewN _ ?_))), by exact PD2.out.kp (KV4.out.trans (by repeat (first | exact Kp.refl _ | refine Kp.alloc ?_ _ | refine Kp.drew ?_ | refine Kp.drewN _ ?_))), by exact bl_kp A3.out (KV4.out.trans (by repeat (first | exact Kp.refl _ | refine Kp.alloc ?_ _ | refine Kp.drew ?_ | refine Kp.drewN _ ?_))), by exact PD3.out.kp (KV4.out.trans (by repeat (first | exact Kp.refl _ | refine Kp.alloc ?_ _ | refine Kp.drew ?_ | refine Kp.drewN _ ?_))), by (first | exact last_at _ _ _ (by simp) | (refine bl_alloc ?_ _; first | exact last_at _ _ _ (by simp) | (refine bl_alloc ?_ _; first | exact last_at _ _ _ (by simp) | (refine bl_alloc ?_ _; exact last_at _ _ _ (by simp))))), by exact PD4.out.kp (by repeat (first | exact Kp.refl _ | refine Kp.alloc ?_ _ | refine Kp.drew ?_ | refine Kp.drewN _ ?_)), by exact K3.out.trans (KV4.out.trans (by repeat (first | exact Kp.refl _ | refine Kp.alloc ?_ _ | refine Kp.drew ?_ | refine Kp.drewN _ ?_))), by exact cell0 Z3.out (KV4.out.trans (by repeat (first | exact Kp.refl _ | refine Kp.alloc ?_ _ | refine Kp.drew ?_ | refine Kp.drewN _ ?_)))⟩ ?_
  rintro U4 ⟨xA1x, xPD1x, xA2x, xPD2x, xA3x, xPD3x, xA4x, xPD4x, xK4, xZ4⟩
  have A1x : Hid (U4.heap[V1.heap.size]? = some (rxo k1 mn1 mx1 m1 s1 (.slice ad1 l1 c1))) := xA1x
  have PD1x : Hid (Pd U4 T1 k1 mn1 mx1 m1 s1 ad1 l1 c1) := xPD1x
  have A2x : Hid (U4.heap[V2.heap.size]? = some (rxo k2 mn2 mx2 m2 s2 (.slice ad2 l2 c2))) := xA2x
  have PD2x : Hid (Pd U4 T2 k2 mn2 mx2 m2 s2 ad2 l2 c2) := xPD2x
  have A3x : Hid (U4.heap[V3.heap.size]? = some (rxo k3 mn3 mx3 m3 s3 (.slice ad3 l3 c3))) := xA3x
  have PD3x : Hid (Pd U4 T3 k3 mn3 mx3 m3 s3 ad3 l3 c3) := xPD3x
  have A4x : Hid (U4.heap[V4.heap.size]? = some (rxo k4 mn4 mx4 m4 s4 (.slice ad4 l4 c4))) := xA4x
  have PD4x : Hid (Pd U4 T4 k4 mn4 mx4 m4 s4 ad4 l4 c4) := xPD4x
  have K4 : Hid (Kp w U4) := xK4
  have Z4 : Hid (∃ mz, U4.cell? ⟨0, 0, none⟩ = some (.int .i64 mz)) := xZ4
  clear xA1x xPD1x xA2x xPD2x xA3x xPD3x xA4x xPD4x xK4 xZ4
  clear A1 PD1 A2 PD2 A3 PD3 PD4 KV4 K3 Z3
  have A1 := A1x
  have PD1 := PD1x
  clear A1x PD1x
  have A2 := A2x
  have PD2 := PD2x
  clear A2x PD2x
  have A3 := A3x
  have PD3 := PD3x
  clear A3x PD3x
  have A4 := A4x
  have PD4 := PD4x
  clear A4x PD4x
  go_wp2_with fail
  refine (PA5.out _ Z4.out).mono ?_
  rintro en V5 ⟨k5, mn5, mx5, m5, s5, ad5, l5, c5, rfl, pd5, kv5⟩
  have KV5 := hid kv5
  have PD5 := hid pd5
  have hsv5 := kv5.size
  clear kv5 pd5
  go_upto_region 6 with fail
  refine opq (fun U5 => U5.heap[V1.heap.size]? = some (rxo k1 mn1 mx1 m1 s1 (.slice ad1 l1 c1)) ∧ Pd U5 T1 k1 mn1 mx1 m1 s1 ad1 l1 c1 ∧ U5.heap[V2.heap.size]? = some (rxo k2 mn2 mx2 m2 s2 (.slice ad2 l2 c2)) ∧ Pd U5 T2 k2 mn2 mx2 m2 s2 ad2 l2 c2 ∧ U5.heap[V3.heap.size]? = some (rxo k3 mn3 mx3 m3 s3 (.slice ad3 l3 c3)) ∧ Pd U5 T3 k3 mn3 mx3 m3 s3 ad3 l3 c3 ∧ U5.heap[V4.heap.size]? = some (rxo k4 mn4 mx4 m4 s4 (.slice ad4 l4 c4)) ∧ Pd U5 T4 k4 mn4 mx4 m4 s4 ad4 l4 c4 ∧ U5.heap[V5.heap.size]? = some (rxo k5 mn5 mx5 m5 s5 (.slice ad5 l5 c5)) ∧ Pd U5 T5 k5 mn5 mx5 m5 s5 ad5 l5 c5 ∧ Kp w U5 ∧ ∃ mz, U5.cell? ⟨0, 0, none⟩ = some (.int .i64 mz)) ⟨by exact bl_kp A1.out (KV5.out.trans (by repeat (first | exact Kp.refl _ | refine Kp.alloc ?_ _ | refine Kp.drew ?_ | refine Kp.drewN _ ?_))), by exact PD1.out.kp (KV5.out.trans (by repeat (first | exact Kp.refl _ | refine Kp.alloc ?_ _ | refine Kp.drew ?_ | refine Kp.drewN _ ?_))), by exact bl_kp A2.out (KV5.out.trans (by repeat (first | exact Kp.refl _ | refine Kp.alloc ?_ _ | refine Kp.drew ?_ | refine Kp.drewN _ ?_))), by exact PD2.out.kp (KV5.out.trans (by repeat (first | exact Kp.refl _ | refine Kp.alloc ?_ _ | refine Kp.drew ?_ | refine Kp.drewN _ ?_))), by exact bl_kp A3.out (KV5.out.trans (by repeat (first | exact Kp.refl _ | refine Kp.alloc ?_ _ | refine Kp.drew ?_ | refine Kp.drewN _ ?_))), by exact PD3.out.kp (KV5.out.trans (by repeat (first | exact Kp.refl _ | refine Kp.alloc ?_ _ | refine Kp.drew ?_ | refine Kp.drewN _ ?_))), by exact bl_kp A4.out (KV5.out.trans (by repeat (first | exact Kp.refl _ | refine Kp.alloc ?_ _ | refine Kp.drew ?_ | refine Kp.drewN _ ?_))), by exact PD4.out.kp (KV5.out.trans (by repeat (first | exact Kp.refl _ | refine Kp.alloc ?_ _ | refine Kp.drew ?_ | refine Kp.drewN _ ?_))), by (first | exact last_at _ _ _ (by simp) | (refine bl_alloc ?_ _; first | exact last_at _ _ _ (by simp) | (refine bl_alloc ?_ _; first | exact last_at _ _ _ (by simp) | (refine bl_alloc ?_ _; exact last_at _ _ _ (by simp))))), by exact PD5.out.kp (by repeat (first | exact Kp.refl _ | refine Kp.alloc ?_ _ | refine Kp.drew ?_ | refine Kp.drewN _ ?_)), by exact K4.out.trans (KV5.out.trans (by repeat (first | exact Kp.refl _ | refine Kp.alloc ?_ _ | refine Kp.drew ?_ | refine Kp.drewN _ ?_))), by exact cell0 Z4.out (KV5.out.trans (by repeat (first | exact Kp.refl _ | refine Kp.alloc ?_ _ | refine Kp.drew ?_ | refine Kp.drewN _ ?_)))⟩ ?_
  rintro U5 ⟨xA1x, xPD1x, xA2x, xPD2x, xA3x, xPD3x, xA4x, xPD4x, xA5x, xPD5x, xK5, xZ5⟩
  have A1x : Hid (U5.heap[V1.heap.size]? = some (rxo k1 mn1 mx1 m1 s1 (.slice ad1 l1 c1))) := xA1x
  have PD1x : Hid (Pd U5 T1 k1 mn1 mx1 m1 s1 ad1 l1 c1) := xPD1x
  have A2x : Hid (U5.heap[V2.heap.size]? = some (rxo k2 mn2 mx2 m2 s2 (.slice ad2 l2 c2))) := xA2x
  have PD2x : Hid (Pd U5 T2 k2 mn2 mx2 m2 s2 ad2 l2 c2) := xPD2x
  have A3x : Hid (U5.heap[V3.heap.size]? = some (rxo k3 mn3 mx3 m3 s3 (.slice ad3 l3 c3))) := xA3x
  have PD3x : Hid (Pd U5 T3 k3 mn3 mx3 m3 s3 ad3 l3 c3) := xPD3x
  have A4x : Hid (U5.heap[V4.heap.size]? = some (rxo k4 mn4 mx4 m4 s4 (.slice ad4 l4 c4))) := xA4x
  have PD4x : Hid (Pd U5 T4 k4 mn4 mx4 m4 s4 ad4 l4 c4) := xPD4x
  have A5x : Hid (U5.heap[V5.heap.size]? = some (rxo k5 mn5 mx5 m5 s5 (.slice ad5 l5 c5))) := xA5x
  have PD5x : Hid (Pd U5 T5 k5 mn5 mx5 m5 s5 ad5 l5 c5) := xPD5x
  have K5 : Hid (Kp w U5) := xK5
  have Z5 : Hid (∃ mz, U5.cell? ⟨0, 0, none⟩ = some (.int .i64 mz)) := xZ5
  clear xA1x xPD1x xA2x xPD2x xA3x xPD3x xA4x xPD4x xA5x xPD5x xK5 xZ5
  clear A1 PD1 A2 PD2 A3 PD3 A4 PD4 PD5 KV5 K4 Z4
  have A1 := A1x
  have PD1 := PD1x
  clear A1x PD1x
  have A2 := A2x
  have PD2 := PD2x
  clear A2x PD2x
  have A3 := A3x
  have PD3 := PD3x
  clear A3x PD3x
  have A4 := A4x
  have PD4 := PD4x
  clear A4x PD4x
  have A5 := A5x
  have PD5 := PD5x
  clear A5x PD5x
  have d1 : l1 = 4 := (PD1.out.all.1).trans F1.out.2
  have d4 : l4 = 3 := (PD4.out.all.1).trans F4.out.2
  have d3 : k3 = 1 := (PD3.out.all.2.1).trans F3.out.2.1
  have d3s : s3 = T3.set := PD3.out.all.2.2
  subst d1
  subst d4
  subst d3
  have b3 := rxOk_set F3.out.2.2.2
  rw [← d3s] at b3
  have cn : cnt (W4.bit s3) 256 = 255 := by rw [d3s]; exact F3.out.2.2.1
  have CN : Hid (∀ w, Calls Tryz.prog 21 #[vv s3.a s3.b s3.c s3.d] w fun e w' => e = .returned (.int .i64 255) ∧ Kp w w') := fun w => by
    have := count_any (W4.bit s3) w
    rw [cn] at this
    have e : vv s3.a s3.b s3.c s3.d = sv (W4.bit s3) := vv_sv s3.a s3.b s3.c s3.d b3.1 b3.2.1 b3.2.2.1 b3.2.2.2
    rw [e]
    exact this
  have PR : Hid (∀ w, Pd w T2 k2 mn2 mx2 m2 s2 ad2 l2 c2 → Calls Tryz.prog 16 #[rxv k2 mn2 mx2 m2 s2 (.slice ad2 l2 c2), .bool true] w fun e w' => e = .returned (.string ⟨#[40, 97, 124, 98, 41, 43]⟩) ∧ Kp w w') := fun w h => by
    have := print_any T2 true (fun _ => True) k2 mn2 mx2 m2 s2 ad2 l2 c2 w (rxOk_of _ F2.out.2.1) (fun _ => txFit_of true _ F2.out.2.2.1) h.is
    rw [F2.out.2.2.2] at this
    exact this
  clear d3s b3 cn
  have x18 := bl_cell A1.out 8 _ rfl
  have y0 := bl_cell (A2.out) 0 _ rfl
  have y1 := bl_cell (A2.out) 1 _ rfl
  have y2 := bl_cell (A2.out) 2 _ rfl
  have y3 := bl_cell (A2.out) 3 _ rfl
  have y4 := bl_cell (A2.out) 4 _ rfl
  have y5 := bl_cell (A2.out) 5 _ rfl
  have y6 := bl_cell (A2.out) 6 _ rfl
  have y7 := bl_cell (A2.out) 7 _ rfl
  have y8 := bl_cell (A2.out) 8 _ rfl
  go_wp2_with fail
  clear x18 y0 y1 y2 y3 y4 y5 y6 y7 y8
  refine (PR.out _ PD2.out).mono ?_
  rintro en U6 ⟨rfl, k6⟩
  have B3 := hid (bl_kp A3.out k6)
  have B4 := hid (bl_kp A4.out k6)
  have K6 := hid (K5.out.trans k6)
  clear k6
  have y0 := bl_cell (B3.out) 0 _ rfl
  have y1 := bl_cell (B3.out) 1 _ rfl
  have y2 := bl_cell (B3.out) 2 _ rfl
  have y3 := bl_cell (B3.out) 3 _ rfl
  have y4 := bl_cell (B3.out) 4 _ rfl
  have y5 := bl_cell (B3.out) 5 _ rfl
  have y6 := bl_cell (B3.out) 6 _ rfl
  have y7 := bl_cell (B3.out) 7 _ rfl
  have y8 := bl_cell (B3.out) 8 _ rfl
  have x48 := bl_cell B4.out 8 _ rfl
  go_wp2_with fail
  clear y0 y1 y2 y3 y4 y5 y6 y7 y8 x48
  refine (CN.out _).mono ?_
  rintro en U7 ⟨rfl, k7⟩
  have C4 := hid (bl_kp B4.out k7)
  have K7 := hid (K6.out.trans k7)
  clear k7
  have x48 := bl_cell C4.out 8 _ rfl
  go_wp2_with fail
  go_ret
  exact ⟨rfl, K7.out⟩
end Go.Proofs.YtikmgckefbjbkabGreatDoor

/-! ### KSame -/

namespace Go.Proofs.YtikmgckefbjbkabGreatDoor
open Go.RowKit

structure KSameSaid (a : Rx) : Prop where
  all : ∀ (b : Rx) (va vb : Value) (w : World) (ok ok' : Nat → Prop), Is w ok a va → Is w ok' b vb → Calls Tryz.prog 10 #[va, vb] w fun e w' => e = .returned (.bool (sameR a b)) ∧ Kp w w'
theorem sameL_ne : ∀ (a b : List Rx), a.length ≠ b.length → sameL a b = false
  | [], [], h => absurd rfl h
  | [], _ :: _, _ => by simp [sameL]
  | _ :: _, [], _ => by simp [sameL]
  | x :: a, y :: b, h => by
    rw [sameL, sameL_ne a b (fun e => h (by simp [e])), Bool.and_false]
theorem sameL_end (a b : List Rx) (q : Nat) (ha : a.length ≤ q) (hb : b.length ≤ q) : sameL (a.drop q) (b.drop q) = true := by
  rw [List.drop_eq_nil_of_le ha, List.drop_eq_nil_of_le hb, sameL]
theorem sameL_at (a b : List Rx) (q : Nat) (x y : Rx) (ha : a[q]? = some x) (hb : b[q]? = some y) : sameL (a.drop q) (b.drop q) = (sameR x y && sameL (a.drop (q + 1)) (b.drop (q + 1))) := by
  obtain ⟨h1, e1⟩ := List.getElem?_eq_some_iff.1 ha
  obtain ⟨h2, e2⟩ := List.getElem?_eq_some_iff.1 hb
  rw [List.drop_eq_getElem_cons h1, List.drop_eq_getElem_cons h2, e1, e2, sameL]

set_option maxHeartbeats 2000000 in
set_option maxRecDepth 100000 in
theorem ksame_step (k mn mx n : Int) (s : W4) (kids : List Rx) (H : ∀ a, a ∈ kids → KSameSaid a) (hl : kids.length ≤ 1000000) : KSameSaid (.mk k mn mx n s kids) := by
  refine ⟨fun b va vb w ok ok' hia hib => ?_⟩
  cases b with
  | mk k' mn' mx' n' s' kids' =>
    obtain ⟨ad, l, c, rfl, ra⟩ := hia.row
    obtain ⟨ad', l', c', rfl, rb⟩ := hib.row
    have la := hid ra.ln
    have lb := hid rb.ln
    have hca := ra.cp
    have hcb := rb.cp
    have hll : l ≤ 1000000 := by rw [la.out]; exact hl
    have RA := hid ra
    have RB := hid rb
    have HH := hid H
    clear ra rb hia hib H hl
    have e0 : Hid (sameR (.mk k mn mx n s kids) (.mk k' mn' mx' n' s' kids') = (k == k' && mn == mn' && mx == mx' && n == n' && s == s' && sameL kids kids')) := by show _ = _; rw [sameR]
    have es : ∀ w, (Op.equalIn 10000 26 (.agg #[.int .u64 (s.a : Int), .int .u64 (s.b : Int), .int .u64 (s.c : Int), .int .u64 (s.d : Int)]) (.agg #[.int .u64 (s'.a : Int), .int .u64 (s'.b : Int), .int .u64 (s'.c : Int), .int .u64 (s'.d : Int)])).run Tryz.prog w = .ok (s == s') w := fun w => by rw [w4_eq]; exact eq_vv _ _ _ _ _ _ _ _ w
    obtain ⟨q5, hq5⟩ : ∃ q, (s == s') = q := ⟨_, rfl⟩
    rw [hq5] at es e0
    clear hq5
    obtain ⟨Z, hZ⟩ : ∃ Z, sameR (.mk k mn mx n s kids) (.mk k' mn' mx' n' s' kids') = Z := ⟨_, rfl⟩
    rw [hZ] at e0 ⊢
    clear hZ
    go_enter Tryz.func10, Tryz.ntmps10
    go_upto_region 1 with fail
    refine opq (fun W => W.heap[w.heap.size]? = some (rxo k mn mx n s (.slice ad l c)) ∧ W.heap[w.heap.size + 1]? = some (rxo k' mn' mx' n' s' (.slice ad' l' c')) ∧ Kp w W) ⟨by exact bl_alloc (last_of _ _) _, by exact last_at _ _ _ (by simp), by exact ((Kp.refl _).alloc _).alloc _⟩ ?_
    rintro W0 ⟨y1, y2, y3⟩
    have A := hid y1
    have B := hid y2
    have K := hid y3
    clear y1 y2 y3
    have a0 := bl_cell (A.out) 0 _ rfl
    have a1 := bl_cell (A.out) 1 _ rfl
    have a2 := bl_cell (A.out) 2 _ rfl
    have a3 := bl_cell (A.out) 3 _ rfl
    have a4 := bl_cell (A.out) 4 _ rfl
    have a5 := bl_cell (A.out) 5 _ rfl
    have a6 := bl_cell (A.out) 6 _ rfl
    have a7 := bl_cell (A.out) 7 _ rfl
    have a8 := bl_cell (A.out) 8 _ rfl
    have b0 := bl_cell (B.out) 0 _ rfl
    have b1 := bl_cell (B.out) 1 _ rfl
    have b2 := bl_cell (B.out) 2 _ rfl
    have b3 := bl_cell (B.out) 3 _ rfl
    have b4 := bl_cell (B.out) 4 _ rfl
    have b5 := bl_cell (B.out) 5 _ rfl
    have b6 := bl_cell (B.out) 6 _ rfl
    have b7 := bl_cell (B.out) 7 _ rfl
    have b8 := bl_cell (B.out) 8 _ rfl
    cases h1 : (k == k') with
    | false =>
      have E : Hid (Z = false) := by show _ = _; rw [e0.out]; simp [h1]
      have m1 : (k != k') = true := by simp [bne, h1]
      go_wp2
      go_ret
      exact ⟨ret_bool E.out.symm, K.out⟩
    | true =>
    have m1 : (k != k') = false := by simp [bne, h1]
    cases h2 : (mn == mn') with
    | false =>
      have E : Hid (Z = false) := by show _ = _; rw [e0.out]; simp [h2]
      have m2 : (mn != mn') = true := by simp [bne, h2]
      go_wp2
      go_ret
      exact ⟨ret_bool E.out.symm, K.out⟩
    | true =>
    have m2 : (mn != mn') = false := by simp [bne, h2]
    cases h3 : (mx == mx') with
    | false =>
      have E : Hid (Z = false) := by show _ = _; rw [e0.out]; simp [h3]
      have m3 : (mx != mx') = true := by simp [bne, h3]
      go_wp2
      go_ret
      exact ⟨ret_bool E.out.symm, K.out⟩
    | true =>
    have m3 : (mx != mx') = false := by simp [bne, h3]
    cases h4 : (n == n') with
    | false =>
      have E : Hid (Z = false) := by show _ = _; rw [e0.out]; simp [h4]
      have m4 : (n != n') = true := by simp [bne, h4]
      go_wp2
      go_ret
      exact ⟨ret_bool E.out.symm, K.out⟩
    | true =>
    have m4 : (n != n') = false := by simp [bne, h4]
    cases q5 with
    | false =>
      have E : Hid (Z = false) := by show _ = _; rw [e0.out]; simp
      go_wp2
      go_ret
      exact ⟨ret_bool E.out.symm, K.out⟩
    | true =>
    by_cases hlen : l = l'
    case neg =>
      have E : Hid (Z = false) := by show _ = _; rw [e0.out, sameL_ne kids kids' (by rw [← la.out, ← lb.out]; exact hlen)]; simp
      have m6 : ((l : Int) != (l' : Int)) = true := by simp [bne]; omega
      go_wp2
      go_ret
      exact ⟨ret_bool E.out.symm, K.out⟩
    subst hlen
    have E : Hid (Z = sameL kids kids') := by show _ = _; rw [e0.out, h1, h2, h3, h4]; rfl
    have L1 := hid la.out
    clear e0 la
    go_wp2_with fail
    clear h1 h2 h3 h4 m1 m2 m3 m4 es
    clear a0 a1 a2 a3 a4 a5 a6 a7 a8 b0 b1 b2 b3 b4 b5 b6 b7 b8
    go_loopg [51] l (fun gg i wr => ∃ q : Nat, q + gg = l ∧ i = .int .i64 (q : Int) ∧ sameL kids kids' = sameL (kids.drop q) (kids'.drop q) ∧ Kp W0 wr)
    case atStart => exact ⟨0, by omega, rfl, rfl, Kp.refl _⟩
    case round =>
      obtain ⟨q, hq, rfl, hS, hK⟩ := hrel
      have S := hid hS
      have K1 := hid hK
      have A1 := hid (bl_kp A.out hK)
      have B1 := hid (bl_kp B.out hK)
      clear hS hK
      by_cases hlt : q < l
      · have gkw : IntKind.i64.wrap ((q : Int) + 1) = (q : Int) + 1 := by rw [IntKind.wrap_i64]; omega
        have ga : (q : Int) < (l : Int) := by omega
        have g0 : (0 : Int) ≤ (q : Int) := by omega
        obtain ⟨r, hr⟩ : ∃ r, kids[q]? = some r := ⟨_, List.getElem?_eq_getElem (by rw [← L1.out]; exact hlt)⟩
        obtain ⟨r', hr'⟩ : ∃ r, kids'[q]? = some r := ⟨_, List.getElem?_eq_getElem (by rw [← lb.out]; exact hlt)⟩
        have S1 := hid (S.out.trans (sameL_at kids kids' q r r' hr hr'))
        have TS := hid (HH.out r (List.mem_of_getElem? hr))
        obtain ⟨bb, oo, kk, pn, px, pm, pt, pad, pl, pc, e1, hbb, i1, ce1⟩ := (RA.out.kp (K.out.trans K1.out)).at q r hr
        obtain ⟨bb', oo', kk', pn', px', pm', pt', pad', pl', pc', e1', hbb', i1', ce1'⟩ := (RB.out.kp (K.out.trans K1.out)).at q r' hr'
        subst e1
        subst e1'
        have I1 := hid i1
        have I2 := hid i1'
        have C1 := hid ce1
        have C2 := hid ce1'
        clear hr hr' i1 i1' ce1 ce1' S
        obtain ⟨z, hz⟩ : ∃ z, sameR r r' = z := ⟨_, rfl⟩
        rw [hz] at S1
        have HZ := hid hz
        clear hz
        go_upto_region 6 with fail
        have Q0 : Kp wr wr.drew := (Kp.refl _).drew
        have MK : Hid (∀ W, Kp wr W → W.cell? ⟨w.heap.size, 8, none⟩ = some (.slice (some ⟨bb, oo, none⟩) l c) ∧ W.cell? ⟨(w.heap.size + 1), 8, none⟩ = some (.slice (some ⟨bb', oo', none⟩) l c') ∧ W.cell? ⟨bb, (oo + q * 9), none⟩ = some (.int .i64 kk) ∧ W.cell? ⟨bb, (oo + q * 9 + 1), none⟩ = some (.int .i64 pn) ∧ W.cell? ⟨bb, (oo + q * 9 + 2), none⟩ = some (.int .i64 px) ∧ W.cell? ⟨bb, (oo + q * 9 + 3), none⟩ = some (.int .i64 pm) ∧ W.cell? ⟨bb, (oo + q * 9 + 4), none⟩ = some (Value.int .u64 (pt.a : Int)) ∧ W.cell? ⟨bb, (oo + q * 9 + 5), none⟩ = some (Value.int .u64 (pt.b : Int)) ∧ W.cell? ⟨bb, (oo + q * 9 + 6), none⟩ = some (Value.int .u64 (pt.c : Int)) ∧ W.cell? ⟨bb, (oo + q * 9 + 7), none⟩ = some (Value.int .u64 (pt.d : Int)) ∧ W.cell? ⟨bb, (oo + q * 9 + 8), none⟩ = some (Value.slice pad pl pc) ∧ W.cell? ⟨bb', (oo' + q * 9), none⟩ = some (.int .i64 kk') ∧ W.cell? ⟨bb', (oo' + q * 9 + 1), none⟩ = some (.int .i64 pn') ∧ W.cell? ⟨bb', (oo' + q * 9 + 2), none⟩ = some (.int .i64 px') ∧ W.cell? ⟨bb', (oo' + q * 9 + 3), none⟩ = some (.int .i64 pm') ∧ W.cell? ⟨bb', (oo' + q * 9 + 4), none⟩ = some (Value.int .u64 (pt'.a : Int)) ∧ W.cell? ⟨bb', (oo' + q * 9 + 5), none⟩ = some (Value.int .u64 (pt'.b : Int)) ∧ W.cell? ⟨bb', (oo' + q * 9 + 6), none⟩ = some (Value.int .u64 (pt'.c : Int)) ∧ W.cell? ⟨bb', (oo' + q * 9 + 7), none⟩ = some (Value.int .u64 (pt'.d : Int)) ∧ W.cell? ⟨bb', (oo' + q * 9 + 8), none⟩ = some (Value.slice pad' pl' pc') ∧ Hid (Kp wr W)) := fun W k => ⟨bl_cell (bl_kp A1.out k) 8 _ rfl, bl_cell (bl_kp B1.out k) 8 _ rfl, (cells_of_is (C1.out.turn (k.block _ hbb))).1, (cells_of_is (C1.out.turn (k.block _ hbb))).2.1, (cells_of_is (C1.out.turn (k.block _ hbb))).2.2.1, (cells_of_is (C1.out.turn (k.block _ hbb))).2.2.2.1, (cells_of_is (C1.out.turn (k.block _ hbb))).2.2.2.2.1, (cells_of_is (C1.out.turn (k.block _ hbb))).2.2.2.2.2.1, (cells_of_is (C1.out.turn (k.block _ hbb))).2.2.2.2.2.2.1, (cells_of_is (C1.out.turn (k.block _ hbb))).2.2.2.2.2.2.2.1, (cells_of_is (C1.out.turn (k.block _ hbb))).2.2.2.2.2.2.2.2, (cells_of_is (C2.out.turn (k.block _ hbb'))).1, (cells_of_is (C2.out.turn (k.block _ hbb'))).2.1, (cells_of_is (C2.out.turn (k.block _ hbb'))).2.2.1, (cells_of_is (C2.out.turn (k.block _ hbb'))).2.2.2.1, (cells_of_is (C2.out.turn (k.block _ hbb'))).2.2.2.2.1, (cells_of_is (C2.out.turn (k.block _ hbb'))).2.2.2.2.2.1, (cells_of_is (C2.out.turn (k.block _ hbb'))).2.2.2.2.2.2.1, (cells_of_is (C2.out.turn (k.block _ hbb'))).2.2.2.2.2.2.2.1, (cells_of_is (C2.out.turn (k.block _ hbb'))).2.2.2.2.2.2.2.2, k⟩
        refine wp_region_noPanic ?_
        refine wp_region_held_drew (S := (fun W => W.cell? ⟨w.heap.size, 8, none⟩ = some (.slice (some ⟨bb, oo, none⟩) l c) ∧ W.cell? ⟨(w.heap.size + 1), 8, none⟩ = some (.slice (some ⟨bb', oo', none⟩) l c') ∧ W.cell? ⟨bb, (oo + q * 9), none⟩ = some (.int .i64 kk) ∧ W.cell? ⟨bb, (oo + q * 9 + 1), none⟩ = some (.int .i64 pn) ∧ W.cell? ⟨bb, (oo + q * 9 + 2), none⟩ = some (.int .i64 px) ∧ W.cell? ⟨bb, (oo + q * 9 + 3), none⟩ = some (.int .i64 pm) ∧ W.cell? ⟨bb, (oo + q * 9 + 4), none⟩ = some (Value.int .u64 (pt.a : Int)) ∧ W.cell? ⟨bb, (oo + q * 9 + 5), none⟩ = some (Value.int .u64 (pt.b : Int)) ∧ W.cell? ⟨bb, (oo + q * 9 + 6), none⟩ = some (Value.int .u64 (pt.c : Int)) ∧ W.cell? ⟨bb, (oo + q * 9 + 7), none⟩ = some (Value.int .u64 (pt.d : Int)) ∧ W.cell? ⟨bb, (oo + q * 9 + 8), none⟩ = some (Value.slice pad pl pc) ∧ W.cell? ⟨bb', (oo' + q * 9), none⟩ = some (.int .i64 kk') ∧ W.cell? ⟨bb', (oo' + q * 9 + 1), none⟩ = some (.int .i64 pn') ∧ W.cell? ⟨bb', (oo' + q * 9 + 2), none⟩ = some (.int .i64 px') ∧ W.cell? ⟨bb', (oo' + q * 9 + 3), none⟩ = some (.int .i64 pm') ∧ W.cell? ⟨bb', (oo' + q * 9 + 4), none⟩ = some (Value.int .u64 (pt'.a : Int)) ∧ W.cell? ⟨bb', (oo' + q * 9 + 5), none⟩ = some (Value.int .u64 (pt'.b : Int)) ∧ W.cell? ⟨bb', (oo' + q * 9 + 6), none⟩ = some (Value.int .u64 (pt'.c : Int)) ∧ W.cell? ⟨bb', (oo' + q * 9 + 7), none⟩ = some (Value.int .u64 (pt'.d : Int)) ∧ W.cell? ⟨bb', (oo' + q * 9 + 8), none⟩ = some (Value.slice pad' pl' pc') ∧ Hid (Kp wr W))) (by kernel_rfl) ?_ (fun hH => ?_)
        · exact MK.out _ Q0
        have KQ := Q0
        refine wpAnyH_take (i := 0) (oi := { dst := some 54, op := Op.fieldAddr 30 (Operand.tmp 2) 5, type := 0, pos := "keep.go:127", after := #[], guard := none }) (v := ?v0a1) rfl (by kernel_rfl) (by kernel_rfl) (by kernel_rfl) (fun _ _ _ h => h) (Or.inl ⟨by rfl, ?hy0a1⟩) hH ?r0a1
        case hy0a1 => (intro W hSw; (try dsimp only at hSw); go_simp; try (with_reducible rfl))
        try simp only [Act.put, List.setIfInBounds_toArray, List.set_cons_zero, List.set_cons_succ]
        refine wpAnyH_take (i := 1) (oi := { dst := some 55, op := Op.load 28 (Operand.tmp 54), type := 28, pos := "keep.go:127", after := #[{ on := 0, ground := Ground.data }], guard := none }) (v := ?v1a2) rfl (by kernel_rfl) (by kernel_rfl) (by kernel_rfl) (fun _ _ _ h => h) (Or.inl ⟨by rfl, ?hy1a2⟩) hH ?r1a2
        case hy1a2 => (intro W hSw; (try dsimp only at hSw); go_simp; try (with_reducible rfl))
        try simp only [Act.put, List.setIfInBounds_toArray, List.set_cons_zero, List.set_cons_succ]
        refine wpAnyH_take (i := 2) (oi := { dst := some 56, op := Op.move (Operand.tmp 5), type := 3, pos := "keep.go:127", after := #[], guard := none }) (v := ?v2a3) rfl (by kernel_rfl) (by kernel_rfl) (by kernel_rfl) (fun _ _ _ h => h) (Or.inl ⟨by rfl, ?hy2a3⟩) hH ?r2a3
        case hy2a3 => (intro W hSw; (try dsimp only at hSw); go_simp; try (with_reducible rfl))
        try simp only [Act.put, List.setIfInBounds_toArray, List.set_cons_zero, List.set_cons_succ]
        refine wpAnyH_take (i := 3) (oi := { dst := some 57, op := Op.indexAddr 28 (Operand.tmp 55) (Operand.tmp 56), type := 0, pos := "keep.go:127", after := #[{ on := 1, ground := Ground.data }, { on := 2, ground := Ground.data }], guard := none }) (v := ?v3a4) rfl (by kernel_rfl) (by kernel_rfl) (by kernel_rfl) (fun _ _ _ h => h) (Or.inl ⟨by rfl, ?hy3a4⟩) hH ?r3a4
        case hy3a4 => (intro W hSw; (try dsimp only at hSw); go_simp; try (with_reducible rfl))
        try simp only [Act.put, List.setIfInBounds_toArray, List.set_cons_zero, List.set_cons_succ]
        refine wpAnyH_take (i := 4) (oi := { dst := some 58, op := Op.load 30 (Operand.tmp 57), type := 30, pos := "keep.go:127", after := #[{ on := 3, ground := Ground.data }], guard := none }) (v := ?v4a5) rfl (by kernel_rfl) (by kernel_rfl) (by kernel_rfl) (fun _ _ _ h => h) (Or.inl ⟨by rfl, ?hy4a5⟩) hH ?r4a5
        case hy4a5 => (intro W hSw; (try dsimp only at hSw); go_simp; try (with_reducible rfl))
        try simp only [Act.put, List.setIfInBounds_toArray, List.set_cons_zero, List.set_cons_succ]
        refine wpAnyH_take (i := 5) (oi := { dst := some 59, op := Op.fieldAddr 30 (Operand.tmp 3) 5, type := 0, pos := "keep.go:127", after := #[], guard := none }) (v := ?v5a6) rfl (by kernel_rfl) (by kernel_rfl) (by kernel_rfl) (fun _ _ _ h => h) (Or.inl ⟨by rfl, ?hy5a6⟩) hH ?r5a6
        case hy5a6 => (intro W hSw; (try dsimp only at hSw); go_simp; try (with_reducible rfl))
        try simp only [Act.put, List.setIfInBounds_toArray, List.set_cons_zero, List.set_cons_succ]
        refine wpAnyH_take (i := 6) (oi := { dst := some 60, op := Op.load 28 (Operand.tmp 59), type := 28, pos := "keep.go:127", after := #[{ on := 5, ground := Ground.data }], guard := none }) (v := ?v6a7) rfl (by kernel_rfl) (by kernel_rfl) (by kernel_rfl) (fun _ _ _ h => h) (Or.inl ⟨by rfl, ?hy6a7⟩) hH ?r6a7
        case hy6a7 => (intro W hSw; (try dsimp only at hSw); go_simp; try (with_reducible rfl))
        try simp only [Act.put, List.setIfInBounds_toArray, List.set_cons_zero, List.set_cons_succ]
        refine wpAnyH_take (i := 7) (oi := { dst := some 61, op := Op.move (Operand.tmp 5), type := 3, pos := "keep.go:127", after := #[], guard := none }) (v := ?v7a8) rfl (by kernel_rfl) (by kernel_rfl) (by kernel_rfl) (fun _ _ _ h => h) (Or.inl ⟨by rfl, ?hy7a8⟩) hH ?r7a8
        case hy7a8 => (intro W hSw; (try dsimp only at hSw); go_simp; try (with_reducible rfl))
        try simp only [Act.put, List.setIfInBounds_toArray, List.set_cons_zero, List.set_cons_succ]
        refine wpAnyH_take (i := 8) (oi := { dst := some 62, op := Op.indexAddr 28 (Operand.tmp 60) (Operand.tmp 61), type := 0, pos := "keep.go:127", after := #[{ on := 6, ground := Ground.data }, { on := 7, ground := Ground.data }], guard := none }) (v := ?v8a9) rfl (by kernel_rfl) (by kernel_rfl) (by kernel_rfl) (fun _ _ _ h => h) (Or.inl ⟨by rfl, ?hy8a9⟩) hH ?r8a9
        case hy8a9 => (intro W hSw; (try dsimp only at hSw); go_simp; try (with_reducible rfl))
        try simp only [Act.put, List.setIfInBounds_toArray, List.set_cons_zero, List.set_cons_succ]
        refine wpAnyH_take (i := 9) (oi := { dst := some 63, op := Op.load 30 (Operand.tmp 62), type := 30, pos := "keep.go:127", after := #[{ on := 8, ground := Ground.data }], guard := none }) (v := ?v9a10) rfl (by kernel_rfl) (by kernel_rfl) (by kernel_rfl) (fun _ _ _ h => h) (Or.inl ⟨by rfl, ?hy9a10⟩) hH ?r9a10
        case hy9a10 => (intro W hSw; (try dsimp only at hSw); go_simp; try (with_reducible rfl))
        try simp only [Act.put, List.setIfInBounds_toArray, List.set_cons_zero, List.set_cons_succ]
        refine wpAnyH_ready (rs := [10]) (by kernel_rfl) (by simp) ?_
        refine AllReadyH.cons (o := { dst := some 64, op := Op.call { callee := Callee.value (Operand.func 10), args := #[Operand.tmp 58, Operand.tmp 63], argTypes := #[30, 30] }, type := 4, pos := "keep.go:127", after := #[{ on := 4, ground := Ground.data }, { on := 9, ground := Ground.data }], guard := none }) rfl (fun K hKq => ?_) AllReadyH.nil
        go_simp
        refine (TS.out.all r' _ _ _ ok ok' (I1.out.kp KQ) (I2.out.kp KQ)).mono ?_
        rintro e y1 ⟨rfl, kq⟩
        rw [HZ.out]
        refine hKq.out _ _ (MK.out _ (KQ.trans kq)) (fun hN => ?_)
        clear kq
        clear hKq K hH KQ
        have hH := hN
        clear hN
        have KQ := hH.2.2.2.2.2.2.2.2.2.2.2.2.2.2.2.2.2.2.2.2.out
        try simp only [Act.put, List.setIfInBounds_toArray, List.set_cons_zero, List.set_cons_succ]
        refine wpAnyH_take (i := 11) (oi := { dst := some 65, op := Op.unOp UnOp.not 4 (Operand.tmp 64), type := 4, pos := "keep.go:127", after := #[{ on := 10, ground := Ground.data }], guard := none }) (v := ?v11a11) rfl (by kernel_rfl) (by kernel_rfl) (by kernel_rfl) (fun _ _ _ h => h) (Or.inl ⟨by rfl, ?hy11a11⟩) hH ?r11a11
        case hy11a11 => (intro W hSw; (try dsimp only at hSw); go_simp; try (with_reducible rfl))
        try simp only [Act.put, List.setIfInBounds_toArray, List.set_cons_zero, List.set_cons_succ]
        refine wpAnyH_done (by kernel_rfl) ?_ _
        refine NoPanic.normal ?_
        have K2 := hid (K1.out.trans KQ)
        cases z with
        | false =>
          have EF : Hid (Z = false) := by show _ = _; rw [E.out, S1.out]; rfl
          go_wp2_with fail
          go_ret
          exact ⟨ret_bool EF.out.symm, K.out.trans K2.out⟩
        | true =>
          have ET : Hid (sameL kids kids' = sameL (kids.drop (q + 1)) (kids'.drop (q + 1))) := by show _ = _; rw [S1.out]; rfl
          go_wp2_with fail
          go_roundg (gk - 1)
          case measure => omega
          case rel => exact ⟨q + 1, by omega, by go_num, ET.out, K2.out⟩
      · have ga : ¬ (q : Int) < (l : Int) := by omega
        have ET : Hid (Z = true) := by show _ = _; rw [E.out, S.out]; exact sameL_end _ _ _ (by rw [← L1.out]; omega) (by rw [← lb.out]; omega)
        go_wp2_with fail
        go_ret
        exact ⟨ret_bool ET.out.symm, K.out.trans K1.out⟩

theorem ksame_any : ∀ a, RxFit a → KSameSaid a
  | .mk k mn mx n s kids, h => by
    unfold RxFit at h
    exact ksame_step k mn mx n s kids (fun a ha => ksame_any a (h.2 a ha)) h.1
termination_by a => SizeOf.sizeOf a
decreasing_by
  have := List.sizeOf_lt_of_mem ha
  simp
  omega
end Go.Proofs.YtikmgckefbjbkabGreatDoor

/-! ### Within2 -/

namespace Go.Proofs.YtikmgckefbjbkabGreatDoor
open Go.RowKit

/-- The book's Within(n, lo, hi). -/
def wit (n lo hi : Int) : Int := if n.tmod (hi - lo + 1) < 0 then lo + (n.tmod (hi - lo + 1) + (hi - lo + 1)) else lo + n.tmod (hi - lo + 1)
theorem wit_le (n lo hi : Int) (h : lo ≤ hi) : lo ≤ wit n lo hi ∧ wit n lo hi ≤ hi := by
  have hm1 : -(hi - lo + 1) < n.tmod (hi - lo + 1) := by
    have h2 := Int.tmod_lt_of_pos (-n) (show 0 < hi - lo + 1 by omega)
    rw [Int.neg_tmod] at h2; omega
  have hm2 : n.tmod (hi - lo + 1) < hi - lo + 1 := Int.tmod_lt_of_pos n (by omega)
  unfold wit; split <;> omega
theorem within_any (n lo hi : Int) (w : World) (h : lo ≤ hi) (h0 : -10 ≤ lo) (h1 : hi ≤ 1000000) :
    Calls Tryz.prog 6 #[.int .i64 n, .int .i64 lo, .int .i64 hi] w fun e w' => e = .returned (.int .i64 (wit n lo hi)) ∧ w' = w := by
  have hm1 : -(hi - lo + 1) < n.tmod (hi - lo + 1) := by
    have h2 := Int.tmod_lt_of_pos (-n) (show 0 < hi - lo + 1 by omega)
    rw [Int.neg_tmod] at h2; omega
  have hm2 : n.tmod (hi - lo + 1) < hi - lo + 1 := Int.tmod_lt_of_pos n (by omega)
  have ri : ∀ {a b : Int}, a = b → Ending.returned (.int .i64 a) = .returned (.int .i64 b) := fun h => by rw [h]
  by_cases hneg : n.tmod (hi - lo + 1) < 0
  · have E : Hid (wit n lo hi = lo + (n.tmod (hi - lo + 1) + (hi - lo + 1))) := by show _ = _; unfold wit; rw [if_pos hneg]
    go_enter Tryz.func6, Tryz.ntmps6
    go_wp2
    go_ret
    exact ⟨ri (by rw [E.out]; omega), rfl⟩
  · have E : Hid (wit n lo hi = lo + n.tmod (hi - lo + 1)) := by show _ = _; unfold wit; rw [if_neg hneg]
    go_enter Tryz.func6, Tryz.ntmps6
    go_wp2
    go_ret
    exact ⟨ri (by rw [E.out]), rfl⟩
end Go.Proofs.YtikmgckefbjbkabGreatDoor

/-! ### Num2 -/

namespace Go.Proofs.YtikmgckefbjbkabGreatDoor
open Go.RowKit

theorem conv_at (w : World) (B b : Nat) (hb : b < 256) (hc : w.cell? ⟨B, 0, none⟩ = some (.int .u8 (b : Int))) : (convert 46 9 (.slice (some ⟨B, 0, none⟩) 1 1)).run Tryz.prog w = .ok (.string (bs [UInt8.ofNat b])) w := by
  refine run_convert_bytes_back w 46 9 5 ⟨B, 0, none⟩ 1 [UInt8.ofNat b] Tryz.underlying46 Tryz.underlying5 Tryz.underlying9 ?_
  intro j hj
  have h0 : j = 0 := by simp at hj; exact hj
  subst h0
  refine hc.trans ?_
  show some _ = some _
  simp
  omega
theorem dec1 (n : Nat) (h : n < 10) : dec n = [UInt8.ofNat (48 + n)] := by unfold dec; rw [Lib.decDigits, dif_pos h]
theorem dec2 (n : Nat) (h : 10 ≤ n) (h' : n < 100) : dec n = dec (n / 10) ++ [UInt8.ofNat (48 + n % 10)] := by
  unfold dec
  rw [Lib.decDigits, dif_neg (by omega)]
set_option maxHeartbeats 2000000 in
set_option maxRecDepth 100000 in
theorem num1 (n : Nat) (h : n < 10) (w : World) : Calls Tryz.prog 7 #[.int .i64 (n : Int)] w fun e w' => e = .returned (.string (bs (dec n))) ∧ Kp w w' := by
  have hl : (n : Int) < 10 := by omega
  have E : Hid (dec n = [UInt8.ofNat (48 + n)]) := dec1 n h
  have g1 : IntKind.i64.wrap (48 + (n : Int)) = ((48 + n : Nat) : Int) := by rw [IntKind.wrap_i64]; omega
  have g2 : IntKind.u8.wrap (48 + (n : Int)) = ((48 + n : Nat) : Int) := by rw [IntKind.wrap_u8']; omega
  have g3 : IntKind.u8.wrap ((48 + n : Nat) : Int) = ((48 + n : Nat) : Int) := by rw [IntKind.wrap_u8']; omega
  have cv := conv_one w (48 + n) (by omega)
  obtain ⟨b, hb⟩ : ∃ b, 48 + n = b := ⟨_, rfl⟩
  rw [hb] at E cv g1 g2 g3
  clear hb
  go_enter Tryz.func7, Tryz.ntmps7
  go_wp2_with fail
  go_ret
  exact ⟨by rw [E.out]; rfl, (Kp.refl _).alloc _⟩
set_option maxHeartbeats 2000000 in
set_option maxRecDepth 100000 in
theorem num_any (n : Nat) (h : n < 100) (w : World) : Calls Tryz.prog 7 #[.int .i64 (n : Int)] w fun e w' => e = .returned (.string (bs (dec n))) ∧ Kp w w' := by
  by_cases h10 : n < 10
  · exact num1 n h10 w
  have hl : ¬ (n : Int) < 10 := by omega
  obtain ⟨q, hq⟩ : ∃ q, n / 10 = q := ⟨_, rfl⟩
  obtain ⟨b, hb⟩ : ∃ b, 48 + n % 10 = b := ⟨_, rfl⟩
  have NM := hid (fun w => num1 q (by omega) w)
  have hz : (bs (dec q)).size ≤ 10 := by rw [bs_size]; have := dec_len q (by omega); omega
  have hz2 : (bs [UInt8.ofNat b]).size ≤ 10 := by rw [bs_size]; simp
  have E : Hid (bs (dec n) = bs (dec q) ++ bs [UInt8.ofNat b]) := by show _ = _; rw [dec2 n (by omega) h, bs_app, hq, hb]
  obtain ⟨D1, hD1⟩ : ∃ D, bs (dec q) = D := ⟨_, rfl⟩
  obtain ⟨D2, hD2⟩ : ∃ D, bs [UInt8.ofNat b] = D := ⟨_, rfl⟩
  rw [hD1] at NM hz E
  rw [hD2] at hz2 E
  have HT := hid hD2
  clear hD1 hD2
  have hb8 : b < 256 := by omega
  have e1 : (n : Int) / 10 = (q : Int) := by omega
  obtain ⟨r, hr⟩ : ∃ r, n % 10 = r := ⟨_, rfl⟩
  have e2 : (n : Int) % 10 = (r : Int) := by omega
  have e3 : (n : Int).tdiv 10 = (q : Int) := by rw [Int.tdiv_eq_ediv_of_nonneg (by omega)]; omega
  have e4 : (n : Int).tmod 10 = (r : Int) := by rw [Int.tmod_eq_emod_of_nonneg (by omega)]; omega
  have e5 : 48 + (r : Int) = (b : Int) := by omega
  have gr : IntKind.i64.wrap (r : Int) = (r : Int) := by rw [IntKind.wrap_i64]; omega
  have gw : IntKind.i64.wrap (q : Int) = (q : Int) := by rw [IntKind.wrap_i64]; omega
  have gb : IntKind.i64.wrap (b : Int) = (b : Int) := by rw [IntKind.wrap_i64]; omega
  have gb8 : IntKind.u8.wrap (b : Int) = (b : Int) := by rw [IntKind.wrap_u8']; omega
  clear hq hb hr
  go_enter Tryz.func7, Tryz.ntmps7
  go_upto_region 3 with fail
  have Q0 : Kp w w.drew := (Kp.refl _).drew
  have MK : Hid (∀ W, Kp w W → Hid (Kp w W)) := fun W k => k
  refine wp_region_noPanic ?_
  refine wp_region_held_drew (S := (fun W => Hid (Kp w W))) (by kernel_rfl) ?_ (fun hH => ?_)
  · exact MK.out _ Q0
  have KQ := Q0
  refine wpAnyH_take (i := 0) (oi := { dst := some 10, op := Op.move (Operand.tmp 0), type := 3, pos := "keep.go:306", after := #[], guard := none }) (v := ?v0n1) rfl (by kernel_rfl) (by kernel_rfl) (by kernel_rfl) (fun _ _ _ h => h) (Or.inl ⟨by rfl, ?hy0n1⟩) hH ?r0n1
  case hy0n1 => (intro W hSw; (try dsimp only at hSw); go_simp; try (with_reducible rfl))
  try simp only [Act.put, List.setIfInBounds_toArray, List.set_cons_zero, List.set_cons_succ]
  refine wpAnyH_take (i := 1) (oi := { dst := some 11, op := Op.binOp BinOp.quo 3 (Operand.tmp 10) (Operand.const (Value.int IntKind.i64 10)) 3, type := 3, pos := "keep.go:306", after := #[{ on := 0, ground := Ground.data }], guard := none }) (v := ?v1n2) rfl (by kernel_rfl) (by kernel_rfl) (by kernel_rfl) (fun _ _ _ h => h) (Or.inl ⟨by rfl, ?hy1n2⟩) hH ?r1n2
  case hy1n2 => (intro W hSw; (try dsimp only at hSw); go_simp; try (with_reducible rfl))
  try simp only [Act.put, List.setIfInBounds_toArray, List.set_cons_zero, List.set_cons_succ]
  refine wpAnyH_take (i := 3) (oi := { dst := some 13, op := Op.move (Operand.tmp 0), type := 3, pos := "keep.go:306", after := #[], guard := none }) (v := ?v3n3) rfl (by kernel_rfl) (by kernel_rfl) (by kernel_rfl) (fun _ _ _ h => h) (Or.inl ⟨by rfl, ?hy3n3⟩) hH ?r3n3
  case hy3n3 => (intro W hSw; (try dsimp only at hSw); go_simp; try (with_reducible rfl))
  try simp only [Act.put, List.setIfInBounds_toArray, List.set_cons_zero, List.set_cons_succ]
  refine wpAnyH_take (i := 4) (oi := { dst := some 14, op := Op.binOp BinOp.rem 3 (Operand.tmp 13) (Operand.const (Value.int IntKind.i64 10)) 3, type := 3, pos := "keep.go:306", after := #[{ on := 3, ground := Ground.data }], guard := none }) (v := ?v4n4) rfl (by kernel_rfl) (by kernel_rfl) (by kernel_rfl) (fun _ _ _ h => h) (Or.inl ⟨by rfl, ?hy4n4⟩) hH ?r4n4
  case hy4n4 => (intro W hSw; (try dsimp only at hSw); go_simp; try (with_reducible rfl))
  try simp only [Act.put, List.setIfInBounds_toArray, List.set_cons_zero, List.set_cons_succ]
  refine wpAnyH_take (i := 5) (oi := { dst := some 15, op := Op.binOp BinOp.add 3 (Operand.const (Value.int IntKind.i64 48)) (Operand.tmp 14) 3, type := 3, pos := "keep.go:306", after := #[{ on := 4, ground := Ground.data }], guard := none }) (v := ?v5n5) rfl (by kernel_rfl) (by kernel_rfl) (by kernel_rfl) (fun _ _ _ h => h) (Or.inl ⟨by rfl, ?hy5n5⟩) hH ?r5n5
  case hy5n5 => (intro W hSw; (try dsimp only at hSw); go_simp; try (with_reducible rfl))
  try simp only [Act.put, List.setIfInBounds_toArray, List.set_cons_zero, List.set_cons_succ]
  refine wpAnyH_take (i := 6) (oi := { dst := some 16, op := Op.convert 3 5 (Operand.tmp 15), type := 5, pos := "keep.go:306", after := #[{ on := 5, ground := Ground.data }], guard := none }) (v := ?v6n6) rfl (by kernel_rfl) (by kernel_rfl) (by kernel_rfl) (fun _ _ _ h => h) (Or.inl ⟨by rfl, ?hy6n6⟩) hH ?r6n6
  case hy6n6 => (intro W hSw; (try dsimp only at hSw); go_simp; try (with_reducible rfl))
  try simp only [Act.put, List.setIfInBounds_toArray, List.set_cons_zero, List.set_cons_succ]
  refine wpAnyH_ready (rs := [2, 7]) (by kernel_rfl) (by simp) ?_
  refine AllReadyH.cons (o := { dst := some 12, op := Op.call { callee := Callee.value (Operand.func 7), args := #[Operand.tmp 11], argTypes := #[3] }, type := 9, pos := "keep.go:306", after := #[{ on := 1, ground := Ground.data }], guard := none }) rfl (fun K hKq => ?_) ?_
  ·
    go_simp
    refine (NM.out _).mono ?_
    rintro e y1 ⟨rfl, kq⟩
    try have CB : Hid (y1.cell? ⟨w.heap.size, 0, none⟩ = some (.int .u8 (b : Int))) := (kq.cell (by simp [World.drew])).trans (bl_cell (last_drew _ _) 0 _ rfl)
    refine hKq.out _ _ (MK.out _ (KQ.trans kq)) (fun hN => ?_)
    clear kq
    clear hKq K hH KQ
    have hH := hN
    clear hN
    have KQ := hH.out
    try simp only [Act.put, List.setIfInBounds_toArray, List.set_cons_zero, List.set_cons_succ]
    refine wpAnyH_ready (rs := [7]) (by kernel_rfl) (by simp) ?_
    refine AllReadyH.cons (o := { dst := some 17, op := Op.buildSlice 46 1 #[(0, Operand.tmp 16)], type := 46, pos := "keep.go:306", after := #[{ on := 6, ground := Ground.data }], guard := none }) rfl (fun K hKq => ?_) AllReadyH.nil
    go_simp
    refine hKq.out _ _ (MK.out _ (by first | exact KQ.alloc _ | exact (KQ0.alloc _).drew)) (fun hN => ?_)
    clear hKq K hH KQ
    have hH := hN
    clear hN
    have KQ := hH.out
    try simp only [Act.put, List.setIfInBounds_toArray, List.set_cons_zero, List.set_cons_succ]
    refine wpAnyH_ready (rs := [8]) (by kernel_rfl) (by simp) ?_
    refine AllReadyH.cons (o := { dst := some 18, op := Op.convert 46 9 (Operand.tmp 17), type := 9, pos := "keep.go:306", after := #[{ on := 7, ground := Ground.data }], guard := none }) rfl (fun K hKq => ?_) AllReadyH.nil
    first
    | (have cv := conv_at _ w.heap.size b hb8 CB.out; rw [HT.out] at cv; go_simp; refine hKq.out _ _ (MK.out _ KQ) (fun hN => ?_))
    | (have cv := conv_at (w.alloc (.cells #[.int .u8 (b : Int)] 5)).drew w.heap.size b hb8 (bl_cell (last_drew _ _) 0 _ rfl); rw [HT.out] at cv; go_simp; refine hKq.out _ _ (MK.out _ KQ) (fun hN => ?_))
    | (have cv := conv_at (y1.alloc (.cells #[.int .u8 (b : Int)] 5)) y1.heap.size b hb8 (bl_cell (last_of _ _) 0 _ rfl); rw [HT.out] at cv; go_simp; refine hKq.out _ _ (MK.out _ KQ) (fun hN => ?_))
    clear hKq K hH KQ
    have hH := hN
    clear hN
    have KQ := hH.out
    try simp only [Act.put, List.setIfInBounds_toArray, List.set_cons_zero, List.set_cons_succ]
    refine wpAnyH_ready (rs := [9]) (by kernel_rfl) (by simp) ?_
    refine AllReadyH.cons (o := { dst := some 19, op := Op.binOp BinOp.add 9 (Operand.tmp 12) (Operand.tmp 18) 9, type := 9, pos := "keep.go:306", after := #[{ on := 2, ground := Ground.data }, { on := 8, ground := Ground.data }], guard := none }) rfl (fun K hKq => ?_) AllReadyH.nil
    go_simp
    rw [if_neg (by omega)]
    refine hKq.out _ _ (MK.out _ KQ) (fun hN => ?_)
    clear hKq K hH KQ
    have hH := hN
    clear hN
    have KQ := hH.out
    try simp only [Act.put, List.setIfInBounds_toArray, List.set_cons_zero, List.set_cons_succ]
    refine wpAnyH_take (i := 10) (oi := { dst := some 2, op := Op.assign (Operand.tmp 19), type := 9, pos := "keep.go:306", after := #[{ on := 9, ground := Ground.data }, { on := 2, ground := Ground.chain }, { on := 0, ground := Ground.phase }, { on := 1, ground := Ground.phase }, { on := 2, ground := Ground.phase }, { on := 3, ground := Ground.phase }, { on := 4, ground := Ground.phase }, { on := 5, ground := Ground.phase }, { on := 6, ground := Ground.phase }, { on := 7, ground := Ground.phase }, { on := 8, ground := Ground.phase }, { on := 9, ground := Ground.phase }], guard := none }) (v := ?v10n7) rfl (by kernel_rfl) (by kernel_rfl) (by kernel_rfl) (fun _ _ _ h => h) (Or.inl ⟨by rfl, ?hy10n7⟩) hH ?r10n7
    case hy10n7 => (intro W hSw; (try dsimp only at hSw); go_simp; try (with_reducible rfl))
    try simp only [Act.put, List.setIfInBounds_toArray, List.set_cons_zero, List.set_cons_succ]
    refine wpAnyH_done (by kernel_rfl) ?_ _
    refine NoPanic.normal ?_
    go_wp2_with fail
    go_ret
    exact ⟨by rw [E.out]; rfl, KQ⟩
  refine AllReadyH.cons (o := { dst := some 17, op := Op.buildSlice 46 1 #[(0, Operand.tmp 16)], type := 46, pos := "keep.go:306", after := #[{ on := 6, ground := Ground.data }], guard := none }) rfl (fun K hKq => ?_) ?_
  ·
    go_simp
    refine hKq.out _ _ (MK.out _ (by first | exact KQ.alloc _ | exact (KQ0.alloc _).drew)) (fun hN => ?_)
    clear hKq K hH KQ
    have hH := hN
    clear hN
    have KQ := hH.out
    try simp only [Act.put, List.setIfInBounds_toArray, List.set_cons_zero, List.set_cons_succ]
    refine wpAnyH_ready (rs := [2, 8]) (by kernel_rfl) (by simp) ?_
    refine AllReadyH.cons (o := { dst := some 12, op := Op.call { callee := Callee.value (Operand.func 7), args := #[Operand.tmp 11], argTypes := #[3] }, type := 9, pos := "keep.go:306", after := #[{ on := 1, ground := Ground.data }], guard := none }) rfl (fun K hKq => ?_) ?_
    ·
      go_simp
      refine (NM.out _).mono ?_
      rintro e y2 ⟨rfl, kq⟩
      try have CB : Hid (y2.cell? ⟨w.heap.size, 0, none⟩ = some (.int .u8 (b : Int))) := (kq.cell (by simp [World.drew])).trans (bl_cell (last_drew _ _) 0 _ rfl)
      refine hKq.out _ _ (MK.out _ (KQ.trans kq)) (fun hN => ?_)
      clear kq
      clear hKq K hH KQ
      have hH := hN
      clear hN
      have KQ := hH.out
      try simp only [Act.put, List.setIfInBounds_toArray, List.set_cons_zero, List.set_cons_succ]
      refine wpAnyH_ready (rs := [8]) (by kernel_rfl) (by simp) ?_
      refine AllReadyH.cons (o := { dst := some 18, op := Op.convert 46 9 (Operand.tmp 17), type := 9, pos := "keep.go:306", after := #[{ on := 7, ground := Ground.data }], guard := none }) rfl (fun K hKq => ?_) AllReadyH.nil
      first
      | (have cv := conv_at _ w.heap.size b hb8 CB.out; rw [HT.out] at cv; go_simp; refine hKq.out _ _ (MK.out _ KQ) (fun hN => ?_))
      | (have cv := conv_at (w.alloc (.cells #[.int .u8 (b : Int)] 5)).drew w.heap.size b hb8 (bl_cell (last_drew _ _) 0 _ rfl); rw [HT.out] at cv; go_simp; refine hKq.out _ _ (MK.out _ KQ) (fun hN => ?_))
      | (have cv := conv_at (y1.alloc (.cells #[.int .u8 (b : Int)] 5)) y1.heap.size b hb8 (bl_cell (last_of _ _) 0 _ rfl); rw [HT.out] at cv; go_simp; refine hKq.out _ _ (MK.out _ KQ) (fun hN => ?_))
      clear hKq K hH KQ
      have hH := hN
      clear hN
      have KQ := hH.out
      try simp only [Act.put, List.setIfInBounds_toArray, List.set_cons_zero, List.set_cons_succ]
      refine wpAnyH_ready (rs := [9]) (by kernel_rfl) (by simp) ?_
      refine AllReadyH.cons (o := { dst := some 19, op := Op.binOp BinOp.add 9 (Operand.tmp 12) (Operand.tmp 18) 9, type := 9, pos := "keep.go:306", after := #[{ on := 2, ground := Ground.data }, { on := 8, ground := Ground.data }], guard := none }) rfl (fun K hKq => ?_) AllReadyH.nil
      go_simp
      rw [if_neg (by omega)]
      refine hKq.out _ _ (MK.out _ KQ) (fun hN => ?_)
      clear hKq K hH KQ
      have hH := hN
      clear hN
      have KQ := hH.out
      try simp only [Act.put, List.setIfInBounds_toArray, List.set_cons_zero, List.set_cons_succ]
      refine wpAnyH_take (i := 10) (oi := { dst := some 2, op := Op.assign (Operand.tmp 19), type := 9, pos := "keep.go:306", after := #[{ on := 9, ground := Ground.data }, { on := 2, ground := Ground.chain }, { on := 0, ground := Ground.phase }, { on := 1, ground := Ground.phase }, { on := 2, ground := Ground.phase }, { on := 3, ground := Ground.phase }, { on := 4, ground := Ground.phase }, { on := 5, ground := Ground.phase }, { on := 6, ground := Ground.phase }, { on := 7, ground := Ground.phase }, { on := 8, ground := Ground.phase }, { on := 9, ground := Ground.phase }], guard := none }) (v := ?v10n8) rfl (by kernel_rfl) (by kernel_rfl) (by kernel_rfl) (fun _ _ _ h => h) (Or.inl ⟨by rfl, ?hy10n8⟩) hH ?r10n8
      case hy10n8 => (intro W hSw; (try dsimp only at hSw); go_simp; try (with_reducible rfl))
      try simp only [Act.put, List.setIfInBounds_toArray, List.set_cons_zero, List.set_cons_succ]
      refine wpAnyH_done (by kernel_rfl) ?_ _
      refine NoPanic.normal ?_
      go_wp2_with fail
      go_ret
      exact ⟨by rw [E.out]; rfl, KQ⟩
    refine AllReadyH.cons (o := { dst := some 18, op := Op.convert 46 9 (Operand.tmp 17), type := 9, pos := "keep.go:306", after := #[{ on := 7, ground := Ground.data }], guard := none }) rfl (fun K hKq => ?_) ?_
    ·
      first
      | (have cv := conv_at _ w.heap.size b hb8 CB.out; rw [HT.out] at cv; go_simp; refine hKq.out _ _ (MK.out _ KQ) (fun hN => ?_))
      | (have cv := conv_at (w.alloc (.cells #[.int .u8 (b : Int)] 5)).drew w.heap.size b hb8 (bl_cell (last_drew _ _) 0 _ rfl); rw [HT.out] at cv; go_simp; refine hKq.out _ _ (MK.out _ KQ) (fun hN => ?_))
      | (have cv := conv_at (y1.alloc (.cells #[.int .u8 (b : Int)] 5)) y1.heap.size b hb8 (bl_cell (last_of _ _) 0 _ rfl); rw [HT.out] at cv; go_simp; refine hKq.out _ _ (MK.out _ KQ) (fun hN => ?_))
      clear hKq K hH KQ
      have hH := hN
      clear hN
      have KQ := hH.out
      try simp only [Act.put, List.setIfInBounds_toArray, List.set_cons_zero, List.set_cons_succ]
      refine wpAnyH_ready (rs := [2]) (by kernel_rfl) (by simp) ?_
      refine AllReadyH.cons (o := { dst := some 12, op := Op.call { callee := Callee.value (Operand.func 7), args := #[Operand.tmp 11], argTypes := #[3] }, type := 9, pos := "keep.go:306", after := #[{ on := 1, ground := Ground.data }], guard := none }) rfl (fun K hKq => ?_) AllReadyH.nil
      go_simp
      refine (NM.out _).mono ?_
      rintro e y3 ⟨rfl, kq⟩
      try have CB : Hid (y3.cell? ⟨w.heap.size, 0, none⟩ = some (.int .u8 (b : Int))) := (kq.cell (by simp [World.drew])).trans (bl_cell (last_drew _ _) 0 _ rfl)
      refine hKq.out _ _ (MK.out _ (KQ.trans kq)) (fun hN => ?_)
      clear kq
      clear hKq K hH KQ
      have hH := hN
      clear hN
      have KQ := hH.out
      try simp only [Act.put, List.setIfInBounds_toArray, List.set_cons_zero, List.set_cons_succ]
      refine wpAnyH_ready (rs := [9]) (by kernel_rfl) (by simp) ?_
      refine AllReadyH.cons (o := { dst := some 19, op := Op.binOp BinOp.add 9 (Operand.tmp 12) (Operand.tmp 18) 9, type := 9, pos := "keep.go:306", after := #[{ on := 2, ground := Ground.data }, { on := 8, ground := Ground.data }], guard := none }) rfl (fun K hKq => ?_) AllReadyH.nil
      go_simp
      rw [if_neg (by omega)]
      refine hKq.out _ _ (MK.out _ KQ) (fun hN => ?_)
      clear hKq K hH KQ
      have hH := hN
      clear hN
      have KQ := hH.out
      try simp only [Act.put, List.setIfInBounds_toArray, List.set_cons_zero, List.set_cons_succ]
      refine wpAnyH_take (i := 10) (oi := { dst := some 2, op := Op.assign (Operand.tmp 19), type := 9, pos := "keep.go:306", after := #[{ on := 9, ground := Ground.data }, { on := 2, ground := Ground.chain }, { on := 0, ground := Ground.phase }, { on := 1, ground := Ground.phase }, { on := 2, ground := Ground.phase }, { on := 3, ground := Ground.phase }, { on := 4, ground := Ground.phase }, { on := 5, ground := Ground.phase }, { on := 6, ground := Ground.phase }, { on := 7, ground := Ground.phase }, { on := 8, ground := Ground.phase }, { on := 9, ground := Ground.phase }], guard := none }) (v := ?v10n9) rfl (by kernel_rfl) (by kernel_rfl) (by kernel_rfl) (fun _ _ _ h => h) (Or.inl ⟨by rfl, ?hy10n9⟩) hH ?r10n9
      case hy10n9 => (intro W hSw; (try dsimp only at hSw); go_simp; try (with_reducible rfl))
      try simp only [Act.put, List.setIfInBounds_toArray, List.set_cons_zero, List.set_cons_succ]
      refine wpAnyH_done (by kernel_rfl) ?_ _
      refine NoPanic.normal ?_
      go_wp2_with fail
      go_ret
      exact ⟨by rw [E.out]; rfl, KQ⟩
    exact AllReadyH.nil
  exact AllReadyH.nil
end Go.Proofs.YtikmgckefbjbkabGreatDoor

/-! ### Reps1 -/

namespace Go.Proofs.YtikmgckefbjbkabGreatDoor
open Go.RowKit

/-- The text of an interval, and what it is read as. -/
def rP (ere : Bool) (a : Nat) : ByteArray := ⟨#[97]⟩ ++ (if ere then ⟨#[123]⟩ else ⟨#[92, 123]⟩) ++ bs (dec a) ++ ⟨#[44]⟩
def rC (ere : Bool) : ByteArray := if ere then ⟨#[125]⟩ else ⟨#[92, 125]⟩
def rT (ere anyB : Bool) (a b : Nat) : ByteArray := if anyB then rP ere a ++ rC ere else rP ere a ++ bs (dec b) ++ rC ere
def rMay (anyB : Bool) (a b : Nat) : Bool := if anyB then decide (a ≤ 20) else decide (a ≤ b) && decide (b ≤ 20) && decide (1 ≤ b)
def rA : Rx := .mk 1 0 0 0 (W4.of (addB (fun _ => false) 97)) []
def rW (anyB : Bool) (a b : Nat) : Rx := .mk 4 (a : Int) (if anyB then -1 else (b : Int)) 0 W4.z [rA]
def rB (ere anyB : Bool) (a b : Nat) : Bool := let x := pParse (rT ere anyB a b) ere
  if rMay anyB a b then x.2.2 == 0 && sameR x.1 (rW anyB a b) && right ere x.1 && rxOkB x.1 else x.2.2 == 1
set_option maxRecDepth 1000000 in
theorem rB_all : ((List.range 26).all fun a => (List.range 26).all fun b => rB true false a b && rB false false a b) = true := by decide +kernel
set_option maxRecDepth 1000000 in
theorem rB_any : ((List.range 26).all fun a => rB true true a 0 && rB false true a 0) = true := by decide +kernel
theorem rB_at (ere anyB : Bool) (a b : Nat) (ha : a < 26) (hb : b < 26) : rB ere anyB a b = true := by
  cases anyB with
  | true =>
    have e1 : rT ere true a b = rT ere true a 0 := by unfold rT; rw [if_pos rfl, if_pos rfl]
    have e2 : rMay true a b = rMay true a 0 := rfl
    have e3 : rW true a b = rW true a 0 := rfl
    have e : rB ere true a b = rB ere true a 0 := by unfold rB; rw [e1, e2, e3]
    rw [e]
    have := List.all_eq_true.1 rB_any a (List.mem_range.2 ha)
    rw [Bool.and_eq_true] at this
    cases ere
    · exact this.2
    · exact this.1
  | false =>
    have := List.all_eq_true.1 (List.all_eq_true.1 rB_all a (List.mem_range.2 ha)) b (List.mem_range.2 hb)
    rw [Bool.and_eq_true] at this
    cases ere
    · exact this.2
    · exact this.1
/-- What an interval comes to. -/
structure RP (ere anyB : Bool) (a b : Nat) (T : Rx) (e : Nat) : Prop where
  yes : rMay anyB a b = true → e = 0 ∧ sameR T (rW anyB a b) = true ∧ right ere T = true ∧ RxOk T
  no : rMay anyB a b = false → e = 1
theorem rp_of (ere anyB : Bool) (a b : Nat) (ha : a < 26) (hb : b < 26) (T : Rx) (n e : Nat) (hp : pParse (rT ere anyB a b) ere = (T, n, e)) : RP ere anyB a b T e := by
  have q := rB_at ere anyB a b ha hb
  unfold rB at q
  rw [hp] at q
  refine ⟨fun hk => ?_, fun hk => ?_⟩
  · rw [if_pos hk] at q
    simp only [Bool.and_eq_true, beq_iff_eq] at q
    exact ⟨q.1.1.1, q.1.1.2, q.1.2, rxOk_of _ q.2⟩
  · rw [if_neg (by rw [hk]; simp)] at q
    simpa using q
theorem want_is {w : World} {B : Nat} (a mx : Int) (h : w.heap[B]? = some (rxo 1 0 0 0 (W4.of (addB (fun _ => false) 97)) (.slice none 0 0))) : Is w (fun _ => True) (.mk 4 a mx 0 W4.z [rA]) (rxv 4 a mx 0 W4.z (.slice (some ⟨B, 0, none⟩) 1 1)) := by
  unfold Is
  refine ⟨some ⟨B, 0, none⟩, 1, 1, rfl, rfl, Nat.le_refl _, fun _ => ⟨B, 0, rfl, trivial, bl_lt h, ?_⟩⟩
  unfold IsL
  refine ⟨⟨rxv 1 0 0 0 (W4.of (addB (fun _ => false) 97)) (.slice none 0 0), Is.leaf _ _ _ _ _ _ _, fun j u hj => ?_⟩, ?_⟩
  · rw [Nat.zero_add]
    exact bl_cell h j u (by rw [← hj]; exact (Array.getElem?_toList).symm)
  · unfold IsL
    trivial
theorem rT_sz (ere anyB : Bool) (a b : Nat) (ha : a < 26) (hb : b < 26) : (rT ere anyB a b).size ≤ 100 := by
  have h1 := dec_len a (by omega)
  have h2 := dec_len b (by omega)
  cases ere <;> cases anyB <;> (unfold rT rP rC; simp [ByteArray.size_append, bs_size]; simp [ByteArray.size]; omega)
theorem rx4 : (∀ ere, ∃ T n, pParse ⟨#[97, 42, 42]⟩ ere = (T, n, 1)) ∧ (∃ T n, pParse ⟨#[40, 97]⟩ true = (T, n, 1)) ∧ (∃ T n, pParse ⟨#[97, 41]⟩ true = (T, n, 1)) ∧ (∃ T n, pParse ⟨#[92, 40, 97]⟩ false = (T, n, 1)) := by
  have h1 : (pParse ⟨#[97, 42, 42]⟩ true).2.2 = 1 ∧ (pParse ⟨#[97, 42, 42]⟩ false).2.2 = 1 := by decide +kernel
  have h2 : (pParse ⟨#[40, 97]⟩ true).2.2 = 1 := by decide +kernel
  have h3 : (pParse ⟨#[97, 41]⟩ true).2.2 = 1 := by decide +kernel
  have h4 : (pParse ⟨#[92, 40, 97]⟩ false).2.2 = 1 := by decide +kernel
  refine ⟨fun ere => ⟨(pParse ⟨#[97, 42, 42]⟩ ere).1, (pParse ⟨#[97, 42, 42]⟩ ere).2.1, ?_⟩, ⟨(pParse ⟨#[40, 97]⟩ true).1, (pParse ⟨#[40, 97]⟩ true).2.1, ?_⟩, ⟨(pParse ⟨#[97, 41]⟩ true).1, (pParse ⟨#[97, 41]⟩ true).2.1, ?_⟩, ⟨(pParse ⟨#[92, 40, 97]⟩ false).1, (pParse ⟨#[92, 40, 97]⟩ false).2.1, ?_⟩⟩
  · cases ere
    · rw [← h1.2]
    · rw [← h1.1]
  · rw [← h2]
  · rw [← h3]
  · rw [← h4]
theorem fit_of_ok : ∀ r, RxOk r → RxFit r
  | .mk k mn mx n s kids, h => by
    unfold RxOk at h
    unfold RxFit
    exact ⟨h.1, fun a ha => fit_of_ok a (h.2.2 a ha)⟩
termination_by r => SizeOf.sizeOf r
decreasing_by
  have := List.sizeOf_lt_of_mem ha
  simp
  omega
end Go.Proofs.YtikmgckefbjbkabGreatDoor
