/-
  The sign in a row: where a basic expression holds one to be a byte.
-/
import Derived.Test.YtikmgckefbjbkaaGreatDoorRet
namespace Go.Proofs.YtikmgckefbjbkaaGreatDoor
open Go.RowKit
attribute [local go_sem] field91

theorem sgnIn_eq {s : ByteArray} {began i x y z : Nat} (hg : sgn s false i = (x, y, z)) : sgnIn s false began i = if plainIn s began i x then (2, y, z) else (x, y, z) := by
  unfold sgnIn; rw [hg]; rfl
theorem sgn_lt {s : ByteArray} {ere : Bool} {i x y z : Nat} (hg : sgn s ere i = (x, y, z)) (hi : i ≤ s.size) (hx : x ≠ 1) : i < s.size := by
  unfold sgn at hg
  by_cases h : i = s.size
  · rw [if_pos h] at hg; injection hg with h1 _; omega
  · omega

set_option maxRecDepth 100000 in
theorem signIn_any (began : Nat) (s : ByteArray) (ere : Bool) (i n g d P : Nat) (w : World) (h : Rd w P s ere i n g d) (hi : i ≤ s.size) (hb : began ≤ i) (hs : s.size ≤ 1000000) :
    Calls Tryz.prog 80 #[.pointer (some ⟨P, 0, none⟩), .int .i64 (began : Int)] w fun e w' => e = .returned (sg (sgnIn s ere began i)) ∧ Kp w w' := by
  obtain ⟨x, y, z, hg⟩ : ∃ x y z, sgn s ere i = (x, y, z) := ⟨_, _, _, rfl⟩
  have HG : Hid (sgn s ere i = (x, y, z)) := hg
  have R : Hid (Rd w P s ere i n g d) := h
  have hlt : x ≠ 1 → i < s.size := fun hx => sgn_lt hg hi hx
  have HL := hid hlt
  clear h hg hlt
  have gb : IntKind.i64.wrap ((began : Int) + 1) = (began : Int) + 1 := by rw [IntKind.wrap_i64]; omega
  have gi : IntKind.i64.wrap ((i : Int) + 1) = (i : Int) + 1 := by rw [IntKind.wrap_i64]; omega
  go_enter Tryz.func80, Tryz.ntmps80
  go_upto_region 1 with fail
  refine opq (fun W0 => Rd W0 P s ere i n g d ∧ W0.heap[w.heap.size]? = some sgz ∧ Kp w W0) ⟨by exact R.out.kp (by repeat (first | exact Kp.refl _ | refine Kp.alloc ?_ _ | refine Kp.drew ?_ | refine Kp.drewN _ ?_)), by (first | exact last_at _ _ _ (by simp) | (refine bl_alloc ?_ _; first | exact last_at _ _ _ (by simp) | (refine bl_alloc ?_ _; first | exact last_at _ _ _ (by simp) | (refine bl_alloc ?_ _; exact last_at _ _ _ (by simp))))), by exact (by repeat (first | exact Kp.refl _ | refine Kp.alloc ?_ _ | refine Kp.drew ?_ | refine Kp.drewN _ ?_))⟩ ?_
  rintro W0 ⟨xR0, xB0, xK0⟩
  have R0 : Hid (Rd W0 P s ere i n g d) := xR0
  have B0 : Hid (W0.heap[w.heap.size]? = some sgz) := xB0
  have K0 : Hid (Kp w W0) := xK0
  clear xR0 xB0 xK0
  go_wp2_with fail
  refine (sign_any s ere i n g d P _ R0.out hi hs).mono ?_
  rintro e w1 ⟨rfl, kq⟩
  rw [HG.out, sg3]
  have hs1 : w.heap.size < w1.heap.size := bl_lt (bl_kp B0.out kq)
  have KQ : Hid (Kp W0 w1) := kq
  clear kq
  go_upto_region 2 with fail
  refine opq (fun W1 => Rd W1 P s ere i n g d ∧ W1.heap[w.heap.size]? = some sgz ∧ W1.heap[w1.heap.size]? = some (sgo x y z) ∧ Kp w W1) ⟨by exact R0.out.kp (KQ.out.trans (by repeat (first | exact Kp.refl _ | refine Kp.alloc ?_ _ | refine Kp.drew ?_ | refine Kp.drewN _ ?_))), by exact bl_kp B0.out (KQ.out.trans (by repeat (first | exact Kp.refl _ | refine Kp.alloc ?_ _ | refine Kp.drew ?_ | refine Kp.drewN _ ?_))), by (first | exact last_at _ _ _ (by simp) | (refine bl_alloc ?_ _; first | exact last_at _ _ _ (by simp) | (refine bl_alloc ?_ _; first | exact last_at _ _ _ (by simp) | (refine bl_alloc ?_ _; exact last_at _ _ _ (by simp))))), by exact K0.out.trans (KQ.out.trans (by repeat (first | exact Kp.refl _ | refine Kp.alloc ?_ _ | refine Kp.drew ?_ | refine Kp.drewN _ ?_)))⟩ ?_
  rintro W1 ⟨xR1, xB1, xG1, xK1⟩
  have R1 : Hid (Rd W1 P s ere i n g d) := xR1
  have B1 : Hid (W1.heap[w.heap.size]? = some sgz) := xB1
  have G1 : Hid (W1.heap[w1.heap.size]? = some (sgo x y z)) := xG1
  have K1 : Hid (Kp w W1) := xK1
  clear xR1 xB1 xG1 xK1
  clear R0 B0 K0 KQ
  have p0 := R1.out.cells.1
  have p1 := R1.out.cells.2.1
  have p2 := R1.out.cells.2.2.1
  have q0 := bl_cell (G1.out) 0 _ rfl
  have fq0 := bl_frozen (G1.out) 0
  have q1 := bl_cell (G1.out) 1 _ rfl
  have fq1 := bl_frozen (G1.out) 1
  have q2 := bl_cell (G1.out) 2 _ rfl
  have fq2 := bl_frozen (G1.out) 2
  have b0 := bl_cell (B1.out) 0 _ rfl
  have fb0 := bl_frozen (B1.out) 0
  have b1 := bl_cell (B1.out) 1 _ rfl
  have fb1 := bl_frozen (B1.out) 1
  have b2 := bl_cell (B1.out) 2 _ rfl
  have fb2 := bl_frozen (B1.out) 2
  cases ere with
  | true =>
    have E : Hid (sgnIn s true began i = (x, y, z)) := by show _ = _; unfold sgnIn; rw [HG.out]; rfl
    go_wp2_with fail
    exact bodyPost_ret (v := .agg #[_, _, _]) (sg_ret rfl _ _ _ _ _ _ rfl (bl_set3 B1.out _ _ _)) rfl ⟨by rw [E.out]; rfl, (ks_set3 _ _ _).up K1.out (Nat.le_refl _)⟩
  | false =>
    by_cases x10 : x = 10
    · subst x10
      have hl := HL.out (by omega)
      by_cases e0 : i = began
      · have g0 : ((i : Int) == (began : Int)) = true := by rw [e0]; simp
        have E : Hid (sgnIn s false began i = (2, y, z)) := by show _ = _; rw [sgnIn_eq HG.out, show plainIn s began i _ = true by simp [plainIn, e0]]; rfl
        clear e0
        go_wp2_with fail
        exact bodyPost_ret (v := .agg #[_, _, _]) (sg_ret rfl _ _ _ _ _ _ rfl (bl_set3 (bl_set B1.out (by omega) _) _ _ _)) rfl ⟨by rw [E.out]; rfl, (ks_set3 _ _ _).up (K1.out.setCell (by show w.heap.size ≤ w1.heap.size; omega) _) (Nat.le_refl _)⟩
      have g0 : ((i : Int) == (began : Int)) = false := by simp; omega
      by_cases e1 : i = began + 1
      · have g1 : ((i : Int) == (began : Int) + 1) = true := by rw [e1]; simp
        have ec := run_ch s began (by omega)
        obtain ⟨b, hb'⟩ : ∃ b, ch s began = b := ⟨_, rfl⟩
        have HB := hid hb'
        rw [hb'] at ec
        clear hb'
        by_cases e2 : b = 94
        · subst e2
          rw [show ((94 : Nat) : Int) = 94 from rfl] at ec
          have E : Hid (sgnIn s false began i = (2, y, z)) := by show _ = _; rw [sgnIn_eq HG.out, show plainIn s began i _ = true by simp [plainIn, e1, HB.out]]; rfl
          clear e1 e0
          go_wp2_with fail
          exact bodyPost_ret (v := .agg #[_, _, _]) (sg_ret rfl _ _ _ _ _ _ rfl (bl_set3 (bl_set B1.out (by omega) _) _ _ _)) rfl ⟨by rw [E.out]; rfl, (ks_set3 _ _ _).up (K1.out.setCell (by show w.heap.size ≤ w1.heap.size; omega) _) (Nat.le_refl _)⟩
        · have g2 : ((b : Int) == 94) = false := by simp; omega
          have E : Hid (sgnIn s false began i = (10, y, z)) := by show _ = _; rw [sgnIn_eq HG.out, show plainIn s began i _ = false by simp [plainIn, e1, HB.out, e2]]; rfl
          clear e1 e0
          go_wp2_with fail
          exact bodyPost_ret (v := .agg #[_, _, _]) (sg_ret rfl _ _ _ _ _ _ rfl (bl_set3 B1.out _ _ _)) rfl ⟨by rw [E.out]; rfl, (ks_set3 _ _ _).up K1.out (Nat.le_refl _)⟩
      · have g1 : ((i : Int) == (began : Int) + 1) = false := by simp; omega
        have E : Hid (sgnIn s false began i = (10, y, z)) := by show _ = _; rw [sgnIn_eq HG.out, show plainIn s began i _ = false by simp [plainIn, e0, e1]]; rfl
        go_wp2_with fail
        exact bodyPost_ret (v := .agg #[_, _, _]) (sg_ret rfl _ _ _ _ _ _ rfl (bl_set3 B1.out _ _ _)) rfl ⟨by rw [E.out]; rfl, (ks_set3 _ _ _).up K1.out (Nat.le_refl _)⟩
    by_cases x5 : x = 5
    · subst x5
      by_cases e0 : i = began
      · have g0 : ((i : Int) != (began : Int)) = false := by rw [e0]; simp
        have E : Hid (sgnIn s false began i = (5, y, z)) := by show _ = _; rw [sgnIn_eq HG.out, show plainIn s began i _ = false by simp [plainIn, e0]]; rfl
        clear e0
        go_wp2_with fail
        exact bodyPost_ret (v := .agg #[_, _, _]) (sg_ret rfl _ _ _ _ _ _ rfl (bl_set3 B1.out _ _ _)) rfl ⟨by rw [E.out]; rfl, (ks_set3 _ _ _).up K1.out (Nat.le_refl _)⟩
      · have g0 : ((i : Int) != (began : Int)) = true := by simp; omega
        have E : Hid (sgnIn s false began i = (2, y, z)) := by show _ = _; rw [sgnIn_eq HG.out, show plainIn s began i _ = true by simp [plainIn, e0]]; rfl
        go_wp2_with fail
        exact bodyPost_ret (v := .agg #[_, _, _]) (sg_ret rfl _ _ _ _ _ _ rfl (bl_set3 (bl_set B1.out (by omega) _) _ _ _)) rfl ⟨by rw [E.out]; rfl, (ks_set3 _ _ _).up (K1.out.setCell (by show w.heap.size ≤ w1.heap.size; omega) _) (Nat.le_refl _)⟩
    by_cases x6 : x = 6
    · subst x6
      have hl := HL.out (by omega)
      obtain ⟨x', y', z', hg'⟩ : ∃ x' y' z', sgn s false (i + 1) = (x', y', z') := ⟨_, _, _, rfl⟩
      have HG' := hid hg'
      clear hg'
      have SA : Hid (∀ w, Calls Tryz.prog 70 #[.string s, .int .i64 ((i : Int) + 1), .bool false] w fun e w' => e = .returned (.agg #[.int .i64 (x' : Int), .int .u8 (y' : Int), .int .i64 (z' : Int)]) ∧ Kp w w') := by
        intro w
        have := signAt_any s false (i + 1) w (by omega) hs
        rw [HG'.out] at this
        exact this
      go_upto_region 11 with fail
      go_cut [7] (fun v wc => v = .int .i64 (x' : Int) ∧ Kp W1 wc)
      case first =>
        have Q0 : Kp W1 W1.drew := (Kp.refl _).drew
        have MK : Hid (∀ W, Kp W1 W → W.cell? ⟨P, 0, none⟩ = some (.string s) ∧ W.cell? ⟨P, 1, none⟩ = some (.bool false) ∧ W.cell? ⟨P, 2, none⟩ = some (.int .i64 (i : Int)) ∧ Hid (Kp W1 W)) := fun W k => ⟨(R1.out.kp k).cells.1, (R1.out.kp k).cells.2.1, (R1.out.kp k).cells.2.2.1, k⟩
        refine wp_region_noPanic ?_
        refine wp_region_held_drew (S := (fun W => W.cell? ⟨P, 0, none⟩ = some (.string s) ∧ W.cell? ⟨P, 1, none⟩ = some (.bool false) ∧ W.cell? ⟨P, 2, none⟩ = some (.int .i64 (i : Int)) ∧ Hid (Kp W1 W))) (by kernel_rfl) ?_ (fun hH => ?_)
        · exact MK.out _ Q0
        have KQ := Q0
        refine wpAnyH_take (i := 0) (oi := { dst := some 53, op := Op.move (Operand.tmp 0), type := 77, pos := "parse.go:107", after := #[], guard := none }) (v := ?v0a1) rfl (by kernel_rfl) (by kernel_rfl) (by kernel_rfl) (fun _ _ _ h => h) (Or.inl ⟨by rfl, ?hy0a1⟩) hH ?r0a1
        case hy0a1 => (intro W hSw; (try dsimp only at hSw); go_simp; try (with_reducible rfl))
        try simp only [Act.put, List.setIfInBounds_toArray, List.set_cons_zero, List.set_cons_succ]
        refine wpAnyH_take (i := 1) (oi := { dst := some 54, op := Op.nilCheck (Operand.tmp 53), type := 0, pos := "parse.go:107", after := #[{ on := 0, ground := Ground.data }], guard := none }) (v := ?v1a2) rfl (by kernel_rfl) (by kernel_rfl) (by kernel_rfl) (fun _ _ _ h => h) (Or.inl ⟨by rfl, ?hy1a2⟩) hH ?r1a2
        case hy1a2 => (intro W hSw; (try dsimp only at hSw); go_simp; try (with_reducible rfl))
        try simp only [Act.put, List.setIfInBounds_toArray, List.set_cons_zero, List.set_cons_succ]
        refine wpAnyH_take (i := 2) (oi := { dst := some 55, op := Op.fieldAddr 55 (Operand.tmp 54) 0, type := 0, pos := "parse.go:107", after := #[{ on := 1, ground := Ground.data }], guard := none }) (v := ?v2a3) rfl (by kernel_rfl) (by kernel_rfl) (by kernel_rfl) (fun _ _ _ h => h) (Or.inl ⟨by rfl, ?hy2a3⟩) hH ?r2a3
        case hy2a3 => (intro W hSw; (try dsimp only at hSw); go_simp; try (with_reducible rfl))
        try simp only [Act.put, List.setIfInBounds_toArray, List.set_cons_zero, List.set_cons_succ]
        refine wpAnyH_take (i := 3) (oi := { dst := some 56, op := Op.load 9 (Operand.tmp 55), type := 9, pos := "parse.go:107", after := #[{ on := 2, ground := Ground.data }], guard := none }) (v := ?v3a4) rfl (by kernel_rfl) (by kernel_rfl) (by kernel_rfl) (fun _ _ _ h => h) (Or.inl ⟨by rfl, ?hy3a4⟩) hH ?r3a4
        case hy3a4 => (intro W hSw; (try dsimp only at hSw); go_simp; try (with_reducible rfl))
        try simp only [Act.put, List.setIfInBounds_toArray, List.set_cons_zero, List.set_cons_succ]
        refine wpAnyH_take (i := 4) (oi := { dst := some 57, op := Op.move (Operand.tmp 0), type := 77, pos := "parse.go:107", after := #[], guard := none }) (v := ?v4a5) rfl (by kernel_rfl) (by kernel_rfl) (by kernel_rfl) (fun _ _ _ h => h) (Or.inl ⟨by rfl, ?hy4a5⟩) hH ?r4a5
        case hy4a5 => (intro W hSw; (try dsimp only at hSw); go_simp; try (with_reducible rfl))
        try simp only [Act.put, List.setIfInBounds_toArray, List.set_cons_zero, List.set_cons_succ]
        refine wpAnyH_take (i := 5) (oi := { dst := some 58, op := Op.nilCheck (Operand.tmp 57), type := 0, pos := "parse.go:107", after := #[{ on := 4, ground := Ground.data }], guard := none }) (v := ?v5a6) rfl (by kernel_rfl) (by kernel_rfl) (by kernel_rfl) (fun _ _ _ h => h) (Or.inl ⟨by rfl, ?hy5a6⟩) hH ?r5a6
        case hy5a6 => (intro W hSw; (try dsimp only at hSw); go_simp; try (with_reducible rfl))
        try simp only [Act.put, List.setIfInBounds_toArray, List.set_cons_zero, List.set_cons_succ]
        refine wpAnyH_take (i := 6) (oi := { dst := some 59, op := Op.fieldAddr 55 (Operand.tmp 58) 2, type := 0, pos := "parse.go:107", after := #[{ on := 5, ground := Ground.data }], guard := none }) (v := ?v6a7) rfl (by kernel_rfl) (by kernel_rfl) (by kernel_rfl) (fun _ _ _ h => h) (Or.inl ⟨by rfl, ?hy6a7⟩) hH ?r6a7
        case hy6a7 => (intro W hSw; (try dsimp only at hSw); go_simp; try (with_reducible rfl))
        try simp only [Act.put, List.setIfInBounds_toArray, List.set_cons_zero, List.set_cons_succ]
        refine wpAnyH_take (i := 7) (oi := { dst := some 60, op := Op.load 3 (Operand.tmp 59), type := 3, pos := "parse.go:107", after := #[{ on := 6, ground := Ground.data }], guard := none }) (v := ?v7a8) rfl (by kernel_rfl) (by kernel_rfl) (by kernel_rfl) (fun _ _ _ h => h) (Or.inl ⟨by rfl, ?hy7a8⟩) hH ?r7a8
        case hy7a8 => (intro W hSw; (try dsimp only at hSw); go_simp; try (with_reducible rfl))
        try simp only [Act.put, List.setIfInBounds_toArray, List.set_cons_zero, List.set_cons_succ]
        refine wpAnyH_take (i := 8) (oi := { dst := some 61, op := Op.binOp BinOp.add 3 (Operand.tmp 60) (Operand.const (Value.int IntKind.i64 1)) 3, type := 3, pos := "parse.go:107", after := #[{ on := 7, ground := Ground.data }], guard := none }) (v := ?v8a9) rfl (by kernel_rfl) (by kernel_rfl) (by kernel_rfl) (fun _ _ _ h => h) (Or.inl ⟨by rfl, ?hy8a9⟩) hH ?r8a9
        case hy8a9 => (intro W hSw; (try dsimp only at hSw); go_simp; try (with_reducible rfl))
        try simp only [Act.put, List.setIfInBounds_toArray, List.set_cons_zero, List.set_cons_succ]
        refine wpAnyH_take (i := 9) (oi := { dst := some 62, op := Op.move (Operand.tmp 0), type := 77, pos := "parse.go:107", after := #[], guard := none }) (v := ?v9a10) rfl (by kernel_rfl) (by kernel_rfl) (by kernel_rfl) (fun _ _ _ h => h) (Or.inl ⟨by rfl, ?hy9a10⟩) hH ?r9a10
        case hy9a10 => (intro W hSw; (try dsimp only at hSw); go_simp; try (with_reducible rfl))
        try simp only [Act.put, List.setIfInBounds_toArray, List.set_cons_zero, List.set_cons_succ]
        refine wpAnyH_take (i := 10) (oi := { dst := some 63, op := Op.nilCheck (Operand.tmp 62), type := 0, pos := "parse.go:107", after := #[{ on := 9, ground := Ground.data }], guard := none }) (v := ?v10a11) rfl (by kernel_rfl) (by kernel_rfl) (by kernel_rfl) (fun _ _ _ h => h) (Or.inl ⟨by rfl, ?hy10a11⟩) hH ?r10a11
        case hy10a11 => (intro W hSw; (try dsimp only at hSw); go_simp; try (with_reducible rfl))
        try simp only [Act.put, List.setIfInBounds_toArray, List.set_cons_zero, List.set_cons_succ]
        refine wpAnyH_take (i := 11) (oi := { dst := some 64, op := Op.fieldAddr 55 (Operand.tmp 63) 1, type := 0, pos := "parse.go:107", after := #[{ on := 10, ground := Ground.data }], guard := none }) (v := ?v11a12) rfl (by kernel_rfl) (by kernel_rfl) (by kernel_rfl) (fun _ _ _ h => h) (Or.inl ⟨by rfl, ?hy11a12⟩) hH ?r11a12
        case hy11a12 => (intro W hSw; (try dsimp only at hSw); go_simp; try (with_reducible rfl))
        try simp only [Act.put, List.setIfInBounds_toArray, List.set_cons_zero, List.set_cons_succ]
        refine wpAnyH_take (i := 12) (oi := { dst := some 65, op := Op.load 4 (Operand.tmp 64), type := 4, pos := "parse.go:107", after := #[{ on := 11, ground := Ground.data }], guard := none }) (v := ?v12a13) rfl (by kernel_rfl) (by kernel_rfl) (by kernel_rfl) (fun _ _ _ h => h) (Or.inl ⟨by rfl, ?hy12a13⟩) hH ?r12a13
        case hy12a13 => (intro W hSw; (try dsimp only at hSw); go_simp; try (with_reducible rfl))
        try simp only [Act.put, List.setIfInBounds_toArray, List.set_cons_zero, List.set_cons_succ]
        refine wpAnyH_ready (rs := [13]) (by kernel_rfl) (by simp) ?_
        refine AllReadyH.cons (o := { dst := some 66, op := Op.call { callee := Callee.value (Operand.func 70), args := #[Operand.tmp 56, Operand.tmp 61, Operand.tmp 65], argTypes := #[9, 3, 4] }, type := 91, pos := "parse.go:107", after := #[{ on := 3, ground := Ground.data }, { on := 8, ground := Ground.data }, { on := 12, ground := Ground.data }], guard := none }) rfl (fun K hKq => ?_) AllReadyH.nil
        go_simp
        refine (SA.out _).mono ?_
        rintro e y1 ⟨rfl, kq⟩
        refine hKq.out _ _ (MK.out _ (KQ.trans kq)) (fun hN => ?_)
        clear kq
        clear hKq K hH KQ
        have hH := hN
        clear hN
        have KQ := hH.2.2.2.out
        try simp only [Act.put, List.setIfInBounds_toArray, List.set_cons_zero, List.set_cons_succ]
        refine wpAnyH_take (i := 14) (oi := { dst := some 67, op := Op.field 91 (Operand.tmp 66) 0, type := 3, pos := "parse.go:107", after := #[{ on := 13, ground := Ground.data }], guard := none }) (v := ?v14a14) rfl (by kernel_rfl) (by kernel_rfl) (by kernel_rfl) (fun _ _ _ h => h) (Or.inl ⟨by rfl, ?hy14a14⟩) hH ?r14a14
        case hy14a14 => (intro W hSw; (try dsimp only at hSw); go_simp; try (with_reducible rfl))
        try simp only [Act.put, List.setIfInBounds_toArray, List.set_cons_zero, List.set_cons_succ]
        refine wpAnyH_take (i := 15) (oi := { dst := some 7, op := Op.assign (Operand.tmp 67), type := 3, pos := "parse.go:107", after := #[{ on := 14, ground := Ground.data }, { on := 13, ground := Ground.chain }, { on := 0, ground := Ground.phase }, { on := 1, ground := Ground.phase }, { on := 2, ground := Ground.phase }, { on := 3, ground := Ground.phase }, { on := 4, ground := Ground.phase }, { on := 5, ground := Ground.phase }, { on := 6, ground := Ground.phase }, { on := 7, ground := Ground.phase }, { on := 8, ground := Ground.phase }, { on := 9, ground := Ground.phase }, { on := 10, ground := Ground.phase }, { on := 11, ground := Ground.phase }, { on := 12, ground := Ground.phase }, { on := 13, ground := Ground.phase }, { on := 14, ground := Ground.phase }], guard := none }) (v := ?v15a15) rfl (by kernel_rfl) (by kernel_rfl) (by kernel_rfl) (fun _ _ _ h => h) (Or.inl ⟨by rfl, ?hy15a15⟩) hH ?r15a15
        case hy15a15 => (intro W hSw; (try dsimp only at hSw); go_simp; try (with_reducible rfl))
        try simp only [Act.put, List.setIfInBounds_toArray, List.set_cons_zero, List.set_cons_succ]
        refine wpAnyH_done (by kernel_rfl) ?_ _
        refine NoPanic.normal ?_
        go_wp2_with fail
        go_meet
        case rel => exact ⟨rfl, KQ⟩
      case rest =>
        obtain ⟨rfl, k2⟩ := hcut
        rename World => W2
        have hs2 := k2.size
        have B2 : Hid (W2.heap[w.heap.size]? = some sgz) := bl_kp B1.out k2
        have G2 : Hid (W2.heap[w1.heap.size]? = some (sgo 6 y z)) := bl_kp G1.out k2
        have K2 : Hid (Kp w W2) := K1.out.trans k2
        clear k2 p0 p1 p2 q0 q1 q2 fq0 fq1 fq2 b0 b1 b2 fb0 fb1 fb2 B1 G1 K1 R1
        have q0 := bl_cell (G2.out) 0 _ rfl
        have fq0 := bl_frozen (G2.out) 0
        have q1 := bl_cell (G2.out) 1 _ rfl
        have fq1 := bl_frozen (G2.out) 1
        have q2 := bl_cell (G2.out) 2 _ rfl
        have fq2 := bl_frozen (G2.out) 2
        have b0 := bl_cell (B2.out) 0 _ rfl
        have fb0 := bl_frozen (B2.out) 0
        have b1 := bl_cell (B2.out) 1 _ rfl
        have fb1 := bl_frozen (B2.out) 1
        have b2 := bl_cell (B2.out) 2 _ rfl
        have fb2 := bl_frozen (B2.out) 2
        by_cases n1 : x' = 1
        · subst n1
          have E : Hid (sgnIn s false began i = (6, y, z)) := by show _ = _; rw [sgnIn_eq HG.out, show plainIn s began i _ = false by simp [plainIn, HG'.out]]; rfl
          go_wp2_with fail
          exact bodyPost_ret (v := .agg #[_, _, _]) (sg_ret rfl _ _ _ _ _ _ rfl (bl_set3 B2.out _ _ _)) rfl ⟨by rw [E.out]; rfl, (ks_set3 _ _ _).up K2.out (Nat.le_refl _)⟩
        by_cases n8 : x' = 8
        · subst n8
          have E : Hid (sgnIn s false began i = (6, y, z)) := by show _ = _; rw [sgnIn_eq HG.out, show plainIn s began i _ = false by simp [plainIn, HG'.out]]; rfl
          go_wp2_with fail
          exact bodyPost_ret (v := .agg #[_, _, _]) (sg_ret rfl _ _ _ _ _ _ rfl (bl_set3 B2.out _ _ _)) rfl ⟨by rw [E.out]; rfl, (ks_set3 _ _ _).up K2.out (Nat.le_refl _)⟩
        have g1 : ((x' : Int) != 1) = true := by simp; omega
        have g8 : ((x' : Int) != 8) = true := by simp; omega
        have E : Hid (sgnIn s false began i = (2, y, z)) := by show _ = _; rw [sgnIn_eq HG.out, show plainIn s began i _ = true by simp [plainIn, HG'.out, n1, n8]]; rfl
        go_wp2_with fail
        exact bodyPost_ret (v := .agg #[_, _, _]) (sg_ret rfl _ _ _ _ _ _ rfl (bl_set3 (bl_set B2.out (by omega) _) _ _ _)) rfl ⟨by rw [E.out]; rfl, (ks_set3 _ _ _).up (K2.out.setCell (by show w.heap.size ≤ w1.heap.size; omega) _) (Nat.le_refl _)⟩
    have g10 : ((x : Int) == 10) = false := by simp; omega
    have g5 : ((x : Int) == 5) = false := by simp; omega
    have g6 : ((x : Int) == 6) = false := by simp; omega
    have E : Hid (sgnIn s false began i = (x, y, z)) := by show _ = _; rw [sgnIn_eq HG.out, show plainIn s began i _ = false by simp [plainIn, x10, x5, x6]]; rfl
    go_wp2_with fail
    exact bodyPost_ret (v := .agg #[_, _, _]) (sg_ret rfl _ _ _ _ _ _ rfl (bl_set3 B1.out _ _ _)) rfl ⟨by rw [E.out]; rfl, (ks_set3 _ _ _).up K1.out (Nat.le_refl _)⟩
end Go.Proofs.YtikmgckefbjbkaaGreatDoor
