/-
  Texts of this claim: Keep, Int, Rep.
-/
import Derived.Test.YtommgdgilcemdaaGreatDoorCmdLM6
import Derived.OwnWalk
import Derived.Test.YtommgdgilcemdaaGreatDoorCmdLM7

/-! ### Keep -/

namespace Go.Proofs.YtommgdgilcemdaaGreatDoor
open Go.RowKit
attribute [local go_sem] field91

set_option maxRecDepth 100000 in
theorem rowEnds_any (s : ByteArray) (ere : Bool) (i n g d P : Nat) (w : World) (h : Rd w P s ere i n g d) (hi : i ≤ s.size) (hs : s.size ≤ 1000000) :
  Calls Tryz.prog 114 #[.pointer (some ⟨P, 0, none⟩)] w fun e w' => e = .returned (.bool (ends (sgn s ere i).1)) ∧ Kp w w' := by
 have R : Hid (Rd w P s ere i n g d) := h
 clear h
 obtain ⟨x, y, z, hg⟩ : ∃ x y z, sgn s ere i = (x, y, z) := ⟨_, _, _, rfl⟩
 have HG : Hid (sgn s ere i = (x, y, z)) := hg
 rw [hg]
 clear hg
 show Calls _ _ _ _ fun e w' => e = .returned (.bool (ends x)) ∧ _
 by_cases h1 : x = 1
 ·
  subst h1
  go_enter Tryz.func114, Tryz.ntmps114
  go_wp2_with fail
  refine (sign_any s ere i n g d P _ R.out hi hs).mono ?_
  rintro e w1 ⟨rfl, kq⟩
  rw [HG.out, sg3]
  have KQ : Hid (Kp w w1) := kq
  clear kq
  go_wp2_with fail
  go_ret
  exact ⟨rfl, KQ.out⟩
 by_cases h9 : x = 9
 ·
  subst h9
  go_enter Tryz.func114, Tryz.ntmps114
  go_wp2_with fail
  refine (sign_any s ere i n g d P _ R.out hi hs).mono ?_
  rintro e w1 ⟨rfl, kq⟩
  rw [HG.out, sg3]
  have KQ : Hid (Kp w w1) := kq
  clear kq
  go_wp2_with fail
  go_ret
  exact ⟨rfl, KQ.out⟩
 by_cases h8 : x = 8
 ·
  subst h8
  go_enter Tryz.func114, Tryz.ntmps114
  go_wp2_with fail
  refine (sign_any s ere i n g d P _ R.out hi hs).mono ?_
  rintro e w1 ⟨rfl, kq⟩
  rw [HG.out, sg3]
  have KQ : Hid (Kp w w1) := kq
  clear kq
  go_wp2_with fail
  go_ret
  exact ⟨rfl, KQ.out⟩
 have g1 : ((x : Int) == 1) = false := by simp; omega
 have g9 : ((x : Int) == 9) = false := by simp; omega
 have g8 : ((x : Int) == 8) = false := by simp; omega
 have E : Hid (ends x = false) := by show _ = _; unfold ends; simp [h1, h9, h8]
 go_enter Tryz.func114, Tryz.ntmps114
 go_wp2_with fail
 refine (sign_any s ere i n g d P _ R.out hi hs).mono ?_
 rintro e w1 ⟨rfl, kq⟩
 rw [HG.out, sg3]
 have KQ : Hid (Kp w w1) := kq
 clear kq
 go_wp2_with fail
 go_ret
 exact ⟨ret_bool E.out.symm, KQ.out⟩

set_option maxRecDepth 100000 in
theorem timesFit_any (a b : Int) (w : World) : Calls Tryz.prog 130 #[.int .i64 a, .int .i64 b] w fun e w' => e = .returned (.bool (timesFit a b)) ∧ w' = w := by
 by_cases h0 : a < 0
 ·
  have E : Hid (timesFit a b = false) := by show _ = _; unfold timesFit; rw [if_pos (Or.inl h0)]
  go_enter Tryz.func130, Tryz.ntmps130
  go_wp2
  go_ret
  exact ⟨ret_bool E.out.symm, rfl⟩
 by_cases h1 : a > 20
 ·
  have E : Hid (timesFit a b = false) := by show _ = _; unfold timesFit; rw [if_pos (Or.inr h1)]
  have h1' : (20 : Int) < a := h1
  go_enter Tryz.func130, Tryz.ntmps130
  go_wp2
  go_ret
  exact ⟨ret_bool E.out.symm, rfl⟩
 have h1' : ¬ (20 : Int) < a := h1
 by_cases h2 : b = -1
 ·
  subst h2
  have E : Hid (timesFit a (-1) = true) := by show _ = _; unfold timesFit; rw [if_neg (by omega)]; rfl
  go_enter Tryz.func130, Tryz.ntmps130
  go_wp2
  go_ret
  exact ⟨ret_bool E.out.symm, rfl⟩
 have g2 : (b == -1) = false := by simp [h2]
 by_cases h3 : max a 1 ≤ b
 ·
  by_cases h4 : b ≤ 20
  ·
   have E : Hid (timesFit a b = true) := by show _ = _; unfold timesFit; rw [if_neg (by omega), g2, decide_eq_true h3, decide_eq_true h4]; rfl
   go_enter Tryz.func130, Tryz.ntmps130
   go_wp2
   go_ret
   exact ⟨ret_bool E.out.symm, rfl⟩
  ·
   have E : Hid (timesFit a b = false) := by show _ = _; unfold timesFit; rw [if_neg (by omega), g2, decide_eq_true h3, decide_eq_false h4]; rfl
   go_enter Tryz.func130, Tryz.ntmps130
   go_wp2
   go_ret
   exact ⟨ret_bool E.out.symm, rfl⟩
 ·
  have E : Hid (timesFit a b = false) := by show _ = _; unfold timesFit; rw [if_neg (by omega), g2, decide_eq_false h3]; rfl
  go_enter Tryz.func130, Tryz.ntmps130
  go_wp2
  go_ret
  exact ⟨ret_bool E.out.symm, rfl⟩
end Go.Proofs.YtommgdgilcemdaaGreatDoor

/-! ### Int -/

namespace Go.Proofs.YtommgdgilcemdaaGreatDoor
open Go.RowKit

theorem pNumL_le (s : ByteArray) : ∀ f m ok i, i ≤ s.size → m ≤ 21 → i ≤ (pNumL s f m ok i).2.2 ∧ (pNumL s f m ok i).2.2 ≤ s.size ∧ (pNumL s f m ok i).1 ≤ 21
 | 0, m, ok, i, h, hm => by unfold pNumL; exact ⟨Nat.le_refl _, h, hm⟩
 | f + 1, m, ok, i, h, hm => by
  unfold pNumL
  split
  ·
   rename_i hc
   have hlt : i < s.size := by simp at hc; exact hc.1
   have := pNumL_le s f (min (10 * m + (ch s i - 48)) 21) true (i + 1) (by omega) (by omega)
   exact ⟨by omega, this.2.1, this.2.2⟩
  ·
   exact ⟨Nat.le_refl _, h, hm⟩
theorem pNum_le (s : ByteArray) (i : Nat) (h : i ≤ s.size) : i ≤ (pNum s i).2.2 ∧ (pNum s i).2.2 ≤ s.size ∧ (pNum s i).1 ≤ 21 := pNumL_le s _ 0 false i h (by omega)
theorem pHigh_le (s : ByteArray) (lo i : Nat) (h : i ≤ s.size) (hl : lo ≤ 21) : i ≤ (pHigh s lo i).2 ∧ (pHigh s lo i).2 ≤ s.size ∧ -1 ≤ (pHigh s lo i).1 ∧ (pHigh s lo i).1 ≤ 21 := by
 unfold pHigh
 split
 ·
  rename_i hp
  have h1 : i + 1 ≤ s.size := pfx_le hp h
  have := pNum_le s (i + 1) h1
  refine ⟨by show i ≤ (pNum s (i + 1)).2.2; omega, this.2.1, ?_, ?_⟩
  ·
   show -1 ≤ (if _ then _ else _ : Int)
   split <;> omega
  ·
   show (if _ then _ else _ : Int) ≤ 21
   split <;> omega
 ·
  exact ⟨Nat.le_refl _, h, by show (-1 : Int) ≤ (lo : Int); omega, by show (lo : Int) ≤ 21; omega⟩

/-- What a call that reads an interval leaves. -/
structure RetI (w0 : World) (P : Nat) (s : ByteArray) (ere : Bool) (o : Option (Int × Int) × Nat) (n g d : Nat) (a b : Int) (ok : Bool) (w' : World) : Prop where
 eq : o.1 = if ok = true then some (a, b) else none
 rd : Rd w' P s ere o.2 n g d
 ks : Ks P w0 w'

structure RetIE (w0 : World) (P : Nat) (s : ByteArray) (ere : Bool) (o : Option (Int × Int) × Nat) (n g d : Nat) (e : Ending) (w' : World) : Prop where
 ex : ∃ a b ok, e = .returned (.tuple #[.int .i64 a, .int .i64 b, .bool ok]) ∧ RetI w0 P s ere o n g d a b ok w'

set_option maxRecDepth 100000 in
theorem interval_any (x y z : Nat) (s : ByteArray) (ere : Bool) (i n g d P : Nat) (w : World) (h : Rd w P s ere i n g d) (hi : i + z ≤ s.size) (hs : s.size ≤ 1000000) :
  Calls Tryz.prog 160 #[.pointer (some ⟨P, 0, none⟩), .agg #[.int .i64 (x : Int), .int .u8 (y : Int), .int .i64 (z : Int)]] w fun e w' => RetIE w P s ere (pInt s ere i z) n g d e w' := by
 have R : Hid (Rd w P s ere i n g d) := h
 have hP : P < w.heap.size := h.lt
 clear h
 have gw : IntKind.i64.wrap ((i : Int) + (z : Int)) = (i : Int) + (z : Int) := by rw [IntKind.wrap_i64]; omega
 obtain ⟨a, oka, ia, ha⟩ : ∃ a oka ia, pNum s (i + z) = (a, oka, ia) := ⟨_, _, _, rfl⟩
 have hle := pNum_le s (i + z) hi
 rw [ha] at hle
 obtain ⟨hle1, hle2, hle3⟩ := hle
 simp only at hle1 hle2 hle3
 have HA := hid ha
 clear ha
 go_enter Tryz.func160, Tryz.ntmps160
 go_upto_region 1 with fail
 refine opq (fun W0 => Rd W0 P s ere i n g d ∧ W0.heap[w.heap.size]? = some (sgo x y z) ∧ Kp w W0) ⟨by exact R.out.kp (by repeat (first | exact Kp.refl _ | refine Kp.alloc ?_ _ | refine Kp.drew ?_ | refine Kp.drewN _ ?_)), by (first | exact last_at _ _ _ (by simp) | (refine bl_alloc ?_ _; first | exact last_at _ _ _ (by simp) | (refine bl_alloc ?_ _; first | exact last_at _ _ _ (by simp) | (refine bl_alloc ?_ _; exact last_at _ _ _ (by simp))))), by exact (by repeat (first | exact Kp.refl _ | refine Kp.alloc ?_ _ | refine Kp.drew ?_ | refine Kp.drewN _ ?_))⟩ ?_
 rintro W0 ⟨xR0, xG0, xK0⟩
 have R0 : Hid (Rd W0 P s ere i n g d) := xR0
 have G0 : Hid (W0.heap[w.heap.size]? = some (sgo x y z)) := xG0
 have K0 : Hid (Kp w W0) := xK0
 clear xR0 xG0 xK0
 have p2 := R0.out.cells.2.2.1
 clear R
 go_upto_region 2 with fail
 clear p2
 have ks0 : Hid (Ks P w W0) := K0.out.ks (Nat.le_of_lt hP)
 clear K0
 go_cut [] (fun wc => Rd wc P s ere (i + z) n g d ∧ Ks P w wc)
 case first =>
  have Q0 : Kp W0 W0.drew := (Kp.refl _).drew
  have MK : Hid (∀ W, Kp W0 W → W.cell? ⟨P, 2, none⟩ = some (.int .i64 (i : Int)) ∧ W.cell? ⟨w.heap.size, 2, none⟩ = some (.int .i64 (z : Int)) ∧ Hid (Kp W0 W)) := fun W k => ⟨(R0.out.kp k).cells.2.2.1, bl_cell (bl_kp G0.out k) 2 _ rfl, k⟩
  refine wp_region_noPanic ?_
  refine region_Z (z := 9) (S := (fun W => W.cell? ⟨P, 2, none⟩ = some (.int .i64 (i : Int)) ∧ W.cell? ⟨w.heap.size, 2, none⟩ = some (.int .i64 (z : Int)) ∧ Hid (Kp W0 W))) (by kernel_rfl) ?_ (fun hH => ?_)
  ·
   exact MK.out _ Q0
  have KQ := Q0
  refine anyZ_take (z := 9) (ks := []) (i := 0) (oi := { dst := some 13, op := Op.move (Operand.tmp 0), type := 90, pos := "parse.go:196", after := #[], guard := none }) (v := ?v0a1) rfl (by kernel_rfl) (by kernel_rfl) (by kernel_rfl) (by kernel_rfl) (by kernel_rfl) (fun _ _ _ h => h) (Or.inl ⟨by rfl, ?hy0a1⟩) hH ?r0a1
  case hy0a1 => (intro W hSw; (try dsimp only at hSw); go_simp; try (with_reducible rfl))
  try simp only [Act.put, List.setIfInBounds_toArray, List.set_cons_zero, List.set_cons_succ]
  refine anyZ_take (z := 9) (ks := []) (i := 1) (oi := { dst := some 14, op := Op.nilCheck (Operand.tmp 13), type := 0, pos := "parse.go:196", after := #[{ on := 0, ground := Ground.data }], guard := none }) (v := ?v1a2) rfl (by kernel_rfl) (by kernel_rfl) (by kernel_rfl) (by kernel_rfl) (by kernel_rfl) (fun _ _ _ h => h) (Or.inl ⟨by rfl, ?hy1a2⟩) hH ?r1a2
  case hy1a2 => (intro W hSw; (try dsimp only at hSw); go_simp; try (with_reducible rfl))
  try simp only [Act.put, List.setIfInBounds_toArray, List.set_cons_zero, List.set_cons_succ]
  refine anyZ_take (z := 9) (ks := []) (i := 2) (oi := { dst := some 15, op := Op.fieldAddr 66 (Operand.tmp 14) 2, type := 0, pos := "parse.go:196", after := #[{ on := 1, ground := Ground.data }], guard := none }) (v := ?v2a3) rfl (by kernel_rfl) (by kernel_rfl) (by kernel_rfl) (by kernel_rfl) (by kernel_rfl) (fun _ _ _ h => h) (Or.inl ⟨by rfl, ?hy2a3⟩) hH ?r2a3
  case hy2a3 => (intro W hSw; (try dsimp only at hSw); go_simp; try (with_reducible rfl))
  try simp only [Act.put, List.setIfInBounds_toArray, List.set_cons_zero, List.set_cons_succ]
  refine anyZ_take (z := 9) (ks := []) (i := 3) (oi := { dst := some 16, op := Op.load 3 (Operand.tmp 15), type := 3, pos := "parse.go:196", after := #[{ on := 2, ground := Ground.data }], guard := none }) (v := ?v3a4) rfl (by kernel_rfl) (by kernel_rfl) (by kernel_rfl) (by kernel_rfl) (by kernel_rfl) (fun _ _ _ h => h) (Or.inl ⟨by rfl, ?hy3a4⟩) hH ?r3a4
  case hy3a4 => (intro W hSw; (try dsimp only at hSw); go_simp; try (with_reducible rfl))
  try simp only [Act.put, List.setIfInBounds_toArray, List.set_cons_zero, List.set_cons_succ]
  refine anyZ_take (z := 9) (ks := []) (i := 4) (oi := { dst := some 17, op := Op.fieldAddr 110 (Operand.tmp 3) 2, type := 0, pos := "parse.go:196", after := #[], guard := none }) (v := ?v4a5) rfl (by kernel_rfl) (by kernel_rfl) (by kernel_rfl) (by kernel_rfl) (by kernel_rfl) (fun _ _ _ h => h) (Or.inl ⟨by rfl, ?hy4a5⟩) hH ?r4a5
  case hy4a5 => (intro W hSw; (try dsimp only at hSw); go_simp; try (with_reducible rfl))
  try simp only [Act.put, List.setIfInBounds_toArray, List.set_cons_zero, List.set_cons_succ]
  refine anyZ_take (z := 9) (ks := []) (i := 5) (oi := { dst := some 18, op := Op.load 3 (Operand.tmp 17), type := 3, pos := "parse.go:196", after := #[{ on := 4, ground := Ground.data }], guard := none }) (v := ?v5a6) rfl (by kernel_rfl) (by kernel_rfl) (by kernel_rfl) (by kernel_rfl) (by kernel_rfl) (fun _ _ _ h => h) (Or.inl ⟨by rfl, ?hy5a6⟩) hH ?r5a6
  case hy5a6 => (intro W hSw; (try dsimp only at hSw); go_simp; try (with_reducible rfl))
  try simp only [Act.put, List.setIfInBounds_toArray, List.set_cons_zero, List.set_cons_succ]
  refine anyZ_take (z := 9) (ks := []) (i := 6) (oi := { dst := some 19, op := Op.binOp BinOp.add 3 (Operand.tmp 16) (Operand.tmp 18) 3, type := 3, pos := "parse.go:196", after := #[{ on := 3, ground := Ground.data }, { on := 5, ground := Ground.data }], guard := none }) (v := ?v6a7) rfl (by kernel_rfl) (by kernel_rfl) (by kernel_rfl) (by kernel_rfl) (by kernel_rfl) (fun _ _ _ h => h) (Or.inl ⟨by rfl, ?hy6a7⟩) hH ?r6a7
  case hy6a7 => (intro W hSw; (try dsimp only at hSw); go_simp; try (with_reducible rfl))
  try simp only [Act.put, List.setIfInBounds_toArray, List.set_cons_zero, List.set_cons_succ]
  refine anyZ_take (z := 9) (ks := [8]) (i := 7) (oi := { dst := some 20, op := Op.nilCheck (Operand.tmp 13), type := 0, pos := "parse.go:196", after := #[{ on := 0, ground := Ground.data }, { on := 0, ground := Ground.phase }, { on := 1, ground := Ground.phase }, { on := 2, ground := Ground.phase }, { on := 3, ground := Ground.phase }, { on := 4, ground := Ground.phase }, { on := 5, ground := Ground.phase }, { on := 6, ground := Ground.phase }], guard := none }) (v := ?v7a8) rfl (by kernel_rfl) (by kernel_rfl) (by kernel_rfl) (by kernel_rfl) (by kernel_rfl) (fun _ _ _ h => h) (Or.inl ⟨by rfl, ?hy7a8⟩) hH ?r7a8
  case hy7a8 => (intro W hSw; (try dsimp only at hSw); go_simp; try (with_reducible rfl))
  try simp only [Act.put, List.setIfInBounds_toArray, List.set_cons_zero, List.set_cons_succ]
  refine anyZ_take (z := 9) (ks := []) (i := 8) (oi := { dst := some 21, op := Op.fieldAddr 66 (Operand.tmp 20) 2, type := 0, pos := "parse.go:196", after := #[{ on := 7, ground := Ground.data }, { on := 0, ground := Ground.phase }, { on := 1, ground := Ground.phase }, { on := 2, ground := Ground.phase }, { on := 3, ground := Ground.phase }, { on := 4, ground := Ground.phase }, { on := 5, ground := Ground.phase }, { on := 6, ground := Ground.phase }], guard := none }) (v := ?v8a9) rfl (by kernel_rfl) (by kernel_rfl) (by kernel_rfl) (by kernel_rfl) (by kernel_rfl) (fun _ _ _ h => h) (Or.inl ⟨by rfl, ?hy8a9⟩) hH ?r8a9
  case hy8a9 => (intro W hSw; (try dsimp only at hSw); go_simp; try (with_reducible rfl))
  try simp only [Act.put, List.setIfInBounds_toArray, List.set_cons_zero, List.set_cons_succ]
  refine anyZ_ready (rs := [9]) (by kernel_rfl) (by simp) ?_
  refine AllZ.last (o := { dst := none, op := Op.store 3 (Operand.tmp 21) (Operand.tmp 19), type := 0, pos := "parse.go:196", after := #[{ on := 8, ground := Ground.data }, { on := 6, ground := Ground.data }, { on := 0, ground := Ground.phase }, { on := 1, ground := Ground.phase }, { on := 2, ground := Ground.phase }, { on := 3, ground := Ground.phase }, { on := 4, ground := Ground.phase }, { on := 5, ground := Ground.phase }, { on := 6, ground := Ground.phase }], guard := none }) rfl (Or.inl rfl) (fun K hKq => ?_) AllZ.nil
  have fq2 := bl_frozen (R0.out.kp KQ).b 2
  have cq2 := (R0.out.kp KQ).cells.2.2.1
  go_simp
  refine hKq.out _ _ ?_
  clear fq2 cq2
  clear hKq K
  try simp only [Act.put, List.setIfInBounds_toArray, List.set_cons_zero, List.set_cons_succ]
  refine anyZ_done (by kernel_rfl) ?_ _
  refine NoPanic.normal ?_
  go_wp2_with fail
  go_meet
  case rel => exact ⟨(R0.out.kp KQ).at (i + z), (ks0.out.kpt KQ hP).set 2 _⟩
 case rest =>
  obtain ⟨r1, k1⟩ := hcut
  rename World => W1
  have R1 := hid r1
  have K1 := hid k1
  clear r1 k1 R0 G0 ks0
  go_wp2_with fail
  refine (number_any s ere (i + z) n g d P _ R1.out hi hs).mono ?_
  rintro e W2 ⟨rfl, r2, k2⟩
  rw [HA.out] at r2 ⊢
  have R2 : Hid (Rd W2 P s ere ia n g d) := r2
  have K2 : Hid (Ks P w W2) := K1.out.trans k2
  clear r2 k2 R1 K1
  dsimp only
  cases oka with
  | false =>
   have E : Hid (pInt s ere i z = (none, ia)) := by show _ = _; unfold pInt; rw [HA.out]; rfl
   have p1 := R2.out.cells.2.1
   have FIN : Hid (RetIE w P s ere (pInt s ere i z) n g d (.returned (.tuple #[.int .i64 0, .int .i64 0, .bool false])) W2) := ⟨0, 0, false, rfl, by rw [E.out]; rfl, by rw [E.out]; exact R2.out, K2.out⟩
   cases ere with
   | true =>
    go_wp2_with fail
    go_ret3
    exact FIN.out
   | false =>
    go_wp2_with fail
    go_ret3
    exact FIN.out
  | true =>
   obtain ⟨hg, ih, hh⟩ : ∃ hg ih, pHigh s a ia = (hg, ih) := ⟨_, _, rfl⟩
   have hle := pHigh_le s a ia hle2 hle3
   rw [hh] at hle
   obtain ⟨hle4, hle5, hle6, hle7⟩ := hle
   simp only at hle4 hle5 hle6 hle7
   have HH := hid hh
   clear hh
   obtain ⟨q, hq⟩ : ∃ q, pfx s ia [44] = q := ⟨_, rfl⟩
   have T1 : Hid (∀ w, Rd w P s ere ia n g d → Calls Tryz.prog 166 #[.pointer (some ⟨P, 0, none⟩), .string ⟨#[44]⟩] w fun e w' => e = .returned (.bool q) ∧ Rd w' P s ere (if q then ia + 1 else ia) n g d ∧ Ks P w w') := by
    intro w h
    have := takes_any ⟨#[44]⟩ s ere ia n g d P w h hle2 hs
    rw [show (⟨#[44]⟩ : ByteArray).data.toList = [44] from rfl, hq] at this
    exact this
   have HQ := hid hq
   have hq1 : q = true → ia + 1 ≤ s.size := fun h => by rw [h] at hq; exact pfx_le hq hle2
   have HQ1 := hid hq1
   clear hq hq1
   go_wp2_with fail
   refine (T1.out _ R2.out).mono ?_
   rintro e W3 ⟨rfl, r3, k3⟩
   have R3 := hid r3
   have K3 : Hid (Ks P w W3) := K2.out.trans k3
   clear r3 k3 R2 K2
   go_upto_if 32 with fail
   go_cut [5, 6] (fun h o wc => h = .int .i64 hg ∧ o = .bool true ∧ Rd wc P s ere ih n g d ∧ Ks P w wc)
   case first =>
    cases q with
    | false =>
     have E : Hid (hg = (a : Int) ∧ ih = ia) := by
      have := HH.out
      unfold pHigh at this
      rw [HQ.out] at this
      injection this with h1 h2
      exact ⟨h1.symm, h2.symm⟩
     go_wp2_with fail
     go_meet
     case rel => exact ⟨by rw [E.out.1], rfl, by rw [E.out.2]; exact R3.out, K3.out⟩
    | true =>
     obtain ⟨b, okb, ib, hb⟩ : ∃ b okb ib, pNum s (ia + 1) = (b, okb, ib) := ⟨_, _, _, rfl⟩
     have HB := hid hb
     clear hb
     have E : Hid (hg = (if okb then (b : Int) else -1) ∧ ih = ib) := by
      have := HH.out
      unfold pHigh at this
      rw [HQ.out, HB.out] at this
      injection this with h1 h2
      exact ⟨h1.symm, h2.symm⟩
     go_wp2_with fail
     refine (number_any s ere (ia + 1) n g d P _ R3.out (HQ1.out (by trivial)) hs).mono ?_
     rintro e W4 ⟨rfl, r4, k4⟩
     rw [HB.out] at r4 ⊢
     have R4 : Hid (Rd W4 P s ere ib n g d) := r4
     have K4 : Hid (Ks P w W4) := K3.out.trans k4
     clear r4 k4 R3 K3
     dsimp only
     cases okb with
     | false =>
      go_wp2_with fail
      go_meet
      case rel => exact ⟨by rw [E.out.1]; rfl, rfl, by rw [E.out.2]; exact R4.out, K4.out⟩
     | true =>
      go_wp2_with fail
      go_meet
      case rel => exact ⟨by rw [E.out.1]; rfl, rfl, by rw [E.out.2]; exact R4.out, K4.out⟩
   case rest =>
    obtain ⟨rfl, rfl, r5, k5⟩ := hcut
    rename World => W5
    have R5 := hid r5
    have K5 := hid k5
    clear r5 k5 R3 K3 T1 HQ HQ1
    have p1 := R5.out.cells.2.1
    obtain ⟨q2, hq2⟩ : ∃ q2, pfx s ih (closeB ere) = q2 := ⟨_, rfl⟩
    have HQ2 := hid hq2
    clear hq2
    obtain ⟨tf, htf⟩ : ∃ tf, timesFit (a : Int) hg = tf := ⟨_, rfl⟩
    have HT := hid htf
    clear htf
    have E : Hid (pInt s ere i z = if q2 then (if tf then (some ((a : Int), hg), ih + (closeB ere).length) else (none, i)) else (none, ih)) := by
     show _ = _
     unfold pInt
     rw [HA.out]
     simp only [HH.out, HQ2.out, HT.out, if_true]
    cases ere with
    | true =>
     go_wp2_with fail
     refine (takes_any ⟨#[125]⟩ s true ih n g d P _ R5.out hle5 hs).mono ?_
     rintro e W6 ⟨rfl, r6, k6⟩
     rw [show pfx s ih (⟨#[125]⟩ : ByteArray).data.toList = q2 from HQ2.out] at r6 ⊢
     have K6 : Hid (Ks P w W6) := K5.out.trans k6
     cases q2 with
     | false =>
      have R6 : Hid (Rd W6 P s true ih n g d) := r6
      clear r6 k6 p1 R5 K5
      go_wp2_with fail
      go_ret3
      exact ⟨0, 0, false, rfl, by rw [E.out]; rfl, by rw [E.out]; exact R6.out, K6.out⟩
     | true =>
      have R6 : Hid (Rd W6 P s true (ih + 1) n g d) := r6
      clear r6 k6 p1 R5 K5
      go_wp2_with fail
      refine (timesFit_any (a : Int) hg _).mono ?_
      rintro e W6 ⟨rfl, rfl⟩
      rw [HT.out]
      cases tf with
      | false =>
       have p2 := R6.out.cells.2.2.1
       have fp2 := bl_frozen R6.out.b 2
       go_wp2_with fail
       go_ret3
       exact ⟨0, 0, false, rfl, by rw [E.out]; rfl, by rw [E.out]; exact R6.out.at i, K6.out.set 2 _⟩
      | true =>
       go_wp2_with fail
       go_ret3
       exact ⟨_, _, true, rfl, by rw [E.out]; rfl, by rw [E.out]; exact R6.out, K6.out⟩
    | false =>
     go_wp2_with fail
     refine (takes_any ⟨#[92, 125]⟩ s false ih n g d P _ R5.out hle5 hs).mono ?_
     rintro e W6 ⟨rfl, r6, k6⟩
     rw [show pfx s ih (⟨#[92, 125]⟩ : ByteArray).data.toList = q2 from HQ2.out] at r6 ⊢
     have K6 : Hid (Ks P w W6) := K5.out.trans k6
     cases q2 with
     | false =>
      have R6 : Hid (Rd W6 P s false ih n g d) := r6
      clear r6 k6 p1 R5 K5
      go_wp2_with fail
      go_ret3
      exact ⟨0, 0, false, rfl, by rw [E.out]; rfl, by rw [E.out]; exact R6.out, K6.out⟩
     | true =>
      have R6 : Hid (Rd W6 P s false (ih + 2) n g d) := r6
      clear r6 k6 p1 R5 K5
      go_wp2_with fail
      refine (timesFit_any (a : Int) hg _).mono ?_
      rintro e W6 ⟨rfl, rfl⟩
      rw [HT.out]
      cases tf with
      | false =>
       have p2 := R6.out.cells.2.2.1
       have fp2 := bl_frozen R6.out.b 2
       go_wp2_with fail
       go_ret3
       exact ⟨0, 0, false, rfl, by rw [E.out]; rfl, by rw [E.out]; exact R6.out.at i, K6.out.set 2 _⟩
      | true =>
       go_wp2_with fail
       go_ret3
       exact ⟨_, _, true, rfl, by rw [E.out]; rfl, by rw [E.out]; exact R6.out, K6.out⟩
end Go.Proofs.YtommgdgilcemdaaGreatDoor

/-! ### Rep -/

namespace Go.Proofs.YtommgdgilcemdaaGreatDoor
open Go.RowKit
attribute [local go_sem] field91

def repInt (r : Rx) (o : Option (Int × Int) × Nat) (n g d : Nat) : Out := match o with
 | (none, j) => ⟨rx0, 1, ⟨j, n, g, d⟩⟩
 | (some (a, b), j) => pTake 0 (rrep a b r) ⟨j, n, g, d⟩
theorem pInt_le (s : ByteArray) (ere : Bool) (i z : Nat) (h : i + z ≤ s.size) : (pInt s ere i z).2 ≤ s.size := by
 have h1 := pNum_le s (i + z) h
 unfold pInt
 dsimp only
 split
 ·
  have h2 := pHigh_le s (pNum s (i + z)).1 (pNum s (i + z)).2.2 h1.2.1 h1.2.2
  split
  ·
   rename_i hp
   have h3 := pfx_le hp h2.2.1
   split
   ·
    exact h3
   ·
    show i ≤ s.size; omega
  ·
   exact h2.2.1
 ·
  exact h1.2.1

set_option maxHeartbeats 2000000 in
set_option maxRecDepth 100000 in
theorem repeated_any (r : Rx) (k mn mx m : Int) (t : W4) (ad : Option Addr) (l c : Nat) (s : ByteArray) (ere : Bool) (i n g d P : Nat) (w0 w : World) (h : Rd w P s ere i n g d) (hI : Is w (fun b => w0.heap.size ≤ b) r (rxv k mn mx m t (.slice ad l c))) (hk : Ks P w0 w) (hP : P < w0.heap.size) (hi : i ≤ s.size) (hs : s.size ≤ 1000000) (hn : n ≤ 1000000000) :
  Calls Tryz.prog 138 #[.pointer (some ⟨P, 0, none⟩), rxv k mn mx m t (.slice ad l c)] w fun e w' => RetE w0 P s ere (pRep s ere r ⟨i, n, g, d⟩) e w' := by
 have R : Hid (Rd w P s ere i n g d) := h
 have HI : Hid (Is w (fun b => w0.heap.size ≤ b ∧ b < w.heap.size) r (rxv k mn mx m t (.slice ad l c))) := hI.weak (fun _ hb hl => ⟨hb, hl⟩)
 have HK := hid hk
 have hsw := hk.size
 clear h hI hk
 obtain ⟨x, y, z, hg⟩ : ∃ x y z, sgn s ere i = (x, y, z) := ⟨_, _, _, rfl⟩
 have hz := sgn_sz s ere i hi
 rw [hg] at hz
 obtain ⟨hz1, hz2, _⟩ := hz
 simp only at hz1 hz2
 have HG := hid hg
 have hpr : pRep s ere r ⟨i, n, g, d⟩ = if x = 10 then pTake z (rrep 0 (-1) r) ⟨i, n, g, d⟩ else if x = 11 then pTake z (rrep 1 (-1) r) ⟨i, n, g, d⟩ else if x = 12 then pTake z (rrep 0 1 r) ⟨i, n, g, d⟩ else if x = 13 then repInt r (pInt s ere i z) n g d else ⟨r, 0, ⟨i, n, g, d⟩⟩ := by
  unfold pRep; rw [hg]; rfl
 have HPR := hid hpr
 clear hg hpr
 go_enter Tryz.func138, Tryz.ntmps138
 go_upto_region 1 with fail
 refine opq (fun W0 => Rd W0 P s ere i n g d ∧ W0.heap[w.heap.size]? = some (rxo k mn mx m t (.slice ad l c)) ∧ W0.heap[(w.heap.size + 1)]? = some rzo ∧ Is W0 (fun b => w0.heap.size ≤ b ∧ b < w.heap.size) r (rxv k mn mx m t (.slice ad l c)) ∧ Ks P w0 W0) ⟨by exact R.out.kp (by repeat (first | exact Kp.refl _ | refine Kp.alloc ?_ _ | refine Kp.drew ?_ | refine Kp.drewN _ ?_)), by (first | exact last_at _ _ _ (by simp) | (refine bl_alloc ?_ _; first | exact last_at _ _ _ (by simp) | (refine bl_alloc ?_ _; first | exact last_at _ _ _ (by simp) | (refine bl_alloc ?_ _; exact last_at _ _ _ (by simp))))), by (first | exact last_at _ _ _ (by simp) | (refine bl_alloc ?_ _; first | exact last_at _ _ _ (by simp) | (refine bl_alloc ?_ _; first | exact last_at _ _ _ (by simp) | (refine bl_alloc ?_ _; exact last_at _ _ _ (by simp))))), by exact HI.out.kp (by repeat (first | exact Kp.refl _ | refine Kp.alloc ?_ _ | refine Kp.drew ?_ | refine Kp.drewN _ ?_)), by exact HK.out.kpt (by repeat (first | exact Kp.refl _ | refine Kp.alloc ?_ _ | refine Kp.drew ?_ | refine Kp.drewN _ ?_)) hP⟩ ?_
 rintro W0 ⟨xR0, xA0, xB0, xI0, xK0⟩
 have R0 : Hid (Rd W0 P s ere i n g d) := xR0
 have A0 : Hid (W0.heap[w.heap.size]? = some (rxo k mn mx m t (.slice ad l c))) := xA0
 have B0 : Hid (W0.heap[(w.heap.size + 1)]? = some rzo) := xB0
 have I0 : Hid (Is W0 (fun b => w0.heap.size ≤ b ∧ b < w.heap.size) r (rxv k mn mx m t (.slice ad l c))) := xI0
 have K0 : Hid (Ks P w0 W0) := xK0
 clear xR0 xA0 xB0 xI0 xK0
 clear R HI HK
 go_wp2_with fail
 refine (sign_any s ere i n g d P _ R0.out hi hs).mono ?_
 rintro e w1 ⟨rfl, kq⟩
 rw [HG.out, sg3]
 have hs1 : w.heap.size + 1 < w1.heap.size := bl_lt (bl_kp B0.out kq)
 have KQ : Hid (Kp W0 w1) := kq
 clear kq
 go_upto_region 2 with fail
 refine opq (fun W1 => Rd W1 P s ere i n g d ∧ W1.heap[w.heap.size]? = some (rxo k mn mx m t (.slice ad l c)) ∧ W1.heap[(w.heap.size + 1)]? = some rzo ∧ W1.heap[w1.heap.size]? = some (sgo x y z) ∧ Is W1 (fun b => w0.heap.size ≤ b ∧ b < w.heap.size) r (rxv k mn mx m t (.slice ad l c)) ∧ Ks P w0 W1) ⟨by exact R0.out.kp (KQ.out.trans (by repeat (first | exact Kp.refl _ | refine Kp.alloc ?_ _ | refine Kp.drew ?_ | refine Kp.drewN _ ?_))), by exact bl_kp A0.out (KQ.out.trans (by repeat (first | exact Kp.refl _ | refine Kp.alloc ?_ _ | refine Kp.drew ?_ | refine Kp.drewN _ ?_))), by exact bl_kp B0.out (KQ.out.trans (by repeat (first | exact Kp.refl _ | refine Kp.alloc ?_ _ | refine Kp.drew ?_ | refine Kp.drewN _ ?_))), by (first | exact last_at _ _ _ (by simp) | (refine bl_alloc ?_ _; first | exact last_at _ _ _ (by simp) | (refine bl_alloc ?_ _; first | exact last_at _ _ _ (by simp) | (refine bl_alloc ?_ _; exact last_at _ _ _ (by simp))))), by exact I0.out.kp (KQ.out.trans (by repeat (first | exact Kp.refl _ | refine Kp.alloc ?_ _ | refine Kp.drew ?_ | refine Kp.drewN _ ?_))), by exact K0.out.kpt (KQ.out.trans (by repeat (first | exact Kp.refl _ | refine Kp.alloc ?_ _ | refine Kp.drew ?_ | refine Kp.drewN _ ?_))) hP⟩ ?_
 rintro W1 ⟨xR1, xA1, xB1, xG1, xI1, xK1⟩
 have R1 : Hid (Rd W1 P s ere i n g d) := xR1
 have A1 : Hid (W1.heap[w.heap.size]? = some (rxo k mn mx m t (.slice ad l c))) := xA1
 have B1 : Hid (W1.heap[(w.heap.size + 1)]? = some rzo) := xB1
 have G1 : Hid (W1.heap[w1.heap.size]? = some (sgo x y z)) := xG1
 have I1 : Hid (Is W1 (fun b => w0.heap.size ≤ b ∧ b < w.heap.size) r (rxv k mn mx m t (.slice ad l c))) := xI1
 have K1 : Hid (Ks P w0 W1) := xK1
 clear xR1 xA1 xB1 xG1 xI1 xK1
 clear R0 A0 B0 I0 K0 KQ
 have hs2 : w1.heap.size < W1.heap.size := bl_lt G1.out
 by_cases x10 : x = 10
 ·
  subst x10
  have E : Hid (pRep s ere r ⟨i, n, g, d⟩ = pTake z (rrep 0 (-1) r) ⟨i, n, g, d⟩) := by show _ = _; rw [HPR.out, if_pos rfl]
  have qq0 := bl_cell G1.out 0 _ rfl
  have qq1 := bl_cell G1.out 1 _ rfl
  have qq2 := bl_cell G1.out 2 _ rfl
  have a0 := bl_cell (A1.out) 0 _ rfl
  have a1 := bl_cell (A1.out) 1 _ rfl
  have a2 := bl_cell (A1.out) 2 _ rfl
  have a3 := bl_cell (A1.out) 3 _ rfl
  have a4 := bl_cell (A1.out) 4 _ rfl
  have a5 := bl_cell (A1.out) 5 _ rfl
  have a6 := bl_cell (A1.out) 6 _ rfl
  have a7 := bl_cell (A1.out) 7 _ rfl
  have a8 := bl_cell (A1.out) 8 _ rfl
  go_wp2_with fail
  refine (take_any0 10 y z 4 0 (-1) 0 (some ⟨W1.heap.size, 0, none⟩) 1 1 s ere i n g d P _ (R1.out.kp ((Kp.refl _).alloc _)) (by omega) (by omega) hn).mono ?_
  rintro e w2 ⟨rfl, r2, k2⟩
  have hsW : w.heap.size + 1 < W1.heap.size := bl_lt B1.out
  have hsP : w0.heap.size ≤ W1.heap.size := K1.out.size
  have R2 := hid r2
  have K2 : Hid (Ks P w0 w2) := (K1.out.kpt ((Kp.refl _).alloc _) hP).trans k2
  have B2 : Hid (w2.heap[w.heap.size + 1]? = some rzo) := bl_ks (bl_alloc B1.out _) (by omega) k2
  have I2 : Hid (Is w2 (fun b => w0.heap.size ≤ b ∧ b ≠ w.heap.size + 1) (rrep 0 (-1) r) (rxv 4 0 (-1) 0 W4.z (.slice (some ⟨W1.heap.size, 0, none⟩) 1 1))) :=
   ((((I1.out.weak (ok' := fun b => w0.heap.size ≤ b ∧ b ≠ w.heap.size + 1) (fun _ hb _ => ⟨hb.1, by omega⟩)).kp ((Kp.refl _).alloc _)).one (cells_new _ _ _ _ _ _ _ _ _) ⟨hsP, by omega⟩ (by simp) 4 0 (-1) 0 W4.z).ks k2 (fun _ hb _ => by omega))
  clear r2 k2
  clear qq0 qq1 qq2 a0 a1 a2 a3 a4 a5 a6 a7 a8
  have b0 := bl_cell (B2.out) 0 _ rfl
  have fb0 := bl_frozen (B2.out) 0
  have b1 := bl_cell (B2.out) 1 _ rfl
  have fb1 := bl_frozen (B2.out) 1
  have b2 := bl_cell (B2.out) 2 _ rfl
  have fb2 := bl_frozen (B2.out) 2
  have b3 := bl_cell (B2.out) 3 _ rfl
  have fb3 := bl_frozen (B2.out) 3
  have b4 := bl_cell (B2.out) 4 _ rfl
  have fb4 := bl_frozen (B2.out) 4
  have b5 := bl_cell (B2.out) 5 _ rfl
  have fb5 := bl_frozen (B2.out) 5
  have b6 := bl_cell (B2.out) 6 _ rfl
  have fb6 := bl_frozen (B2.out) 6
  have b7 := bl_cell (B2.out) 7 _ rfl
  have fb7 := bl_frozen (B2.out) 7
  have b8 := bl_cell (B2.out) 8 _ rfl
  have fb8 := bl_frozen (B2.out) 8
  go_wp2_with fail
  refine bodyPost_ret (v := .tuple #[rxv 4 0 (-1) 0 W4.z (.slice (some ⟨W1.heap.size, 0, none⟩) 1 1), .int .i64 0]) (rx_ret2 rfl _ _ _ _ _ rfl rfl (bl_set9 B2.out _ _ _ _ _ _ _ _ _) rfl) rfl ?_
  rw [E.out]
  exact ⟨_, rfl, Ret.fin I2.out R2.out K2.out (ks_set9 _ _ _ _ _ _ _ _ _) hP (by omega)⟩
 by_cases x11 : x = 11
 ·
  subst x11
  have E : Hid (pRep s ere r ⟨i, n, g, d⟩ = pTake z (rrep 1 (-1) r) ⟨i, n, g, d⟩) := by show _ = _; rw [HPR.out, if_neg (by omega), if_pos rfl]
  have qq0 := bl_cell G1.out 0 _ rfl
  have qq1 := bl_cell G1.out 1 _ rfl
  have qq2 := bl_cell G1.out 2 _ rfl
  have a0 := bl_cell (A1.out) 0 _ rfl
  have a1 := bl_cell (A1.out) 1 _ rfl
  have a2 := bl_cell (A1.out) 2 _ rfl
  have a3 := bl_cell (A1.out) 3 _ rfl
  have a4 := bl_cell (A1.out) 4 _ rfl
  have a5 := bl_cell (A1.out) 5 _ rfl
  have a6 := bl_cell (A1.out) 6 _ rfl
  have a7 := bl_cell (A1.out) 7 _ rfl
  have a8 := bl_cell (A1.out) 8 _ rfl
  go_wp2_with fail
  refine (take_any0 11 y z 4 1 (-1) 0 (some ⟨W1.heap.size, 0, none⟩) 1 1 s ere i n g d P _ (R1.out.kp ((Kp.refl _).alloc _)) (by omega) (by omega) hn).mono ?_
  rintro e w2 ⟨rfl, r2, k2⟩
  have hsW : w.heap.size + 1 < W1.heap.size := bl_lt B1.out
  have hsP : w0.heap.size ≤ W1.heap.size := K1.out.size
  have R2 := hid r2
  have K2 : Hid (Ks P w0 w2) := (K1.out.kpt ((Kp.refl _).alloc _) hP).trans k2
  have B2 : Hid (w2.heap[w.heap.size + 1]? = some rzo) := bl_ks (bl_alloc B1.out _) (by omega) k2
  have I2 : Hid (Is w2 (fun b => w0.heap.size ≤ b ∧ b ≠ w.heap.size + 1) (rrep 1 (-1) r) (rxv 4 1 (-1) 0 W4.z (.slice (some ⟨W1.heap.size, 0, none⟩) 1 1))) :=
   ((((I1.out.weak (ok' := fun b => w0.heap.size ≤ b ∧ b ≠ w.heap.size + 1) (fun _ hb _ => ⟨hb.1, by omega⟩)).kp ((Kp.refl _).alloc _)).one (cells_new _ _ _ _ _ _ _ _ _) ⟨hsP, by omega⟩ (by simp) 4 1 (-1) 0 W4.z).ks k2 (fun _ hb _ => by omega))
  clear r2 k2
  clear qq0 qq1 qq2 a0 a1 a2 a3 a4 a5 a6 a7 a8
  have b0 := bl_cell (B2.out) 0 _ rfl
  have fb0 := bl_frozen (B2.out) 0
  have b1 := bl_cell (B2.out) 1 _ rfl
  have fb1 := bl_frozen (B2.out) 1
  have b2 := bl_cell (B2.out) 2 _ rfl
  have fb2 := bl_frozen (B2.out) 2
  have b3 := bl_cell (B2.out) 3 _ rfl
  have fb3 := bl_frozen (B2.out) 3
  have b4 := bl_cell (B2.out) 4 _ rfl
  have fb4 := bl_frozen (B2.out) 4
  have b5 := bl_cell (B2.out) 5 _ rfl
  have fb5 := bl_frozen (B2.out) 5
  have b6 := bl_cell (B2.out) 6 _ rfl
  have fb6 := bl_frozen (B2.out) 6
  have b7 := bl_cell (B2.out) 7 _ rfl
  have fb7 := bl_frozen (B2.out) 7
  have b8 := bl_cell (B2.out) 8 _ rfl
  have fb8 := bl_frozen (B2.out) 8
  go_wp2_with fail
  refine bodyPost_ret (v := .tuple #[rxv 4 1 (-1) 0 W4.z (.slice (some ⟨W1.heap.size, 0, none⟩) 1 1), .int .i64 0]) (rx_ret2 rfl _ _ _ _ _ rfl rfl (bl_set9 B2.out _ _ _ _ _ _ _ _ _) rfl) rfl ?_
  rw [E.out]
  exact ⟨_, rfl, Ret.fin I2.out R2.out K2.out (ks_set9 _ _ _ _ _ _ _ _ _) hP (by omega)⟩
 by_cases x12 : x = 12
 ·
  subst x12
  have E : Hid (pRep s ere r ⟨i, n, g, d⟩ = pTake z (rrep 0 1 r) ⟨i, n, g, d⟩) := by show _ = _; rw [HPR.out, if_neg (by omega), if_neg (by omega), if_pos rfl]
  have qq0 := bl_cell G1.out 0 _ rfl
  have qq1 := bl_cell G1.out 1 _ rfl
  have qq2 := bl_cell G1.out 2 _ rfl
  have a0 := bl_cell (A1.out) 0 _ rfl
  have a1 := bl_cell (A1.out) 1 _ rfl
  have a2 := bl_cell (A1.out) 2 _ rfl
  have a3 := bl_cell (A1.out) 3 _ rfl
  have a4 := bl_cell (A1.out) 4 _ rfl
  have a5 := bl_cell (A1.out) 5 _ rfl
  have a6 := bl_cell (A1.out) 6 _ rfl
  have a7 := bl_cell (A1.out) 7 _ rfl
  have a8 := bl_cell (A1.out) 8 _ rfl
  go_wp2_with fail
  refine (take_any0 12 y z 4 0 1 0 (some ⟨W1.heap.size, 0, none⟩) 1 1 s ere i n g d P _ (R1.out.kp ((Kp.refl _).alloc _)) (by omega) (by omega) hn).mono ?_
  rintro e w2 ⟨rfl, r2, k2⟩
  have hsW : w.heap.size + 1 < W1.heap.size := bl_lt B1.out
  have hsP : w0.heap.size ≤ W1.heap.size := K1.out.size
  have R2 := hid r2
  have K2 : Hid (Ks P w0 w2) := (K1.out.kpt ((Kp.refl _).alloc _) hP).trans k2
  have B2 : Hid (w2.heap[w.heap.size + 1]? = some rzo) := bl_ks (bl_alloc B1.out _) (by omega) k2
  have I2 : Hid (Is w2 (fun b => w0.heap.size ≤ b ∧ b ≠ w.heap.size + 1) (rrep 0 1 r) (rxv 4 0 1 0 W4.z (.slice (some ⟨W1.heap.size, 0, none⟩) 1 1))) :=
   ((((I1.out.weak (ok' := fun b => w0.heap.size ≤ b ∧ b ≠ w.heap.size + 1) (fun _ hb _ => ⟨hb.1, by omega⟩)).kp ((Kp.refl _).alloc _)).one (cells_new _ _ _ _ _ _ _ _ _) ⟨hsP, by omega⟩ (by simp) 4 0 1 0 W4.z).ks k2 (fun _ hb _ => by omega))
  clear r2 k2
  clear qq0 qq1 qq2 a0 a1 a2 a3 a4 a5 a6 a7 a8
  have b0 := bl_cell (B2.out) 0 _ rfl
  have fb0 := bl_frozen (B2.out) 0
  have b1 := bl_cell (B2.out) 1 _ rfl
  have fb1 := bl_frozen (B2.out) 1
  have b2 := bl_cell (B2.out) 2 _ rfl
  have fb2 := bl_frozen (B2.out) 2
  have b3 := bl_cell (B2.out) 3 _ rfl
  have fb3 := bl_frozen (B2.out) 3
  have b4 := bl_cell (B2.out) 4 _ rfl
  have fb4 := bl_frozen (B2.out) 4
  have b5 := bl_cell (B2.out) 5 _ rfl
  have fb5 := bl_frozen (B2.out) 5
  have b6 := bl_cell (B2.out) 6 _ rfl
  have fb6 := bl_frozen (B2.out) 6
  have b7 := bl_cell (B2.out) 7 _ rfl
  have fb7 := bl_frozen (B2.out) 7
  have b8 := bl_cell (B2.out) 8 _ rfl
  have fb8 := bl_frozen (B2.out) 8
  go_wp2_with fail
  refine bodyPost_ret (v := .tuple #[rxv 4 0 1 0 W4.z (.slice (some ⟨W1.heap.size, 0, none⟩) 1 1), .int .i64 0]) (rx_ret2 rfl _ _ _ _ _ rfl rfl (bl_set9 B2.out _ _ _ _ _ _ _ _ _) rfl) rfl ?_
  rw [E.out]
  exact ⟨_, rfl, Ret.fin I2.out R2.out K2.out (ks_set9 _ _ _ _ _ _ _ _ _) hP (by omega)⟩
 by_cases x13 : x = 13
 ·
  subst x13
  obtain ⟨oi, oj, ho⟩ : ∃ oi oj, pInt s ere i z = (oi, oj) := ⟨_, _, rfl⟩
  have HO := hid ho
  clear ho
  have E0 : Hid (pRep s ere r ⟨i, n, g, d⟩ = repInt r (oi, oj) n g d) := by
   show _ = _
   rw [HPR.out, if_neg (by omega), if_neg (by omega), if_neg (by omega), if_pos rfl, HO.out]
  have hoj : Hid (oj ≤ s.size) := by
   have := pInt_le s ere i z hz1
   rw [HO.out] at this
   exact this
  have qq0 := bl_cell G1.out 0 _ rfl
  have qq1 := bl_cell G1.out 1 _ rfl
  have qq2 := bl_cell G1.out 2 _ rfl
  have a0 := bl_cell (A1.out) 0 _ rfl
  have a1 := bl_cell (A1.out) 1 _ rfl
  have a2 := bl_cell (A1.out) 2 _ rfl
  have a3 := bl_cell (A1.out) 3 _ rfl
  have a4 := bl_cell (A1.out) 4 _ rfl
  have a5 := bl_cell (A1.out) 5 _ rfl
  have a6 := bl_cell (A1.out) 6 _ rfl
  have a7 := bl_cell (A1.out) 7 _ rfl
  have a8 := bl_cell (A1.out) 8 _ rfl
  go_wp2_with fail
  refine (interval_any 13 y z s ere i n g d P _ R1.out hz1 hs).mono ?_
  rintro e W2 ⟨⟨a, b, ok, rfl, r2⟩⟩
  rw [HO.out] at r2
  have EQ := hid r2.eq
  have R2 : Hid (Rd W2 P s ere oj n g d) := r2.rd
  have k2 := r2.ks
  have hsz0 := K1.out.size
  have A2 : Hid (W2.heap[w.heap.size]? = some (rxo k mn mx m t (.slice ad l c))) := bl_ks A1.out (by omega) k2
  have B2 : Hid (W2.heap[w.heap.size + 1]? = some rzo) := bl_ks B1.out (by omega) k2
  have G2 : Hid (W2.heap[w1.heap.size]? = some (sgo 13 y z)) := bl_ks G1.out (by omega) k2
  have I2 : Hid (Is W2 (fun b => w0.heap.size ≤ b ∧ b < w.heap.size) r (rxv k mn mx m t (.slice ad l c))) := I1.out.ks k2 (fun _ hb _ => by omega)
  have K2 : Hid (Ks P w0 W2) := K1.out.trans k2
  clear r2 k2 R1 A1 B1 G1 I1 K1
  clear qq0 qq1 qq2 a0 a1 a2 a3 a4 a5 a6 a7 a8
  have gq2 := bl_frozen G2.out 2
  have gc2 := bl_cell G2.out 2 _ rfl
  go_upto_region 13 with fail
  clear gq2 gc2
  refine opq (fun W3 => Rd W3 P s ere oj n g d ∧ W3.heap[w.heap.size]? = some (rxo k mn mx m t (.slice ad l c)) ∧ W3.heap[(w.heap.size + 1)]? = some rzo ∧ W3.heap[w1.heap.size]? = some (sgo 13 y 0) ∧ Is W3 (fun b => w0.heap.size ≤ b ∧ b < w.heap.size) r (rxv k mn mx m t (.slice ad l c)) ∧ Ks P w0 W3) ⟨by exact R2.out.ks ((Ks.refl _ _).set 2 _) (by omega) (by omega), by exact bl_set A2.out (by omega) _, by exact bl_set B2.out (by omega) _, by exact bl_put G2.out _, by exact I2.out.ks ((Ks.refl _ _).set 2 _) (fun _ hb _ => by omega), by exact K2.out.off ((Ks.refl _ _).set 2 _) (by omega) hP⟩ ?_
  rintro W3 ⟨xR3, xA3, xB3, xG1, xI3, xK3⟩
  have R3 : Hid (Rd W3 P s ere oj n g d) := xR3
  have A3 : Hid (W3.heap[w.heap.size]? = some (rxo k mn mx m t (.slice ad l c))) := xA3
  have B3 : Hid (W3.heap[(w.heap.size + 1)]? = some rzo) := xB3
  have G1 : Hid (W3.heap[w1.heap.size]? = some (sgo 13 y 0)) := xG1
  have I3 : Hid (Is W3 (fun b => w0.heap.size ≤ b ∧ b < w.heap.size) r (rxv k mn mx m t (.slice ad l c))) := xI3
  have K3 : Hid (Ks P w0 W3) := xK3
  clear xR3 xA3 xB3 xG1 xI3 xK3
  clear R2 A2 B2 G2 I2 K2
  cases ok with
  | false =>
   have E : Hid (pRep s ere r ⟨i, n, g, d⟩ = ⟨rx0, 1, ⟨oj, n, g, d⟩⟩) := by show _ = _; rw [E0.out, show oi = none from EQ.out]; rfl
   have b0 := bl_cell (B3.out) 0 _ rfl
   have fb0 := bl_frozen (B3.out) 0
   have b1 := bl_cell (B3.out) 1 _ rfl
   have fb1 := bl_frozen (B3.out) 1
   have b2 := bl_cell (B3.out) 2 _ rfl
   have fb2 := bl_frozen (B3.out) 2
   have b3 := bl_cell (B3.out) 3 _ rfl
   have fb3 := bl_frozen (B3.out) 3
   have b4 := bl_cell (B3.out) 4 _ rfl
   have fb4 := bl_frozen (B3.out) 4
   have b5 := bl_cell (B3.out) 5 _ rfl
   have fb5 := bl_frozen (B3.out) 5
   have b6 := bl_cell (B3.out) 6 _ rfl
   have fb6 := bl_frozen (B3.out) 6
   have b7 := bl_cell (B3.out) 7 _ rfl
   have fb7 := bl_frozen (B3.out) 7
   have b8 := bl_cell (B3.out) 8 _ rfl
   have fb8 := bl_frozen (B3.out) 8
   go_wp2_with fail
   refine bodyPost_ret (v := .tuple #[rz, .int .i64 1]) (rx_ret2 rfl _ _ _ _ _ rfl rfl (bl_set9 B3.out _ _ _ _ _ _ _ _ _) rfl) rfl ?_
   rw [E.out]
   exact ⟨_, rfl, Ret.fail R3.out K3.out (ks_set9 _ _ _ _ _ _ _ _ _) hP (by omega)⟩
  | true =>
   have E : Hid (pRep s ere r ⟨i, n, g, d⟩ = pTake 0 (rrep a b r) ⟨oj, n, g, d⟩) := by show _ = _; rw [E0.out, show oi = some (a, b) from EQ.out]; rfl
   have hoj' := hoj.out
   have qq0 := bl_cell G1.out 0 _ rfl
   have qq1 := bl_cell G1.out 1 _ rfl
   have qq2 := bl_cell G1.out 2 _ rfl
   have a0 := bl_cell (A3.out) 0 _ rfl
   have a1 := bl_cell (A3.out) 1 _ rfl
   have a2 := bl_cell (A3.out) 2 _ rfl
   have a3 := bl_cell (A3.out) 3 _ rfl
   have a4 := bl_cell (A3.out) 4 _ rfl
   have a5 := bl_cell (A3.out) 5 _ rfl
   have a6 := bl_cell (A3.out) 6 _ rfl
   have a7 := bl_cell (A3.out) 7 _ rfl
   have a8 := bl_cell (A3.out) 8 _ rfl
   go_wp2_with fail
   refine (take_any0 13 y 0 4 a b 0 (some ⟨W3.heap.size, 0, none⟩) 1 1 s ere oj n g d P _ (R3.out.kp ((Kp.refl _).alloc _)) (by omega) (by omega) hn).mono ?_
   rintro e w2 ⟨rfl, r2, k2⟩
   have hsW : w.heap.size + 1 < W3.heap.size := bl_lt B3.out
   have hsP : w0.heap.size ≤ W3.heap.size := K3.out.size
   have R2 := hid r2
   have K2 : Hid (Ks P w0 w2) := (K3.out.kpt ((Kp.refl _).alloc _) hP).trans k2
   have B2 : Hid (w2.heap[w.heap.size + 1]? = some rzo) := bl_ks (bl_alloc B3.out _) (by omega) k2
   have I2 : Hid (Is w2 (fun b => w0.heap.size ≤ b ∧ b ≠ w.heap.size + 1) (rrep a b r) (rxv 4 a b 0 W4.z (.slice (some ⟨W3.heap.size, 0, none⟩) 1 1))) :=
    ((((I3.out.weak (ok' := fun b => w0.heap.size ≤ b ∧ b ≠ w.heap.size + 1) (fun _ hb _ => ⟨hb.1, by omega⟩)).kp ((Kp.refl _).alloc _)).one (cells_new _ _ _ _ _ _ _ _ _) ⟨hsP, by omega⟩ (by simp) 4 a b 0 W4.z).ks k2 (fun _ hb _ => by omega))
   clear r2 k2
   clear qq0 qq1 qq2 a0 a1 a2 a3 a4 a5 a6 a7 a8
   have b0 := bl_cell (B2.out) 0 _ rfl
   have fb0 := bl_frozen (B2.out) 0
   have b1 := bl_cell (B2.out) 1 _ rfl
   have fb1 := bl_frozen (B2.out) 1
   have b2 := bl_cell (B2.out) 2 _ rfl
   have fb2 := bl_frozen (B2.out) 2
   have b3 := bl_cell (B2.out) 3 _ rfl
   have fb3 := bl_frozen (B2.out) 3
   have b4 := bl_cell (B2.out) 4 _ rfl
   have fb4 := bl_frozen (B2.out) 4
   have b5 := bl_cell (B2.out) 5 _ rfl
   have fb5 := bl_frozen (B2.out) 5
   have b6 := bl_cell (B2.out) 6 _ rfl
   have fb6 := bl_frozen (B2.out) 6
   have b7 := bl_cell (B2.out) 7 _ rfl
   have fb7 := bl_frozen (B2.out) 7
   have b8 := bl_cell (B2.out) 8 _ rfl
   have fb8 := bl_frozen (B2.out) 8
   go_wp2_with fail
   refine bodyPost_ret (v := .tuple #[rxv 4 a b 0 W4.z (.slice (some ⟨W3.heap.size, 0, none⟩) 1 1), .int .i64 0]) (rx_ret2 rfl _ _ _ _ _ rfl rfl (bl_set9 B2.out _ _ _ _ _ _ _ _ _) rfl) rfl ?_
   rw [E.out]
   exact ⟨_, rfl, Ret.fin I2.out R2.out K2.out (ks_set9 _ _ _ _ _ _ _ _ _) hP (by omega)⟩
 have E : Hid (pRep s ere r ⟨i, n, g, d⟩ = ⟨r, 0, ⟨i, n, g, d⟩⟩) := by show _ = _; rw [HPR.out, if_neg x10, if_neg x11, if_neg x12, if_neg x13]
 have g10 : ((x : Int) == 10) = false := by simp; omega
 have g11 : ((x : Int) == 11) = false := by simp; omega
 have g12 : ((x : Int) == 12) = false := by simp; omega
 have g13 : ((x : Int) == 13) = false := by simp; omega
 have qq0 := bl_cell G1.out 0 _ rfl
 have qq1 := bl_cell G1.out 1 _ rfl
 have qq2 := bl_cell G1.out 2 _ rfl
 have a0 := bl_cell (A1.out) 0 _ rfl
 have a1 := bl_cell (A1.out) 1 _ rfl
 have a2 := bl_cell (A1.out) 2 _ rfl
 have a3 := bl_cell (A1.out) 3 _ rfl
 have a4 := bl_cell (A1.out) 4 _ rfl
 have a5 := bl_cell (A1.out) 5 _ rfl
 have a6 := bl_cell (A1.out) 6 _ rfl
 have a7 := bl_cell (A1.out) 7 _ rfl
 have a8 := bl_cell (A1.out) 8 _ rfl
 have b0 := bl_cell (B1.out) 0 _ rfl
 have fb0 := bl_frozen (B1.out) 0
 have b1 := bl_cell (B1.out) 1 _ rfl
 have fb1 := bl_frozen (B1.out) 1
 have b2 := bl_cell (B1.out) 2 _ rfl
 have fb2 := bl_frozen (B1.out) 2
 have b3 := bl_cell (B1.out) 3 _ rfl
 have fb3 := bl_frozen (B1.out) 3
 have b4 := bl_cell (B1.out) 4 _ rfl
 have fb4 := bl_frozen (B1.out) 4
 have b5 := bl_cell (B1.out) 5 _ rfl
 have fb5 := bl_frozen (B1.out) 5
 have b6 := bl_cell (B1.out) 6 _ rfl
 have fb6 := bl_frozen (B1.out) 6
 have b7 := bl_cell (B1.out) 7 _ rfl
 have fb7 := bl_frozen (B1.out) 7
 have b8 := bl_cell (B1.out) 8 _ rfl
 have fb8 := bl_frozen (B1.out) 8
 go_wp2_with fail
 refine bodyPost_ret (v := .tuple #[rxv k mn mx m t (.slice ad l c), .int .i64 0]) (rx_ret2 rfl _ _ _ _ _ rfl rfl (bl_set9 B1.out _ _ _ _ _ _ _ _ _) rfl) rfl ?_
 rw [E.out]
 exact ⟨_, rfl, Ret.fin (I1.out.weak (fun _ hb _ => ⟨hb.1, by omega⟩)) R1.out K1.out (ks_set9 _ _ _ _ _ _ _ _ _) hP (by omega)⟩
end Go.Proofs.YtommgdgilcemdaaGreatDoor
