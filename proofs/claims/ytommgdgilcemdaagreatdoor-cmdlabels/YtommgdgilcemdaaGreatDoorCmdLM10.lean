/-
  Texts of this claim: InB.
-/
import Derived.Test.YtommgdgilcemdaaGreatDoorCmdLM9

/-! ### InB -/

namespace Go.Proofs.YtommgdgilcemdaaGreatDoor
open Go.RowKit

set_option maxRecDepth 100000 in
theorem inBracket_any (s : ByteArray) (ere : Bool) (i n g d P : Nat) (w : World) (h : Rd w P s ere i n g d) (hi : i ≤ s.size) (hs : s.size ≤ 1000000) :
  Calls Tryz.prog 167 #[.pointer (some ⟨P, 0, none⟩)] w fun e w' => RetSE w P s ere (pIn s i) n g d e w' := by
 have R : Hid (Rd w P s ere i n g d) := h
 have hP : P < w.heap.size := h.lt
 clear h
 have gi : IntKind.i64.wrap ((i : Int) + 1) = (i : Int) + 1 := by rw [IntKind.wrap_i64]; omega
 obtain ⟨o, oj, ho⟩ : ∃ o oj, pIn s i = (o, oj) := ⟨_, _, rfl⟩
 have HO := hid ho
 rw [ho]
 clear ho
 go_enter Tryz.func167, Tryz.ntmps167
 go_upto_region 1 with fail
 refine opq (fun W0 => Rd W0 P s ere i n g d ∧ At W0 w.heap.size (fun _ => false) ∧ Kp w W0) ⟨by exact R.out.kp (by repeat (first | exact Kp.refl _ | refine Kp.alloc ?_ _ | refine Kp.drew ?_ | refine Kp.drewN _ ?_)), by exact At.zero _, by exact (by repeat (first | exact Kp.refl _ | refine Kp.alloc ?_ _ | refine Kp.drew ?_ | refine Kp.drewN _ ?_))⟩ ?_
 rintro W0 ⟨xR0, xB0, xK0⟩
 have R0 : Hid (Rd W0 P s ere i n g d) := xR0
 have B0 : Hid (At W0 w.heap.size (fun _ => false)) := xB0
 have K0 : Hid (Kp w W0) := xK0
 clear xR0 xB0 xK0
 clear R
 have hsz : w.heap.size < W0.heap.size := B0.out.lt
 have K0' : Hid (Ks P w W0) := K0.out.ks (Nat.le_of_lt hP)
 by_cases e0 : i = s.size
 ·
  have g0 : ((i : Int) == (s.size : Int)) = true := by rw [e0]; simp
  have E : Hid (o = none ∧ oj = i) := by
   have := HO.out
   unfold pIn at this
   rw [if_pos e0] at this
   injection this with h1 h2
   exact ⟨h1.symm, h2.symm⟩
  clear e0
  go_cut [15] (fun v wc => v = .bool true ∧ Kp W0 wc)
  case first =>
   have Q0 : Kp W0 W0.drew := (Kp.refl _).drew
   have MK : Hid (∀ W, Kp W0 W → W.cell? ⟨P, 0, none⟩ = some (.string s) ∧ W.cell? ⟨P, 2, none⟩ = some (.int .i64 (i : Int)) ∧ Hid (Kp W0 W)) := fun W k => ⟨(R0.out.kp k).cells.1, (R0.out.kp k).cells.2.2.1, k⟩
   refine wp_region_noPanic ?_
   refine wp_region_held_drew (S := (fun W => W.cell? ⟨P, 0, none⟩ = some (.string s) ∧ W.cell? ⟨P, 2, none⟩ = some (.int .i64 (i : Int)) ∧ Hid (Kp W0 W))) (by kernel_rfl) ?_ (fun hH => ?_)
   ·
    exact MK.out _ Q0
   have KQ := Q0
   refine wpAnyH_take (i := 0) (oi := { dst := some 6, op := Op.move (Operand.tmp 0), type := 90, pos := "bracket.go:37", after := #[], guard := none }) (v := ?v0a1) rfl (by kernel_rfl) (by kernel_rfl) (by kernel_rfl) (fun _ _ _ h => h) (Or.inl ⟨by rfl, ?hy0a1⟩) hH ?r0a1
   case hy0a1 => (intro W hSw; (try dsimp only at hSw); go_simp; try (with_reducible rfl))
   try simp only [Act.put, List.setIfInBounds_toArray, List.set_cons_zero, List.set_cons_succ]
   refine wpAnyH_take (i := 1) (oi := { dst := some 7, op := Op.nilCheck (Operand.tmp 6), type := 0, pos := "bracket.go:37", after := #[{ on := 0, ground := Ground.data }], guard := none }) (v := ?v1a2) rfl (by kernel_rfl) (by kernel_rfl) (by kernel_rfl) (fun _ _ _ h => h) (Or.inl ⟨by rfl, ?hy1a2⟩) hH ?r1a2
   case hy1a2 => (intro W hSw; (try dsimp only at hSw); go_simp; try (with_reducible rfl))
   try simp only [Act.put, List.setIfInBounds_toArray, List.set_cons_zero, List.set_cons_succ]
   refine wpAnyH_take (i := 2) (oi := { dst := some 8, op := Op.fieldAddr 66 (Operand.tmp 7) 2, type := 0, pos := "bracket.go:37", after := #[{ on := 1, ground := Ground.data }], guard := none }) (v := ?v2a3) rfl (by kernel_rfl) (by kernel_rfl) (by kernel_rfl) (fun _ _ _ h => h) (Or.inl ⟨by rfl, ?hy2a3⟩) hH ?r2a3
   case hy2a3 => (intro W hSw; (try dsimp only at hSw); go_simp; try (with_reducible rfl))
   try simp only [Act.put, List.setIfInBounds_toArray, List.set_cons_zero, List.set_cons_succ]
   refine wpAnyH_take (i := 3) (oi := { dst := some 9, op := Op.load 3 (Operand.tmp 8), type := 3, pos := "bracket.go:37", after := #[{ on := 2, ground := Ground.data }], guard := none }) (v := ?v3a4) rfl (by kernel_rfl) (by kernel_rfl) (by kernel_rfl) (fun _ _ _ h => h) (Or.inl ⟨by rfl, ?hy3a4⟩) hH ?r3a4
   case hy3a4 => (intro W hSw; (try dsimp only at hSw); go_simp; try (with_reducible rfl))
   try simp only [Act.put, List.setIfInBounds_toArray, List.set_cons_zero, List.set_cons_succ]
   refine wpAnyH_take (i := 4) (oi := { dst := some 10, op := Op.move (Operand.tmp 0), type := 90, pos := "bracket.go:37", after := #[], guard := none }) (v := ?v4a5) rfl (by kernel_rfl) (by kernel_rfl) (by kernel_rfl) (fun _ _ _ h => h) (Or.inl ⟨by rfl, ?hy4a5⟩) hH ?r4a5
   case hy4a5 => (intro W hSw; (try dsimp only at hSw); go_simp; try (with_reducible rfl))
   try simp only [Act.put, List.setIfInBounds_toArray, List.set_cons_zero, List.set_cons_succ]
   refine wpAnyH_take (i := 5) (oi := { dst := some 11, op := Op.nilCheck (Operand.tmp 10), type := 0, pos := "bracket.go:37", after := #[{ on := 4, ground := Ground.data }], guard := none }) (v := ?v5a6) rfl (by kernel_rfl) (by kernel_rfl) (by kernel_rfl) (fun _ _ _ h => h) (Or.inl ⟨by rfl, ?hy5a6⟩) hH ?r5a6
   case hy5a6 => (intro W hSw; (try dsimp only at hSw); go_simp; try (with_reducible rfl))
   try simp only [Act.put, List.setIfInBounds_toArray, List.set_cons_zero, List.set_cons_succ]
   refine wpAnyH_take (i := 6) (oi := { dst := some 12, op := Op.fieldAddr 66 (Operand.tmp 11) 0, type := 0, pos := "bracket.go:37", after := #[{ on := 5, ground := Ground.data }], guard := none }) (v := ?v6a7) rfl (by kernel_rfl) (by kernel_rfl) (by kernel_rfl) (fun _ _ _ h => h) (Or.inl ⟨by rfl, ?hy6a7⟩) hH ?r6a7
   case hy6a7 => (intro W hSw; (try dsimp only at hSw); go_simp; try (with_reducible rfl))
   try simp only [Act.put, List.setIfInBounds_toArray, List.set_cons_zero, List.set_cons_succ]
   refine wpAnyH_take (i := 7) (oi := { dst := some 13, op := Op.load 9 (Operand.tmp 12), type := 9, pos := "bracket.go:37", after := #[{ on := 6, ground := Ground.data }], guard := none }) (v := ?v7a8) rfl (by kernel_rfl) (by kernel_rfl) (by kernel_rfl) (fun _ _ _ h => h) (Or.inl ⟨by rfl, ?hy7a8⟩) hH ?r7a8
   case hy7a8 => (intro W hSw; (try dsimp only at hSw); go_simp; try (with_reducible rfl))
   try simp only [Act.put, List.setIfInBounds_toArray, List.set_cons_zero, List.set_cons_succ]
   refine wpAnyH_take (i := 8) (oi := { dst := some 14, op := Op.call { callee := Callee.builtin Builtin.len, args := #[Operand.tmp 13], argTypes := #[9] }, type := 3, pos := "bracket.go:37", after := #[{ on := 7, ground := Ground.data }], guard := none }) (v := ?v8a9) rfl (by kernel_rfl) (by kernel_rfl) (by kernel_rfl) (fun _ _ _ h => h) (Or.inl ⟨by rfl, ?hy8a9⟩) hH ?r8a9
   case hy8a9 => (intro W hSw; (try dsimp only at hSw); go_simp; try (with_reducible rfl))
   try simp only [Act.put, List.setIfInBounds_toArray, List.set_cons_zero, List.set_cons_succ]
   refine wpAnyH_take (i := 9) (oi := { dst := some 15, op := Op.binOp BinOp.eql 3 (Operand.tmp 9) (Operand.tmp 14) 3, type := 4, pos := "bracket.go:37", after := #[{ on := 3, ground := Ground.data }, { on := 8, ground := Ground.data }], guard := none }) (v := ?v9a10) rfl (by kernel_rfl) (by kernel_rfl) (by kernel_rfl) (fun _ _ _ h => h) (Or.inl ⟨by rfl, ?hy9a10⟩) hH ?r9a10
   case hy9a10 => (intro W hSw; (try dsimp only at hSw); go_simp; try (with_reducible rfl))
   try simp only [Act.put, List.setIfInBounds_toArray, List.set_cons_zero, List.set_cons_succ]
   refine wpAnyH_done (by kernel_rfl) ?_ _
   refine NoPanic.normal ?_
   go_wp2_with fail
   go_meet
   case rel => exact ⟨rfl, KQ⟩
  case rest =>
   obtain ⟨rfl, k1⟩ := hcut
   rename World => W1
   have R1 : Hid (Rd W1 P s ere i n g d) := R0.out.kp k1
   have B1 : Hid (At W1 w.heap.size (fun _ => false)) := B0.out.kp k1
   have K1 : Hid (Ks P w W1) := K0'.out.kpt k1 hP
   clear k1 R0 B0 K0 K0'
   obtain ⟨b0, b1, b2, b3⟩ := B1.out.cells
   have fb0 := B1.out.frozen 0
   have fb1 := B1.out.frozen 1
   have fb2 := B1.out.frozen 2
   have fb3 := B1.out.frozen 3
   go_wp2_with fail
   refine bodyPost_ret (v := .tuple #[sv (fun _ => false), .bool false]) (ret2_set rfl _ _ _ _ _ rfl rfl (B1.out.set4z)) rfl ?_
   exact ⟨fun _ => false, false, rfl, by rw [E.out.1]; rfl, by rw [E.out.2]; exact R1.out.ks (ks_set4 _ _ _ _) (by omega) (by omega), K1.out.off (ks_set4 _ _ _ _) (by omega) hP⟩
 have g0 : ((i : Int) == (s.size : Int)) = false := by simp; omega
 have hlt : i < s.size := by omega
 go_cut [15] (fun v wc => v = .bool false ∧ Kp W0 wc)
 case first =>
  have Q0 : Kp W0 W0.drew := (Kp.refl _).drew
  have MK : Hid (∀ W, Kp W0 W → W.cell? ⟨P, 0, none⟩ = some (.string s) ∧ W.cell? ⟨P, 2, none⟩ = some (.int .i64 (i : Int)) ∧ Hid (Kp W0 W)) := fun W k => ⟨(R0.out.kp k).cells.1, (R0.out.kp k).cells.2.2.1, k⟩
  refine wp_region_noPanic ?_
  refine wp_region_held_drew (S := (fun W => W.cell? ⟨P, 0, none⟩ = some (.string s) ∧ W.cell? ⟨P, 2, none⟩ = some (.int .i64 (i : Int)) ∧ Hid (Kp W0 W))) (by kernel_rfl) ?_ (fun hH => ?_)
  ·
   exact MK.out _ Q0
  have KQ := Q0
  refine wpAnyH_take (i := 0) (oi := { dst := some 6, op := Op.move (Operand.tmp 0), type := 90, pos := "bracket.go:37", after := #[], guard := none }) (v := ?v0b1) rfl (by kernel_rfl) (by kernel_rfl) (by kernel_rfl) (fun _ _ _ h => h) (Or.inl ⟨by rfl, ?hy0b1⟩) hH ?r0b1
  case hy0b1 => (intro W hSw; (try dsimp only at hSw); go_simp; try (with_reducible rfl))
  try simp only [Act.put, List.setIfInBounds_toArray, List.set_cons_zero, List.set_cons_succ]
  refine wpAnyH_take (i := 1) (oi := { dst := some 7, op := Op.nilCheck (Operand.tmp 6), type := 0, pos := "bracket.go:37", after := #[{ on := 0, ground := Ground.data }], guard := none }) (v := ?v1b2) rfl (by kernel_rfl) (by kernel_rfl) (by kernel_rfl) (fun _ _ _ h => h) (Or.inl ⟨by rfl, ?hy1b2⟩) hH ?r1b2
  case hy1b2 => (intro W hSw; (try dsimp only at hSw); go_simp; try (with_reducible rfl))
  try simp only [Act.put, List.setIfInBounds_toArray, List.set_cons_zero, List.set_cons_succ]
  refine wpAnyH_take (i := 2) (oi := { dst := some 8, op := Op.fieldAddr 66 (Operand.tmp 7) 2, type := 0, pos := "bracket.go:37", after := #[{ on := 1, ground := Ground.data }], guard := none }) (v := ?v2b3) rfl (by kernel_rfl) (by kernel_rfl) (by kernel_rfl) (fun _ _ _ h => h) (Or.inl ⟨by rfl, ?hy2b3⟩) hH ?r2b3
  case hy2b3 => (intro W hSw; (try dsimp only at hSw); go_simp; try (with_reducible rfl))
  try simp only [Act.put, List.setIfInBounds_toArray, List.set_cons_zero, List.set_cons_succ]
  refine wpAnyH_take (i := 3) (oi := { dst := some 9, op := Op.load 3 (Operand.tmp 8), type := 3, pos := "bracket.go:37", after := #[{ on := 2, ground := Ground.data }], guard := none }) (v := ?v3b4) rfl (by kernel_rfl) (by kernel_rfl) (by kernel_rfl) (fun _ _ _ h => h) (Or.inl ⟨by rfl, ?hy3b4⟩) hH ?r3b4
  case hy3b4 => (intro W hSw; (try dsimp only at hSw); go_simp; try (with_reducible rfl))
  try simp only [Act.put, List.setIfInBounds_toArray, List.set_cons_zero, List.set_cons_succ]
  refine wpAnyH_take (i := 4) (oi := { dst := some 10, op := Op.move (Operand.tmp 0), type := 90, pos := "bracket.go:37", after := #[], guard := none }) (v := ?v4b5) rfl (by kernel_rfl) (by kernel_rfl) (by kernel_rfl) (fun _ _ _ h => h) (Or.inl ⟨by rfl, ?hy4b5⟩) hH ?r4b5
  case hy4b5 => (intro W hSw; (try dsimp only at hSw); go_simp; try (with_reducible rfl))
  try simp only [Act.put, List.setIfInBounds_toArray, List.set_cons_zero, List.set_cons_succ]
  refine wpAnyH_take (i := 5) (oi := { dst := some 11, op := Op.nilCheck (Operand.tmp 10), type := 0, pos := "bracket.go:37", after := #[{ on := 4, ground := Ground.data }], guard := none }) (v := ?v5b6) rfl (by kernel_rfl) (by kernel_rfl) (by kernel_rfl) (fun _ _ _ h => h) (Or.inl ⟨by rfl, ?hy5b6⟩) hH ?r5b6
  case hy5b6 => (intro W hSw; (try dsimp only at hSw); go_simp; try (with_reducible rfl))
  try simp only [Act.put, List.setIfInBounds_toArray, List.set_cons_zero, List.set_cons_succ]
  refine wpAnyH_take (i := 6) (oi := { dst := some 12, op := Op.fieldAddr 66 (Operand.tmp 11) 0, type := 0, pos := "bracket.go:37", after := #[{ on := 5, ground := Ground.data }], guard := none }) (v := ?v6b7) rfl (by kernel_rfl) (by kernel_rfl) (by kernel_rfl) (fun _ _ _ h => h) (Or.inl ⟨by rfl, ?hy6b7⟩) hH ?r6b7
  case hy6b7 => (intro W hSw; (try dsimp only at hSw); go_simp; try (with_reducible rfl))
  try simp only [Act.put, List.setIfInBounds_toArray, List.set_cons_zero, List.set_cons_succ]
  refine wpAnyH_take (i := 7) (oi := { dst := some 13, op := Op.load 9 (Operand.tmp 12), type := 9, pos := "bracket.go:37", after := #[{ on := 6, ground := Ground.data }], guard := none }) (v := ?v7b8) rfl (by kernel_rfl) (by kernel_rfl) (by kernel_rfl) (fun _ _ _ h => h) (Or.inl ⟨by rfl, ?hy7b8⟩) hH ?r7b8
  case hy7b8 => (intro W hSw; (try dsimp only at hSw); go_simp; try (with_reducible rfl))
  try simp only [Act.put, List.setIfInBounds_toArray, List.set_cons_zero, List.set_cons_succ]
  refine wpAnyH_take (i := 8) (oi := { dst := some 14, op := Op.call { callee := Callee.builtin Builtin.len, args := #[Operand.tmp 13], argTypes := #[9] }, type := 3, pos := "bracket.go:37", after := #[{ on := 7, ground := Ground.data }], guard := none }) (v := ?v8b9) rfl (by kernel_rfl) (by kernel_rfl) (by kernel_rfl) (fun _ _ _ h => h) (Or.inl ⟨by rfl, ?hy8b9⟩) hH ?r8b9
  case hy8b9 => (intro W hSw; (try dsimp only at hSw); go_simp; try (with_reducible rfl))
  try simp only [Act.put, List.setIfInBounds_toArray, List.set_cons_zero, List.set_cons_succ]
  refine wpAnyH_take (i := 9) (oi := { dst := some 15, op := Op.binOp BinOp.eql 3 (Operand.tmp 9) (Operand.tmp 14) 3, type := 4, pos := "bracket.go:37", after := #[{ on := 3, ground := Ground.data }, { on := 8, ground := Ground.data }], guard := none }) (v := ?v9b10) rfl (by kernel_rfl) (by kernel_rfl) (by kernel_rfl) (fun _ _ _ h => h) (Or.inl ⟨by rfl, ?hy9b10⟩) hH ?r9b10
  case hy9b10 => (intro W hSw; (try dsimp only at hSw); go_simp; try (with_reducible rfl))
  try simp only [Act.put, List.setIfInBounds_toArray, List.set_cons_zero, List.set_cons_succ]
  refine wpAnyH_done (by kernel_rfl) ?_ _
  refine NoPanic.normal ?_
  go_wp2_with fail
  go_meet
  case rel => exact ⟨rfl, KQ⟩
 case rest =>
  obtain ⟨rfl, k1⟩ := hcut
  rename World => W1
  have R1 : Hid (Rd W1 P s ere i n g d) := R0.out.kp k1
  have B1 : Hid (At W1 w.heap.size (fun _ => false)) := B0.out.kp k1
  have K1 : Hid (Kp w W1) := K0.out.trans k1
  clear k1 R0 B0 K0 K0' g0
  obtain ⟨q, hq⟩ : ∃ q, pfx s i [91, 58] = q := ⟨_, rfl⟩
  have HQ := hid hq
  have hq2 : q = true → i + 2 ≤ s.size := fun h => by rw [h] at hq; exact pfx_le hq hi
  have HQ2 := hid hq2
  clear hq hq2
  go_wp2_with fail
  refine (atClass_any s ere i n g d P _ R1.out hi).mono ?_
  rintro e W2 ⟨rfl, k2⟩
  rw [HQ.out]
  have R2 : Hid (Rd W2 P s ere i n g d) := R1.out.kp k2
  have B2 : Hid (At W2 w.heap.size (fun _ => false)) := B1.out.kp k2
  have K2 : Hid (Ks P w W2) := (K1.out.trans k2).ks (Nat.le_of_lt hP)
  have hsz2 : w.heap.size < W2.heap.size := B2.out.lt
  clear k2 R1 B1 K1
  cases q with
  | true =>
   have E : Hid (pClass s i = (o, oj)) := by
    have := HO.out
    unfold pIn at this
    rw [if_neg e0, if_pos HQ.out] at this
    exact this
   go_wp2_with fail
   refine (rclass_any s ere i n g d P _ R2.out (HQ2.out (by trivial)) hs).mono ?_
   rintro e W3 ⟨⟨q, ok, rfl, r3⟩⟩
   rw [E.out] at r3
   have R3 := hid r3
   have B3 : Hid (At W3 w.heap.size (fun _ => false)) := bl_ks B2.out (by omega) r3.ks
   have K3 : Hid (Ks P w W3) := K2.out.trans r3.ks
   clear r3 R2 B2 K2
   obtain ⟨b0, b1, b2, b3⟩ := B3.out.cells
   have fb0 := B3.out.frozen 0
   have fb1 := B3.out.frozen 1
   have fb2 := B3.out.frozen 2
   have fb3 := B3.out.frozen 3
   go_wp2_with fail
   refine bodyPost_ret (v := .tuple #[sv q, .bool ok]) (ret2_set rfl _ _ _ _ _ rfl rfl (At.set4 B3.out q)) rfl ?_
   exact ⟨q, ok, rfl, R3.out.eq, R3.out.rd.ks (ks_set4 _ _ _ _) (by omega) (by omega), K3.out.off (ks_set4 _ _ _ _) (by omega) hP⟩
  | false =>
   have ec := run_ch s i hlt
   obtain ⟨b, hb⟩ : ∃ b, ch s i = b := ⟨_, rfl⟩
   have HB := hid hb
   have hb256 : b < 256 := by rw [← hb]; exact ch_lt _ _
   rw [hb] at ec
   clear hb
   go_upto_region 5 with fail
   go_cut [4] (fun v wc => v = .int .u8 (b : Int) ∧ Kp W2 wc)
   case first =>
    have Q0 : Kp W2 W2.drew := (Kp.refl _).drew
    have MK : Hid (∀ W, Kp W2 W → W.cell? ⟨P, 0, none⟩ = some (.string s) ∧ W.cell? ⟨P, 2, none⟩ = some (.int .i64 (i : Int)) ∧ Hid (Kp W2 W)) := fun W k => ⟨(R2.out.kp k).cells.1, (R2.out.kp k).cells.2.2.1, k⟩
    refine wp_region_noPanic ?_
    refine wp_region_held_drew (S := (fun W => W.cell? ⟨P, 0, none⟩ = some (.string s) ∧ W.cell? ⟨P, 2, none⟩ = some (.int .i64 (i : Int)) ∧ Hid (Kp W2 W))) (by kernel_rfl) ?_ (fun hH => ?_)
    ·
     exact MK.out _ Q0
    have KQ := Q0
    refine wpAnyH_take (i := 0) (oi := { dst := some 23, op := Op.move (Operand.tmp 0), type := 90, pos := "bracket.go:43", after := #[], guard := none }) (v := ?v0c1) rfl (by kernel_rfl) (by kernel_rfl) (by kernel_rfl) (fun _ _ _ h => h) (Or.inl ⟨by rfl, ?hy0c1⟩) hH ?r0c1
    case hy0c1 => (intro W hSw; (try dsimp only at hSw); go_simp; try (with_reducible rfl))
    try simp only [Act.put, List.setIfInBounds_toArray, List.set_cons_zero, List.set_cons_succ]
    refine wpAnyH_take (i := 1) (oi := { dst := some 24, op := Op.nilCheck (Operand.tmp 23), type := 0, pos := "bracket.go:43", after := #[{ on := 0, ground := Ground.data }], guard := none }) (v := ?v1c2) rfl (by kernel_rfl) (by kernel_rfl) (by kernel_rfl) (fun _ _ _ h => h) (Or.inl ⟨by rfl, ?hy1c2⟩) hH ?r1c2
    case hy1c2 => (intro W hSw; (try dsimp only at hSw); go_simp; try (with_reducible rfl))
    try simp only [Act.put, List.setIfInBounds_toArray, List.set_cons_zero, List.set_cons_succ]
    refine wpAnyH_take (i := 2) (oi := { dst := some 25, op := Op.fieldAddr 66 (Operand.tmp 24) 0, type := 0, pos := "bracket.go:43", after := #[{ on := 1, ground := Ground.data }], guard := none }) (v := ?v2c3) rfl (by kernel_rfl) (by kernel_rfl) (by kernel_rfl) (fun _ _ _ h => h) (Or.inl ⟨by rfl, ?hy2c3⟩) hH ?r2c3
    case hy2c3 => (intro W hSw; (try dsimp only at hSw); go_simp; try (with_reducible rfl))
    try simp only [Act.put, List.setIfInBounds_toArray, List.set_cons_zero, List.set_cons_succ]
    refine wpAnyH_take (i := 3) (oi := { dst := some 26, op := Op.load 9 (Operand.tmp 25), type := 9, pos := "bracket.go:43", after := #[{ on := 2, ground := Ground.data }], guard := none }) (v := ?v3c4) rfl (by kernel_rfl) (by kernel_rfl) (by kernel_rfl) (fun _ _ _ h => h) (Or.inl ⟨by rfl, ?hy3c4⟩) hH ?r3c4
    case hy3c4 => (intro W hSw; (try dsimp only at hSw); go_simp; try (with_reducible rfl))
    try simp only [Act.put, List.setIfInBounds_toArray, List.set_cons_zero, List.set_cons_succ]
    refine wpAnyH_take (i := 4) (oi := { dst := some 27, op := Op.move (Operand.tmp 0), type := 90, pos := "bracket.go:43", after := #[], guard := none }) (v := ?v4c5) rfl (by kernel_rfl) (by kernel_rfl) (by kernel_rfl) (fun _ _ _ h => h) (Or.inl ⟨by rfl, ?hy4c5⟩) hH ?r4c5
    case hy4c5 => (intro W hSw; (try dsimp only at hSw); go_simp; try (with_reducible rfl))
    try simp only [Act.put, List.setIfInBounds_toArray, List.set_cons_zero, List.set_cons_succ]
    refine wpAnyH_take (i := 5) (oi := { dst := some 28, op := Op.nilCheck (Operand.tmp 27), type := 0, pos := "bracket.go:43", after := #[{ on := 4, ground := Ground.data }], guard := none }) (v := ?v5c6) rfl (by kernel_rfl) (by kernel_rfl) (by kernel_rfl) (fun _ _ _ h => h) (Or.inl ⟨by rfl, ?hy5c6⟩) hH ?r5c6
    case hy5c6 => (intro W hSw; (try dsimp only at hSw); go_simp; try (with_reducible rfl))
    try simp only [Act.put, List.setIfInBounds_toArray, List.set_cons_zero, List.set_cons_succ]
    refine wpAnyH_take (i := 6) (oi := { dst := some 29, op := Op.fieldAddr 66 (Operand.tmp 28) 2, type := 0, pos := "bracket.go:43", after := #[{ on := 5, ground := Ground.data }], guard := none }) (v := ?v6c7) rfl (by kernel_rfl) (by kernel_rfl) (by kernel_rfl) (fun _ _ _ h => h) (Or.inl ⟨by rfl, ?hy6c7⟩) hH ?r6c7
    case hy6c7 => (intro W hSw; (try dsimp only at hSw); go_simp; try (with_reducible rfl))
    try simp only [Act.put, List.setIfInBounds_toArray, List.set_cons_zero, List.set_cons_succ]
    refine wpAnyH_take (i := 7) (oi := { dst := some 30, op := Op.load 3 (Operand.tmp 29), type := 3, pos := "bracket.go:43", after := #[{ on := 6, ground := Ground.data }], guard := none }) (v := ?v7c8) rfl (by kernel_rfl) (by kernel_rfl) (by kernel_rfl) (fun _ _ _ h => h) (Or.inl ⟨by rfl, ?hy7c8⟩) hH ?r7c8
    case hy7c8 => (intro W hSw; (try dsimp only at hSw); go_simp; try (with_reducible rfl))
    try simp only [Act.put, List.setIfInBounds_toArray, List.set_cons_zero, List.set_cons_succ]
    refine wpAnyH_take (i := 8) (oi := { dst := some 31, op := Op.index 9 (Operand.tmp 26) (Operand.tmp 30), type := 5, pos := "bracket.go:43", after := #[{ on := 3, ground := Ground.data }, { on := 7, ground := Ground.data }], guard := none }) (v := ?v8c9) rfl (by kernel_rfl) (by kernel_rfl) (by kernel_rfl) (fun _ _ _ h => h) (Or.inl ⟨by rfl, ?hy8c9⟩) hH ?r8c9
    case hy8c9 => (intro W hSw; (try dsimp only at hSw); go_simp; try (with_reducible rfl))
    try simp only [Act.put, List.setIfInBounds_toArray, List.set_cons_zero, List.set_cons_succ]
    refine wpAnyH_take (i := 9) (oi := { dst := some 4, op := Op.assign (Operand.tmp 31), type := 5, pos := "bracket.go:43", after := #[{ on := 8, ground := Ground.data }, { on := 0, ground := Ground.phase }, { on := 1, ground := Ground.phase }, { on := 2, ground := Ground.phase }, { on := 3, ground := Ground.phase }, { on := 4, ground := Ground.phase }, { on := 5, ground := Ground.phase }, { on := 6, ground := Ground.phase }, { on := 7, ground := Ground.phase }, { on := 8, ground := Ground.phase }], guard := none }) (v := ?v9c10) rfl (by kernel_rfl) (by kernel_rfl) (by kernel_rfl) (fun _ _ _ h => h) (Or.inl ⟨by rfl, ?hy9c10⟩) hH ?r9c10
    case hy9c10 => (intro W hSw; (try dsimp only at hSw); go_simp; try (with_reducible rfl))
    try simp only [Act.put, List.setIfInBounds_toArray, List.set_cons_zero, List.set_cons_succ]
    refine wpAnyH_done (by kernel_rfl) ?_ _
    refine NoPanic.normal ?_
    go_wp2_with fail
    go_meet
    case rel => exact ⟨rfl, KQ⟩
   case rest =>
    obtain ⟨rfl, k3⟩ := hcut
    rename World => W3
    have R3 : Hid (Rd W3 P s ere i n g d) := R2.out.kp k3
    have B3 : Hid (At W3 w.heap.size (fun _ => false)) := B2.out.kp k3
    have K3 : Hid (Ks P w W3) := K2.out.kpt k3 hP
    clear k3 R2 B2 K2 ec
    have p2 := R3.out.cells.2.2.1
    have fp2 := bl_frozen R3.out.b 2
    go_upto_region 7 with fail
    refine opq (fun W4 => Rd W4 P s ere (i + 1) n g d ∧ At W4 w.heap.size (fun _ => false) ∧ Ks P w W4) ⟨by exact R3.out.at (i + 1), by exact bl_set B3.out (by omega) _, by exact K3.out.set 2 _⟩ ?_
    rintro W4 ⟨xR4, xB4, xK4⟩
    have R4 : Hid (Rd W4 P s ere (i + 1) n g d) := xR4
    have B4 : Hid (At W4 w.heap.size (fun _ => false)) := xB4
    have K4 : Hid (Ks P w W4) := xK4
    clear xR4 xB4 xK4
    clear R3 B3 K3 p2 fp2
    obtain ⟨dd, hd⟩ : ∃ dd, dash s (i + 1) = dd := ⟨_, rfl⟩
    have HD := hid hd
    have hd2 : dd = true → i + 3 ≤ s.size := fun h => by
     rw [h] at hd
     unfold dash at hd
     simp at hd
     omega
    have HD2 := hid hd2
    clear hd hd2
    go_wp2_with fail
    refine (takesDash_any s ere (i + 1) n g d P _ R4.out (by omega) hs).mono ?_
    rintro e W5 ⟨rfl, r5, k5⟩
    have B5 : Hid (At W5 w.heap.size (fun _ => false)) := bl_ks B4.out (by omega) k5
    have K5 : Hid (Ks P w W5) := K4.out.trans k5
    unfold dashTo at r5
    rw [HD.out] at r5 ⊢
    have hsz5 : w.heap.size < W5.heap.size := B5.out.lt
    cases dd with
    | false =>
     have R5 : Hid (Rd W5 P s ere (i + 1) n g d) := r5
     clear r5 k5 R4 B4 K4
     have E : Hid (o = some (addB (fun _ => false) b) ∧ oj = i + 1) := by
      have := HO.out
      unfold pIn at this
      rw [if_neg e0, HQ.out, HD.out, HB.out] at this
      injection this with h1 h2
      exact ⟨h1.symm, h2.symm⟩
     go_wp2_with fail
     refine (of_one b _ _ rfl hb256).mono ?_
     rintro e W6 ⟨rfl, k6⟩
     have R6 : Hid (Rd W6 P s ere (i + 1) n g d) := R5.out.kp k6
     have B6 : Hid (At W6 w.heap.size (fun _ => false)) := B5.out.kp k6
     have K6 : Hid (Ks P w W6) := K5.out.kpt k6 hP
     clear k6 R5 B5 K5
     obtain ⟨b0, b1, b2, b3⟩ := B6.out.cells
     have fb0 := B6.out.frozen 0
     have fb1 := B6.out.frozen 1
     have fb2 := B6.out.frozen 2
     have fb3 := B6.out.frozen 3
     go_wp2_with fail
     refine bodyPost_ret (v := .tuple #[sv (addB (fun _ => false) b), .bool true]) (ret2_set rfl _ _ _ _ _ rfl rfl (At.set4 B6.out (addB (fun _ => false) b))) rfl ?_
     exact ⟨addB (fun _ => false) b, true, rfl, by rw [E.out.1]; rfl, by rw [E.out.2]; exact R6.out.ks (ks_set4 _ _ _ _) (by omega) (by omega), K6.out.off (ks_set4 _ _ _ _) (by omega) hP⟩
    | true =>
     have R5 : Hid (Rd W5 P s ere (i + 2) n g d) := r5
     clear r5 k5 R4 B4 K4
     have h3 := HD2.out (by trivial)
     have ec := run_ch s (i + 2) (by omega)
     obtain ⟨c, hc⟩ : ∃ c, ch s (i + 2) = c := ⟨_, rfl⟩
     have HC := hid hc
     have hc256 : c < 256 := by rw [← hc]; exact ch_lt _ _
     rw [hc, show ((i + 2 : Nat) : Int) = (i : Int) + 2 from rfl] at ec
     clear hc
     obtain ⟨cc, hcc⟩ : ∃ cc, pfx s (i + 2) [91, 58] = cc := ⟨_, rfl⟩
     have HCC := hid hcc
     have AC : Hid (∀ w, Rd w P s ere (i + 2) n g d → Calls Tryz.prog 170 #[.pointer (some ⟨P, 0, none⟩)] w fun e w' => e = .returned (.bool cc) ∧ Kp w w') := by
      intro w h
      have := atClass_any s ere (i + 2) n g d P w h (by omega)
      rw [hcc] at this
      exact this
     clear hcc
     have gi2 : IntKind.i64.wrap ((i : Int) + 2 + 1) = (i : Int) + 3 := by rw [IntKind.wrap_i64]; omega
     have EE : Hid ((o, oj) = if cc || decide (c < b) then (none, i + 2) else (some (rng b c), i + 3)) := by
      have := HO.out
      unfold pIn at this
      rw [if_neg e0, HQ.out, HD.out, HB.out, HC.out, HCC.out] at this
      exact this.symm
     go_upto_region 9 with fail
     cases cc with
     | true =>
      have E : Hid (o = none ∧ oj = i + 2) := by
       have := EE.out
       simp only [Bool.true_or, if_true] at this
       injection this with h1 h2
       exact ⟨h1, h2⟩
      go_cut [59] (fun v wc => v = .bool true ∧ Kp W5 wc)
      case first =>
       have Q0 : Kp W5 W5.drew := (Kp.refl _).drew
       have MK : Hid (∀ W, Kp W5 W → W.cell? ⟨P, 0, none⟩ = some (.string s) ∧ W.cell? ⟨P, 2, none⟩ = some (.int .i64 ((i : Int) + 2)) ∧ Hid (Kp W5 W)) := fun W k => ⟨(R5.out.kp k).cells.1, (R5.out.kp k).cells.2.2.1, k⟩
       refine wp_region_noPanic ?_
       refine wp_region_held_drew (S := (fun W => W.cell? ⟨P, 0, none⟩ = some (.string s) ∧ W.cell? ⟨P, 2, none⟩ = some (.int .i64 ((i : Int) + 2)) ∧ Hid (Kp W5 W))) (by kernel_rfl) ?_ (fun hH => ?_)
       ·
        exact MK.out _ Q0
       have KQ := Q0
       refine wpAnyH_take (i := 0) (oi := { dst := some 45, op := Op.move (Operand.tmp 0), type := 90, pos := "bracket.go:48", after := #[], guard := none }) (v := ?v0d1) rfl (by kernel_rfl) (by kernel_rfl) (by kernel_rfl) (fun _ _ _ h => h) (Or.inl ⟨by rfl, ?hy0d1⟩) hH ?r0d1
       case hy0d1 => (intro W hSw; (try dsimp only at hSw); go_simp; try (with_reducible rfl))
       try simp only [Act.put, List.setIfInBounds_toArray, List.set_cons_zero, List.set_cons_succ]
       refine wpAnyH_ready (rs := [1]) (by kernel_rfl) (by simp) ?_
       refine AllReadyH.cons (o := { dst := some 46, op := Op.call { callee := Callee.value (Operand.func 170), args := #[Operand.tmp 45], argTypes := #[90] }, type := 4, pos := "bracket.go:48", after := #[{ on := 0, ground := Ground.data }], guard := none }) rfl (fun K hKq => ?_) AllReadyH.nil
       go_simp
       refine (AC.out _ (R5.out.kp KQ)).mono ?_
       rintro e y1 ⟨rfl, kq⟩
       refine hKq.out _ _ (MK.out _ (KQ.trans kq)) (fun hN => ?_)
       clear kq
       clear hKq K hH KQ
       have hH := hN
       clear hN
       have KQ := hH.2.2.out
       try simp only [Act.put, List.setIfInBounds_toArray, List.set_cons_zero, List.set_cons_succ]
       refine wpAnyH_take (i := 2) (oi := { dst := some 47, op := Op.move (Operand.tmp 46), type := 4, pos := "bracket.go:48", after := #[{ on := 1, ground := Ground.data }, { on := 1, ground := Ground.chain }], guard := none }) (v := ?v2d2) rfl (by kernel_rfl) (by kernel_rfl) (by kernel_rfl) (fun _ _ _ h => h) (Or.inl ⟨by rfl, ?hy2d2⟩) hH ?r2d2
       case hy2d2 => (intro W hSw; (try dsimp only at hSw); go_simp; try (with_reducible rfl))
       try simp only [Act.put, List.setIfInBounds_toArray, List.set_cons_zero, List.set_cons_succ]
       refine wpAnyH_take (i := 3) (oi := { dst := some 48, op := Op.move (Operand.tmp 0), type := 90, pos := "bracket.go:48", after := #[{ on := 2, ground := Ground.guard }], guard := some (2, false) }) (v := undef) rfl (by kernel_rfl) (by kernel_rfl) (by kernel_rfl) (fun _ _ _ h => h) (Or.inr ⟨by rfl, rfl⟩) hH ?r3d3
       try simp only [Act.put, List.setIfInBounds_toArray, List.set_cons_zero, List.set_cons_succ]
       refine wpAnyH_take (i := 4) (oi := { dst := some 49, op := Op.nilCheck (Operand.tmp 48), type := 0, pos := "bracket.go:48", after := #[{ on := 3, ground := Ground.data }, { on := 2, ground := Ground.guard }], guard := some (2, false) }) (v := undef) rfl (by kernel_rfl) (by kernel_rfl) (by kernel_rfl) (fun _ _ _ h => h) (Or.inr ⟨by rfl, rfl⟩) hH ?r4d4
       try simp only [Act.put, List.setIfInBounds_toArray, List.set_cons_zero, List.set_cons_succ]
       refine wpAnyH_take (i := 5) (oi := { dst := some 50, op := Op.fieldAddr 66 (Operand.tmp 49) 0, type := 0, pos := "bracket.go:48", after := #[{ on := 4, ground := Ground.data }, { on := 2, ground := Ground.guard }], guard := some (2, false) }) (v := undef) rfl (by kernel_rfl) (by kernel_rfl) (by kernel_rfl) (fun _ _ _ h => h) (Or.inr ⟨by rfl, rfl⟩) hH ?r5d5
       try simp only [Act.put, List.setIfInBounds_toArray, List.set_cons_zero, List.set_cons_succ]
       refine wpAnyH_take (i := 6) (oi := { dst := some 51, op := Op.load 9 (Operand.tmp 50), type := 9, pos := "bracket.go:48", after := #[{ on := 5, ground := Ground.data }, { on := 2, ground := Ground.guard }], guard := some (2, false) }) (v := undef) rfl (by kernel_rfl) (by kernel_rfl) (by kernel_rfl) (fun _ _ _ h => h) (Or.inr ⟨by rfl, rfl⟩) hH ?r6d6
       try simp only [Act.put, List.setIfInBounds_toArray, List.set_cons_zero, List.set_cons_succ]
       refine wpAnyH_take (i := 7) (oi := { dst := some 52, op := Op.move (Operand.tmp 0), type := 90, pos := "bracket.go:48", after := #[{ on := 2, ground := Ground.guard }], guard := some (2, false) }) (v := undef) rfl (by kernel_rfl) (by kernel_rfl) (by kernel_rfl) (fun _ _ _ h => h) (Or.inr ⟨by rfl, rfl⟩) hH ?r7d7
       try simp only [Act.put, List.setIfInBounds_toArray, List.set_cons_zero, List.set_cons_succ]
       refine wpAnyH_take (i := 8) (oi := { dst := some 53, op := Op.nilCheck (Operand.tmp 52), type := 0, pos := "bracket.go:48", after := #[{ on := 7, ground := Ground.data }, { on := 2, ground := Ground.guard }], guard := some (2, false) }) (v := undef) rfl (by kernel_rfl) (by kernel_rfl) (by kernel_rfl) (fun _ _ _ h => h) (Or.inr ⟨by rfl, rfl⟩) hH ?r8d8
       try simp only [Act.put, List.setIfInBounds_toArray, List.set_cons_zero, List.set_cons_succ]
       refine wpAnyH_take (i := 9) (oi := { dst := some 54, op := Op.fieldAddr 66 (Operand.tmp 53) 2, type := 0, pos := "bracket.go:48", after := #[{ on := 8, ground := Ground.data }, { on := 2, ground := Ground.guard }], guard := some (2, false) }) (v := undef) rfl (by kernel_rfl) (by kernel_rfl) (by kernel_rfl) (fun _ _ _ h => h) (Or.inr ⟨by rfl, rfl⟩) hH ?r9d9
       try simp only [Act.put, List.setIfInBounds_toArray, List.set_cons_zero, List.set_cons_succ]
       refine wpAnyH_take (i := 10) (oi := { dst := some 55, op := Op.load 3 (Operand.tmp 54), type := 3, pos := "bracket.go:48", after := #[{ on := 9, ground := Ground.data }, { on := 2, ground := Ground.guard }], guard := some (2, false) }) (v := undef) rfl (by kernel_rfl) (by kernel_rfl) (by kernel_rfl) (fun _ _ _ h => h) (Or.inr ⟨by rfl, rfl⟩) hH ?r10d10
       try simp only [Act.put, List.setIfInBounds_toArray, List.set_cons_zero, List.set_cons_succ]
       refine wpAnyH_take (i := 11) (oi := { dst := some 56, op := Op.index 9 (Operand.tmp 51) (Operand.tmp 55), type := 5, pos := "bracket.go:48", after := #[{ on := 6, ground := Ground.data }, { on := 10, ground := Ground.data }, { on := 2, ground := Ground.guard }], guard := some (2, false) }) (v := undef) rfl (by kernel_rfl) (by kernel_rfl) (by kernel_rfl) (fun _ _ _ h => h) (Or.inr ⟨by rfl, rfl⟩) hH ?r11d11
       try simp only [Act.put, List.setIfInBounds_toArray, List.set_cons_zero, List.set_cons_succ]
       refine wpAnyH_take (i := 12) (oi := { dst := some 57, op := Op.move (Operand.tmp 4), type := 5, pos := "bracket.go:48", after := #[{ on := 2, ground := Ground.guard }], guard := some (2, false) }) (v := undef) rfl (by kernel_rfl) (by kernel_rfl) (by kernel_rfl) (fun _ _ _ h => h) (Or.inr ⟨by rfl, rfl⟩) hH ?r12d12
       try simp only [Act.put, List.setIfInBounds_toArray, List.set_cons_zero, List.set_cons_succ]
       refine wpAnyH_take (i := 13) (oi := { dst := some 58, op := Op.binOp BinOp.lss 5 (Operand.tmp 56) (Operand.tmp 57) 5, type := 4, pos := "bracket.go:48", after := #[{ on := 11, ground := Ground.data }, { on := 12, ground := Ground.data }, { on := 2, ground := Ground.guard }], guard := some (2, false) }) (v := undef) rfl (by kernel_rfl) (by kernel_rfl) (by kernel_rfl) (fun _ _ _ h => h) (Or.inr ⟨by rfl, rfl⟩) hH ?r13d13
       try simp only [Act.put, List.setIfInBounds_toArray, List.set_cons_zero, List.set_cons_succ]
       refine wpAnyH_take (i := 14) (oi := { dst := some 59, op := Op.pick (Operand.tmp 47) (Operand.const (Value.bool true)) (Operand.tmp 58), type := 4, pos := "bracket.go:48", after := #[{ on := 2, ground := Ground.data }, { on := 13, ground := Ground.data }], guard := none }) (v := ?v14d14) rfl (by kernel_rfl) (by kernel_rfl) (by kernel_rfl) (fun _ _ _ h => h) (Or.inl ⟨by rfl, ?hy14d14⟩) hH ?r14d14
       case hy14d14 => (intro W hSw; (try dsimp only at hSw); go_simp; try (with_reducible rfl))
       try simp only [Act.put, List.setIfInBounds_toArray, List.set_cons_zero, List.set_cons_succ]
       refine wpAnyH_done (by kernel_rfl) ?_ _
       refine NoPanic.normal ?_
       go_wp2_with fail
       go_meet
       case rel => exact ⟨rfl, KQ⟩
      case rest =>
       obtain ⟨rfl, k6⟩ := hcut
       rename World => W6
       have R6 : Hid (Rd W6 P s ere (i + 2) n g d) := R5.out.kp k6
       have B6 : Hid (At W6 w.heap.size (fun _ => false)) := B5.out.kp k6
       have K6 : Hid (Ks P w W6) := K5.out.kpt k6 hP
       clear k6 R5 B5 K5
       obtain ⟨b0, b1, b2, b3⟩ := B6.out.cells
       have fb0 := B6.out.frozen 0
       have fb1 := B6.out.frozen 1
       have fb2 := B6.out.frozen 2
       have fb3 := B6.out.frozen 3
       go_wp2_with fail
       refine bodyPost_ret (v := .tuple #[sv (fun _ => false), .bool false]) (ret2_set rfl _ _ _ _ _ rfl rfl (B6.out.set4z)) rfl ?_
       exact ⟨fun _ => false, false, rfl, by rw [E.out.1]; rfl, by rw [E.out.2]; exact R6.out.ks (ks_set4 _ _ _ _) (by omega) (by omega), K6.out.off (ks_set4 _ _ _ _) (by omega) hP⟩
     | false =>
      by_cases hcb : c < b
      ·
       have gc : (c : Int) < (b : Int) := by omega
       have E : Hid (o = none ∧ oj = i + 2) := by
        have := EE.out
        rw [decide_eq_true hcb] at this
        injection this with h1 h2
        exact ⟨h1, h2⟩
       go_cut [59] (fun v wc => v = .bool true ∧ Kp W5 wc)
       case first =>
        have Q0 : Kp W5 W5.drew := (Kp.refl _).drew
        have MK : Hid (∀ W, Kp W5 W → W.cell? ⟨P, 0, none⟩ = some (.string s) ∧ W.cell? ⟨P, 2, none⟩ = some (.int .i64 ((i : Int) + 2)) ∧ Hid (Kp W5 W)) := fun W k => ⟨(R5.out.kp k).cells.1, (R5.out.kp k).cells.2.2.1, k⟩
        refine wp_region_noPanic ?_
        refine wp_region_held_drew (S := (fun W => W.cell? ⟨P, 0, none⟩ = some (.string s) ∧ W.cell? ⟨P, 2, none⟩ = some (.int .i64 ((i : Int) + 2)) ∧ Hid (Kp W5 W))) (by kernel_rfl) ?_ (fun hH => ?_)
        ·
         exact MK.out _ Q0
        have KQ := Q0
        refine wpAnyH_take (i := 0) (oi := { dst := some 45, op := Op.move (Operand.tmp 0), type := 90, pos := "bracket.go:48", after := #[], guard := none }) (v := ?v0e1) rfl (by kernel_rfl) (by kernel_rfl) (by kernel_rfl) (fun _ _ _ h => h) (Or.inl ⟨by rfl, ?hy0e1⟩) hH ?r0e1
        case hy0e1 => (intro W hSw; (try dsimp only at hSw); go_simp; try (with_reducible rfl))
        try simp only [Act.put, List.setIfInBounds_toArray, List.set_cons_zero, List.set_cons_succ]
        refine wpAnyH_ready (rs := [1]) (by kernel_rfl) (by simp) ?_
        refine AllReadyH.cons (o := { dst := some 46, op := Op.call { callee := Callee.value (Operand.func 170), args := #[Operand.tmp 45], argTypes := #[90] }, type := 4, pos := "bracket.go:48", after := #[{ on := 0, ground := Ground.data }], guard := none }) rfl (fun K hKq => ?_) AllReadyH.nil
        go_simp
        refine (AC.out _ (R5.out.kp KQ)).mono ?_
        rintro e y1 ⟨rfl, kq⟩
        refine hKq.out _ _ (MK.out _ (KQ.trans kq)) (fun hN => ?_)
        clear kq
        clear hKq K hH KQ
        have hH := hN
        clear hN
        have KQ := hH.2.2.out
        try simp only [Act.put, List.setIfInBounds_toArray, List.set_cons_zero, List.set_cons_succ]
        refine wpAnyH_take (i := 2) (oi := { dst := some 47, op := Op.move (Operand.tmp 46), type := 4, pos := "bracket.go:48", after := #[{ on := 1, ground := Ground.data }, { on := 1, ground := Ground.chain }], guard := none }) (v := ?v2e2) rfl (by kernel_rfl) (by kernel_rfl) (by kernel_rfl) (fun _ _ _ h => h) (Or.inl ⟨by rfl, ?hy2e2⟩) hH ?r2e2
        case hy2e2 => (intro W hSw; (try dsimp only at hSw); go_simp; try (with_reducible rfl))
        try simp only [Act.put, List.setIfInBounds_toArray, List.set_cons_zero, List.set_cons_succ]
        refine wpAnyH_take (i := 3) (oi := { dst := some 48, op := Op.move (Operand.tmp 0), type := 90, pos := "bracket.go:48", after := #[{ on := 2, ground := Ground.guard }], guard := some (2, false) }) (v := ?v3e3) rfl (by kernel_rfl) (by kernel_rfl) (by kernel_rfl) (fun _ _ _ h => h) (Or.inl ⟨by rfl, ?hy3e3⟩) hH ?r3e3
        case hy3e3 => (intro W hSw; (try dsimp only at hSw); go_simp; try (with_reducible rfl))
        try simp only [Act.put, List.setIfInBounds_toArray, List.set_cons_zero, List.set_cons_succ]
        refine wpAnyH_take (i := 4) (oi := { dst := some 49, op := Op.nilCheck (Operand.tmp 48), type := 0, pos := "bracket.go:48", after := #[{ on := 3, ground := Ground.data }, { on := 2, ground := Ground.guard }], guard := some (2, false) }) (v := ?v4e4) rfl (by kernel_rfl) (by kernel_rfl) (by kernel_rfl) (fun _ _ _ h => h) (Or.inl ⟨by rfl, ?hy4e4⟩) hH ?r4e4
        case hy4e4 => (intro W hSw; (try dsimp only at hSw); go_simp; try (with_reducible rfl))
        try simp only [Act.put, List.setIfInBounds_toArray, List.set_cons_zero, List.set_cons_succ]
        refine wpAnyH_take (i := 5) (oi := { dst := some 50, op := Op.fieldAddr 66 (Operand.tmp 49) 0, type := 0, pos := "bracket.go:48", after := #[{ on := 4, ground := Ground.data }, { on := 2, ground := Ground.guard }], guard := some (2, false) }) (v := ?v5e5) rfl (by kernel_rfl) (by kernel_rfl) (by kernel_rfl) (fun _ _ _ h => h) (Or.inl ⟨by rfl, ?hy5e5⟩) hH ?r5e5
        case hy5e5 => (intro W hSw; (try dsimp only at hSw); go_simp; try (with_reducible rfl))
        try simp only [Act.put, List.setIfInBounds_toArray, List.set_cons_zero, List.set_cons_succ]
        refine wpAnyH_take (i := 6) (oi := { dst := some 51, op := Op.load 9 (Operand.tmp 50), type := 9, pos := "bracket.go:48", after := #[{ on := 5, ground := Ground.data }, { on := 2, ground := Ground.guard }], guard := some (2, false) }) (v := ?v6e6) rfl (by kernel_rfl) (by kernel_rfl) (by kernel_rfl) (fun _ _ _ h => h) (Or.inl ⟨by rfl, ?hy6e6⟩) hH ?r6e6
        case hy6e6 => (intro W hSw; (try dsimp only at hSw); go_simp; try (with_reducible rfl))
        try simp only [Act.put, List.setIfInBounds_toArray, List.set_cons_zero, List.set_cons_succ]
        refine wpAnyH_take (i := 7) (oi := { dst := some 52, op := Op.move (Operand.tmp 0), type := 90, pos := "bracket.go:48", after := #[{ on := 2, ground := Ground.guard }], guard := some (2, false) }) (v := ?v7e7) rfl (by kernel_rfl) (by kernel_rfl) (by kernel_rfl) (fun _ _ _ h => h) (Or.inl ⟨by rfl, ?hy7e7⟩) hH ?r7e7
        case hy7e7 => (intro W hSw; (try dsimp only at hSw); go_simp; try (with_reducible rfl))
        try simp only [Act.put, List.setIfInBounds_toArray, List.set_cons_zero, List.set_cons_succ]
        refine wpAnyH_take (i := 8) (oi := { dst := some 53, op := Op.nilCheck (Operand.tmp 52), type := 0, pos := "bracket.go:48", after := #[{ on := 7, ground := Ground.data }, { on := 2, ground := Ground.guard }], guard := some (2, false) }) (v := ?v8e8) rfl (by kernel_rfl) (by kernel_rfl) (by kernel_rfl) (fun _ _ _ h => h) (Or.inl ⟨by rfl, ?hy8e8⟩) hH ?r8e8
        case hy8e8 => (intro W hSw; (try dsimp only at hSw); go_simp; try (with_reducible rfl))
        try simp only [Act.put, List.setIfInBounds_toArray, List.set_cons_zero, List.set_cons_succ]
        refine wpAnyH_take (i := 9) (oi := { dst := some 54, op := Op.fieldAddr 66 (Operand.tmp 53) 2, type := 0, pos := "bracket.go:48", after := #[{ on := 8, ground := Ground.data }, { on := 2, ground := Ground.guard }], guard := some (2, false) }) (v := ?v9e9) rfl (by kernel_rfl) (by kernel_rfl) (by kernel_rfl) (fun _ _ _ h => h) (Or.inl ⟨by rfl, ?hy9e9⟩) hH ?r9e9
        case hy9e9 => (intro W hSw; (try dsimp only at hSw); go_simp; try (with_reducible rfl))
        try simp only [Act.put, List.setIfInBounds_toArray, List.set_cons_zero, List.set_cons_succ]
        refine wpAnyH_take (i := 10) (oi := { dst := some 55, op := Op.load 3 (Operand.tmp 54), type := 3, pos := "bracket.go:48", after := #[{ on := 9, ground := Ground.data }, { on := 2, ground := Ground.guard }], guard := some (2, false) }) (v := ?v10e10) rfl (by kernel_rfl) (by kernel_rfl) (by kernel_rfl) (fun _ _ _ h => h) (Or.inl ⟨by rfl, ?hy10e10⟩) hH ?r10e10
        case hy10e10 => (intro W hSw; (try dsimp only at hSw); go_simp; try (with_reducible rfl))
        try simp only [Act.put, List.setIfInBounds_toArray, List.set_cons_zero, List.set_cons_succ]
        refine wpAnyH_take (i := 11) (oi := { dst := some 56, op := Op.index 9 (Operand.tmp 51) (Operand.tmp 55), type := 5, pos := "bracket.go:48", after := #[{ on := 6, ground := Ground.data }, { on := 10, ground := Ground.data }, { on := 2, ground := Ground.guard }], guard := some (2, false) }) (v := ?v11e11) rfl (by kernel_rfl) (by kernel_rfl) (by kernel_rfl) (fun _ _ _ h => h) (Or.inl ⟨by rfl, ?hy11e11⟩) hH ?r11e11
        case hy11e11 => (intro W hSw; (try dsimp only at hSw); go_simp; try (with_reducible rfl))
        try simp only [Act.put, List.setIfInBounds_toArray, List.set_cons_zero, List.set_cons_succ]
        refine wpAnyH_take (i := 12) (oi := { dst := some 57, op := Op.move (Operand.tmp 4), type := 5, pos := "bracket.go:48", after := #[{ on := 2, ground := Ground.guard }], guard := some (2, false) }) (v := ?v12e12) rfl (by kernel_rfl) (by kernel_rfl) (by kernel_rfl) (fun _ _ _ h => h) (Or.inl ⟨by rfl, ?hy12e12⟩) hH ?r12e12
        case hy12e12 => (intro W hSw; (try dsimp only at hSw); go_simp; try (with_reducible rfl))
        try simp only [Act.put, List.setIfInBounds_toArray, List.set_cons_zero, List.set_cons_succ]
        refine wpAnyH_take (i := 13) (oi := { dst := some 58, op := Op.binOp BinOp.lss 5 (Operand.tmp 56) (Operand.tmp 57) 5, type := 4, pos := "bracket.go:48", after := #[{ on := 11, ground := Ground.data }, { on := 12, ground := Ground.data }, { on := 2, ground := Ground.guard }], guard := some (2, false) }) (v := ?v13e13) rfl (by kernel_rfl) (by kernel_rfl) (by kernel_rfl) (fun _ _ _ h => h) (Or.inl ⟨by rfl, ?hy13e13⟩) hH ?r13e13
        case hy13e13 => (intro W hSw; (try dsimp only at hSw); go_simp; try (with_reducible rfl))
        try simp only [Act.put, List.setIfInBounds_toArray, List.set_cons_zero, List.set_cons_succ]
        refine wpAnyH_take (i := 14) (oi := { dst := some 59, op := Op.pick (Operand.tmp 47) (Operand.const (Value.bool true)) (Operand.tmp 58), type := 4, pos := "bracket.go:48", after := #[{ on := 2, ground := Ground.data }, { on := 13, ground := Ground.data }], guard := none }) (v := ?v14e14) rfl (by kernel_rfl) (by kernel_rfl) (by kernel_rfl) (fun _ _ _ h => h) (Or.inl ⟨by rfl, ?hy14e14⟩) hH ?r14e14
        case hy14e14 => (intro W hSw; (try dsimp only at hSw); go_simp; try (with_reducible rfl))
        try simp only [Act.put, List.setIfInBounds_toArray, List.set_cons_zero, List.set_cons_succ]
        refine wpAnyH_done (by kernel_rfl) ?_ _
        refine NoPanic.normal ?_
        go_wp2_with fail
        go_meet
        case rel => exact ⟨rfl, KQ⟩
       case rest =>
        obtain ⟨rfl, k6⟩ := hcut
        rename World => W6
        have R6 : Hid (Rd W6 P s ere (i + 2) n g d) := R5.out.kp k6
        have B6 : Hid (At W6 w.heap.size (fun _ => false)) := B5.out.kp k6
        have K6 : Hid (Ks P w W6) := K5.out.kpt k6 hP
        clear k6 R5 B5 K5
        obtain ⟨b0, b1, b2, b3⟩ := B6.out.cells
        have fb0 := B6.out.frozen 0
        have fb1 := B6.out.frozen 1
        have fb2 := B6.out.frozen 2
        have fb3 := B6.out.frozen 3
        go_wp2_with fail
        refine bodyPost_ret (v := .tuple #[sv (fun _ => false), .bool false]) (ret2_set rfl _ _ _ _ _ rfl rfl (B6.out.set4z)) rfl ?_
        exact ⟨fun _ => false, false, rfl, by rw [E.out.1]; rfl, by rw [E.out.2]; exact R6.out.ks (ks_set4 _ _ _ _) (by omega) (by omega), K6.out.off (ks_set4 _ _ _ _) (by omega) hP⟩
      ·
       have gc : ¬ (c : Int) < (b : Int) := by omega
       have E : Hid (o = some (rng b c) ∧ oj = i + 3) := by
        have := EE.out
        rw [decide_eq_false hcb] at this
        injection this with h1 h2
        exact ⟨h1, h2⟩
       go_cut [59] (fun v wc => v = .bool false ∧ Kp W5 wc)
       case first =>
        have Q0 : Kp W5 W5.drew := (Kp.refl _).drew
        have MK : Hid (∀ W, Kp W5 W → W.cell? ⟨P, 0, none⟩ = some (.string s) ∧ W.cell? ⟨P, 2, none⟩ = some (.int .i64 ((i : Int) + 2)) ∧ Hid (Kp W5 W)) := fun W k => ⟨(R5.out.kp k).cells.1, (R5.out.kp k).cells.2.2.1, k⟩
        refine wp_region_noPanic ?_
        refine wp_region_held_drew (S := (fun W => W.cell? ⟨P, 0, none⟩ = some (.string s) ∧ W.cell? ⟨P, 2, none⟩ = some (.int .i64 ((i : Int) + 2)) ∧ Hid (Kp W5 W))) (by kernel_rfl) ?_ (fun hH => ?_)
        ·
         exact MK.out _ Q0
        have KQ := Q0
        refine wpAnyH_take (i := 0) (oi := { dst := some 45, op := Op.move (Operand.tmp 0), type := 90, pos := "bracket.go:48", after := #[], guard := none }) (v := ?v0f1) rfl (by kernel_rfl) (by kernel_rfl) (by kernel_rfl) (fun _ _ _ h => h) (Or.inl ⟨by rfl, ?hy0f1⟩) hH ?r0f1
        case hy0f1 => (intro W hSw; (try dsimp only at hSw); go_simp; try (with_reducible rfl))
        try simp only [Act.put, List.setIfInBounds_toArray, List.set_cons_zero, List.set_cons_succ]
        refine wpAnyH_ready (rs := [1]) (by kernel_rfl) (by simp) ?_
        refine AllReadyH.cons (o := { dst := some 46, op := Op.call { callee := Callee.value (Operand.func 170), args := #[Operand.tmp 45], argTypes := #[90] }, type := 4, pos := "bracket.go:48", after := #[{ on := 0, ground := Ground.data }], guard := none }) rfl (fun K hKq => ?_) AllReadyH.nil
        go_simp
        refine (AC.out _ (R5.out.kp KQ)).mono ?_
        rintro e y1 ⟨rfl, kq⟩
        refine hKq.out _ _ (MK.out _ (KQ.trans kq)) (fun hN => ?_)
        clear kq
        clear hKq K hH KQ
        have hH := hN
        clear hN
        have KQ := hH.2.2.out
        try simp only [Act.put, List.setIfInBounds_toArray, List.set_cons_zero, List.set_cons_succ]
        refine wpAnyH_take (i := 2) (oi := { dst := some 47, op := Op.move (Operand.tmp 46), type := 4, pos := "bracket.go:48", after := #[{ on := 1, ground := Ground.data }, { on := 1, ground := Ground.chain }], guard := none }) (v := ?v2f2) rfl (by kernel_rfl) (by kernel_rfl) (by kernel_rfl) (fun _ _ _ h => h) (Or.inl ⟨by rfl, ?hy2f2⟩) hH ?r2f2
        case hy2f2 => (intro W hSw; (try dsimp only at hSw); go_simp; try (with_reducible rfl))
        try simp only [Act.put, List.setIfInBounds_toArray, List.set_cons_zero, List.set_cons_succ]
        refine wpAnyH_take (i := 3) (oi := { dst := some 48, op := Op.move (Operand.tmp 0), type := 90, pos := "bracket.go:48", after := #[{ on := 2, ground := Ground.guard }], guard := some (2, false) }) (v := ?v3f3) rfl (by kernel_rfl) (by kernel_rfl) (by kernel_rfl) (fun _ _ _ h => h) (Or.inl ⟨by rfl, ?hy3f3⟩) hH ?r3f3
        case hy3f3 => (intro W hSw; (try dsimp only at hSw); go_simp; try (with_reducible rfl))
        try simp only [Act.put, List.setIfInBounds_toArray, List.set_cons_zero, List.set_cons_succ]
        refine wpAnyH_take (i := 4) (oi := { dst := some 49, op := Op.nilCheck (Operand.tmp 48), type := 0, pos := "bracket.go:48", after := #[{ on := 3, ground := Ground.data }, { on := 2, ground := Ground.guard }], guard := some (2, false) }) (v := ?v4f4) rfl (by kernel_rfl) (by kernel_rfl) (by kernel_rfl) (fun _ _ _ h => h) (Or.inl ⟨by rfl, ?hy4f4⟩) hH ?r4f4
        case hy4f4 => (intro W hSw; (try dsimp only at hSw); go_simp; try (with_reducible rfl))
        try simp only [Act.put, List.setIfInBounds_toArray, List.set_cons_zero, List.set_cons_succ]
        refine wpAnyH_take (i := 5) (oi := { dst := some 50, op := Op.fieldAddr 66 (Operand.tmp 49) 0, type := 0, pos := "bracket.go:48", after := #[{ on := 4, ground := Ground.data }, { on := 2, ground := Ground.guard }], guard := some (2, false) }) (v := ?v5f5) rfl (by kernel_rfl) (by kernel_rfl) (by kernel_rfl) (fun _ _ _ h => h) (Or.inl ⟨by rfl, ?hy5f5⟩) hH ?r5f5
        case hy5f5 => (intro W hSw; (try dsimp only at hSw); go_simp; try (with_reducible rfl))
        try simp only [Act.put, List.setIfInBounds_toArray, List.set_cons_zero, List.set_cons_succ]
        refine wpAnyH_take (i := 6) (oi := { dst := some 51, op := Op.load 9 (Operand.tmp 50), type := 9, pos := "bracket.go:48", after := #[{ on := 5, ground := Ground.data }, { on := 2, ground := Ground.guard }], guard := some (2, false) }) (v := ?v6f6) rfl (by kernel_rfl) (by kernel_rfl) (by kernel_rfl) (fun _ _ _ h => h) (Or.inl ⟨by rfl, ?hy6f6⟩) hH ?r6f6
        case hy6f6 => (intro W hSw; (try dsimp only at hSw); go_simp; try (with_reducible rfl))
        try simp only [Act.put, List.setIfInBounds_toArray, List.set_cons_zero, List.set_cons_succ]
        refine wpAnyH_take (i := 7) (oi := { dst := some 52, op := Op.move (Operand.tmp 0), type := 90, pos := "bracket.go:48", after := #[{ on := 2, ground := Ground.guard }], guard := some (2, false) }) (v := ?v7f7) rfl (by kernel_rfl) (by kernel_rfl) (by kernel_rfl) (fun _ _ _ h => h) (Or.inl ⟨by rfl, ?hy7f7⟩) hH ?r7f7
        case hy7f7 => (intro W hSw; (try dsimp only at hSw); go_simp; try (with_reducible rfl))
        try simp only [Act.put, List.setIfInBounds_toArray, List.set_cons_zero, List.set_cons_succ]
        refine wpAnyH_take (i := 8) (oi := { dst := some 53, op := Op.nilCheck (Operand.tmp 52), type := 0, pos := "bracket.go:48", after := #[{ on := 7, ground := Ground.data }, { on := 2, ground := Ground.guard }], guard := some (2, false) }) (v := ?v8f8) rfl (by kernel_rfl) (by kernel_rfl) (by kernel_rfl) (fun _ _ _ h => h) (Or.inl ⟨by rfl, ?hy8f8⟩) hH ?r8f8
        case hy8f8 => (intro W hSw; (try dsimp only at hSw); go_simp; try (with_reducible rfl))
        try simp only [Act.put, List.setIfInBounds_toArray, List.set_cons_zero, List.set_cons_succ]
        refine wpAnyH_take (i := 9) (oi := { dst := some 54, op := Op.fieldAddr 66 (Operand.tmp 53) 2, type := 0, pos := "bracket.go:48", after := #[{ on := 8, ground := Ground.data }, { on := 2, ground := Ground.guard }], guard := some (2, false) }) (v := ?v9f9) rfl (by kernel_rfl) (by kernel_rfl) (by kernel_rfl) (fun _ _ _ h => h) (Or.inl ⟨by rfl, ?hy9f9⟩) hH ?r9f9
        case hy9f9 => (intro W hSw; (try dsimp only at hSw); go_simp; try (with_reducible rfl))
        try simp only [Act.put, List.setIfInBounds_toArray, List.set_cons_zero, List.set_cons_succ]
        refine wpAnyH_take (i := 10) (oi := { dst := some 55, op := Op.load 3 (Operand.tmp 54), type := 3, pos := "bracket.go:48", after := #[{ on := 9, ground := Ground.data }, { on := 2, ground := Ground.guard }], guard := some (2, false) }) (v := ?v10f10) rfl (by kernel_rfl) (by kernel_rfl) (by kernel_rfl) (fun _ _ _ h => h) (Or.inl ⟨by rfl, ?hy10f10⟩) hH ?r10f10
        case hy10f10 => (intro W hSw; (try dsimp only at hSw); go_simp; try (with_reducible rfl))
        try simp only [Act.put, List.setIfInBounds_toArray, List.set_cons_zero, List.set_cons_succ]
        refine wpAnyH_take (i := 11) (oi := { dst := some 56, op := Op.index 9 (Operand.tmp 51) (Operand.tmp 55), type := 5, pos := "bracket.go:48", after := #[{ on := 6, ground := Ground.data }, { on := 10, ground := Ground.data }, { on := 2, ground := Ground.guard }], guard := some (2, false) }) (v := ?v11f11) rfl (by kernel_rfl) (by kernel_rfl) (by kernel_rfl) (fun _ _ _ h => h) (Or.inl ⟨by rfl, ?hy11f11⟩) hH ?r11f11
        case hy11f11 => (intro W hSw; (try dsimp only at hSw); go_simp; try (with_reducible rfl))
        try simp only [Act.put, List.setIfInBounds_toArray, List.set_cons_zero, List.set_cons_succ]
        refine wpAnyH_take (i := 12) (oi := { dst := some 57, op := Op.move (Operand.tmp 4), type := 5, pos := "bracket.go:48", after := #[{ on := 2, ground := Ground.guard }], guard := some (2, false) }) (v := ?v12f12) rfl (by kernel_rfl) (by kernel_rfl) (by kernel_rfl) (fun _ _ _ h => h) (Or.inl ⟨by rfl, ?hy12f12⟩) hH ?r12f12
        case hy12f12 => (intro W hSw; (try dsimp only at hSw); go_simp; try (with_reducible rfl))
        try simp only [Act.put, List.setIfInBounds_toArray, List.set_cons_zero, List.set_cons_succ]
        refine wpAnyH_take (i := 13) (oi := { dst := some 58, op := Op.binOp BinOp.lss 5 (Operand.tmp 56) (Operand.tmp 57) 5, type := 4, pos := "bracket.go:48", after := #[{ on := 11, ground := Ground.data }, { on := 12, ground := Ground.data }, { on := 2, ground := Ground.guard }], guard := some (2, false) }) (v := ?v13f13) rfl (by kernel_rfl) (by kernel_rfl) (by kernel_rfl) (fun _ _ _ h => h) (Or.inl ⟨by rfl, ?hy13f13⟩) hH ?r13f13
        case hy13f13 => (intro W hSw; (try dsimp only at hSw); go_simp; try (with_reducible rfl))
        try simp only [Act.put, List.setIfInBounds_toArray, List.set_cons_zero, List.set_cons_succ]
        refine wpAnyH_take (i := 14) (oi := { dst := some 59, op := Op.pick (Operand.tmp 47) (Operand.const (Value.bool true)) (Operand.tmp 58), type := 4, pos := "bracket.go:48", after := #[{ on := 2, ground := Ground.data }, { on := 13, ground := Ground.data }], guard := none }) (v := ?v14f14) rfl (by kernel_rfl) (by kernel_rfl) (by kernel_rfl) (fun _ _ _ h => h) (Or.inl ⟨by rfl, ?hy14f14⟩) hH ?r14f14
        case hy14f14 => (intro W hSw; (try dsimp only at hSw); go_simp; try (with_reducible rfl))
        try simp only [Act.put, List.setIfInBounds_toArray, List.set_cons_zero, List.set_cons_succ]
        refine wpAnyH_done (by kernel_rfl) ?_ _
        refine NoPanic.normal ?_
        go_wp2_with fail
        go_meet
        case rel => exact ⟨rfl, KQ⟩
       case rest =>
        obtain ⟨rfl, k6⟩ := hcut
        rename World => W6
        have R6 : Hid (Rd W6 P s ere (i + 2) n g d) := R5.out.kp k6
        have B6 : Hid (At W6 w.heap.size (fun _ => false)) := B5.out.kp k6
        have K6 : Hid (Ks P w W6) := K5.out.kpt k6 hP
        clear k6 R5 B5 K5
        go_upto_region 11 with fail
        go_cut [5] (fun v wc => v = .int .u8 (c : Int) ∧ Kp W6 wc)
        case first =>
         have Q0 : Kp W6 W6.drew := (Kp.refl _).drew
         have MK : Hid (∀ W, Kp W6 W → W.cell? ⟨P, 0, none⟩ = some (.string s) ∧ W.cell? ⟨P, 2, none⟩ = some (.int .i64 ((i : Int) + 2)) ∧ Hid (Kp W6 W)) := fun W k => ⟨(R6.out.kp k).cells.1, (R6.out.kp k).cells.2.2.1, k⟩
         refine wp_region_noPanic ?_
         refine wp_region_held_drew (S := (fun W => W.cell? ⟨P, 0, none⟩ = some (.string s) ∧ W.cell? ⟨P, 2, none⟩ = some (.int .i64 ((i : Int) + 2)) ∧ Hid (Kp W6 W))) (by kernel_rfl) ?_ (fun hH => ?_)
         ·
          exact MK.out _ Q0
         have KQ := Q0
         refine wpAnyH_take (i := 0) (oi := { dst := some 61, op := Op.move (Operand.tmp 0), type := 90, pos := "bracket.go:51", after := #[], guard := none }) (v := ?v0g1) rfl (by kernel_rfl) (by kernel_rfl) (by kernel_rfl) (fun _ _ _ h => h) (Or.inl ⟨by rfl, ?hy0g1⟩) hH ?r0g1
         case hy0g1 => (intro W hSw; (try dsimp only at hSw); go_simp; try (with_reducible rfl))
         try simp only [Act.put, List.setIfInBounds_toArray, List.set_cons_zero, List.set_cons_succ]
         refine wpAnyH_take (i := 1) (oi := { dst := some 62, op := Op.nilCheck (Operand.tmp 61), type := 0, pos := "bracket.go:51", after := #[{ on := 0, ground := Ground.data }], guard := none }) (v := ?v1g2) rfl (by kernel_rfl) (by kernel_rfl) (by kernel_rfl) (fun _ _ _ h => h) (Or.inl ⟨by rfl, ?hy1g2⟩) hH ?r1g2
         case hy1g2 => (intro W hSw; (try dsimp only at hSw); go_simp; try (with_reducible rfl))
         try simp only [Act.put, List.setIfInBounds_toArray, List.set_cons_zero, List.set_cons_succ]
         refine wpAnyH_take (i := 2) (oi := { dst := some 63, op := Op.fieldAddr 66 (Operand.tmp 62) 0, type := 0, pos := "bracket.go:51", after := #[{ on := 1, ground := Ground.data }], guard := none }) (v := ?v2g3) rfl (by kernel_rfl) (by kernel_rfl) (by kernel_rfl) (fun _ _ _ h => h) (Or.inl ⟨by rfl, ?hy2g3⟩) hH ?r2g3
         case hy2g3 => (intro W hSw; (try dsimp only at hSw); go_simp; try (with_reducible rfl))
         try simp only [Act.put, List.setIfInBounds_toArray, List.set_cons_zero, List.set_cons_succ]
         refine wpAnyH_take (i := 3) (oi := { dst := some 64, op := Op.load 9 (Operand.tmp 63), type := 9, pos := "bracket.go:51", after := #[{ on := 2, ground := Ground.data }], guard := none }) (v := ?v3g4) rfl (by kernel_rfl) (by kernel_rfl) (by kernel_rfl) (fun _ _ _ h => h) (Or.inl ⟨by rfl, ?hy3g4⟩) hH ?r3g4
         case hy3g4 => (intro W hSw; (try dsimp only at hSw); go_simp; try (with_reducible rfl))
         try simp only [Act.put, List.setIfInBounds_toArray, List.set_cons_zero, List.set_cons_succ]
         refine wpAnyH_take (i := 4) (oi := { dst := some 65, op := Op.move (Operand.tmp 0), type := 90, pos := "bracket.go:51", after := #[], guard := none }) (v := ?v4g5) rfl (by kernel_rfl) (by kernel_rfl) (by kernel_rfl) (fun _ _ _ h => h) (Or.inl ⟨by rfl, ?hy4g5⟩) hH ?r4g5
         case hy4g5 => (intro W hSw; (try dsimp only at hSw); go_simp; try (with_reducible rfl))
         try simp only [Act.put, List.setIfInBounds_toArray, List.set_cons_zero, List.set_cons_succ]
         refine wpAnyH_take (i := 5) (oi := { dst := some 66, op := Op.nilCheck (Operand.tmp 65), type := 0, pos := "bracket.go:51", after := #[{ on := 4, ground := Ground.data }], guard := none }) (v := ?v5g6) rfl (by kernel_rfl) (by kernel_rfl) (by kernel_rfl) (fun _ _ _ h => h) (Or.inl ⟨by rfl, ?hy5g6⟩) hH ?r5g6
         case hy5g6 => (intro W hSw; (try dsimp only at hSw); go_simp; try (with_reducible rfl))
         try simp only [Act.put, List.setIfInBounds_toArray, List.set_cons_zero, List.set_cons_succ]
         refine wpAnyH_take (i := 6) (oi := { dst := some 67, op := Op.fieldAddr 66 (Operand.tmp 66) 2, type := 0, pos := "bracket.go:51", after := #[{ on := 5, ground := Ground.data }], guard := none }) (v := ?v6g7) rfl (by kernel_rfl) (by kernel_rfl) (by kernel_rfl) (fun _ _ _ h => h) (Or.inl ⟨by rfl, ?hy6g7⟩) hH ?r6g7
         case hy6g7 => (intro W hSw; (try dsimp only at hSw); go_simp; try (with_reducible rfl))
         try simp only [Act.put, List.setIfInBounds_toArray, List.set_cons_zero, List.set_cons_succ]
         refine wpAnyH_take (i := 7) (oi := { dst := some 68, op := Op.load 3 (Operand.tmp 67), type := 3, pos := "bracket.go:51", after := #[{ on := 6, ground := Ground.data }], guard := none }) (v := ?v7g8) rfl (by kernel_rfl) (by kernel_rfl) (by kernel_rfl) (fun _ _ _ h => h) (Or.inl ⟨by rfl, ?hy7g8⟩) hH ?r7g8
         case hy7g8 => (intro W hSw; (try dsimp only at hSw); go_simp; try (with_reducible rfl))
         try simp only [Act.put, List.setIfInBounds_toArray, List.set_cons_zero, List.set_cons_succ]
         refine wpAnyH_take (i := 8) (oi := { dst := some 69, op := Op.index 9 (Operand.tmp 64) (Operand.tmp 68), type := 5, pos := "bracket.go:51", after := #[{ on := 3, ground := Ground.data }, { on := 7, ground := Ground.data }], guard := none }) (v := ?v8g9) rfl (by kernel_rfl) (by kernel_rfl) (by kernel_rfl) (fun _ _ _ h => h) (Or.inl ⟨by rfl, ?hy8g9⟩) hH ?r8g9
         case hy8g9 => (intro W hSw; (try dsimp only at hSw); go_simp; try (with_reducible rfl))
         try simp only [Act.put, List.setIfInBounds_toArray, List.set_cons_zero, List.set_cons_succ]
         refine wpAnyH_take (i := 9) (oi := { dst := some 5, op := Op.assign (Operand.tmp 69), type := 5, pos := "bracket.go:51", after := #[{ on := 8, ground := Ground.data }, { on := 0, ground := Ground.phase }, { on := 1, ground := Ground.phase }, { on := 2, ground := Ground.phase }, { on := 3, ground := Ground.phase }, { on := 4, ground := Ground.phase }, { on := 5, ground := Ground.phase }, { on := 6, ground := Ground.phase }, { on := 7, ground := Ground.phase }, { on := 8, ground := Ground.phase }], guard := none }) (v := ?v9g10) rfl (by kernel_rfl) (by kernel_rfl) (by kernel_rfl) (fun _ _ _ h => h) (Or.inl ⟨by rfl, ?hy9g10⟩) hH ?r9g10
         case hy9g10 => (intro W hSw; (try dsimp only at hSw); go_simp; try (with_reducible rfl))
         try simp only [Act.put, List.setIfInBounds_toArray, List.set_cons_zero, List.set_cons_succ]
         refine wpAnyH_done (by kernel_rfl) ?_ _
         refine NoPanic.normal ?_
         go_wp2_with fail
         go_meet
         case rel => exact ⟨rfl, KQ⟩
        case rest =>
         obtain ⟨rfl, k7⟩ := hcut
         rename World => W7
         have R7 : Hid (Rd W7 P s ere (i + 2) n g d) := R6.out.kp k7
         have B7 : Hid (At W7 w.heap.size (fun _ => false)) := B6.out.kp k7
         have K7 : Hid (Ks P w W7) := K6.out.kpt k7 hP
         clear k7 R6 B6 K6 ec
         have p2 := R7.out.cells.2.2.1
         have fp2 := bl_frozen R7.out.b 2
         have hsz7 : w.heap.size < W7.heap.size := B7.out.lt
         go_upto_region 13 with fail
         refine opq (fun W8 => Rd W8 P s ere (i + 3) n g d ∧ At W8 w.heap.size (fun _ => false) ∧ Ks P w W8) ⟨by exact R7.out.at (i + 3), by exact bl_set B7.out (by omega) _, by exact K7.out.set 2 _⟩ ?_
         rintro W8 ⟨xR8, xB8, xK8⟩
         have R8 : Hid (Rd W8 P s ere (i + 3) n g d) := xR8
         have B8 : Hid (At W8 w.heap.size (fun _ => false)) := xB8
         have K8 : Hid (Ks P w W8) := xK8
         clear xR8 xB8 xK8
         clear R7 B7 K7 p2 fp2
         go_wp2_with fail
         refine (range_any b c _ hb256 hc256).mono ?_
         rintro e W9 ⟨rfl, k9⟩
         have R9 : Hid (Rd W9 P s ere (i + 3) n g d) := R8.out.kp k9
         have B9 : Hid (At W9 w.heap.size (fun _ => false)) := B8.out.kp k9
         have K9 : Hid (Ks P w W9) := K8.out.kpt k9 hP
         clear k9 R8 B8 K8
         obtain ⟨b0, b1, b2, b3⟩ := B9.out.cells
         have fb0 := B9.out.frozen 0
         have fb1 := B9.out.frozen 1
         have fb2 := B9.out.frozen 2
         have fb3 := B9.out.frozen 3
         go_wp2_with fail
         refine bodyPost_ret (v := .tuple #[sv (rng b c), .bool true]) (ret2_set rfl _ _ _ _ _ rfl rfl (At.set4 B9.out (rng b c))) rfl ?_
         exact ⟨rng b c, true, rfl, by rw [E.out.1]; rfl, by rw [E.out.2]; exact R9.out.ks (ks_set4 _ _ _ _) (by omega) (by omega), K9.out.off (ks_set4 _ _ _ _) (by omega) hP⟩
end Go.Proofs.YtommgdgilcemdaaGreatDoor
