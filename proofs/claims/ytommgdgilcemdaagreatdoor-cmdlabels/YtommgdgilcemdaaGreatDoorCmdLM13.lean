/-
  Texts of this claim: One, Part.
-/
import Derived.Test.YtommgdgilcemdaaGreatDoorCmdLM12
import Derived.Test.YtommgdgilcemdaaGreatDoorCmdLM11

/-! ### One -/

namespace Go.Proofs.YtommgdgilcemdaaGreatDoor
open Go.RowKit
attribute [local go_sem] field91

theorem not_zero (w : World) : Calls Tryz.prog 110 #[.agg #[.int .u64 0, .int .u64 0, .int .u64 0, .int .u64 0]] w fun e w' => e = .returned (sv (notB (fun _ => false))) ∧ Kp w w' := by
 have := not_any (fun _ => false) w
 rw [sv_none] at this
 exact this

set_option maxHeartbeats 2000000 in
set_option maxRecDepth 100000 in
theorem one_any (c : St → Out) (D k b z : Nat) (s : ByteArray) (ere : Bool) (i n g d P : Nat) (w : World) (HC : ChSaid c s ere D) (HGd : CGood c s) (h : Rd w P s ere i n g d) (hv : Inv s ⟨i, n, g, d⟩) (hD : d + D = 6) (hz : i + z ≤ s.size) (hz2 : z ≤ 2) (hz1 : k ≠ 1 → k ≠ 0 → 1 ≤ z) (hb : b < 256) (hb14 : k = 14 → 48 ≤ b ∧ b ≤ 57) (hs : s.size ≤ 1000000) :
  Calls Tryz.prog 136 #[.pointer (some ⟨P, 0, none⟩), .agg #[.int .i64 (k : Int), .int .u8 (b : Int), .int .i64 (z : Int)]] w fun e w' => RetE w P s ere (pOne c s ere k b z ⟨i, n, g, d⟩) e w' := by
 have R : Hid (Rd w P s ere i n g d) := h
 have hP : P < w.heap.size := h.lt
 clear h
 have hn : n ≤ 1000000000 := by have := hv.n; simp only at this; omega
 have hi : i ≤ 1000000000 := by omega
 have HZ1 := hid hz1
 have HB14 := hid hb14
 clear hz1 hb14
 go_enter Tryz.func136, Tryz.ntmps136
 go_upto_region 1 with fail
 refine opq (fun W0 => Rd W0 P s ere i n g d ∧ W0.heap[w.heap.size]? = some (sgo k b z) ∧ W0.heap[(w.heap.size + 1)]? = some rzo ∧ Ks P w W0) ⟨by exact R.out.kp (by repeat (first | exact Kp.refl _ | refine Kp.alloc ?_ _ | refine Kp.drew ?_ | refine Kp.drewN _ ?_)), by (first | exact last_at _ _ _ (by simp) | (refine bl_alloc ?_ _; first | exact last_at _ _ _ (by simp) | (refine bl_alloc ?_ _; first | exact last_at _ _ _ (by simp) | (refine bl_alloc ?_ _; exact last_at _ _ _ (by simp))))), by (first | exact last_at _ _ _ (by simp) | (refine bl_alloc ?_ _; first | exact last_at _ _ _ (by simp) | (refine bl_alloc ?_ _; first | exact last_at _ _ _ (by simp) | (refine bl_alloc ?_ _; exact last_at _ _ _ (by simp))))), by exact (Kp.ks (by repeat (first | exact Kp.refl _ | refine Kp.alloc ?_ _ | refine Kp.drew ?_ | refine Kp.drewN _ ?_)) (Nat.le_of_lt hP))⟩ ?_
 rintro W0 ⟨xR0, xG0, xB0, xK0⟩
 have R0 : Hid (Rd W0 P s ere i n g d) := xR0
 have G0 : Hid (W0.heap[w.heap.size]? = some (sgo k b z)) := xG0
 have B0 : Hid (W0.heap[(w.heap.size + 1)]? = some rzo) := xB0
 have K0 : Hid (Ks P w W0) := xK0
 clear xR0 xG0 xB0 xK0
 clear R
 have hsW : w.heap.size + 1 < W0.heap.size := bl_lt B0.out
 have hPW : P < W0.heap.size := by omega
 have q0 := bl_cell G0.out 0 _ rfl
 have q1 := bl_cell G0.out 1 _ rfl
 have q2 := bl_cell G0.out 2 _ rfl
 by_cases k2 : k = 2
 ·
  subst k2
  have E : Hid (pOne c s ere 2 b z ⟨i, n, g, d⟩ = pTake z (rset (addB (fun _ => false) b)) ⟨i, n, g, d⟩) := by show _ = _; unfold pOne; rw [if_pos rfl]
  go_upto_region 3 with fail
  have Q0 : Ks P W0 W0.drew := (Ks.refl _ _).drew
  have MK : Hid (∀ W, Ks P W0 W → W.cell? ⟨w.heap.size, 0, none⟩ = some (.int .i64 2) ∧ W.cell? ⟨w.heap.size, 1, none⟩ = some (.int .u8 (b : Int)) ∧ W.cell? ⟨w.heap.size, 2, none⟩ = some (.int .i64 (z : Int)) ∧ Hid (Ks P W0 W)) := fun W k => ⟨bl_cell (bl_ks G0.out (by omega) k) 0 _ rfl, bl_cell (bl_ks G0.out (by omega) k) 1 _ rfl, bl_cell (bl_ks G0.out (by omega) k) 2 _ rfl, k⟩
  refine wp_region_noPanic ?_
  refine region_Z (z := 10) (S := (fun W => W.cell? ⟨w.heap.size, 0, none⟩ = some (.int .i64 2) ∧ W.cell? ⟨w.heap.size, 1, none⟩ = some (.int .u8 (b : Int)) ∧ W.cell? ⟨w.heap.size, 2, none⟩ = some (.int .i64 (z : Int)) ∧ Hid (Ks P W0 W))) (by kernel_rfl) ?_ (fun hH => ?_)
  ·
   exact MK.out _ Q0
  have KQ := Q0
  refine anyZ_take (z := 10) (ks := []) (i := 0) (oi := { dst := some 10, op := Op.move (Operand.tmp 0), type := 90, pos := "parse.go:120", after := #[], guard := none }) (v := ?v0a21) rfl (by kernel_rfl) (by kernel_rfl) (by kernel_rfl) (by kernel_rfl) (by kernel_rfl) (fun _ _ _ h => h) (Or.inl ⟨by rfl, ?hy0a21⟩) hH ?r0a21
  case hy0a21 => (intro W hSw; (try dsimp only at hSw); go_simp; try (with_reducible rfl))
  try simp only [Act.put, List.setIfInBounds_toArray, List.set_cons_zero, List.set_cons_succ]
  refine anyZ_take (z := 10) (ks := []) (i := 1) (oi := { dst := some 11, op := Op.load 110 (Operand.tmp 3), type := 110, pos := "parse.go:120", after := #[], guard := none }) (v := ?v1a22) rfl (by kernel_rfl) (by kernel_rfl) (by kernel_rfl) (by kernel_rfl) (by kernel_rfl) (fun _ _ _ h => h) (Or.inl ⟨by rfl, ?hy1a22⟩) hH ?r1a22
  case hy1a22 => (intro W hSw; (try dsimp only at hSw); go_simp; try (with_reducible rfl))
  try simp only [Act.put, List.setIfInBounds_toArray, List.set_cons_zero, List.set_cons_succ]
  refine anyZ_take (z := 10) (ks := []) (i := 2) (oi := { dst := some 12, op := Op.fieldAddr 110 (Operand.tmp 3) 1, type := 0, pos := "parse.go:120", after := #[], guard := none }) (v := ?v2a23) rfl (by kernel_rfl) (by kernel_rfl) (by kernel_rfl) (by kernel_rfl) (by kernel_rfl) (fun _ _ _ h => h) (Or.inl ⟨by rfl, ?hy2a23⟩) hH ?r2a23
  case hy2a23 => (intro W hSw; (try dsimp only at hSw); go_simp; try (with_reducible rfl))
  try simp only [Act.put, List.setIfInBounds_toArray, List.set_cons_zero, List.set_cons_succ]
  refine anyZ_take (z := 10) (ks := []) (i := 3) (oi := { dst := some 13, op := Op.load 5 (Operand.tmp 12), type := 5, pos := "parse.go:120", after := #[{ on := 2, ground := Ground.data }], guard := none }) (v := ?v3a24) rfl (by kernel_rfl) (by kernel_rfl) (by kernel_rfl) (by kernel_rfl) (by kernel_rfl) (fun _ _ _ h => h) (Or.inl ⟨by rfl, ?hy3a24⟩) hH ?r3a24
  case hy3a24 => (intro W hSw; (try dsimp only at hSw); go_simp; try (with_reducible rfl))
  try simp only [Act.put, List.setIfInBounds_toArray, List.set_cons_zero, List.set_cons_succ]
  refine anyZ_ready (rs := [4]) (by kernel_rfl) (by simp) ?_
  refine AllZ.cons (o := { dst := some 14, op := Op.buildSlice 59 1 #[(0, Operand.tmp 13)], type := 59, pos := "parse.go:120", after := #[{ on := 3, ground := Ground.data }], guard := none }) rfl (fun K hKq => ?_) AllZ.nil
  go_simp
  refine hKq.out _ _ (MK.out _ (KQ.kpt ((Kp.refl _).alloc _) hPW)) (fun hN => ?_)
  clear hKq K hH KQ
  have hH := hN
  clear hN
  have KQ := hH.2.2.2.out
  try simp only [Act.put, List.setIfInBounds_toArray, List.set_cons_zero, List.set_cons_succ]
  refine anyZ_ready (rs := [5]) (by kernel_rfl) (by simp) ?_
  refine AllZ.cons (o := { dst := some 15, op := Op.call { callee := Callee.value (Operand.func 152), args := #[Operand.tmp 14], argTypes := #[59] }, type := 24, pos := "parse.go:120", after := #[{ on := 4, ground := Ground.data }], guard := none }) rfl (fun K hKq => ?_) AllZ.nil
  go_simp
  refine (of1 b _ W0.heap.size (by simp [World.drew]) (bl_cell (last_drew _ _) 0 _ rfl) hb).mono ?_
  rintro e ya ⟨rfl, kq⟩
  have KA : Hid (Kp W0 ya) := (((Kp.refl _).alloc _).drew).trans kq
  refine hKq.out _ _ (MK.out _ (KQ.kpt kq hPW)) (fun hN => ?_)
  clear kq
  clear hKq K hH KQ
  have hH := hN
  clear hN
  have KQ := hH.2.2.2.out
  try simp only [Act.put, List.setIfInBounds_toArray, List.set_cons_zero, List.set_cons_succ]
  refine anyZ_ready (rs := [6]) (by kernel_rfl) (by simp) ?_
  refine AllZ.cons (o := { dst := some 16, op := Op.call { callee := Callee.value (Operand.func 156), args := #[Operand.tmp 15], argTypes := #[24] }, type := 27, pos := "parse.go:120", after := #[{ on := 5, ground := Ground.data }, { on := 5, ground := Ground.chain }], guard := none }) rfl (fun K hKq => ?_) AllZ.nil
  go_simp
  refine (oneOf_any (addB (fun _ => false) b) _).mono ?_
  rintro e yb ⟨rfl, kq⟩
  have KB : Hid (Kp W0 yb) := KA.out.trans kq
  refine hKq.out _ _ (MK.out _ (KQ.kpt kq hPW)) (fun hN => ?_)
  clear kq KA
  clear hKq K hH KQ
  have hH := hN
  clear hN
  have KQ := hH.2.2.2.out
  try simp only [Act.put, List.setIfInBounds_toArray, List.set_cons_zero, List.set_cons_succ]
  refine anyZ_ready (rs := [7]) (by kernel_rfl) (by simp) ?_
  refine AllZ.cons (o := { dst := some 17, op := Op.call { callee := Callee.value (Operand.func 155), args := #[Operand.tmp 10, Operand.tmp 11, Operand.tmp 16], argTypes := #[90, 110, 27] }, type := 67, pos := "parse.go:120", after := #[{ on := 0, ground := Ground.data }, { on := 1, ground := Ground.data }, { on := 6, ground := Ground.data }, { on := 6, ground := Ground.chain }], guard := none }) rfl (fun K hKq => ?_) AllZ.nil
  go_simp
  refine (take_any 2 b z 1 0 0 0 (W4.of (addB (fun _ => false) b)) none 0 0 s ere i n g d P _ (R0.out.kp KB.out) hi (by omega) hn).mono ?_
  rintro e yc ⟨rfl, rr, kq⟩
  have R2 := hid rr
  have B2 : Hid (yc.heap[w.heap.size + 1]? = some rzo) := bl_ks (bl_kp B0.out KB.out) (by omega) kq
  have K2 : Hid (Ks P w yc) := (K0.out.kpt KB.out hP).trans kq
  refine hKq.out _ _ (MK.out _ (KQ.trans kq)) (fun hN => ?_)
  clear kq rr KB
  clear hKq K hH KQ
  have hH := hN
  clear hN
  have KQ := hH.2.2.2.out
  try simp only [Act.put, List.setIfInBounds_toArray, List.set_cons_zero, List.set_cons_succ]
  refine anyZ_take (z := 10) (ks := []) (i := 8) (oi := { dst := some 18, op := Op.extract (Operand.tmp 17) 0, type := 27, pos := "parse.go:120", after := #[{ on := 7, ground := Ground.data }], guard := none }) (v := ?v8a25) rfl (by kernel_rfl) (by kernel_rfl) (by kernel_rfl) (by kernel_rfl) (by kernel_rfl) (fun _ _ _ h => h) (Or.inl ⟨by rfl, ?hy8a25⟩) hH ?r8a25
  case hy8a25 => (intro W hSw; (try dsimp only at hSw); go_simp; try (with_reducible rfl))
  try simp only [Act.put, List.setIfInBounds_toArray, List.set_cons_zero, List.set_cons_succ]
  refine anyZ_take (z := 10) (ks := []) (i := 9) (oi := { dst := some 19, op := Op.extract (Operand.tmp 17) 1, type := 28, pos := "parse.go:120", after := #[{ on := 7, ground := Ground.data }], guard := none }) (v := ?v9a26) rfl (by kernel_rfl) (by kernel_rfl) (by kernel_rfl) (by kernel_rfl) (by kernel_rfl) (fun _ _ _ h => h) (Or.inl ⟨by rfl, ?hy9a26⟩) hH ?r9a26
  case hy9a26 => (intro W hSw; (try dsimp only at hSw); go_simp; try (with_reducible rfl))
  try simp only [Act.put, List.setIfInBounds_toArray, List.set_cons_zero, List.set_cons_succ]
  refine anyZ_ready (rs := [10]) (by kernel_rfl) (by simp) ?_
  refine AllZ.last (o := { dst := none, op := Op.store 27 (Operand.tmp 4) (Operand.tmp 18), type := 0, pos := "parse.go:120", after := #[{ on := 8, ground := Ground.data }, { on := 7, ground := Ground.chain }, { on := 0, ground := Ground.phase }, { on := 1, ground := Ground.phase }, { on := 2, ground := Ground.phase }, { on := 3, ground := Ground.phase }, { on := 4, ground := Ground.phase }, { on := 5, ground := Ground.phase }, { on := 6, ground := Ground.phase }, { on := 7, ground := Ground.phase }, { on := 8, ground := Ground.phase }, { on := 9, ground := Ground.phase }], guard := none }) rfl (Or.inl rfl) (fun K hKq => ?_) AllZ.nil
  have b0 := bl_cell (B2.out) 0 _ rfl
  have fb0 := bl_frozen (B2.out) 0
  have b1 := bl_cell (B2.out) 1 _ rfl
  have fb1 := bl_frozen (B2.out) 1
  have b2 := bl_cell (B2.out) 2 _ rfl
  have fb2 := bl_frozen (B2.out) 2
  have b3 := bl_cell (B2.out) 3 _ rfl
  have fb3 := bl_frozen (B2.out) 3
  have b4 := bl_cell (B2.out) 4 _ rfl
  have fb4 := bl_frozen (B2.out) 4
  have b5 := bl_cell (B2.out) 5 _ rfl
  have fb5 := bl_frozen (B2.out) 5
  have b6 := bl_cell (B2.out) 6 _ rfl
  have fb6 := bl_frozen (B2.out) 6
  have b7 := bl_cell (B2.out) 7 _ rfl
  have fb7 := bl_frozen (B2.out) 7
  have b8 := bl_cell (B2.out) 8 _ rfl
  have fb8 := bl_frozen (B2.out) 8
  go_simp
  refine hKq.out _ _ ?_
  clear hKq K
  try simp only [Act.put, List.setIfInBounds_toArray, List.set_cons_zero, List.set_cons_succ]
  refine anyZ_ready (rs := [11]) (by kernel_rfl) (by simp) ?_
  refine AllZ.last (o := { dst := some 5, op := Op.assign (Operand.tmp 19), type := 28, pos := "parse.go:120", after := #[{ on := 9, ground := Ground.data }, { on := 10, ground := Ground.chain }, { on := 0, ground := Ground.phase }, { on := 1, ground := Ground.phase }, { on := 2, ground := Ground.phase }, { on := 3, ground := Ground.phase }, { on := 4, ground := Ground.phase }, { on := 5, ground := Ground.phase }, { on := 6, ground := Ground.phase }, { on := 7, ground := Ground.phase }, { on := 8, ground := Ground.phase }, { on := 9, ground := Ground.phase }, { on := 10, ground := Ground.phase }], guard := none }) rfl (Or.inr (by kernel_rfl)) (fun K hKq => ?_) AllZ.nil
  go_simp
  refine hKq.out _ _ ?_
  clear hKq K
  try simp only [Act.put, List.setIfInBounds_toArray, List.set_cons_zero, List.set_cons_succ]
  refine anyZ_done (by kernel_rfl) ?_ _
  refine NoPanic.normal ?_
  go_wp2_with fail
  refine bodyPost_ret (v := .tuple #[rxv 1 0 0 0 (W4.of (addB (fun _ => false) b)) (.slice none 0 0), .int .i64 0]) (rx_ret2 rfl _ _ _ _ _ rfl rfl (bl_set9 B2.out _ _ _ _ _ _ _ _ _) rfl) rfl ?_
  rw [E.out]
  exact ⟨_, rfl, Ret.fin (Is.leaf _ _ _ _ _ _ _) R2.out K2.out (ks_set9 _ _ _ _ _ _ _ _ _) hP (by omega)⟩
 by_cases k3 : k = 3
 ·
  subst k3
  have E : Hid (pOne c s ere 3 b z ⟨i, n, g, d⟩ = pTake z (rset (notB (fun _ => false))) ⟨i, n, g, d⟩) := by show _ = _; unfold pOne; rw [if_neg (by omega), if_pos rfl]
  go_upto_region 5 with fail
  have Q0 : Ks P W0 W0.drew := (Ks.refl _ _).drew
  have MK : Hid (∀ W, Ks P W0 W → W.cell? ⟨w.heap.size, 0, none⟩ = some (.int .i64 3) ∧ W.cell? ⟨w.heap.size, 1, none⟩ = some (.int .u8 (b : Int)) ∧ W.cell? ⟨w.heap.size, 2, none⟩ = some (.int .i64 (z : Int)) ∧ Hid (Ks P W0 W)) := fun W k => ⟨bl_cell (bl_ks G0.out (by omega) k) 0 _ rfl, bl_cell (bl_ks G0.out (by omega) k) 1 _ rfl, bl_cell (bl_ks G0.out (by omega) k) 2 _ rfl, k⟩
  refine wp_region_noPanic ?_
  refine region_Z (z := 8) (S := (fun W => W.cell? ⟨w.heap.size, 0, none⟩ = some (.int .i64 3) ∧ W.cell? ⟨w.heap.size, 1, none⟩ = some (.int .u8 (b : Int)) ∧ W.cell? ⟨w.heap.size, 2, none⟩ = some (.int .i64 (z : Int)) ∧ Hid (Ks P W0 W))) (by kernel_rfl) ?_ (fun hH => ?_)
  ·
   exact MK.out _ Q0
  have KQ := Q0
  refine anyZ_take (z := 8) (ks := []) (i := 0) (oi := { dst := some 22, op := Op.move (Operand.tmp 0), type := 90, pos := "parse.go:122", after := #[], guard := none }) (v := ?v0a31) rfl (by kernel_rfl) (by kernel_rfl) (by kernel_rfl) (by kernel_rfl) (by kernel_rfl) (fun _ _ _ h => h) (Or.inl ⟨by rfl, ?hy0a31⟩) hH ?r0a31
  case hy0a31 => (intro W hSw; (try dsimp only at hSw); go_simp; try (with_reducible rfl))
  try simp only [Act.put, List.setIfInBounds_toArray, List.set_cons_zero, List.set_cons_succ]
  refine anyZ_take (z := 8) (ks := []) (i := 1) (oi := { dst := some 23, op := Op.load 110 (Operand.tmp 3), type := 110, pos := "parse.go:122", after := #[], guard := none }) (v := ?v1a32) rfl (by kernel_rfl) (by kernel_rfl) (by kernel_rfl) (by kernel_rfl) (by kernel_rfl) (fun _ _ _ h => h) (Or.inl ⟨by rfl, ?hy1a32⟩) hH ?r1a32
  case hy1a32 => (intro W hSw; (try dsimp only at hSw); go_simp; try (with_reducible rfl))
  try simp only [Act.put, List.setIfInBounds_toArray, List.set_cons_zero, List.set_cons_succ]
  refine anyZ_take (z := 8) (ks := []) (i := 2) (oi := { dst := some 24, op := Op.build 24 #[], type := 24, pos := "parse.go:122", after := #[], guard := none }) (v := ?v2a33) rfl (by kernel_rfl) (by kernel_rfl) (by kernel_rfl) (by kernel_rfl) (by kernel_rfl) (fun _ _ _ h => h) (Or.inl ⟨by rfl, ?hy2a33⟩) hH ?r2a33
  case hy2a33 => (intro W hSw; (try dsimp only at hSw); go_simp; try (with_reducible rfl))
  try simp only [Act.put, List.setIfInBounds_toArray, List.set_cons_zero, List.set_cons_succ]
  refine anyZ_ready (rs := [3]) (by kernel_rfl) (by simp) ?_
  refine AllZ.cons (o := { dst := some 25, op := Op.call { callee := Callee.value (Operand.func 110), args := #[Operand.tmp 24], argTypes := #[24] }, type := 24, pos := "parse.go:122", after := #[{ on := 2, ground := Ground.data }], guard := none }) rfl (fun K hKq => ?_) AllZ.nil
  go_simp
  refine (not_zero _).mono ?_
  rintro e ya ⟨rfl, kq⟩
  have KA : Hid (Kp W0 ya) := ((Kp.refl _).drew).trans kq
  refine hKq.out _ _ (MK.out _ (KQ.kpt kq hPW)) (fun hN => ?_)
  clear kq
  clear hKq K hH KQ
  have hH := hN
  clear hN
  have KQ := hH.2.2.2.out
  try simp only [Act.put, List.setIfInBounds_toArray, List.set_cons_zero, List.set_cons_succ]
  refine anyZ_ready (rs := [4]) (by kernel_rfl) (by simp) ?_
  refine AllZ.cons (o := { dst := some 26, op := Op.call { callee := Callee.value (Operand.func 156), args := #[Operand.tmp 25], argTypes := #[24] }, type := 27, pos := "parse.go:122", after := #[{ on := 3, ground := Ground.data }, { on := 3, ground := Ground.chain }], guard := none }) rfl (fun K hKq => ?_) AllZ.nil
  go_simp
  refine (oneOf_any (notB (fun _ => false)) _).mono ?_
  rintro e yb ⟨rfl, kq⟩
  have KB : Hid (Kp W0 yb) := KA.out.trans kq
  refine hKq.out _ _ (MK.out _ (KQ.kpt kq hPW)) (fun hN => ?_)
  clear kq KA
  clear hKq K hH KQ
  have hH := hN
  clear hN
  have KQ := hH.2.2.2.out
  try simp only [Act.put, List.setIfInBounds_toArray, List.set_cons_zero, List.set_cons_succ]
  refine anyZ_ready (rs := [5]) (by kernel_rfl) (by simp) ?_
  refine AllZ.cons (o := { dst := some 27, op := Op.call { callee := Callee.value (Operand.func 155), args := #[Operand.tmp 22, Operand.tmp 23, Operand.tmp 26], argTypes := #[90, 110, 27] }, type := 67, pos := "parse.go:122", after := #[{ on := 0, ground := Ground.data }, { on := 1, ground := Ground.data }, { on := 4, ground := Ground.data }, { on := 4, ground := Ground.chain }], guard := none }) rfl (fun K hKq => ?_) AllZ.nil
  go_simp
  refine (take_any 3 b z 1 0 0 0 (W4.of (notB (fun _ => false))) none 0 0 s ere i n g d P _ (R0.out.kp KB.out) hi (by omega) hn).mono ?_
  rintro e yc ⟨rfl, rr, kq⟩
  have R2 := hid rr
  have B2 : Hid (yc.heap[w.heap.size + 1]? = some rzo) := bl_ks (bl_kp B0.out KB.out) (by omega) kq
  have K2 : Hid (Ks P w yc) := (K0.out.kpt KB.out hP).trans kq
  refine hKq.out _ _ (MK.out _ (KQ.trans kq)) (fun hN => ?_)
  clear kq rr KB
  clear hKq K hH KQ
  have hH := hN
  clear hN
  have KQ := hH.2.2.2.out
  try simp only [Act.put, List.setIfInBounds_toArray, List.set_cons_zero, List.set_cons_succ]
  refine anyZ_take (z := 8) (ks := []) (i := 6) (oi := { dst := some 28, op := Op.extract (Operand.tmp 27) 0, type := 27, pos := "parse.go:122", after := #[{ on := 5, ground := Ground.data }], guard := none }) (v := ?v6a34) rfl (by kernel_rfl) (by kernel_rfl) (by kernel_rfl) (by kernel_rfl) (by kernel_rfl) (fun _ _ _ h => h) (Or.inl ⟨by rfl, ?hy6a34⟩) hH ?r6a34
  case hy6a34 => (intro W hSw; (try dsimp only at hSw); go_simp; try (with_reducible rfl))
  try simp only [Act.put, List.setIfInBounds_toArray, List.set_cons_zero, List.set_cons_succ]
  refine anyZ_take (z := 8) (ks := []) (i := 7) (oi := { dst := some 29, op := Op.extract (Operand.tmp 27) 1, type := 28, pos := "parse.go:122", after := #[{ on := 5, ground := Ground.data }], guard := none }) (v := ?v7a35) rfl (by kernel_rfl) (by kernel_rfl) (by kernel_rfl) (by kernel_rfl) (by kernel_rfl) (fun _ _ _ h => h) (Or.inl ⟨by rfl, ?hy7a35⟩) hH ?r7a35
  case hy7a35 => (intro W hSw; (try dsimp only at hSw); go_simp; try (with_reducible rfl))
  try simp only [Act.put, List.setIfInBounds_toArray, List.set_cons_zero, List.set_cons_succ]
  refine anyZ_ready (rs := [8]) (by kernel_rfl) (by simp) ?_
  refine AllZ.last (o := { dst := none, op := Op.store 27 (Operand.tmp 4) (Operand.tmp 28), type := 0, pos := "parse.go:122", after := #[{ on := 6, ground := Ground.data }, { on := 5, ground := Ground.chain }, { on := 0, ground := Ground.phase }, { on := 1, ground := Ground.phase }, { on := 2, ground := Ground.phase }, { on := 3, ground := Ground.phase }, { on := 4, ground := Ground.phase }, { on := 5, ground := Ground.phase }, { on := 6, ground := Ground.phase }, { on := 7, ground := Ground.phase }], guard := none }) rfl (Or.inl rfl) (fun K hKq => ?_) AllZ.nil
  have b0 := bl_cell (B2.out) 0 _ rfl
  have fb0 := bl_frozen (B2.out) 0
  have b1 := bl_cell (B2.out) 1 _ rfl
  have fb1 := bl_frozen (B2.out) 1
  have b2 := bl_cell (B2.out) 2 _ rfl
  have fb2 := bl_frozen (B2.out) 2
  have b3 := bl_cell (B2.out) 3 _ rfl
  have fb3 := bl_frozen (B2.out) 3
  have b4 := bl_cell (B2.out) 4 _ rfl
  have fb4 := bl_frozen (B2.out) 4
  have b5 := bl_cell (B2.out) 5 _ rfl
  have fb5 := bl_frozen (B2.out) 5
  have b6 := bl_cell (B2.out) 6 _ rfl
  have fb6 := bl_frozen (B2.out) 6
  have b7 := bl_cell (B2.out) 7 _ rfl
  have fb7 := bl_frozen (B2.out) 7
  have b8 := bl_cell (B2.out) 8 _ rfl
  have fb8 := bl_frozen (B2.out) 8
  go_simp
  refine hKq.out _ _ ?_
  clear hKq K
  try simp only [Act.put, List.setIfInBounds_toArray, List.set_cons_zero, List.set_cons_succ]
  refine anyZ_ready (rs := [9]) (by kernel_rfl) (by simp) ?_
  refine AllZ.last (o := { dst := some 5, op := Op.assign (Operand.tmp 29), type := 28, pos := "parse.go:122", after := #[{ on := 7, ground := Ground.data }, { on := 8, ground := Ground.chain }, { on := 0, ground := Ground.phase }, { on := 1, ground := Ground.phase }, { on := 2, ground := Ground.phase }, { on := 3, ground := Ground.phase }, { on := 4, ground := Ground.phase }, { on := 5, ground := Ground.phase }, { on := 6, ground := Ground.phase }, { on := 7, ground := Ground.phase }, { on := 8, ground := Ground.phase }], guard := none }) rfl (Or.inr (by kernel_rfl)) (fun K hKq => ?_) AllZ.nil
  go_simp
  refine hKq.out _ _ ?_
  clear hKq K
  try simp only [Act.put, List.setIfInBounds_toArray, List.set_cons_zero, List.set_cons_succ]
  refine anyZ_done (by kernel_rfl) ?_ _
  refine NoPanic.normal ?_
  go_wp2_with fail
  refine bodyPost_ret (v := .tuple #[rxv 1 0 0 0 (W4.of (notB (fun _ => false))) (.slice none 0 0), .int .i64 0]) (rx_ret2 rfl _ _ _ _ _ rfl rfl (bl_set9 B2.out _ _ _ _ _ _ _ _ _) rfl) rfl ?_
  rw [E.out]
  exact ⟨_, rfl, Ret.fin (Is.leaf _ _ _ _ _ _ _) R2.out K2.out (ks_set9 _ _ _ _ _ _ _ _ _) hP (by omega)⟩
 by_cases k5 : k = 5
 ·
  subst k5
  have E : Hid (pOne c s ere 5 b z ⟨i, n, g, d⟩ = pTake z (.mk 7 0 0 0 W4.z []) ⟨i, n, g, d⟩) := by show _ = _; unfold pOne; rw [if_neg (by omega), if_neg (by omega), if_pos rfl]
  go_wp2_with fail
  refine (take_any0 5 b z 7 0 0 0 none 0 0 s ere i n g d P _ R0.out hi (by omega) hn).mono ?_
  rintro e W2 ⟨rfl, rr, kq⟩
  have R2 := hid rr
  have B2 : Hid (W2.heap[w.heap.size + 1]? = some rzo) := bl_ks B0.out (by omega) kq
  have K2 : Hid (Ks P w W2) := K0.out.trans kq
  clear kq rr q0 q1 q2 R0 G0 B0 K0
  have b0 := bl_cell (B2.out) 0 _ rfl
  have fb0 := bl_frozen (B2.out) 0
  have b1 := bl_cell (B2.out) 1 _ rfl
  have fb1 := bl_frozen (B2.out) 1
  have b2 := bl_cell (B2.out) 2 _ rfl
  have fb2 := bl_frozen (B2.out) 2
  have b3 := bl_cell (B2.out) 3 _ rfl
  have fb3 := bl_frozen (B2.out) 3
  have b4 := bl_cell (B2.out) 4 _ rfl
  have fb4 := bl_frozen (B2.out) 4
  have b5 := bl_cell (B2.out) 5 _ rfl
  have fb5 := bl_frozen (B2.out) 5
  have b6 := bl_cell (B2.out) 6 _ rfl
  have fb6 := bl_frozen (B2.out) 6
  have b7 := bl_cell (B2.out) 7 _ rfl
  have fb7 := bl_frozen (B2.out) 7
  have b8 := bl_cell (B2.out) 8 _ rfl
  have fb8 := bl_frozen (B2.out) 8
  go_wp2_with fail
  refine bodyPost_ret (v := .tuple #[rxv 7 0 0 0 W4.z (.slice none 0 0), .int .i64 0]) (rx_ret2 rfl _ _ _ _ _ rfl rfl (bl_set9 B2.out _ _ _ _ _ _ _ _ _) rfl) rfl ?_
  rw [E.out]
  exact ⟨_, rfl, Ret.fin (Is.leaf _ _ _ _ _ _ _) R2.out K2.out (ks_set9 _ _ _ _ _ _ _ _ _) hP (by omega)⟩
 by_cases k6 : k = 6
 ·
  subst k6
  have E : Hid (pOne c s ere 6 b z ⟨i, n, g, d⟩ = pTake z (.mk 8 0 0 0 W4.z []) ⟨i, n, g, d⟩) := by show _ = _; unfold pOne; rw [if_neg (by omega), if_neg (by omega), if_neg (by omega), if_pos rfl]
  go_wp2_with fail
  refine (take_any0 6 b z 8 0 0 0 none 0 0 s ere i n g d P _ R0.out hi (by omega) hn).mono ?_
  rintro e W2 ⟨rfl, rr, kq⟩
  have R2 := hid rr
  have B2 : Hid (W2.heap[w.heap.size + 1]? = some rzo) := bl_ks B0.out (by omega) kq
  have K2 : Hid (Ks P w W2) := K0.out.trans kq
  clear kq rr q0 q1 q2 R0 G0 B0 K0
  have b0 := bl_cell (B2.out) 0 _ rfl
  have fb0 := bl_frozen (B2.out) 0
  have b1 := bl_cell (B2.out) 1 _ rfl
  have fb1 := bl_frozen (B2.out) 1
  have b2 := bl_cell (B2.out) 2 _ rfl
  have fb2 := bl_frozen (B2.out) 2
  have b3 := bl_cell (B2.out) 3 _ rfl
  have fb3 := bl_frozen (B2.out) 3
  have b4 := bl_cell (B2.out) 4 _ rfl
  have fb4 := bl_frozen (B2.out) 4
  have b5 := bl_cell (B2.out) 5 _ rfl
  have fb5 := bl_frozen (B2.out) 5
  have b6 := bl_cell (B2.out) 6 _ rfl
  have fb6 := bl_frozen (B2.out) 6
  have b7 := bl_cell (B2.out) 7 _ rfl
  have fb7 := bl_frozen (B2.out) 7
  have b8 := bl_cell (B2.out) 8 _ rfl
  have fb8 := bl_frozen (B2.out) 8
  go_wp2_with fail
  refine bodyPost_ret (v := .tuple #[rxv 8 0 0 0 W4.z (.slice none 0 0), .int .i64 0]) (rx_ret2 rfl _ _ _ _ _ rfl rfl (bl_set9 B2.out _ _ _ _ _ _ _ _ _) rfl) rfl ?_
  rw [E.out]
  exact ⟨_, rfl, Ret.fin (Is.leaf _ _ _ _ _ _ _) R2.out K2.out (ks_set9 _ _ _ _ _ _ _ _ _) hP (by omega)⟩
 by_cases k14 : k = 14
 ·
  subst k14
  have E : Hid (pOne c s ere 14 b z ⟨i, n, g, d⟩ = pBack b z ⟨i, n, g, d⟩) := by show _ = _; unfold pOne; rw [if_neg (by omega), if_neg (by omega), if_neg (by omega), if_neg (by omega), if_pos rfl]
  go_wp2_with fail
  refine (back_any 14 b z s ere i n g d P _ R0.out hi (by omega) hn (HB14.out (by trivial)).1 (HB14.out (by trivial)).2).mono ?_
  rintro e W2 ⟨v, rfl, rr⟩
  obtain ⟨kk, mn, mx, mm, tt, ad, ll, cc, rfl⟩ := rr.is.form
  have B2 : Hid (W2.heap[w.heap.size + 1]? = some rzo) := bl_ks B0.out (by omega) rr.ks
  have RR := hid rr
  rw [← E.out] at RR ⊢
  have RR' := RR
  clear rr RR q0 q1 q2
  have b0 := bl_cell (B2.out) 0 _ rfl
  have fb0 := bl_frozen (B2.out) 0
  have b1 := bl_cell (B2.out) 1 _ rfl
  have fb1 := bl_frozen (B2.out) 1
  have b2 := bl_cell (B2.out) 2 _ rfl
  have fb2 := bl_frozen (B2.out) 2
  have b3 := bl_cell (B2.out) 3 _ rfl
  have fb3 := bl_frozen (B2.out) 3
  have b4 := bl_cell (B2.out) 4 _ rfl
  have fb4 := bl_frozen (B2.out) 4
  have b5 := bl_cell (B2.out) 5 _ rfl
  have fb5 := bl_frozen (B2.out) 5
  have b6 := bl_cell (B2.out) 6 _ rfl
  have fb6 := bl_frozen (B2.out) 6
  have b7 := bl_cell (B2.out) 7 _ rfl
  have fb7 := bl_frozen (B2.out) 7
  have b8 := bl_cell (B2.out) 8 _ rfl
  have fb8 := bl_frozen (B2.out) 8
  go_wp2_with fail
  refine bodyPost_ret (v := .tuple #[rxv kk mn mx mm tt (.slice ad ll cc), .int .i64 ((pOne c s ere 14 b z ⟨i, n, g, d⟩).e : Nat)]) (rx_ret2 rfl _ _ _ _ _ rfl rfl (bl_set9 B2.out _ _ _ _ _ _ _ _ _) rfl) rfl ?_
  exact ⟨_, rfl, RR'.out.upset K0.out (ks_set9 _ _ _ _ _ _ _ _ _) hP (by omega) hsW⟩
 by_cases k4 : k = 4
 ·
  subst k4
  have E : Hid (pOne c s ere 4 b z ⟨i, n, g, d⟩ = pBracket s ⟨i, n, g, d⟩) := by show _ = _; unfold pOne; rw [if_neg (by omega), if_neg (by omega), if_neg (by omega), if_neg (by omega), if_neg (by omega), if_pos rfl]
  go_wp2_with fail
  refine (bracket_any s ere i n g d P _ R0.out (by have := HZ1.out (by omega) (by omega); omega) hs hn).mono ?_
  rintro e W2 ⟨⟨v, rfl, rr⟩⟩
  obtain ⟨kk, mn, mx, mm, tt, ad, ll, cc, rfl⟩ := rr.is.form
  have B2 : Hid (W2.heap[w.heap.size + 1]? = some rzo) := bl_ks B0.out (by omega) rr.ks
  have RR := hid rr
  rw [← E.out] at RR ⊢
  have RR' := RR
  clear rr RR q0 q1 q2
  have b0 := bl_cell (B2.out) 0 _ rfl
  have fb0 := bl_frozen (B2.out) 0
  have b1 := bl_cell (B2.out) 1 _ rfl
  have fb1 := bl_frozen (B2.out) 1
  have b2 := bl_cell (B2.out) 2 _ rfl
  have fb2 := bl_frozen (B2.out) 2
  have b3 := bl_cell (B2.out) 3 _ rfl
  have fb3 := bl_frozen (B2.out) 3
  have b4 := bl_cell (B2.out) 4 _ rfl
  have fb4 := bl_frozen (B2.out) 4
  have b5 := bl_cell (B2.out) 5 _ rfl
  have fb5 := bl_frozen (B2.out) 5
  have b6 := bl_cell (B2.out) 6 _ rfl
  have fb6 := bl_frozen (B2.out) 6
  have b7 := bl_cell (B2.out) 7 _ rfl
  have fb7 := bl_frozen (B2.out) 7
  have b8 := bl_cell (B2.out) 8 _ rfl
  have fb8 := bl_frozen (B2.out) 8
  go_wp2_with fail
  refine bodyPost_ret (v := .tuple #[rxv kk mn mx mm tt (.slice ad ll cc), .int .i64 ((pOne c s ere 4 b z ⟨i, n, g, d⟩).e : Nat)]) (rx_ret2 rfl _ _ _ _ _ rfl rfl (bl_set9 B2.out _ _ _ _ _ _ _ _ _) rfl) rfl ?_
  exact ⟨_, rfl, RR'.out.upset K0.out (ks_set9 _ _ _ _ _ _ _ _ _) hP (by omega) hsW⟩
 by_cases k7 : k = 7
 ·
  subst k7
  have E : Hid (pOne c s ere 7 b z ⟨i, n, g, d⟩ = pGroup c s ere z ⟨i, n, g, d⟩) := by show _ = _; unfold pOne; rw [if_neg (by omega), if_neg (by omega), if_neg (by omega), if_neg (by omega), if_neg (by omega), if_neg (by omega), if_pos rfl]
  go_wp2_with fail
  refine (group_any c D 7 b z s ere i n g d P _ HC HGd R0.out hv hD hz (HZ1.out (by omega) (by omega)) hz2 hs).mono ?_
  rintro e W2 ⟨⟨v, rfl, rr⟩⟩
  obtain ⟨kk, mn, mx, mm, tt, ad, ll, cc, rfl⟩ := rr.is.form
  have B2 : Hid (W2.heap[w.heap.size + 1]? = some rzo) := bl_ks B0.out (by omega) rr.ks
  have RR := hid rr
  rw [← E.out] at RR ⊢
  have RR' := RR
  clear rr RR q0 q1 q2
  have b0 := bl_cell (B2.out) 0 _ rfl
  have fb0 := bl_frozen (B2.out) 0
  have b1 := bl_cell (B2.out) 1 _ rfl
  have fb1 := bl_frozen (B2.out) 1
  have b2 := bl_cell (B2.out) 2 _ rfl
  have fb2 := bl_frozen (B2.out) 2
  have b3 := bl_cell (B2.out) 3 _ rfl
  have fb3 := bl_frozen (B2.out) 3
  have b4 := bl_cell (B2.out) 4 _ rfl
  have fb4 := bl_frozen (B2.out) 4
  have b5 := bl_cell (B2.out) 5 _ rfl
  have fb5 := bl_frozen (B2.out) 5
  have b6 := bl_cell (B2.out) 6 _ rfl
  have fb6 := bl_frozen (B2.out) 6
  have b7 := bl_cell (B2.out) 7 _ rfl
  have fb7 := bl_frozen (B2.out) 7
  have b8 := bl_cell (B2.out) 8 _ rfl
  have fb8 := bl_frozen (B2.out) 8
  go_wp2_with fail
  refine bodyPost_ret (v := .tuple #[rxv kk mn mx mm tt (.slice ad ll cc), .int .i64 ((pOne c s ere 7 b z ⟨i, n, g, d⟩).e : Nat)]) (rx_ret2 rfl _ _ _ _ _ rfl rfl (bl_set9 B2.out _ _ _ _ _ _ _ _ _) rfl) rfl ?_
  exact ⟨_, rfl, RR'.out.upset K0.out (ks_set9 _ _ _ _ _ _ _ _ _) hP (by omega) hsW⟩
 have g2 : ((k : Int) == 2) = false := by simp; omega
 have g3 : ((k : Int) == 3) = false := by simp; omega
 have g5 : ((k : Int) == 5) = false := by simp; omega
 have g6 : ((k : Int) == 6) = false := by simp; omega
 have g14 : ((k : Int) == 14) = false := by simp; omega
 have g4 : ((k : Int) == 4) = false := by simp; omega
 have g7 : ((k : Int) == 7) = false := by simp; omega
 have E : Hid (pOne c s ere k b z ⟨i, n, g, d⟩ = ⟨rx0, 1, ⟨i, n, g, d⟩⟩) := by show _ = _; unfold pOne; rw [if_neg k2, if_neg k3, if_neg k5, if_neg k6, if_neg k14, if_neg k4, if_neg k7]
 have b0 := bl_cell (B0.out) 0 _ rfl
 have fb0 := bl_frozen (B0.out) 0
 have b1 := bl_cell (B0.out) 1 _ rfl
 have fb1 := bl_frozen (B0.out) 1
 have b2 := bl_cell (B0.out) 2 _ rfl
 have fb2 := bl_frozen (B0.out) 2
 have b3 := bl_cell (B0.out) 3 _ rfl
 have fb3 := bl_frozen (B0.out) 3
 have b4 := bl_cell (B0.out) 4 _ rfl
 have fb4 := bl_frozen (B0.out) 4
 have b5 := bl_cell (B0.out) 5 _ rfl
 have fb5 := bl_frozen (B0.out) 5
 have b6 := bl_cell (B0.out) 6 _ rfl
 have fb6 := bl_frozen (B0.out) 6
 have b7 := bl_cell (B0.out) 7 _ rfl
 have fb7 := bl_frozen (B0.out) 7
 have b8 := bl_cell (B0.out) 8 _ rfl
 have fb8 := bl_frozen (B0.out) 8
 go_wp2_with fail
 refine bodyPost_ret (v := .tuple #[rz, .int .i64 1]) (rx_ret2 rfl _ _ _ _ _ rfl rfl (bl_set9 B0.out _ _ _ _ _ _ _ _ _) rfl) rfl ?_
 rw [E.out]
 exact ⟨_, rfl, Ret.fail R0.out K0.out (ks_set9 _ _ _ _ _ _ _ _ _) hP (by omega)⟩
end Go.Proofs.YtommgdgilcemdaaGreatDoor

/-! ### Part -/

namespace Go.Proofs.YtommgdgilcemdaaGreatDoor
open Go.RowKit
attribute [local go_sem] field91

theorem qs_dig (b : Nat) (ere : Bool) (hb : b < 256) : (qs b ere).2.1 < 256 ∧ ((qs b ere).1 = 14 → 48 ≤ (qs b ere).2.1 ∧ (qs b ere).2.1 ≤ 57) := by
 unfold qs
 split
 ·
  exact ⟨by show 10 < 256; omega, fun h => by cases h⟩
 split
 ·
  rename_i h; exact ⟨hb, fun _ => (rng_dig b).1 h⟩
 split
 ·
  exact ⟨hb, fun h => by cases h⟩
 split
 ·
  exact ⟨by show 0 < 256; omega, fun h => by cases h⟩
 ·
  refine ⟨hb, fun h => ?_⟩
  have h' : framing b = 14 := h
  unfold framing at h'
  split at h'
  ·
   omega
  split at h'
  ·
   omega
  split at h' <;> omega
theorem bare_ne (b : Nat) (ere : Bool) (hb : b < 256) : bare b ere ≠ 14 := (by decide +kernel : ∀ (b : Fin 256) (e : Bool), bare b.val e ≠ 14) ⟨b, hb⟩ ere
theorem sgn_dig (s : ByteArray) (ere : Bool) (i : Nat) : (sgn s ere i).2.1 < 256 ∧ ((sgn s ere i).1 = 14 → 48 ≤ (sgn s ere i).2.1 ∧ (sgn s ere i).2.1 ≤ 57) := by
 unfold sgn
 split
 ·
  exact ⟨by show 0 < 256; omega, fun h => by cases h⟩
 split
 ·
  unfold quoted
  split
  ·
   exact ⟨by show 0 < 256; omega, fun h => by cases h⟩
  ·
   exact qs_dig _ _ (ch_lt _ _)
 ·
  exact ⟨ch_lt _ _, fun h => absurd h (bare_ne _ _ (ch_lt _ _))⟩
theorem sgnIn_dig (s : ByteArray) (ere : Bool) (began i : Nat) : (sgnIn s ere began i).2.1 < 256 ∧ ((sgnIn s ere began i).1 = 14 → 48 ≤ (sgnIn s ere began i).2.1 ∧ (sgnIn s ere began i).2.1 ≤ 57) := by
 have h := sgn_dig s ere i
 unfold sgnIn
 dsimp only
 split
 ·
  exact h
 split
 ·
  exact ⟨h.1, fun h => by cases h⟩
 ·
  exact h

theorem Is.kind {w : World} {ok : Nat → Prop} {r : Rx} {k mn mx n : Int} {s : W4} {ks : Value} (h : Is w ok r (rxv k mn mx n s ks)) : r.k = k := by
 cases r with
 | mk k' mn' mx' n' s' kids =>
  unfold Is at h
  obtain ⟨ad, l, c, he, _⟩ := h
  injection he with he
  injection he with he
  simp at he
  exact he.1.symm

set_option maxHeartbeats 2000000 in
set_option maxRecDepth 100000 in
theorem part_any (c : St → Out) (D began : Nat) (s : ByteArray) (ere : Bool) (i n g d P : Nat) (w : World) (HC : ChSaid c s ere D) (HGd : CGood c s) (h : Rd w P s ere i n g d) (hv : Inv s ⟨i, n, g, d⟩) (hD : d + D = 6) (hbg : began ≤ i) (hs : s.size ≤ 1000000) :
  Calls Tryz.prog 115 #[.pointer (some ⟨P, 0, none⟩), .int .i64 (began : Int)] w fun e w' => RetE w P s ere (pPart c s ere began ⟨i, n, g, d⟩) e w' := by
 have R : Hid (Rd w P s ere i n g d) := h
 have hP : P < w.heap.size := h.lt
 clear h
 have hi : i ≤ s.size := hv.i
 obtain ⟨k, b, z, hg⟩ : ∃ x y z, sgnIn s ere began i = (x, y, z) := ⟨_, _, _, rfl⟩
 have hz := sgnIn_sz s ere began i hi
 have hd := sgnIn_dig s ere began i
 rw [hg] at hz hd
 obtain ⟨hz1, hz2, hz3⟩ := hz
 obtain ⟨hd1, hd2⟩ := hd
 simp only at hz1 hz2 hz3 hd1 hd2
 have hgood := pOne_good (ere := ere) (b := b) HGd hv hz1 hz3
 have HZ3 := hid hz3
 have HD2 := hid hd2
 have HG := hid hg
 clear hg hz3 hd2
 obtain ⟨o, ho⟩ : ∃ o, pOne c s ere k b z ⟨i, n, g, d⟩ = o := ⟨_, rfl⟩
 have ONE : Hid (∀ w, Rd w P s ere i n g d → Calls Tryz.prog 136 #[.pointer (some ⟨P, 0, none⟩), .agg #[.int .i64 (k : Int), .int .u8 (b : Int), .int .i64 (z : Int)]] w fun e w' => RetE w P s ere o e w') := by
  intro w h
  have := one_any c D k b z s ere i n g d P w HC HGd h hv hD hz1 hz2 HZ3.out hd1 HD2.out hs
  rw [ho] at this
  exact this
 have EO : Hid (pPart c s ere began ⟨i, n, g, d⟩ = if o.e ≠ 0 ∨ mayRep o.r.k = false then o else pRep s ere o.r o.st) := by
  show _ = _
  unfold pPart
  rw [HG.out, ← ho]
 rw [ho] at hgood
 have HGO := hid hgood
 clear ho hgood HZ3 HD2
 obtain ⟨r, er, ⟨i', n', g', d'⟩⟩ := o
 go_enter Tryz.func115, Tryz.ntmps115
 go_upto_region 1 with fail
 refine opq (fun W0 => Rd W0 P s ere i n g d ∧ W0.heap[w.heap.size]? = some rzo ∧ Ks P w W0) ⟨by exact R.out.kp (by repeat (first | exact Kp.refl _ | refine Kp.alloc ?_ _ | refine Kp.drew ?_ | refine Kp.drewN _ ?_)), by (first | exact last_at _ _ _ (by simp) | (refine bl_alloc ?_ _; first | exact last_at _ _ _ (by simp) | (refine bl_alloc ?_ _; first | exact last_at _ _ _ (by simp) | (refine bl_alloc ?_ _; exact last_at _ _ _ (by simp))))), by exact (Kp.ks (by repeat (first | exact Kp.refl _ | refine Kp.alloc ?_ _ | refine Kp.drew ?_ | refine Kp.drewN _ ?_)) (Nat.le_of_lt hP))⟩ ?_
 rintro W0 ⟨xR0, xB0, xK0⟩
 have R0 : Hid (Rd W0 P s ere i n g d) := xR0
 have B0 : Hid (W0.heap[w.heap.size]? = some rzo) := xB0
 have K0 : Hid (Ks P w W0) := xK0
 clear xR0 xB0 xK0
 clear R
 go_wp2_with fail
 refine (signIn_any began s ere i n g d P _ R0.out hi hbg hs).mono ?_
 rintro e W1 ⟨rfl, k1⟩
 rw [HG.out, sg3]
 have R1 := hid (R0.out.kp k1)
 have B1 := hid (bl_kp B0.out k1)
 have K1 := hid (K0.out.kpt k1 hP)
 clear k1 R0 B0 K0
 go_wp2_with fail
 refine (ONE.out _ R1.out).mono ?_
 rintro e W2 ⟨⟨v, rfl, rr⟩⟩
 obtain ⟨kk, mn, mx, mm, tt, ad, ll, cc, rfl⟩ := rr.is.form
 have hs1 : w.heap.size < W1.heap.size := bl_lt B1.out
 have hs2 := rr.ks.size
 have hkk : r.k = kk := rr.is.kind
 have HKK := hid hkk
 have R2 : Hid (Rd W2 P s ere i' n' g' d') := rr.rd
 have I2 : Hid (Is W2 (fun b => W1.heap.size ≤ b) r (rxv kk mn mx mm tt (.slice ad ll cc))) := rr.is
 have B2 := hid (bl_ks B1.out (by omega) rr.ks)
 have K2 := hid (K1.out.trans rr.ks)
 have L2 := hid rr.ks
 clear rr hkk R1 ONE
 dsimp only
 go_upto_region 2 with fail
 refine opq (fun W3 => Rd W3 P s ere i' n' g' d' ∧ W3.heap[W2.heap.size]? = some (rxo kk mn mx mm tt (.slice ad ll cc)) ∧ W3.heap[w.heap.size]? = some rzo ∧ Is W3 (fun b => w.heap.size ≤ b ∧ b ≠ w.heap.size) r (rxv kk mn mx mm tt (.slice ad ll cc)) ∧ Ks P w W3 ∧ Is W3 (fun b => W1.heap.size ≤ b) r (rxv kk mn mx mm tt (.slice ad ll cc)) ∧ Ks P W1 W3) ⟨by exact R2.out.kp (by repeat (first | exact Kp.refl _ | refine Kp.alloc ?_ _ | refine Kp.drew ?_ | refine Kp.drewN _ ?_)), by (first | exact last_at _ _ _ (by simp) | (refine bl_alloc ?_ _; first | exact last_at _ _ _ (by simp) | (refine bl_alloc ?_ _; first | exact last_at _ _ _ (by simp) | (refine bl_alloc ?_ _; exact last_at _ _ _ (by simp))))), by exact bl_kp B2.out (by repeat (first | exact Kp.refl _ | refine Kp.alloc ?_ _ | refine Kp.drew ?_ | refine Kp.drewN _ ?_)), by exact (I2.out.weak (ok' := fun b => w.heap.size ≤ b ∧ b ≠ w.heap.size) (fun _ hb _ => ⟨by omega, by omega⟩)).kp (by repeat (first | exact Kp.refl _ | refine Kp.alloc ?_ _ | refine Kp.drew ?_ | refine Kp.drewN _ ?_)), by exact K2.out.kpt (by repeat (first | exact Kp.refl _ | refine Kp.alloc ?_ _ | refine Kp.drew ?_ | refine Kp.drewN _ ?_)) hP, by exact I2.out.kp (by repeat (first | exact Kp.refl _ | refine Kp.alloc ?_ _ | refine Kp.drew ?_ | refine Kp.drewN _ ?_)), by exact L2.out.kpt (by repeat (first | exact Kp.refl _ | refine Kp.alloc ?_ _ | refine Kp.drew ?_ | refine Kp.drewN _ ?_)) (by omega)⟩ ?_
 rintro W3 ⟨xR3, xA3, xB3, xI3, xK3, xJ3, xL3⟩
 have R3 : Hid (Rd W3 P s ere i' n' g' d') := xR3
 have A3 : Hid (W3.heap[W2.heap.size]? = some (rxo kk mn mx mm tt (.slice ad ll cc))) := xA3
 have B3 : Hid (W3.heap[w.heap.size]? = some rzo) := xB3
 have I3 : Hid (Is W3 (fun b => w.heap.size ≤ b ∧ b ≠ w.heap.size) r (rxv kk mn mx mm tt (.slice ad ll cc))) := xI3
 have K3 : Hid (Ks P w W3) := xK3
 have J3 : Hid (Is W3 (fun b => W1.heap.size ≤ b) r (rxv kk mn mx mm tt (.slice ad ll cc))) := xJ3
 have L3 : Hid (Ks P W1 W3) := xL3
 clear xR3 xA3 xB3 xI3 xK3 xJ3 xL3
 clear R2 I2 B2 K2 L2
 have a0 := bl_cell (A3.out) 0 _ rfl
 have a1 := bl_cell (A3.out) 1 _ rfl
 have a2 := bl_cell (A3.out) 2 _ rfl
 have a3 := bl_cell (A3.out) 3 _ rfl
 have a4 := bl_cell (A3.out) 4 _ rfl
 have a5 := bl_cell (A3.out) 5 _ rfl
 have a6 := bl_cell (A3.out) 6 _ rfl
 have a7 := bl_cell (A3.out) 7 _ rfl
 have a8 := bl_cell (A3.out) 8 _ rfl
 by_cases he : er = 0
 ·
  subst he
  obtain ⟨mr, hmr⟩ : ∃ mr, mayRep kk = mr := ⟨_, rfl⟩
  have RP : Hid (∀ w, Calls Tryz.prog 131 #[.int .i64 kk] w fun e w' => e = .returned (.bool mr) ∧ w' = w) := by
   intro w
   have := repeatable_any kk w
   rw [show (kk == 1 || kk == 5 || kk == 6) = mr from hmr] at this
   exact this
  have HMR := hid hmr
  clear hmr
  have j2 := (HGO.out.ok rfl).2.1
  go_wp2_with fail
  refine (RP.out _).mono ?_
  rintro e W3 ⟨rfl, rfl⟩
  cases mr with
  | false =>
   have E : Hid (pPart c s ere began ⟨i, n, g, d⟩ = ⟨r, 0, ⟨i', n', g', d'⟩⟩) := by show _ = _; rw [EO.out, if_pos (Or.inr (by rw [HKK.out, HMR.out]))]
   have b0 := bl_cell (B3.out) 0 _ rfl
   have fb0 := bl_frozen (B3.out) 0
   have b1 := bl_cell (B3.out) 1 _ rfl
   have fb1 := bl_frozen (B3.out) 1
   have b2 := bl_cell (B3.out) 2 _ rfl
   have fb2 := bl_frozen (B3.out) 2
   have b3 := bl_cell (B3.out) 3 _ rfl
   have fb3 := bl_frozen (B3.out) 3
   have b4 := bl_cell (B3.out) 4 _ rfl
   have fb4 := bl_frozen (B3.out) 4
   have b5 := bl_cell (B3.out) 5 _ rfl
   have fb5 := bl_frozen (B3.out) 5
   have b6 := bl_cell (B3.out) 6 _ rfl
   have fb6 := bl_frozen (B3.out) 6
   have b7 := bl_cell (B3.out) 7 _ rfl
   have fb7 := bl_frozen (B3.out) 7
   have b8 := bl_cell (B3.out) 8 _ rfl
   have fb8 := bl_frozen (B3.out) 8
   go_wp2_with fail
   refine bodyPost_ret (v := .tuple #[rxv kk mn mx mm tt (.slice ad ll cc), .int .i64 0]) (rx_ret2 rfl _ _ _ _ _ rfl rfl (bl_set9 B3.out _ _ _ _ _ _ _ _ _) rfl) rfl ?_
   rw [E.out]
   exact ⟨_, rfl, Ret.fin I3.out R3.out K3.out (ks_set9 _ _ _ _ _ _ _ _ _) hP (by omega)⟩
  | true =>
   have E : Hid (pPart c s ere began ⟨i, n, g, d⟩ = pRep s ere r ⟨i', n', g', d'⟩) := by
    show _ = _
    rw [EO.out, if_neg]
    intro h
    rcases h with h | h
    ·
     exact h rfl
    ·
     rw [show Rx.k r = kk from HKK.out, HMR.out] at h; cases h
   have hn' : n' ≤ 1000000000 := by have h1 := j2.n; have h2 := j2.i; simp only at h1 h2; omega
   have hi' : i' ≤ s.size := j2.i
   have hs3 : W2.heap.size < W3.heap.size := bl_lt A3.out
   go_wp2_with fail
   refine (repeated_any r kk mn mx mm tt ad ll cc s ere i' n' g' d' P W1 _ R3.out J3.out L3.out (by omega) hi' hs hn').mono ?_
   rintro e W4 ⟨⟨v, rfl, rr⟩⟩
   obtain ⟨kk', mn', mx', mm', tt', ad', ll', cc', rfl⟩ := rr.is.form
   have R4 := hid rr
   have B4 := hid (bl_ks B1.out (by omega) rr.ks)
   clear rr R3 A3 B3 I3 K3 J3 L3 a0 a1 a2 a3 a4 a5 a6 a7 a8
   have b0 := bl_cell (B4.out) 0 _ rfl
   have fb0 := bl_frozen (B4.out) 0
   have b1 := bl_cell (B4.out) 1 _ rfl
   have fb1 := bl_frozen (B4.out) 1
   have b2 := bl_cell (B4.out) 2 _ rfl
   have fb2 := bl_frozen (B4.out) 2
   have b3 := bl_cell (B4.out) 3 _ rfl
   have fb3 := bl_frozen (B4.out) 3
   have b4 := bl_cell (B4.out) 4 _ rfl
   have fb4 := bl_frozen (B4.out) 4
   have b5 := bl_cell (B4.out) 5 _ rfl
   have fb5 := bl_frozen (B4.out) 5
   have b6 := bl_cell (B4.out) 6 _ rfl
   have fb6 := bl_frozen (B4.out) 6
   have b7 := bl_cell (B4.out) 7 _ rfl
   have fb7 := bl_frozen (B4.out) 7
   have b8 := bl_cell (B4.out) 8 _ rfl
   have fb8 := bl_frozen (B4.out) 8
   go_wp2_with fail
   refine bodyPost_ret (v := .tuple #[rxv kk' mn' mx' mm' tt' (.slice ad' ll' cc'), .int .i64 ((pRep s ere r ⟨i', n', g', d'⟩).e : Nat)]) (rx_ret2 rfl _ _ _ _ _ rfl rfl (bl_set9 B4.out _ _ _ _ _ _ _ _ _) rfl) rfl ?_
   rw [E.out]
   exact ⟨_, rfl, R4.out.upset K1.out (ks_set9 _ _ _ _ _ _ _ _ _) hP (by omega) hs1⟩
 ·
  have ge : ((er : Int) != 0) = true := by simp; omega
  have E : Hid (pPart c s ere began ⟨i, n, g, d⟩ = ⟨r, er, ⟨i', n', g', d'⟩⟩) := by show _ = _; rw [EO.out, if_pos (Or.inl he)]
  have b0 := bl_cell (B3.out) 0 _ rfl
  have fb0 := bl_frozen (B3.out) 0
  have b1 := bl_cell (B3.out) 1 _ rfl
  have fb1 := bl_frozen (B3.out) 1
  have b2 := bl_cell (B3.out) 2 _ rfl
  have fb2 := bl_frozen (B3.out) 2
  have b3 := bl_cell (B3.out) 3 _ rfl
  have fb3 := bl_frozen (B3.out) 3
  have b4 := bl_cell (B3.out) 4 _ rfl
  have fb4 := bl_frozen (B3.out) 4
  have b5 := bl_cell (B3.out) 5 _ rfl
  have fb5 := bl_frozen (B3.out) 5
  have b6 := bl_cell (B3.out) 6 _ rfl
  have fb6 := bl_frozen (B3.out) 6
  have b7 := bl_cell (B3.out) 7 _ rfl
  have fb7 := bl_frozen (B3.out) 7
  have b8 := bl_cell (B3.out) 8 _ rfl
  have fb8 := bl_frozen (B3.out) 8
  go_wp2_with fail
  refine bodyPost_ret (v := .tuple #[rxv kk mn mx mm tt (.slice ad ll cc), .int .i64 (er : Int)]) (rx_ret2 rfl _ _ _ _ _ rfl rfl (bl_set9 B3.out _ _ _ _ _ _ _ _ _) rfl) rfl ?_
  rw [E.out]
  exact ⟨_, rfl, Ret.fin I3.out R3.out K3.out (ks_set9 _ _ _ _ _ _ _ _ _) hP (by omega)⟩
end Go.Proofs.YtommgdgilcemdaaGreatDoor
