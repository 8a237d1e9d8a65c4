/-
  Texts of this claim: One, Part, Row.
-/
import Derived.Test.YtigdmebijbaofaaGreatDoorReadDM4
import Derived.Test.YtigdmebijbaofaaGreatDoorReadDM16
import Derived.OwnWalk
import Derived.Deep.LoopGhost
/-! ### One -/
namespace Go.Proofs.YtigdmebijbaofaaGreatDoor
set_option maxHeartbeats 2000000
set_option maxRecDepth 100000
open Go.RowKit
attribute [local go_sem] field91
theorem not_zero (w : World) : Calls Tryz.prog 157 #[.agg #[.int .u64 0, .int .u64 0, .int .u64 0, .int .u64 0]] w fun e w' => e = .returned (sv (notB (fun _ => false))) ∧ Kp w w' := by
 have := not_any (fun _ => false) w
 rw [sv_none] at this
 exact this
theorem one_any (c : St → Out) (D k b z : Nat) (s : ByteArray) (ere : Bool) (i n g d P : Nat) (w : World) (HC : ChSaid c s ere D) (HGd : CGood c s) (h : Rd w P s ere i n g d) (hv : Inv s ⟨i, n, g, d⟩) (hD : d + D = 6) (hz : i + z ≤ s.size) (hz2 : z ≤ 2) (hz1 : k ≠ 1 → k ≠ 0 → 1 ≤ z) (hb : b < 256) (hb14 : k = 14 → 48 ≤ b ∧ b ≤ 57) (hs : s.size ≤ 1000000) :
  Calls Tryz.prog 205 #[.pointer (some ⟨P, 0, none⟩), .agg #[.int .i64 (k : Int), .int .u8 (b : Int), .int .i64 (z : Int)]] w fun e w' => RetE w P s ere (pOne c s ere k b z ⟨i, n, g, d⟩) e w' := by
 have R : Hid (Rd w P s ere i n g d) := h
 have hP : P < w.heap.size := h.lt
 clear h
 have hn : n ≤ 1000000000 := by have := hv.n; simp only at this; omega
 have hi : i ≤ 1000000000 := by omega
 have HZ1 := hid hz1
 have HB14 := hid hb14
 clear hz1 hb14
 go_enter Tryz.func205, Tryz.ntmps205
 go_upto_region 1 with fail
 refine opq (fun W0 => Rd W0 P s ere i n g d ∧ W0.heap[w.heap.size]? = some (sgo k b z) ∧ W0.heap[(w.heap.size + 1)]? = some rzo ∧ Ks P w W0) ⟨by exact R.out.kp kpt, by (first | exact last_at _ _ _ (by simp) | (refine bl_alloc ?_ _; first | exact last_at _ _ _ (by simp) | (refine bl_alloc ?_ _; first | exact last_at _ _ _ (by simp) | (refine bl_alloc ?_ _; exact last_at _ _ _ (by simp))))), by (first | exact last_at _ _ _ (by simp) | (refine bl_alloc ?_ _; first | exact last_at _ _ _ (by simp) | (refine bl_alloc ?_ _; first | exact last_at _ _ _ (by simp) | (refine bl_alloc ?_ _; exact last_at _ _ _ (by simp))))), by exact (Kp.ks kpt (Nat.le_of_lt hP))⟩ ?_
 rintro W0 ⟨xR0, xG0, xB0, xK0⟩
 have R0 := hidT xR0
 have G0 := hidT xG0
 have B0 := hidT xB0
 have K0 := hidT xK0
 clear xR0 xG0 xB0 xK0
 clear R
 have hsW : w.heap.size + 1 < W0.heap.size := bl_lt B0.out
 have hPW : P < W0.heap.size := by omega
 obtain ⟨q0, q1, q2⟩ := cells3 G0.out
 by_cases k2 : k = 2
 ·
  subst k2
  have E : Hid (pOne c s ere 2 b z ⟨i, n, g, d⟩ = pTake z (rset (addB (fun _ => false) b)) ⟨i, n, g, d⟩) := by show _ = _; unfold pOne; rw [if_pos rfl]
  go_upto_region 3 with fail
  have Q0 : Ks P W0 W0.drew := (Ks.refl _ _).drew
  have MK : Hid (∀ W, Ks P W0 W → W.cell? ⟨w.heap.size, 0, none⟩ = some (.int .i64 2) ∧ W.cell? ⟨w.heap.size, 1, none⟩ = some (.int .u8 (b : Int)) ∧ W.cell? ⟨w.heap.size, 2, none⟩ = some (.int .i64 (z : Int)) ∧ Hid (Ks P W0 W)) := fun W k => ⟨bl_cell (bl_ks G0.out (by omega) k) 0 _ rfl, bl_cell (bl_ks G0.out (by omega) k) 1 _ rfl, bl_cell (bl_ks G0.out (by omega) k) 2 _ rfl, k⟩
  refine wp_region_noPanic ?_
  refine hdrewZ 10 MK Q0 (fun hH => ?_)
  have KQ := Q0
  refine zk 10 0 [] (some 10) (.move (.tmp 0)) 142 (v := ?v0a21) rfl ?h0a21 hH ?_
  case h0a21 => intro _ _; go_simp; try with_reducible rfl
  try simp only [ps]
  refine zk 10 1 [] (some 11) (.load 173 (.tmp 3)) 173 (v := ?v1a22) rfl ?h1a22 hH ?_
  case h1a22 => intro _ _; go_simp; try with_reducible rfl
  try simp only [ps]
  refine zk 10 2 [] (some 12) (.fieldAddr 173 (.tmp 3) 1) 0 (v := ?v2a23) rfl ?h2a23 hH ?_
  case h2a23 => intro _ _; go_simp; try with_reducible rfl
  try simp only [ps]
  refine zk 10 3 [] (some 13) (.load 5 (.tmp 12)) 5 (v := ?v3a24) rfl ?h3a24 hH ?_
  case h3a24 => intro _ _; go_simp; try with_reducible rfl
  try simp only [ps]
  refine anyZ_ready (rs := [4]) (by kernel_rfl) (by simp) ?_
  refine AllZ.cons (o := { dst := some 14, op := Op.buildSlice 59 1 #[(0, Operand.tmp 13)], type := 59, pos := "parse.go:120", after := _, guard := none }) rfl (fun K hKq => ?_) AllZ.nil
  go_simp
  refine hKq.out _ _ (MK.out _ (KQ.kpt ((Kp.refl _).alloc _) hPW)) (fun hN => ?_)
  clear hKq K hH KQ
  have hH := hN
  clear hN
  have KQ := hH.2.2.2.out
  try simp only [ps]
  refine anyZ_ready (rs := [5]) (by kernel_rfl) (by simp) ?_
  refine AllZ.cons (o := { dst := some 15, op := Op.call { callee := Callee.value (Operand.func 220), args := #[Operand.tmp 14], argTypes := #[59] }, type := 24, pos := "parse.go:120", after := _, guard := none }) rfl (fun K hKq => ?_) AllZ.nil
  go_simp
  refine (of1 b _ W0.heap.size (by simp [World.drew]) (bl_cell (last_drew _ _) 0 _ rfl) hb).mono ?_
  rintro e ya ⟨rfl, kq⟩
  have KA : Hid (Kp W0 ya) := (((Kp.refl _).alloc _).drew).trans kq
  refine hKq.out _ _ (MK.out _ (KQ.kpt kq hPW)) (fun hN => ?_)
  clear kq
  clear hKq K hH KQ
  have hH := hN
  clear hN
  have KQ := hH.2.2.2.out
  try simp only [ps]
  refine anyZ_ready (rs := [6]) (by kernel_rfl) (by simp) ?_
  refine AllZ.cons (o := { dst := some 16, op := Op.call { callee := Callee.value (Operand.func 230), args := #[Operand.tmp 15], argTypes := #[24] }, type := 27, pos := "parse.go:120", after := _, guard := none }) rfl (fun K hKq => ?_) AllZ.nil
  go_simp
  refine (oneOf_any (addB (fun _ => false) b) _).mono ?_
  rintro e yb ⟨rfl, kq⟩
  have KB : Hid (Kp W0 yb) := KA.out.trans kq
  refine hKq.out _ _ (MK.out _ (KQ.kpt kq hPW)) (fun hN => ?_)
  clear kq KA
  clear hKq K hH KQ
  have hH := hN
  clear hN
  have KQ := hH.2.2.2.out
  try simp only [ps]
  refine anyZ_ready (rs := [7]) (by kernel_rfl) (by simp) ?_
  refine AllZ.cons (o := { dst := some 17, op := Op.call { callee := Callee.value (Operand.func 229), args := #[Operand.tmp 10, Operand.tmp 11, Operand.tmp 16], argTypes := #[142, 173, 27] }, type := 100, pos := "parse.go:120", after := _, guard := none }) rfl (fun K hKq => ?_) AllZ.nil
  go_simp
  refine (take_any 2 b z 1 0 0 0 (W4.of (addB (fun _ => false) b)) none 0 0 s ere i n g d P _ (R0.out.kp KB.out) hi (by omega) hn).mono ?_
  rintro e yc ⟨rfl, rr, kq⟩
  have R2 := hid rr
  have B2 : Hid (yc.heap[w.heap.size + 1]? = some rzo) := bl_ks (bl_kp B0.out KB.out) (by omega) kq
  have K2 : Hid (Ks P w yc) := (K0.out.kpt KB.out hP).trans kq
  refine hKq.out _ _ (MK.out _ (KQ.trans kq)) (fun hN => ?_)
  clear kq rr KB
  clear hKq K hH KQ
  have hH := hN
  clear hN
  have KQ := hH.2.2.2.out
  try simp only [ps]
  refine zk 10 8 [] (some 18) (.extract (.tmp 17) 0) 27 (v := ?v8a25) rfl ?h8a25 hH ?_
  case h8a25 => intro _ _; go_simp; try with_reducible rfl
  try simp only [ps]
  refine zk 10 9 [] (some 19) (.extract (.tmp 17) 1) 28 (v := ?v9a26) rfl ?h9a26 hH ?_
  case h9a26 => intro _ _; go_simp; try with_reducible rfl
  try simp only [ps]
  refine anyZ_ready (rs := [10]) (by kernel_rfl) (by simp) ?_
  refine AllZ.last (o := { dst := none, op := Op.store 27 (Operand.tmp 4) (Operand.tmp 18), type := 0, pos := "parse.go:120", after := _, guard := none }) rfl (Or.inl rfl) (fun K hKq => ?_) AllZ.nil
  obtain ⟨b0, fb0, b1, fb1, b2, fb2, b3, fb3, b4, fb4, b5, fb5, b6, fb6, b7, fb7, b8, fb8⟩ := cellf9 (B2.out)
  go_simp
  refine hKq.out _ _ ?_
  clear hKq K
  try simp only [ps]
  refine anyZ_ready (rs := [11]) (by kernel_rfl) (by simp) ?_
  refine AllZ.last (o := { dst := some 5, op := Op.assign (Operand.tmp 19), type := 28, pos := "parse.go:120", after := _, guard := none }) rfl (Or.inr (by kernel_rfl)) (fun K hKq => ?_) AllZ.nil
  go_simp
  refine hKq.out _ _ ?_
  clear hKq K
  try simp only [ps]
  refine anyZ_done (by kernel_rfl) ?_ _
  refine NoPanic.normal ?_
  go_wp2_with fail
  refine bodyPost_ret (v := .tuple #[rxv 1 0 0 0 (W4.of (addB (fun _ => false) b)) (.slice none 0 0), .int .i64 0]) (rx_ret2 rfl _ _ _ _ _ rfl rfl (bl_set9 B2.out _ _ _ _ _ _ _ _ _) rfl) rfl ?_
  rw [E.out]
  exact ⟨_, rfl, Ret.fin (Is.leaf _ _ _ _ _ _ _) R2.out K2.out (ks_set9 _ _ _ _ _ _ _ _ _) hP (by omega)⟩
 by_cases k3 : k = 3
 ·
  subst k3
  have E : Hid (pOne c s ere 3 b z ⟨i, n, g, d⟩ = pTake z (rset (notB (fun _ => false))) ⟨i, n, g, d⟩) := by show _ = _; unfold pOne; rw [if_neg (by omega), if_pos rfl]
  go_upto_region 5 with fail
  have Q0 : Ks P W0 W0.drew := (Ks.refl _ _).drew
  have MK : Hid (∀ W, Ks P W0 W → W.cell? ⟨w.heap.size, 0, none⟩ = some (.int .i64 3) ∧ W.cell? ⟨w.heap.size, 1, none⟩ = some (.int .u8 (b : Int)) ∧ W.cell? ⟨w.heap.size, 2, none⟩ = some (.int .i64 (z : Int)) ∧ Hid (Ks P W0 W)) := fun W k => ⟨bl_cell (bl_ks G0.out (by omega) k) 0 _ rfl, bl_cell (bl_ks G0.out (by omega) k) 1 _ rfl, bl_cell (bl_ks G0.out (by omega) k) 2 _ rfl, k⟩
  refine wp_region_noPanic ?_
  refine hdrewZ 8 MK Q0 (fun hH => ?_)
  have KQ := Q0
  refine zk 8 0 [] (some 22) (.move (.tmp 0)) 142 (v := ?v0a31) rfl ?h0a31 hH ?_
  case h0a31 => intro _ _; go_simp; try with_reducible rfl
  try simp only [ps]
  refine zk 8 1 [] (some 23) (.load 173 (.tmp 3)) 173 (v := ?v1a32) rfl ?h1a32 hH ?_
  case h1a32 => intro _ _; go_simp; try with_reducible rfl
  try simp only [ps]
  refine zk 8 2 [] (some 24) (.build 24 #[]) 24 (v := ?v2a33) rfl ?h2a33 hH ?_
  case h2a33 => intro _ _; go_simp; try with_reducible rfl
  try simp only [ps]
  refine anyZ_ready (rs := [3]) (by kernel_rfl) (by simp) ?_
  refine AllZ.cons (o := { dst := some 25, op := Op.call { callee := Callee.value (Operand.func 157), args := #[Operand.tmp 24], argTypes := #[24] }, type := 24, pos := "parse.go:122", after := _, guard := none }) rfl (fun K hKq => ?_) AllZ.nil
  go_simp
  refine (not_zero _).mono ?_
  rintro e ya ⟨rfl, kq⟩
  have KA : Hid (Kp W0 ya) := ((Kp.refl _).drew).trans kq
  refine hKq.out _ _ (MK.out _ (KQ.kpt kq hPW)) (fun hN => ?_)
  clear kq
  clear hKq K hH KQ
  have hH := hN
  clear hN
  have KQ := hH.2.2.2.out
  try simp only [ps]
  refine anyZ_ready (rs := [4]) (by kernel_rfl) (by simp) ?_
  refine AllZ.cons (o := { dst := some 26, op := Op.call { callee := Callee.value (Operand.func 230), args := #[Operand.tmp 25], argTypes := #[24] }, type := 27, pos := "parse.go:122", after := _, guard := none }) rfl (fun K hKq => ?_) AllZ.nil
  go_simp
  refine (oneOf_any (notB (fun _ => false)) _).mono ?_
  rintro e yb ⟨rfl, kq⟩
  have KB : Hid (Kp W0 yb) := KA.out.trans kq
  refine hKq.out _ _ (MK.out _ (KQ.kpt kq hPW)) (fun hN => ?_)
  clear kq KA
  clear hKq K hH KQ
  have hH := hN
  clear hN
  have KQ := hH.2.2.2.out
  try simp only [ps]
  refine anyZ_ready (rs := [5]) (by kernel_rfl) (by simp) ?_
  refine AllZ.cons (o := { dst := some 27, op := Op.call { callee := Callee.value (Operand.func 229), args := #[Operand.tmp 22, Operand.tmp 23, Operand.tmp 26], argTypes := #[142, 173, 27] }, type := 100, pos := "parse.go:122", after := _, guard := none }) rfl (fun K hKq => ?_) AllZ.nil
  go_simp
  refine (take_any 3 b z 1 0 0 0 (W4.of (notB (fun _ => false))) none 0 0 s ere i n g d P _ (R0.out.kp KB.out) hi (by omega) hn).mono ?_
  rintro e yc ⟨rfl, rr, kq⟩
  have R2 := hid rr
  have B2 : Hid (yc.heap[w.heap.size + 1]? = some rzo) := bl_ks (bl_kp B0.out KB.out) (by omega) kq
  have K2 : Hid (Ks P w yc) := (K0.out.kpt KB.out hP).trans kq
  refine hKq.out _ _ (MK.out _ (KQ.trans kq)) (fun hN => ?_)
  clear kq rr KB
  clear hKq K hH KQ
  have hH := hN
  clear hN
  have KQ := hH.2.2.2.out
  try simp only [ps]
  refine zk 8 6 [] (some 28) (.extract (.tmp 27) 0) 27 (v := ?v6a34) rfl ?h6a34 hH ?_
  case h6a34 => intro _ _; go_simp; try with_reducible rfl
  try simp only [ps]
  refine zk 8 7 [] (some 29) (.extract (.tmp 27) 1) 28 (v := ?v7a35) rfl ?h7a35 hH ?_
  case h7a35 => intro _ _; go_simp; try with_reducible rfl
  try simp only [ps]
  refine anyZ_ready (rs := [8]) (by kernel_rfl) (by simp) ?_
  refine AllZ.last (o := { dst := none, op := Op.store 27 (Operand.tmp 4) (Operand.tmp 28), type := 0, pos := "parse.go:122", after := _, guard := none }) rfl (Or.inl rfl) (fun K hKq => ?_) AllZ.nil
  obtain ⟨b0, fb0, b1, fb1, b2, fb2, b3, fb3, b4, fb4, b5, fb5, b6, fb6, b7, fb7, b8, fb8⟩ := cellf9 (B2.out)
  go_simp
  refine hKq.out _ _ ?_
  clear hKq K
  try simp only [ps]
  refine anyZ_ready (rs := [9]) (by kernel_rfl) (by simp) ?_
  refine AllZ.last (o := { dst := some 5, op := Op.assign (Operand.tmp 29), type := 28, pos := "parse.go:122", after := _, guard := none }) rfl (Or.inr (by kernel_rfl)) (fun K hKq => ?_) AllZ.nil
  go_simp
  refine hKq.out _ _ ?_
  clear hKq K
  try simp only [ps]
  refine anyZ_done (by kernel_rfl) ?_ _
  refine NoPanic.normal ?_
  go_wp2_with fail
  refine bodyPost_ret (v := .tuple #[rxv 1 0 0 0 (W4.of (notB (fun _ => false))) (.slice none 0 0), .int .i64 0]) (rx_ret2 rfl _ _ _ _ _ rfl rfl (bl_set9 B2.out _ _ _ _ _ _ _ _ _) rfl) rfl ?_
  rw [E.out]
  exact ⟨_, rfl, Ret.fin (Is.leaf _ _ _ _ _ _ _) R2.out K2.out (ks_set9 _ _ _ _ _ _ _ _ _) hP (by omega)⟩
 by_cases k5 : k = 5
 ·
  subst k5
  have E : Hid (pOne c s ere 5 b z ⟨i, n, g, d⟩ = pTake z (.mk 7 0 0 0 W4.z []) ⟨i, n, g, d⟩) := by show _ = _; unfold pOne; rw [if_neg (by omega), if_neg (by omega), if_pos rfl]
  go_wp2_with fail
  refine (take_any0 5 b z 7 0 0 0 none 0 0 s ere i n g d P _ R0.out hi (by omega) hn).mono ?_
  rintro e W2 ⟨rfl, rr, kq⟩
  have R2 := hid rr
  have B2 : Hid (W2.heap[w.heap.size + 1]? = some rzo) := bl_ks B0.out (by omega) kq
  have K2 : Hid (Ks P w W2) := K0.out.trans kq
  clear kq rr q0 q1 q2 R0 G0 B0 K0
  obtain ⟨b0, fb0, b1, fb1, b2, fb2, b3, fb3, b4, fb4, b5, fb5, b6, fb6, b7, fb7, b8, fb8⟩ := cellf9 (B2.out)
  go_wp2_with fail
  refine bodyPost_ret (v := .tuple #[rxv 7 0 0 0 W4.z (.slice none 0 0), .int .i64 0]) (rx_ret2 rfl _ _ _ _ _ rfl rfl (bl_set9 B2.out _ _ _ _ _ _ _ _ _) rfl) rfl ?_
  rw [E.out]
  exact ⟨_, rfl, Ret.fin (Is.leaf _ _ _ _ _ _ _) R2.out K2.out (ks_set9 _ _ _ _ _ _ _ _ _) hP (by omega)⟩
 by_cases k6 : k = 6
 ·
  subst k6
  have E : Hid (pOne c s ere 6 b z ⟨i, n, g, d⟩ = pTake z (.mk 8 0 0 0 W4.z []) ⟨i, n, g, d⟩) := by show _ = _; unfold pOne; rw [if_neg (by omega), if_neg (by omega), if_neg (by omega), if_pos rfl]
  go_wp2_with fail
  refine (take_any0 6 b z 8 0 0 0 none 0 0 s ere i n g d P _ R0.out hi (by omega) hn).mono ?_
  rintro e W2 ⟨rfl, rr, kq⟩
  have R2 := hid rr
  have B2 : Hid (W2.heap[w.heap.size + 1]? = some rzo) := bl_ks B0.out (by omega) kq
  have K2 : Hid (Ks P w W2) := K0.out.trans kq
  clear kq rr q0 q1 q2 R0 G0 B0 K0
  obtain ⟨b0, fb0, b1, fb1, b2, fb2, b3, fb3, b4, fb4, b5, fb5, b6, fb6, b7, fb7, b8, fb8⟩ := cellf9 (B2.out)
  go_wp2_with fail
  refine bodyPost_ret (v := .tuple #[rxv 8 0 0 0 W4.z (.slice none 0 0), .int .i64 0]) (rx_ret2 rfl _ _ _ _ _ rfl rfl (bl_set9 B2.out _ _ _ _ _ _ _ _ _) rfl) rfl ?_
  rw [E.out]
  exact ⟨_, rfl, Ret.fin (Is.leaf _ _ _ _ _ _ _) R2.out K2.out (ks_set9 _ _ _ _ _ _ _ _ _) hP (by omega)⟩
 by_cases k14 : k = 14
 ·
  subst k14
  have E : Hid (pOne c s ere 14 b z ⟨i, n, g, d⟩ = pBack b z ⟨i, n, g, d⟩) := by show _ = _; unfold pOne; rw [if_neg (by omega), if_neg (by omega), if_neg (by omega), if_neg (by omega), if_pos rfl]
  go_wp2_with fail
  refine (back_any 14 b z s ere i n g d P _ R0.out hi (by omega) hn (HB14.out (by trivial)).1 (HB14.out (by trivial)).2).mono ?_
  rintro e W2 ⟨v, rfl, rr⟩
  obtain ⟨kk, mn, mx, mm, tt, ad, ll, cc, rfl⟩ := rr.is.form
  have B2 : Hid (W2.heap[w.heap.size + 1]? = some rzo) := bl_ks B0.out (by omega) rr.ks
  have RR := hid rr
  rw [← E.out] at RR ⊢
  have RR' := RR
  clear rr RR q0 q1 q2
  obtain ⟨b0, fb0, b1, fb1, b2, fb2, b3, fb3, b4, fb4, b5, fb5, b6, fb6, b7, fb7, b8, fb8⟩ := cellf9 (B2.out)
  go_wp2_with fail
  refine bodyPost_ret (v := .tuple #[rxv kk mn mx mm tt (.slice ad ll cc), .int .i64 ((pOne c s ere 14 b z ⟨i, n, g, d⟩).e : Nat)]) (rx_ret2 rfl _ _ _ _ _ rfl rfl (bl_set9 B2.out _ _ _ _ _ _ _ _ _) rfl) rfl ?_
  exact ⟨_, rfl, RR'.out.upset K0.out (ks_set9 _ _ _ _ _ _ _ _ _) hP (by omega) hsW⟩
 by_cases k4 : k = 4
 ·
  subst k4
  have E : Hid (pOne c s ere 4 b z ⟨i, n, g, d⟩ = pBracket s ⟨i, n, g, d⟩) := by show _ = _; unfold pOne; rw [if_neg (by omega), if_neg (by omega), if_neg (by omega), if_neg (by omega), if_neg (by omega), if_pos rfl]
  go_wp2_with fail
  refine (bracket_any s ere i n g d P _ R0.out (by have := HZ1.out (by omega) (by omega); omega) hs hn).mono ?_
  rintro e W2 ⟨⟨v, rfl, rr⟩⟩
  obtain ⟨kk, mn, mx, mm, tt, ad, ll, cc, rfl⟩ := rr.is.form
  have B2 : Hid (W2.heap[w.heap.size + 1]? = some rzo) := bl_ks B0.out (by omega) rr.ks
  have RR := hid rr
  rw [← E.out] at RR ⊢
  have RR' := RR
  clear rr RR q0 q1 q2
  obtain ⟨b0, fb0, b1, fb1, b2, fb2, b3, fb3, b4, fb4, b5, fb5, b6, fb6, b7, fb7, b8, fb8⟩ := cellf9 (B2.out)
  go_wp2_with fail
  refine bodyPost_ret (v := .tuple #[rxv kk mn mx mm tt (.slice ad ll cc), .int .i64 ((pOne c s ere 4 b z ⟨i, n, g, d⟩).e : Nat)]) (rx_ret2 rfl _ _ _ _ _ rfl rfl (bl_set9 B2.out _ _ _ _ _ _ _ _ _) rfl) rfl ?_
  exact ⟨_, rfl, RR'.out.upset K0.out (ks_set9 _ _ _ _ _ _ _ _ _) hP (by omega) hsW⟩
 by_cases k7 : k = 7
 ·
  subst k7
  have E : Hid (pOne c s ere 7 b z ⟨i, n, g, d⟩ = pGroup c s ere z ⟨i, n, g, d⟩) := by show _ = _; unfold pOne; rw [if_neg (by omega), if_neg (by omega), if_neg (by omega), if_neg (by omega), if_neg (by omega), if_neg (by omega), if_pos rfl]
  go_wp2_with fail
  refine (group_any c D 7 b z s ere i n g d P _ HC HGd R0.out hv hD hz (HZ1.out (by omega) (by omega)) hz2 hs).mono ?_
  rintro e W2 ⟨⟨v, rfl, rr⟩⟩
  obtain ⟨kk, mn, mx, mm, tt, ad, ll, cc, rfl⟩ := rr.is.form
  have B2 : Hid (W2.heap[w.heap.size + 1]? = some rzo) := bl_ks B0.out (by omega) rr.ks
  have RR := hid rr
  rw [← E.out] at RR ⊢
  have RR' := RR
  clear rr RR q0 q1 q2
  obtain ⟨b0, fb0, b1, fb1, b2, fb2, b3, fb3, b4, fb4, b5, fb5, b6, fb6, b7, fb7, b8, fb8⟩ := cellf9 (B2.out)
  go_wp2_with fail
  refine bodyPost_ret (v := .tuple #[rxv kk mn mx mm tt (.slice ad ll cc), .int .i64 ((pOne c s ere 7 b z ⟨i, n, g, d⟩).e : Nat)]) (rx_ret2 rfl _ _ _ _ _ rfl rfl (bl_set9 B2.out _ _ _ _ _ _ _ _ _) rfl) rfl ?_
  exact ⟨_, rfl, RR'.out.upset K0.out (ks_set9 _ _ _ _ _ _ _ _ _) hP (by omega) hsW⟩
 have g2 : ((k : Int) == 2) = false := by simp; omega
 have g3 : ((k : Int) == 3) = false := by simp; omega
 have g5 : ((k : Int) == 5) = false := by simp; omega
 have g6 : ((k : Int) == 6) = false := by simp; omega
 have g14 : ((k : Int) == 14) = false := by simp; omega
 have g4 : ((k : Int) == 4) = false := by simp; omega
 have g7 : ((k : Int) == 7) = false := by simp; omega
 have E : Hid (pOne c s ere k b z ⟨i, n, g, d⟩ = ⟨rx0, 1, ⟨i, n, g, d⟩⟩) := by show _ = _; unfold pOne; rw [if_neg k2, if_neg k3, if_neg k5, if_neg k6, if_neg k14, if_neg k4, if_neg k7]
 obtain ⟨b0, fb0, b1, fb1, b2, fb2, b3, fb3, b4, fb4, b5, fb5, b6, fb6, b7, fb7, b8, fb8⟩ := cellf9 (B0.out)
 go_wp2_with fail
 refine bodyPost_ret (v := .tuple #[rz, .int .i64 1]) (rx_ret2 rfl _ _ _ _ _ rfl rfl (bl_set9 B0.out _ _ _ _ _ _ _ _ _) rfl) rfl ?_
 rw [E.out]
 exact ⟨_, rfl, Ret.fail R0.out K0.out (ks_set9 _ _ _ _ _ _ _ _ _) hP (by omega)⟩
attribute [local go_sem] field91
theorem qs_dig (b : Nat) (ere : Bool) (hb : b < 256) : (qs b ere).2.1 < 256 ∧ ((qs b ere).1 = 14 → 48 ≤ (qs b ere).2.1 ∧ (qs b ere).2.1 ≤ 57) := by
 unfold qs
 split
 ·
  exact ⟨by show 10 < 256; omega, fun h => by cases h⟩
 split
 ·
  rename_i h; exact ⟨hb, fun _ => (rng_dig b).1 h⟩
 split
 ·
  exact ⟨hb, fun h => by cases h⟩
 split
 ·
  exact ⟨by show 0 < 256; omega, fun h => by cases h⟩
 ·
  refine ⟨hb, fun h => ?_⟩
  have h' : framing b = 14 := h
  unfold framing at h'
  split at h'
  ·
   omega
  split at h'
  ·
   omega
  split at h' <;> omega
theorem bare_ne (b : Nat) (ere : Bool) (hb : b < 256) : bare b ere ≠ 14 := (by decide +kernel : ∀ (b : Fin 256) (e : Bool), bare b.val e ≠ 14) ⟨b, hb⟩ ere
theorem sgn_dig (s : ByteArray) (ere : Bool) (i : Nat) : (sgn s ere i).2.1 < 256 ∧ ((sgn s ere i).1 = 14 → 48 ≤ (sgn s ere i).2.1 ∧ (sgn s ere i).2.1 ≤ 57) := by
 unfold sgn
 split
 ·
  exact ⟨by show 0 < 256; omega, fun h => by cases h⟩
 split
 ·
  unfold quoted
  split
  ·
   exact ⟨by show 0 < 256; omega, fun h => by cases h⟩
  ·
   exact qs_dig _ _ (ch_lt _ _)
 ·
  exact ⟨ch_lt _ _, fun h => absurd h (bare_ne _ _ (ch_lt _ _))⟩
theorem sgnIn_dig (s : ByteArray) (ere : Bool) (began i : Nat) : (sgnIn s ere began i).2.1 < 256 ∧ ((sgnIn s ere began i).1 = 14 → 48 ≤ (sgnIn s ere began i).2.1 ∧ (sgnIn s ere began i).2.1 ≤ 57) := by
 have h := sgn_dig s ere i
 unfold sgnIn
 dsimp only
 split
 ·
  exact h
 split
 ·
  exact ⟨h.1, fun h => by cases h⟩
 ·
  exact h
theorem Is.kind {w : World} {ok : Nat → Prop} {r : Rx} {k mn mx n : Int} {s : W4} {ks : Value} (h : Is w ok r (rxv k mn mx n s ks)) : r.k = k := by
 cases r with
 | mk k' mn' mx' n' s' kids =>
  unfold Is at h
  obtain ⟨ad, l, c, he, _⟩ := h
  injection he with he
  injection he with he
  simp at he
  exact he.1.symm
theorem part_any (c : St → Out) (D began : Nat) (s : ByteArray) (ere : Bool) (i n g d P : Nat) (w : World) (HC : ChSaid c s ere D) (HGd : CGood c s) (h : Rd w P s ere i n g d) (hv : Inv s ⟨i, n, g, d⟩) (hD : d + D = 6) (hbg : began ≤ i) (hs : s.size ≤ 1000000) :
  Calls Tryz.prog 174 #[.pointer (some ⟨P, 0, none⟩), .int .i64 (began : Int)] w fun e w' => RetE w P s ere (pPart c s ere began ⟨i, n, g, d⟩) e w' := by
 have R : Hid (Rd w P s ere i n g d) := h
 have hP : P < w.heap.size := h.lt
 clear h
 have hi : i ≤ s.size := hv.i
 obtain ⟨k, b, z, hg⟩ : ∃ x y z, sgnIn s ere began i = (x, y, z) := ⟨_, _, _, rfl⟩
 have hz := sgnIn_sz s ere began i hi
 have hd := sgnIn_dig s ere began i
 rw [hg] at hz hd
 obtain ⟨hz1, hz2, hz3⟩ := hz
 obtain ⟨hd1, hd2⟩ := hd
 simp only at hz1 hz2 hz3 hd1 hd2
 have hgood := pOne_good (ere := ere) (b := b) HGd hv hz1 hz3
 have HZ3 := hid hz3
 have HD2 := hid hd2
 have HG := hid hg
 clear hg hz3 hd2
 obtain ⟨o, ho⟩ : ∃ o, pOne c s ere k b z ⟨i, n, g, d⟩ = o := ⟨_, rfl⟩
 have ONE : Hid (∀ w, Rd w P s ere i n g d → Calls Tryz.prog 205 #[.pointer (some ⟨P, 0, none⟩), .agg #[.int .i64 (k : Int), .int .u8 (b : Int), .int .i64 (z : Int)]] w fun e w' => RetE w P s ere o e w') := by
  intro w h
  have := one_any c D k b z s ere i n g d P w HC HGd h hv hD hz1 hz2 HZ3.out hd1 HD2.out hs
  rw [ho] at this
  exact this
 have EO : Hid (pPart c s ere began ⟨i, n, g, d⟩ = if o.e ≠ 0 ∨ mayRep o.r.k = false then o else pRep s ere o.r o.st) := by
  show _ = _
  unfold pPart
  rw [HG.out, ← ho]
 rw [ho] at hgood
 have HGO := hid hgood
 clear ho hgood HZ3 HD2
 obtain ⟨r, er, ⟨i', n', g', d'⟩⟩ := o
 go_enter Tryz.func174, Tryz.ntmps174
 go_upto_region 1 with fail
 refine opq (fun W0 => Rd W0 P s ere i n g d ∧ W0.heap[w.heap.size]? = some rzo ∧ Ks P w W0) ⟨by exact R.out.kp kpt, by (first | exact last_at _ _ _ (by simp) | (refine bl_alloc ?_ _; first | exact last_at _ _ _ (by simp) | (refine bl_alloc ?_ _; first | exact last_at _ _ _ (by simp) | (refine bl_alloc ?_ _; exact last_at _ _ _ (by simp))))), by exact (Kp.ks kpt (Nat.le_of_lt hP))⟩ ?_
 rintro W0 ⟨xR0, xB0, xK0⟩
 have R0 := hidT xR0
 have B0 := hidT xB0
 have K0 := hidT xK0
 clear xR0 xB0 xK0
 clear R
 go_wp2_with fail
 refine (signIn_any began s ere i n g d P _ R0.out hi hbg hs).mono ?_
 rintro e W1 ⟨rfl, k1⟩
 rw [HG.out, sg3]
 have R1 := hid (R0.out.kp k1)
 have B1 := hid (bl_kp B0.out k1)
 have K1 := hid (K0.out.kpt k1 hP)
 clear k1 R0 B0 K0
 go_wp2_with fail
 refine (ONE.out _ R1.out).mono ?_
 rintro e W2 ⟨⟨v, rfl, rr⟩⟩
 obtain ⟨kk, mn, mx, mm, tt, ad, ll, cc, rfl⟩ := rr.is.form
 have hs1 : w.heap.size < W1.heap.size := bl_lt B1.out
 have hs2 := rr.ks.size
 have hkk : r.k = kk := rr.is.kind
 have HKK := hid hkk
 have R2 : Hid (Rd W2 P s ere i' n' g' d') := rr.rd
 have I2 : Hid (Is W2 (fun b => W1.heap.size ≤ b) r (rxv kk mn mx mm tt (.slice ad ll cc))) := rr.is
 have B2 := hid (bl_ks B1.out (by omega) rr.ks)
 have K2 := hid (K1.out.trans rr.ks)
 have L2 := hid rr.ks
 clear rr hkk R1 ONE
 dsimp only
 go_upto_region 2 with fail
 refine opq (fun W3 => Rd W3 P s ere i' n' g' d' ∧ W3.heap[W2.heap.size]? = some (rxo kk mn mx mm tt (.slice ad ll cc)) ∧ W3.heap[w.heap.size]? = some rzo ∧ Is W3 (fun b => w.heap.size ≤ b ∧ b ≠ w.heap.size) r (rxv kk mn mx mm tt (.slice ad ll cc)) ∧ Ks P w W3 ∧ Is W3 (fun b => W1.heap.size ≤ b) r (rxv kk mn mx mm tt (.slice ad ll cc)) ∧ Ks P W1 W3) ⟨by exact R2.out.kp kpt, by (first | exact last_at _ _ _ (by simp) | (refine bl_alloc ?_ _; first | exact last_at _ _ _ (by simp) | (refine bl_alloc ?_ _; first | exact last_at _ _ _ (by simp) | (refine bl_alloc ?_ _; exact last_at _ _ _ (by simp))))), by exact bl_kp B2.out kpt, by exact (I2.out.weak (ok' := fun b => w.heap.size ≤ b ∧ b ≠ w.heap.size) (fun _ hb _ => ⟨by omega, by omega⟩)).kp kpt, by exact K2.out.kpt kpt hP, by exact I2.out.kp kpt, by exact L2.out.kpt kpt (by omega)⟩ ?_
 rintro W3 ⟨xR3, xA3, xB3, xI3, xK3, xJ3, xL3⟩
 have R3 := hidT xR3
 have A3 := hidT xA3
 have B3 := hidT xB3
 have I3 := hidT xI3
 have K3 := hidT xK3
 have J3 := hidT xJ3
 have L3 := hidT xL3
 clear xR3 xA3 xB3 xI3 xK3 xJ3 xL3
 clear R2 I2 B2 K2 L2
 obtain ⟨a0, a1, a2, a3, a4, a5, a6, a7, a8⟩ := cells9 (A3.out)
 by_cases he : er = 0
 ·
  subst he
  obtain ⟨mr, hmr⟩ : ∃ mr, mayRep kk = mr := ⟨_, rfl⟩
  have RP : Hid (∀ w, Calls Tryz.prog 189 #[.int .i64 kk] w fun e w' => e = .returned (.bool mr) ∧ w' = w) := by
   intro w
   have := repeatable_any kk w
   rw [show (kk == 1 || kk == 5 || kk == 6) = mr from hmr] at this
   exact this
  have HMR := hid hmr
  clear hmr
  have j2 := (HGO.out.ok rfl).2.1
  go_wp2_with fail
  refine (RP.out _).mono ?_
  rintro e W3 ⟨rfl, rfl⟩
  cases mr with
  | false =>
   have E : Hid (pPart c s ere began ⟨i, n, g, d⟩ = ⟨r, 0, ⟨i', n', g', d'⟩⟩) := by show _ = _; rw [EO.out, if_pos (Or.inr (by rw [HKK.out, HMR.out]))]
   obtain ⟨b0, fb0, b1, fb1, b2, fb2, b3, fb3, b4, fb4, b5, fb5, b6, fb6, b7, fb7, b8, fb8⟩ := cellf9 (B3.out)
   go_wp2_with fail
   refine bodyPost_ret (v := .tuple #[rxv kk mn mx mm tt (.slice ad ll cc), .int .i64 0]) (rx_ret2 rfl _ _ _ _ _ rfl rfl (bl_set9 B3.out _ _ _ _ _ _ _ _ _) rfl) rfl ?_
   rw [E.out]
   exact ⟨_, rfl, Ret.fin I3.out R3.out K3.out (ks_set9 _ _ _ _ _ _ _ _ _) hP (by omega)⟩
  | true =>
   have E : Hid (pPart c s ere began ⟨i, n, g, d⟩ = pRep s ere r ⟨i', n', g', d'⟩) := by
    show _ = _
    rw [EO.out, if_neg]
    intro h
    rcases h with h | h
    ·
     exact h rfl
    ·
     rw [show Rx.k r = kk from HKK.out, HMR.out] at h; cases h
   have hn' : n' ≤ 1000000000 := by have h1 := j2.n; have h2 := j2.i; simp only at h1 h2; omega
   have hi' : i' ≤ s.size := j2.i
   have hs3 : W2.heap.size < W3.heap.size := bl_lt A3.out
   go_wp2_with fail
   refine (repeated_any r kk mn mx mm tt ad ll cc s ere i' n' g' d' P W1 _ R3.out J3.out L3.out (by omega) hi' hs hn').mono ?_
   rintro e W4 ⟨⟨v, rfl, rr⟩⟩
   obtain ⟨kk', mn', mx', mm', tt', ad', ll', cc', rfl⟩ := rr.is.form
   have R4 := hid rr
   have B4 := hid (bl_ks B1.out (by omega) rr.ks)
   clear rr R3 A3 B3 I3 K3 J3 L3 a0 a1 a2 a3 a4 a5 a6 a7 a8
   obtain ⟨b0, fb0, b1, fb1, b2, fb2, b3, fb3, b4, fb4, b5, fb5, b6, fb6, b7, fb7, b8, fb8⟩ := cellf9 (B4.out)
   go_wp2_with fail
   refine bodyPost_ret (v := .tuple #[rxv kk' mn' mx' mm' tt' (.slice ad' ll' cc'), .int .i64 ((pRep s ere r ⟨i', n', g', d'⟩).e : Nat)]) (rx_ret2 rfl _ _ _ _ _ rfl rfl (bl_set9 B4.out _ _ _ _ _ _ _ _ _) rfl) rfl ?_
   rw [E.out]
   exact ⟨_, rfl, R4.out.upset K1.out (ks_set9 _ _ _ _ _ _ _ _ _) hP (by omega) hs1⟩
 ·
  have ge : ((er : Int) != 0) = true := by simp; omega
  have E : Hid (pPart c s ere began ⟨i, n, g, d⟩ = ⟨r, er, ⟨i', n', g', d'⟩⟩) := by show _ = _; rw [EO.out, if_pos (Or.inl he)]
  obtain ⟨b0, fb0, b1, fb1, b2, fb2, b3, fb3, b4, fb4, b5, fb5, b6, fb6, b7, fb7, b8, fb8⟩ := cellf9 (B3.out)
  go_wp2_with fail
  refine bodyPost_ret (v := .tuple #[rxv kk mn mx mm tt (.slice ad ll cc), .int .i64 (er : Int)]) (rx_ret2 rfl _ _ _ _ _ rfl rfl (bl_set9 B3.out _ _ _ _ _ _ _ _ _) rfl) rfl ?_
  rw [E.out]
  exact ⟨_, rfl, Ret.fin I3.out R3.out K3.out (ks_set9 _ _ _ _ _ _ _ _ _) hP (by omega)⟩
attribute [local go_sem] field91
theorem keep_any2 (base : Nat) (v : Value) (ts : List Rx) (r : Rx) (k mn mx m : Int) (t : W4) (ad : Option Addr) (l c : Nat) (s : ByteArray) (ere : Bool) (i n g d P : Nat) (w : World) (h : Rd w P s ere i n g d) (hK : RKids base w v ts) (hI : Is w (fun b => base ≤ b ∧ v.ownBlock ≠ some b) r (rxv k mn mx m t (.slice ad l c))) (hb : base ≤ w.heap.size) (ht : ts.length ≤ 1000000) :
  Calls Tryz.prog 136 #[.pointer (some ⟨P, 0, none⟩), v, rxv k mn mx m t (.slice ad l c)] w fun e w' => ∃ v', e = .returned v' ∧ RKids base w' v' (keepL n ts r) ∧ w.grownBy w' v.ownBlock := by
 have R : Hid (Rd w P s ere i n g d) := h
 have HK : Hid (RKids base w v ts) := hK
 have HI : Hid (Is w (fun b => base ≤ b ∧ v.ownBlock ≠ some b) r (rxv k mn mx m t (.slice ad l c))) := hI
 clear h hK hI
 by_cases hc : n > 40
 ·
  have E : Hid (keepL n ts r = ts) := by show _ = _; unfold keepL; rw [if_pos hc]
  have c1 : (40 : Int) < (n : Int) := by omega
  go_enter Tryz.func136, Tryz.ntmps136
  go_upto_region 1 with fail
  refine opq (fun W0 => Rd W0 P s ere i n g d ∧ W0.heap[w.heap.size]? = some (rxo k mn mx m t (.slice ad l c)) ∧ RKids base W0 v ts ∧ Is W0 (fun b => base ≤ b ∧ v.ownBlock ≠ some b) r (rxv k mn mx m t (.slice ad l c)) ∧ Kp w W0) ⟨by exact R.out.kp kpt, by (first | exact last_at _ _ _ (by simp) | (refine bl_alloc ?_ _; first | exact last_at _ _ _ (by simp) | (refine bl_alloc ?_ _; first | exact last_at _ _ _ (by simp) | (refine bl_alloc ?_ _; exact last_at _ _ _ (by simp))))), by exact HK.out.kp kpt, by exact HI.out.kp kpt, by exact kpt⟩ ?_
  rintro W0 ⟨xR0, xA0, xHK0, xHI0, xK0⟩
  have R0 := hidT xR0
  have A0 := hidT xA0
  have HK0 := hidT xHK0
  have HI0 := hidT xHI0
  have K0 := hidT xK0
  clear xR0 xA0 xHK0 xHI0 xK0
  have p3 := R0.out.cells.2.2.2.1
  have hs0 := K0.out.size
  go_wp2
  go_ret
  exact ⟨_, rfl, by rw [E.out]; exact HK0.out, K0.out.grown _⟩
 ·
  have E : Hid (keepL n ts r = ts ++ [r]) := by show _ = _; unfold keepL; rw [if_neg hc]
  have c1 : ¬ (40 : Int) < (n : Int) := by omega
  go_enter Tryz.func136, Tryz.ntmps136
  go_upto_region 1 with fail
  refine opq (fun W0 => Rd W0 P s ere i n g d ∧ W0.heap[w.heap.size]? = some (rxo k mn mx m t (.slice ad l c)) ∧ RKids base W0 v ts ∧ Is W0 (fun b => base ≤ b ∧ v.ownBlock ≠ some b) r (rxv k mn mx m t (.slice ad l c)) ∧ Kp w W0) ⟨by exact R.out.kp kpt, by (first | exact last_at _ _ _ (by simp) | (refine bl_alloc ?_ _; first | exact last_at _ _ _ (by simp) | (refine bl_alloc ?_ _; first | exact last_at _ _ _ (by simp) | (refine bl_alloc ?_ _; exact last_at _ _ _ (by simp))))), by exact HK.out.kp kpt, by exact HI.out.kp kpt, by exact kpt⟩ ?_
  rintro W0 ⟨xR0, xA0, xHK0, xHI0, xK0⟩
  have R0 := hidT xR0
  have A0 := hidT xA0
  have HK0 := hidT xHK0
  have HI0 := hidT xHI0
  have K0 := hidT xK0
  clear xR0 xA0 xHK0 xHI0 xK0
  have p3 := R0.out.cells.2.2.2.1
  have hs0 := K0.out.size
  obtain ⟨a0, a1, a2, a3, a4, a5, a6, a7, a8⟩ := cells9 (A0.out)
  go_wp2_with (at_builtin; go_must (refine wpList_append_rx W0 (by rfl) _ _ (by rfl) base v ts r (by rfl) HK0 k mn mx m t ad l c HI0 _ (by rfl) (by rfl) ?h1 ?h2 ?_))
  case h2 => omega
  intro v' w' hk' hg'
  have HK' : Hid (RKids base w' v' (ts ++ [r])) := hk'
  have HG' : Hid (w.grownBy w' v.ownBlock) := ⟨hg'.os.trans K0.out.os, hg'.tape.trans K0.out.tape, hg'.output.trans K0.out.output, Nat.le_trans K0.out.size hg'.size, fun b hb hne => (hg'.block b (Nat.lt_of_lt_of_le hb K0.out.size) hne).trans (K0.out.block b hb)⟩
  clear hk' hg'
  go_wp2_with fail
  go_ret
  exact ⟨_, rfl, by rw [E.out]; exact HK'.out, HG'.out⟩
theorem Ks.grown {P : Nat} {a b c : World} {row : Option Nat} (h : Ks P a b) (g : b.grownBy c row) (hr : ∀ k, row = some k → a.heap.size ≤ k) (hP : P < a.heap.size) : Ks P a c :=
 ⟨⟨g.os.trans h.lo.os, g.tape.trans h.lo.tape, g.output.trans h.lo.output, Nat.le_trans h.size g.size, fun x hx => (g.block x (by have := h.size; omega) (fun e => by have := hr x e.symm; omega)).trans (h.lo.block x hx)⟩,
  fun x hx hne => (g.block x (Nat.lt_of_lt_of_le hx h.size) (fun e => by have := hr x e.symm; omega)).trans (h.block x hx hne)⟩
theorem bl_grown {w w' : World} {row : Option Nat} {B : Nat} {o : Obj} (h : w.heap[B]? = some o) (g : w.grownBy w' row) (hr : row ≠ some B) : w'.heap[B]? = some o := (g.block B (bl_lt h) (Ne.symm hr)).trans h
theorem Rd.grown {w w' : World} {row : Option Nat} {P : Nat} {s : ByteArray} {ere : Bool} {i n g d : Nat} (h : Rd w P s ere i n g d) (k : w.grownBy w' row) (h1 : row ≠ some P) (h0 : row ≠ some 1) : Rd w' P s ere i n g d :=
 ⟨bl_grown h.b k h1, h.p, by
  obtain ⟨m, hm⟩ := h.v
  exact ⟨m, (World.cell?_of_block (w := w) (k.block 1 (Nat.lt_trans h.p h.lt) (Ne.symm h0))).trans hm⟩⟩
theorem node_any0 (k mn mx m : Int) (ad : Option Addr) (l c : Nat) (s : ByteArray) (ere : Bool) (i n g d P : Nat) (w : World) (h : Rd w P s ere i n g d) (hn : n ≤ 1000000000) :
  Calls Tryz.prog 137 #[.pointer (some ⟨P, 0, none⟩), .agg #[.int .i64 k, .int .i64 mn, .int .i64 mx, .int .i64 m, .int .u64 0, .int .u64 0, .int .u64 0, .int .u64 0, .slice ad l c]] w fun e w' => e = .returned (.agg #[.int .i64 k, .int .i64 mn, .int .i64 mx, .int .i64 m, .int .u64 0, .int .u64 0, .int .u64 0, .int .u64 0, .slice ad l c]) ∧ Rd w' P s ere i (n + 1) g d ∧ Ks P w w' :=
 node_any k mn mx m W4.z ad l c s ere i n g d P w h hn
structure Rw (c : St → Out) (s : ByteArray) (ere : Bool) (P : Nat) (w : World) (t0 : St) (k : Nat) (v : Value) (wr : World) (ks : List Rx) (t : St) : Prop where
 kids : RKids (w.heap.size + 1) wr v ks
 rd : Rd wr P s ere t.i t.n t.g t.d
 inv : Inv s t
 d : t.d = t0.d
 i : t0.i ≤ t.i
 f : s.size < k + t.i
 len : ks.length ≤ t.i
 eq : pRowL c s ere t0.i k ks t = pRow c s ere t0
 b : wr.heap[w.heap.size]? = some rzo
 ks : Ks P w wr
theorem row_any (c : St → Out) (D : Nat) (s : ByteArray) (ere : Bool) (i n g d P : Nat) (w : World) (HC : ChSaid c s ere D) (HGd : CGood c s) (h : Rd w P s ere i n g d) (hv : Inv s ⟨i, n, g, d⟩) (hD : d + D = 6) (hs : s.size ≤ 1000000) :
  Calls Tryz.prog 134 #[.pointer (some ⟨P, 0, none⟩)] w fun e w' => RetE w P s ere (pRow c s ere ⟨i, n, g, d⟩) e w' := by
 have R : Hid (Rd w P s ere i n g d) := h
 have hP : P < w.heap.size := h.lt
 clear h
 have hi : i ≤ s.size := hv.i
 go_enter Tryz.func134, Tryz.ntmps134
 go_upto_region 1 with fail
 refine opq (fun W0 => Rd W0 P s ere i n g d ∧ W0.heap[w.heap.size]? = some rzo ∧ Ks P w W0) ⟨by exact R.out.kp kpt, by (first | exact last_at _ _ _ (by simp) | (refine bl_alloc ?_ _; first | exact last_at _ _ _ (by simp) | (refine bl_alloc ?_ _; first | exact last_at _ _ _ (by simp) | (refine bl_alloc ?_ _; exact last_at _ _ _ (by simp))))), by exact (Kp.ks kpt (Nat.le_of_lt hP))⟩ ?_
 rintro W0 ⟨xR0, xB0, xK0⟩
 have R0 := hidT xR0
 have B0 := hidT xB0
 have K0 := hidT xK0
 clear xR0 xB0 xK0
 clear R
 have p2 := R0.out.cells.2.2.1
 go_wp2_with fail
 clear p2
 go_loopg [4] (s.size + 1) (fun k v wr => ∃ (ks : List Rx) (t : St), Rw c s ere P w ⟨i, n, g, d⟩ k v wr ks t)
 case atStart => exact ⟨[], ⟨i, n, g, d⟩, RKids.nil _ _, R0.out, hv, rfl, Nat.le_refl _, by show s.size < s.size + 1 + i; omega, Nat.zero_le _, rfl, B0.out, K0.out⟩
 case round =>
  obtain ⟨ks, ⟨i', n', g', d'⟩, hrw⟩ := hrel
  have RW := hid hrw
  have hi' : i' ≤ s.size := hrw.inv.i
  have hn' : n' ≤ 3 * i' + 1 := hrw.inv.n
  have hd' : d' = d := hrw.d
  have hii : i ≤ i' := hrw.i
  have hf : s.size < gk + i' := hrw.f
  subst hd'
  obtain ⟨k, rfl⟩ : ∃ k, gk = k + 1 := ⟨gk - 1, by omega⟩
  have hlen : ks.length ≤ i' := hrw.len
  clear hrw R0 B0 K0
  have hB := bl_lt RW.out.b
  obtain ⟨en, hen⟩ : ∃ en, ends (sgn s ere i').1 = en := ⟨_, rfl⟩
  have HEN := hid hen
  clear hen
  go_wp2_with fail
  refine (rowEnds_any s ere i' n' g' d' P _ RW.out.rd hi' hs).mono ?_
  rintro e W1 ⟨rfl, k1⟩
  rw [HEN.out]
  have R1 := hid (RW.out.rd.kp k1)
  have L1 := hid (RW.out.kids.kp k1)
  have B1 := hid (bl_kp RW.out.b k1)
  have K1 := hid (RW.out.ks.kpt k1 hP)
  have hs1 : w.heap.size < W1.heap.size := bl_lt B1.out
  have EQ := hid RW.out.eq
  have INV := hid RW.out.inv
  clear k1 RW
  have OWN : Hid (∀ b, u4.ownBlock = some b → w.heap.size + 1 ≤ b ∧ b < W1.heap.size) := L1.out.block
  cases en with
  | true =>
   have E0 : Hid (pRow c s ere ⟨i, n, g, d'⟩ = rowOut ks ⟨i', n', g', d'⟩) := by
    have := EQ.out
    unfold pRowL at this
    rw [HEN.out] at this
    exact this.symm
   by_cases h1 : ks.length = 1
   ·
    obtain ⟨r, rfl⟩ : ∃ r, ks = [r] := List.length_eq_one_iff.1 h1
    obtain ⟨gb, cap, hv4, hcap, hb1, hb2, hcells⟩ := L1.out.get (by simp)
    obtain ⟨u, hIs, hCe⟩ := hcells 0 r rfl
    obtain ⟨kk, mn, mx, mm, tt, ad, ll, cc, rfl⟩ := hIs.form
    have IS := hid hIs
    have a0 := hCe 0 _ rfl
    have a1 := hCe 1 _ rfl
    have a2 := hCe 2 _ rfl
    have a3 := hCe 3 _ rfl
    have a4 := hCe 4 _ rfl
    have a5 := hCe 5 _ rfl
    have a6 := hCe 6 _ rfl
    have a7 := hCe 7 _ rfl
    have a8 := hCe 8 _ rfl
    simp only [Nat.mul_zero, Nat.zero_add] at a0 a1 a2 a3 a4 a5 a6 a7 a8
    have hv4' : u4 = .slice (some ⟨gb, 0, none⟩) 1 cap := hv4
    clear hv4 hCe hcells hIs
    subst hv4'
    have E : Hid (pRow c s ere ⟨i, n, g, d'⟩ = ⟨r, 0, ⟨i', n', g', d'⟩⟩) := E0.out
    obtain ⟨b0, fb0, b1, fb1, b2, fb2, b3, fb3, b4, fb4, b5, fb5, b6, fb6, b7, fb7, b8, fb8⟩ := cellf9 (B1.out)
    go_wp2_with fail
    refine bodyPost_ret (v := .tuple #[rxv kk mn mx mm tt (.slice ad ll cc), .int .i64 0]) (rx_ret2 rfl _ _ _ _ _ rfl rfl (bl_set9 B1.out _ _ _ _ _ _ _ _ _) rfl) rfl ?_
    rw [E.out]
    exact ⟨_, rfl, Ret.fin (IS.out.weak (fun _ hb _ => ⟨by omega, by omega⟩)) R1.out K1.out (ks_set9 _ _ _ _ _ _ _ _ _) hP (Nat.le_refl _)⟩
   ·
    have E : Hid (pRow c s ere ⟨i, n, g, d'⟩ = ⟨.mk 2 0 0 0 W4.z ks, 0, ⟨i', n' + 1, g', d'⟩⟩) := by
     show _ = _
     rw [E0.out]
     unfold rowOut
     split
     ·
      exact absurd rfl h1
     ·
      rfl
    obtain ⟨ad, cap, hv4, hcap⟩ := L1.out.form
    have g1 : ((ks.length : Int) == 1) = false := by simp; omega
    have g1' : ¬ (ks.length : Int) = 1 := by omega
    have IS := hid (L1.out.is 2 0 0 0 W4.z)
    subst hv4
    go_wp2_with fail
    refine (node_any0 2 0 0 0 ad ks.length cap s ere i' n' g' d' P _ R1.out (by omega)).mono ?_
    rintro e W2 ⟨rfl, r2, k2⟩
    have R2 := hid r2
    have I2 := hid (IS.out.ks k2 (fun _ hb _ => by omega))
    have B2 := hid (bl_ks B1.out (by omega) k2)
    have K2 := hid (K1.out.trans k2)
    clear r2 k2 R1 L1 B1 K1 IS
    obtain ⟨b0, fb0, b1, fb1, b2, fb2, b3, fb3, b4, fb4, b5, fb5, b6, fb6, b7, fb7, b8, fb8⟩ := cellf9 (B2.out)
    go_wp2_with fail
    refine bodyPost_ret (v := .tuple #[rxv 2 0 0 0 W4.z (.slice ad ks.length cap), .int .i64 0]) (rx_ret2 rfl _ _ _ _ _ rfl rfl (bl_set9 B2.out _ _ _ _ _ _ _ _ _) rfl) rfl ?_
    rw [E.out]
    exact ⟨_, rfl, Ret.fin (I2.out.weak (fun _ hb _ => ⟨by omega, by omega⟩)) R2.out K2.out (ks_set9 _ _ _ _ _ _ _ _ _) hP (Nat.le_refl _)⟩
  | false =>
   obtain ⟨o, ho⟩ : ∃ o, pPart c s ere i ⟨i', n', g', d'⟩ = o := ⟨_, rfl⟩
   have hgood := pPart_good (ere := ere) (began := i) HGd INV.out
   have PA := hid (part_any c D i s ere i' n' g' d' P W1 HC HGd R1.out INV.out hD hii hs)
   rw [ho] at hgood PA
   have HGO := hid hgood
   have E0 : Hid (pRow c s ere ⟨i, n, g, d'⟩ = if o.e ≠ 0 then ⟨rx0, o.e, o.st⟩ else pRowL c s ere i k (keepL o.st.n ks o.r) o.st) := by
    have := EQ.out
    unfold pRowL at this
    rw [HEN.out, ho] at this
    exact this.symm
   clear ho hgood
   obtain ⟨r, er, ⟨i2, n2, g2, d2⟩⟩ := o
   go_wp2_with fail
   refine PA.out.mono ?_
   rintro e W2 ⟨⟨v, rfl, rr⟩⟩
   obtain ⟨kk, mn, mx, mm, tt, ad, ll, cc, rfl⟩ := rr.is.form
   have hs2 := rr.ks.size
   have R2 : Hid (Rd W2 P s ere i2 n2 g2 d2) := rr.rd
   have I2 : Hid (Is W2 (fun b => w.heap.size + 1 ≤ b ∧ u4.ownBlock ≠ some b) r (rxv kk mn mx mm tt (.slice ad ll cc))) := rr.is.weak (fun b hb _ => ⟨by omega, fun he => by have := OWN.out b he; omega⟩)
   have L2 := hid (L1.out.ks rr.ks (by omega))
   have B2 := hid (bl_ks B1.out (by omega) rr.ks)
   have K2 := hid (K1.out.trans rr.ks)
   clear rr R1 L1 B1 K1 PA
   dsimp only
   go_upto_region 5 with fail
   refine opq (fun W3 => Rd W3 P s ere i2 n2 g2 d2 ∧ W3.heap[W2.heap.size]? = some (rxo kk mn mx mm tt (.slice ad ll cc)) ∧ Is W3 (fun b => w.heap.size + 1 ≤ b ∧ u4.ownBlock ≠ some b) r (rxv kk mn mx mm tt (.slice ad ll cc)) ∧ RKids (w.heap.size + 1) W3 u4 ks ∧ W3.heap[w.heap.size]? = some rzo ∧ Ks P w W3) ⟨by exact R2.out.kp kpt, by (first | exact last_at _ _ _ (by simp) | (refine bl_alloc ?_ _; first | exact last_at _ _ _ (by simp) | (refine bl_alloc ?_ _; first | exact last_at _ _ _ (by simp) | (refine bl_alloc ?_ _; exact last_at _ _ _ (by simp))))), by exact I2.out.kp kpt, by exact L2.out.kp kpt, by exact bl_kp B2.out kpt, by exact K2.out.kpt kpt hP⟩ ?_
   rintro W3 ⟨xR3, xA3, xI3, xL3, xB3, xK3⟩
   have R3 := hidT xR3
   have A3 := hidT xA3
   have I3 := hidT xI3
   have L3 := hidT xL3
   have B3 := hidT xB3
   have K3 := hidT xK3
   clear xR3 xA3 xI3 xL3 xB3 xK3
   clear R2 I2 L2 B2 K2
   have hs3 : W2.heap.size < W3.heap.size := bl_lt A3.out
   by_cases he : er = 0
   ·
    subst he
    obtain ⟨j1, j2, j3⟩ := HGO.out.ok rfl
    have j1' : i' + 1 ≤ i2 := j1
    have E1 : Hid (pRowL c s ere i k (keepL n2 ks r) ⟨i2, n2, g2, d2⟩ = pRow c s ere ⟨i, n, g, d'⟩) := by show _ = _; rw [E0.out]; rfl
    have J2 := hid j2
    have J3 := hid j3
    clear j1 j2 j3
    obtain ⟨a0, a1, a2, a3, a4, a5, a6, a7, a8⟩ := cells9 (A3.out)
    go_wp2_with fail
    refine (keep_any2 (w.heap.size + 1) u4 ks r kk mn mx mm tt ad ll cc s ere i2 n2 g2 d2 P _ R3.out L3.out I3.out (by omega) (by omega)).mono ?_
    rintro e W4 ⟨v', rfl, l4, g4⟩
    have R4 := hid (R3.out.grown g4 (fun he => by have := OWN.out P he; omega) (fun he => by have := OWN.out 1 he; have := R3.out.p; omega))
    have L4 := hid l4
    have B4 := hid (bl_grown B3.out g4 (fun he => by have := OWN.out _ he; omega))
    have K4 := hid (K3.out.grown g4 (fun k hk => by have := OWN.out k hk; omega) hP)
    clear l4 g4 R3 A3 I3 L3 B3 K3 a0 a1 a2 a3 a4 a5 a6 a7 a8
    have HL : Hid ((keepL n2 ks r).length ≤ i2) := by
     show _ ≤ _
     unfold keepL
     split
     ·
      omega
     ·
      simp; omega
    go_wp2_with fail
    go_roundg k
    case measure => omega
    case rel => exact ⟨_, ⟨i2, n2, g2, d2⟩, L4.out, R4.out, J2.out, J3.out, by show i ≤ i2; omega, by show s.size < k + i2; omega, HL.out, E1.out, B4.out, K4.out⟩
   ·
    have ge : ((er : Int) != 0) = true := by simp; omega
    have E : Hid (pRow c s ere ⟨i, n, g, d'⟩ = ⟨rx0, er, ⟨i2, n2, g2, d2⟩⟩) := by show _ = _; rw [E0.out]; exact if_pos he
    obtain ⟨b0, fb0, b1, fb1, b2, fb2, b3, fb3, b4, fb4, b5, fb5, b6, fb6, b7, fb7, b8, fb8⟩ := cellf9 (B3.out)
    go_wp2_with fail
    refine bodyPost_ret (v := .tuple #[rz, .int .i64 (er : Int)]) (rx_ret2 rfl _ _ _ _ _ rfl rfl (bl_set9 B3.out _ _ _ _ _ _ _ _ _) rfl) rfl ?_
    rw [E.out]
    exact ⟨_, rfl, Ret.fail R3.out K3.out (ks_set9 _ _ _ _ _ _ _ _ _) hP (Nat.le_refl _)⟩
end Go.Proofs.YtigdmebijbaofaaGreatDoor
