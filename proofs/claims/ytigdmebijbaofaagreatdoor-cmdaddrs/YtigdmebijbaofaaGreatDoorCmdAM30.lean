/-
  Texts of this claim: CmK.
-/
import Derived.Test.YtigdmebijbaofaaGreatDoorCmdAM4
import Derived.Test.YtigdmebijbaofaaGreatDoorCmdAM29

/-! ### CmK -/

namespace Go.Proofs.YtigdmebijbaofaaGreatDoor
set_option maxHeartbeats 2000000
set_option maxRecDepth 100000
open Go.RowKit

theorem ks_bl {P : Nat} {w w' : World} {B : Nat} {o : Obj} (hk : Ks P w w') (h : w.heap[B]? = some o) (hne : B ≠ P) : w'.heap[B]? = some o := bl_ks h hne hk
set_option maxHeartbeats 4000000 in
theorem cmdAddrs_any (n : Int) (aK : Option Addr) (lK cK : Nat) (aN : Option Addr) (lN cN' : Nat) (o : Int) (ere : Bool) (HR : RowSaid ere 0) (w : World) (hK : Nums w w.heap.size aK lK) (hN : Nums w w.heap.size aN lN) (h0 : ∃ m, w.cell? ⟨1, 0, none⟩ = some (.int .i64 m)) (hT : Tb w) :
  Calls Tryz.prog 8 #[.int .i64 n, .agg #[.slice aK lK cK, .slice aN lN cN'], .int .i64 o, .bool ere] w fun e w' => e = .returned (.bool true) ∧ Kp w w' := by
 obtain ⟨l, hl⟩ : ∃ l, wit n (-3) 12000 = l := ⟨_, rfl⟩
 have hl1 : -3 ≤ l := by have := (wit_le n (-3) 12000 (by omega)).1; omega
 have hl2 : l ≤ 12000 := by have := (wit_le n (-3) 12000 (by omega)).2; omega
 obtain ⟨j, hj⟩ : ∃ j : Nat, wit o 0 8 = (j : Int) := ⟨(wit o 0 8).toNat, by have := wit_le o 0 8 (by omega); omega⟩
 have hj9 : j < 9 := by have := (wit_le o 0 8 (by omega)).2; omega
 have C1 := hid (fun w => within_any n (-3) 12000 w (by omega) (by omega) (by omega))
 have C2 := hid (fun w => within_any o 0 8 w (by omega) (by omega) (by omega))
 rw [hl] at C1
 rw [hj] at C2
 clear hl hj
 obtain ⟨p, hp⟩ : ∃ p, ch ops9 j = p := ⟨_, rfl⟩
 have HP := hid hp
 have hp256 : p < 256 := by rw [← hp]; exact (op9 ⟨j, hj9⟩).1
 clear hp
 have HK := hid hK
 have HN := hid hN
 have Z0 := hid h0
 have T0 := hid hT
 clear hK hN h0 hT
 go_enter Tryz.func8, Tryz.ntmps8
 go_upto_region 1 with fail
 refine opq (fun V0 => V0.heap[w.heap.size]? = some (.cells #[.slice aK lK cK, .slice aN lN cN'] 44) ∧ Kp w V0 ∧ V0.heap.size = w.heap.size + 1) ⟨by exact last_of _ _, by exact (Kp.refl _).alloc _, by simp⟩ ?_
 rintro V0 ⟨xG0, xK0, xS0⟩
 have G0 := hidT xG0
 have K0 := hidT xK0
 have S0 := hidT xS0
 clear xG0 xK0 xS0
 go_wp2_with fail
 refine (C1.out _).mono ?_
 rintro e V ⟨rfl, rfl⟩
 clear C1
 go_upto_region 3 with fail
 refine opq (fun V2 => V2.heap[w.heap.size]? = some (.cells #[.slice aK lK cK, .slice aN lN cN'] 44) ∧ V2.heap[V.heap.size]? = some (Av.o (⟨1, l, Rv.z⟩ : Av)) ∧ Kp w V2) ⟨by exact bl_kp G0.out kpt, by (first | exact last_at _ _ _ (by simp) | (refine bl_alloc ?_ _; first | exact last_at _ _ _ (by simp) | (refine bl_alloc ?_ _; first | exact last_at _ _ _ (by simp) | (refine bl_alloc ?_ _; exact last_at _ _ _ (by simp))))), by exact K0.out.trans kpt⟩ ?_
 rintro V2 ⟨xG2, xP2, xK2⟩
 have G2 := hidT xG2
 have P2 := hidT xP2
 have K2 := hidT xK2
 clear xG2 xP2 xK2
 clear G0 K0 S0
 have NK := hid ((HK.out.km (K2.out.km (Nat.le_refl _))).up K2.out.size)
 have NN := hid ((HN.out.km (K2.out.km (Nat.le_refl _))).up K2.out.size)
 clear HK HN
 have g0 := bl_cell G2.out 0 _ rfl
 have g1 := bl_cell G2.out 1 _ rfl
 go_wp2_with fail
 refine (made_any ere HR aK lK cK aN lN cN' V2 NK.out NN.out).mono ?_
 rintro e V3 ⟨⟨T, v, rfl, hI, hR, hO, hn, kv⟩⟩
 obtain ⟨k1, mn1, mx1, mm1, t1, ad1, l1, c1, rfl⟩ := hI.form
 have D3 : Hid (Pd V3 T k1 mn1 mx1 mm1 t1 ad1 l1 c1) := ⟨hI.weak (fun _ _ _ => trivial)⟩
 have P3 := hid (bl_kp P2.out kv)
 have K3 := hid (K2.out.trans kv)
 clear hI kv g0 g1 G2 NK NN P2 K2
 go_upto_region 4 with fail
 refine opq (fun W3 => W3.heap[V3.heap.size]? = some (Av.o (⟨3, 0, ⟨k1, mn1, mx1, mm1, t1, ad1, l1, c1⟩⟩ : Av)) ∧ Pd W3 T k1 mn1 mx1 mm1 t1 ad1 l1 c1 ∧ W3.heap[V.heap.size]? = some (Av.o (⟨1, l, Rv.z⟩ : Av)) ∧ Kp w W3) ⟨by (first | exact last_at _ _ _ (by simp) | (refine bl_alloc ?_ _; first | exact last_at _ _ _ (by simp) | (refine bl_alloc ?_ _; first | exact last_at _ _ _ (by simp) | (refine bl_alloc ?_ _; exact last_at _ _ _ (by simp))))), by exact D3.out.kp kpt, by exact bl_kp P3.out kpt, by exact K3.out.trans kpt⟩ ?_
 rintro W3 ⟨xQ3, xD4, xP4, xK4⟩
 have Q3 := hidT xQ3
 have D4 := hidT xD4
 have P4 := hidT xP4
 have K4 := hidT xK4
 clear xQ3 xD4 xP4 xK4
 clear D3 P3 K3
 go_upto_region 5 with fail
 refine opq (fun W4 => W4.heap[W3.heap.size]? = some (Av.o (⟨2, 0, Rv.z⟩ : Av)) ∧ W4.heap[V3.heap.size]? = some (Av.o (⟨3, 0, ⟨k1, mn1, mx1, mm1, t1, ad1, l1, c1⟩⟩ : Av)) ∧ Pd W4 T k1 mn1 mx1 mm1 t1 ad1 l1 c1 ∧ W4.heap[V.heap.size]? = some (Av.o (⟨1, l, Rv.z⟩ : Av)) ∧ Kp w W4) ⟨by (first | exact last_at _ _ _ (by simp) | (refine bl_alloc ?_ _; first | exact last_at _ _ _ (by simp) | (refine bl_alloc ?_ _; first | exact last_at _ _ _ (by simp) | (refine bl_alloc ?_ _; exact last_at _ _ _ (by simp))))), by exact bl_kp Q3.out kpt, by exact D4.out.kp kpt, by exact bl_kp P4.out kpt, by exact K4.out.trans kpt⟩ ?_
 rintro W4 ⟨xR5, xQ5, xD5, xP5, xK5⟩
 have R5 := hidT xR5
 have Q5 := hidT xQ5
 have D5 := hidT xD5
 have P5 := hidT xP5
 have K5 := hidT xK5
 clear xR5 xQ5 xD5 xP5 xK5
 clear Q3 D4 P4 K4
 have T5 := hid (T0.out.kp K5.out)
 obtain ⟨b1, hb1⟩ : ∃ B, V.heap.size = B := ⟨_, rfl⟩
 obtain ⟨b2, hb2⟩ : ∃ B, V3.heap.size = B := ⟨_, rfl⟩
 obtain ⟨b3, hb3⟩ : ∃ B, W3.heap.size = B := ⟨_, rfl⟩
 rw [hb1] at P5 ⊢
 rw [hb2] at Q5 ⊢
 rw [hb3] at R5 ⊢
 clear hb1 hb2 hb3
 obtain ⟨M, hM⟩ : ∃ M, (decide (1 ≤ l) && decide (l ≤ 9999)) = M := ⟨_, rfl⟩
 have HM := hid hM
 clear hM
 go_cut [13] (fun v wc => v = .bool M ∧ wc = W4)
 case first =>
  by_cases h1 : 1 ≤ l
  ·
   have g1 : l ≥ 1 := h1
   by_cases h2 : l ≤ 9999
   ·
    have E : Hid (M = true) := by show _ = _; rw [← HM.out]; simp [h1, h2]
    go_wp2_with fail
    go_meet
    case rel => exact ⟨by rw [E.out], rfl⟩
   ·
    have E : Hid (M = false) := by show _ = _; rw [← HM.out]; simp [h2]
    go_wp2_with fail
    go_meet
    case rel => exact ⟨by rw [E.out], rfl⟩
  ·
   have g1 : ¬ l ≥ 1 := h1
   have E : Hid (M = false) := by show _ = _; rw [← HM.out]; simp [h1]
   go_wp2_with fail
   go_meet
   case rel => exact ⟨by rw [E.out], rfl⟩
 case rest =>
  obtain ⟨rfl, rfl⟩ := hcut
  rename World => W4
  obtain ⟨X, hX⟩ : ∃ X, bs (adT 1 l zR ere) = X := ⟨_, rfl⟩
  have HX := hid hX
  clear hX
  go_upto_if 36 with fail
  go_cut [14] (fun v wc => v = .string X ∧ Kp W4 wc)
  case first =>
   cases M
   ·
    have E : Hid (X = bs []) := by
     show _ = _
     have := HM.out
     simp at this
     rw [← HX.out, adT_none l ere (by omega)]
    go_wp2_with fail
    go_meet
    case rel => exact ⟨by rw [E.out]; rfl, Kp.refl _⟩
   ·
    have hlr : 1 ≤ l ∧ l ≤ 9999 := by have := HM.out; simpa using this
    obtain ⟨q, rfl⟩ : ∃ q : Nat, l = (q : Int) := ⟨l.toNat, by omega⟩
    have E : Hid (X = bs (dec q)) := by
     show _ = _
     rw [← HX.out, adT_line _ ere hlr.1 hlr.2]
     rfl
    go_wp2_with fail
    refine (num_any q (by omega) _).mono ?_
    rintro e W5 ⟨rfl, k1⟩
    go_wp2_with fail
    go_meet
    case rel => exact ⟨by rw [E.out], k1⟩
  case rest =>
   obtain ⟨rfl, k1⟩ := hcut
   rename World => W6
   have R6 := hid (bl_kp R5.out k1)
   have Q6 := hid (bl_kp Q5.out k1)
   have P6 := hid (bl_kp P5.out k1)
   have D6 := hid (D5.out.kp k1)
   have T6 := hid (T5.out.kp k1)
   have K6 := hid (K5.out.trans k1)
   have I6 := hid k1
   clear k1 R5 Q5 P5 D5 T5 K5
   have hX : X.size ≤ 5 := by
    rw [← HX.out, bs_size]
    by_cases hlr : 1 ≤ l ∧ l ≤ 9999
    ·
     rw [adT_line l ere hlr.1 hlr.2]
     have := dec_len4 l.toNat (by omega)
     omega
    ·
     rw [adT_none l ere hlr]
     simp
   obtain ⟨S, hS⟩ : ∃ S, bs (printT ere T) = S := ⟨_, rfl⟩
   have hs1 : S.size ≤ 1000000 := by rw [← hS]; exact print_size ere T hO
   have PR := hid (talk_print T ere hO S hS)
   have X1 : Hid (∀ w, Tb w → Calls Tryz.prog 31 #[Av.v ⟨1, l, Rv.z⟩, .bool ere] w fun e w' => e = .returned (.string X) ∧ Kp w w') := fun w t => by
    have this : Calls Tryz.prog 31 #[Av.v ⟨1, l, Rv.z⟩, .bool ere] w fun e w' => e = .returned (.string (bs (adT 1 l zR ere))) ∧ Kp w w' := addr_any ⟨1, l, Rv.z⟩ zR ere zR_ok w (zR_is w) t
    rw [HX.out] at this
    exact this
   have X2 : Hid (∀ w, Tb w → Calls Tryz.prog 31 #[Av.v ⟨2, 0, Rv.z⟩, .bool ere] w fun e w' => e = .returned (.string ⟨#[36]⟩) ∧ Kp w w') := fun w t => by
    have this : Calls Tryz.prog 31 #[Av.v ⟨2, 0, Rv.z⟩, .bool ere] w fun e w' => e = .returned (.string (bs (adT 2 0 zR ere))) ∧ Kp w w' := addr_any ⟨2, 0, Rv.z⟩ zR ere zR_ok w (zR_is w) t
    rw [adT_last] at this
    exact this
   have X3 : Hid (∀ w, Pd w T k1 mn1 mx1 mm1 t1 ad1 l1 c1 → Tb w → Calls Tryz.prog 31 #[Av.v ⟨3, 0, ⟨k1, mn1, mx1, mm1, t1, ad1, l1, c1⟩⟩, .bool ere] w fun e w' => e = .returned (.string (⟨#[47]⟩ ++ S ++ ⟨#[47]⟩)) ∧ Kp w w') := fun w h t => by
    have this : Calls Tryz.prog 31 #[Av.v ⟨3, 0, ⟨k1, mn1, mx1, mm1, t1, ad1, l1, c1⟩⟩, .bool ere] w fun e w' => e = .returned (.string (bs (adT 3 0 T ere))) ∧ Kp w w' := addr_any ⟨3, 0, ⟨k1, mn1, mx1, mm1, t1, ad1, l1, c1⟩⟩ T ere hO w h t
    rw [adT_match hR hO hn, ← bs_app, ← bs_app, hS] at this
    exact this
   have X4 : Hid (∀ w, Tb w → Calls Tryz.prog 31 #[Av.v Av.z, .bool ere] w fun e w' => e = .returned (.string ⟨#[]⟩) ∧ Kp w w') := fun w t => by
    have this : Calls Tryz.prog 31 #[Av.v Av.z, .bool ere] w fun e w' => e = .returned (.string (bs (adT 0 0 zR ere))) ∧ Kp w w' := addr_any Av.z zR ere zR_ok w (zR_is w) t
    rw [adT_zero] at this
    exact this
   have X5 : Hid (∀ w, Tb w → Calls Tryz.prog 31 #[Av.v ⟨2, 1, Rv.z⟩, .bool ere] w fun e w' => e = .returned (.string ⟨#[]⟩) ∧ Kp w w') := fun w t => by
    have this : Calls Tryz.prog 31 #[Av.v ⟨2, 1, Rv.z⟩, .bool ere] w fun e w' => e = .returned (.string (bs (adT 2 1 zR ere))) ∧ Kp w w' := addr_any ⟨2, 1, Rv.z⟩ zR ere zR_ok w (zR_is w) t
    rw [adT_bad] at this
    exact this
   have X6 : Hid (∀ w, Pd w T k1 mn1 mx1 mm1 t1 ad1 l1 c1 → Tb w → Calls Tryz.prog 31 #[Av.v ⟨1, 1, ⟨k1, mn1, mx1, mm1, t1, ad1, l1, c1⟩⟩, .bool ere] w fun e w' => e = .returned (.string ⟨#[]⟩) ∧ Kp w w') := fun w h t => by
    have this : Calls Tryz.prog 31 #[Av.v ⟨1, 1, ⟨k1, mn1, mx1, mm1, t1, ad1, l1, c1⟩⟩, .bool ere] w fun e w' => e = .returned (.string (bs (adT 1 1 T ere))) ∧ Kp w w' := addr_any ⟨1, 1, ⟨k1, mn1, mx1, mm1, t1, ad1, l1, c1⟩⟩ T ere hO w h t
    rw [adT_more hR] at this
    exact this
   have RM := hid (adR_match hR hO hn)
   clear hS hR hn HX
   go_upto_region 9 with fail
   have Q0 : Kp W6 W6.drew := (Kp.refl _).drew
   have MK : Hid (∀ W, Kp W6 W → Hid (Kp W6 W)) := fun W k => k
   refine wp_region_noPanic ?_
   refine hdrew MK Q0 (fun hH => ?_)
   have KQ := Q0
   refine wpAnyH_take (i := 0) (oi := { dst := some 39, op := Op.load 32 (Operand.tmp 10), type := 32, pos := "law.go:118", after := #[], guard := none }) (v := Av.v (⟨1, l, Rv.z⟩ : Av)) rfl (by kernel_rfl) (by kernel_rfl) (by kernel_rfl) (fun _ _ _ h => h) (yields_av (by rfl) rfl rfl (⟨1, l, Rv.z⟩ : Av) (fun W hSw => bl_kp P6.out hSw.out)) hH ?r0a1
   try simp only [ps]
   refine tk 1 (some 40) (Op.move (Operand.tmp 3)) 4 (v := ?v1a2) rfl ?h1a2 hH ?_
   case h1a2 => intro _ _; go_simp; try with_reducible rfl
   try simp only [ps]
   refine tk 3 (some 42) (Op.move (Operand.tmp 14)) 9 (v := ?v3a3) rfl ?h3a3 hH ?_
   case h3a3 => intro _ _; go_simp; try with_reducible rfl
   try simp only [ps]
   refine wpAnyH_ready (rs := [2]) (by kernel_rfl) (by simp) ?_
   refine AllReadyH.cons (o := { dst := some 41, op := Op.call { callee := Callee.value (Operand.func 31), args := #[Operand.tmp 39, Operand.tmp 40], argTypes := #[32, 4] }, type := 9, pos := "law.go:118", after := _, guard := none }) rfl (fun K hKq => ?_) AllReadyH.nil
   go_simp
   refine (X1.out _ (T6.out.kp KQ)).mono ?_
   rintro e y1 ⟨rfl, kq⟩
   refine hKq.out _ _ (MK.out _ (KQ.trans kq)) (fun hN => ?_)
   clear kq
   clear hKq K hH KQ
   have hH := hN
   clear hN
   have KQ := hH.out
   try simp only [ps]
   refine tk 4 (some 43) (Op.binOp BinOp.neq 9 (Operand.tmp 41) (Operand.tmp 42) 9) 4 (v := ?v4a4) rfl ?h4a4 hH ?_
   case h4a4 => intro _ _; go_simp; try with_reducible rfl
   try simp only [ps]
   refine tk 5 (some 44) (Op.move (Operand.tmp 43)) 4 (v := ?v5a5) rfl ?h5a5 hH ?_
   case h5a5 => intro _ _; go_simp; try with_reducible rfl
   try simp only [ps]
   refine wpAnyH_take (i := 6) (oi := { dst := some 45, op := Op.load 32 (Operand.tmp 12), type := 32, pos := "law.go:118", after := _, guard := some (5, false) }) (v := Av.v (⟨2, 0, Rv.z⟩ : Av)) rfl (by kernel_rfl) (by kernel_rfl) (by kernel_rfl) (fun _ _ _ h => h) (yields_av (by rfl) rfl rfl (⟨2, 0, Rv.z⟩ : Av) (fun W hSw => bl_kp R6.out hSw.out)) hH ?r6a6
   try simp only [ps]
   refine tk 7 (some 46) (Op.move (Operand.tmp 3)) 4 (v := ?v7a7) rfl ?h7a7 hH ?_
   case h7a7 => intro _ _; go_simp; try with_reducible rfl
   try simp only [ps]
   refine wpAnyH_ready (rs := [8]) (by kernel_rfl) (by simp) ?_
   refine AllReadyH.cons (o := { dst := some 47, op := Op.call { callee := Callee.value (Operand.func 31), args := #[Operand.tmp 45, Operand.tmp 46], argTypes := #[32, 4] }, type := 9, pos := "law.go:118", after := _, guard := some (5, false) }) rfl (fun K hKq => ?_) AllReadyH.nil
   go_simp
   refine (X2.out _ (T6.out.kp KQ)).mono ?_
   rintro e y2 ⟨rfl, kq⟩
   refine hKq.out _ _ (MK.out _ (KQ.trans kq)) (fun hN => ?_)
   clear kq
   clear hKq K hH KQ
   have hH := hN
   clear hN
   have KQ := hH.out
   try simp only [ps]
   refine tk 9 (some 48) (Op.binOp BinOp.neq 9 (Operand.tmp 47) (Operand.const (Value.string { data := #[36] })) 9) 4 (v := ?v9a8) rfl ?h9a8 hH ?_
   case h9a8 => intro _ _; go_simp; try with_reducible rfl
   try simp only [ps]
   refine tk 10 (some 49) (Op.pick (Operand.tmp 44) (Operand.const (Value.bool true)) (Operand.tmp 48)) 4 (v := ?v10a9) rfl ?h10a9 hH ?_
   case h10a9 => intro _ _; go_simp; try with_reducible rfl
   try simp only [ps]
   refine tk 11 (some 50) (Op.move (Operand.tmp 49)) 4 (v := ?v11a10) rfl ?h11a10 hH ?_
   case h11a10 => intro _ _; go_simp; try with_reducible rfl
   try simp only [ps]
   refine wpAnyH_take (i := 12) (oi := { dst := some 51, op := Op.load 32 (Operand.tmp 11), type := 32, pos := "law.go:118", after := _, guard := some (11, false) }) (v := Av.v (⟨3, 0, ⟨k1, mn1, mx1, mm1, t1, ad1, l1, c1⟩⟩ : Av)) rfl (by kernel_rfl) (by kernel_rfl) (by kernel_rfl) (fun _ _ _ h => h) (yields_av (by rfl) rfl rfl (⟨3, 0, ⟨k1, mn1, mx1, mm1, t1, ad1, l1, c1⟩⟩ : Av) (fun W hSw => bl_kp Q6.out hSw.out)) hH ?r12a11
   try simp only [ps]
   refine tk 13 (some 52) (Op.move (Operand.tmp 3)) 4 (v := ?v13a12) rfl ?h13a12 hH ?_
   case h13a12 => intro _ _; go_simp; try with_reducible rfl
   try simp only [ps]
   refine tk 15 (some 54) (Op.fieldAddr 32 (Operand.tmp 11) 2) 0 (v := ?v15a13) rfl ?h15a13 hH ?_
   case h15a13 => intro _ _; go_simp; try with_reducible rfl
   try simp only [ps]
   refine wpAnyH_take (i := 16) (oi := { dst := some 55, op := Op.load 27 (Operand.tmp 54), type := 27, pos := "law.go:118", after := _, guard := some (11, false) }) (v := Rv.v (Av.r (⟨3, 0, ⟨k1, mn1, mx1, mm1, t1, ad1, l1, c1⟩⟩ : Av))) rfl (by kernel_rfl) (by kernel_rfl) (by kernel_rfl) (fun _ _ _ h => h) (yields_ar (by rfl) rfl rfl (⟨3, 0, ⟨k1, mn1, mx1, mm1, t1, ad1, l1, c1⟩⟩ : Av) (fun W hSw => bl_kp Q6.out hSw.out)) hH ?r16a14
   try simp only [ps]
   refine tk 17 (some 56) (Op.move (Operand.tmp 3)) 4 (v := ?v17a15) rfl ?h17a15 hH ?_
   case h17a15 => intro _ _; go_simp; try with_reducible rfl
   try simp only [ps]
   refine wpAnyH_ready (rs := [14]) (by kernel_rfl) (by simp) ?_
   refine AllReadyH.cons (o := { dst := some 53, op := Op.call { callee := Callee.value (Operand.func 31), args := #[Operand.tmp 51, Operand.tmp 52], argTypes := #[32, 4] }, type := 9, pos := "law.go:118", after := _, guard := some (11, false) }) rfl (fun K hKq => ?_) AllReadyH.nil
   go_simp
   refine (X3.out _ (D6.out.kp KQ) (T6.out.kp KQ)).mono ?_
   rintro e y3 ⟨rfl, kq⟩
   refine hKq.out _ _ (MK.out _ (KQ.trans kq)) (fun hN => ?_)
   clear kq
   clear hKq K hH KQ
   have hH := hN
   clear hN
   have KQ := hH.out
   try simp only [ps]
   refine wpAnyH_ready (rs := [18]) (by kernel_rfl) (by simp) ?_
   refine AllReadyH.cons (o := { dst := some 57, op := Op.call { callee := Callee.value (Operand.func 37), args := #[Operand.tmp 55, Operand.tmp 56], argTypes := #[27, 4] }, type := 9, pos := "law.go:118", after := _, guard := some (11, false) }) rfl (fun K hKq => ?_) AllReadyH.nil
   go_simp
   refine (PR.out _ (D6.out.kp KQ)).mono ?_
   rintro e y4 ⟨rfl, kq⟩
   refine hKq.out _ _ (MK.out _ (KQ.trans kq)) (fun hN => ?_)
   clear kq
   clear hKq K hH KQ
   have hH := hN
   clear hN
   have KQ := hH.out
   try simp only [ps]
   refine tk 19 (some 58) (Op.binOp BinOp.add 9 (Operand.const (Value.string { data := #[47] })) (Operand.tmp 57) 9) 9 (v := ?v19a16) rfl ?h19a16 hH ?_
   case h19a16 => (intro W hSw; (try dsimp only at hSw); go_simp; (try rw [if_neg (by omega)]); try (with_reducible rfl))
   try simp only [ps]
   refine tk 20 (some 59) (Op.binOp BinOp.add 9 (Operand.tmp 58) (Operand.const (Value.string { data := #[47] })) 9) 9 (v := ?v20a17) rfl ?h20a17 hH ?_
   case h20a17 => (intro W hSw; (try dsimp only at hSw); go_simp; (try rw [if_neg (by omega)]); try (with_reducible rfl))
   try simp only [ps]
   refine tk 21 (some 60) (Op.binOp BinOp.neq 9 (Operand.tmp 53) (Operand.tmp 59) 9) 4 (v := ?v21a18) rfl ?h21a18 hH ?_
   case h21a18 => intro _ _; go_simp; try with_reducible rfl
   try simp only [ps]
   refine tk 22 (some 61) (Op.pick (Operand.tmp 50) (Operand.const (Value.bool true)) (Operand.tmp 60)) 4 (v := ?v22a19) rfl ?h22a19 hH ?_
   case h22a19 => intro _ _; go_simp; try with_reducible rfl
   try simp only [ps]
   refine tk 23 (some 62) (Op.move (Operand.tmp 61)) 4 (v := ?v23a20) rfl ?h23a20 hH ?_
   case h23a20 => intro _ _; go_simp; try with_reducible rfl
   try simp only [ps]
   refine tk 24 (some 63) (Op.build 32 #[]) 32 (v := ?v24a21) rfl ?h24a21 hH ?_
   case h24a21 => intro _ _; go_simp; try with_reducible rfl
   try simp only [ps]
   refine tk 25 (some 64) (Op.move (Operand.tmp 3)) 4 (v := ?v25a22) rfl ?h25a22 hH ?_
   case h25a22 => intro _ _; go_simp; try with_reducible rfl
   try simp only [ps]
   refine wpAnyH_ready (rs := [26]) (by kernel_rfl) (by simp) ?_
   refine AllReadyH.cons (o := { dst := some 65, op := Op.call { callee := Callee.value (Operand.func 31), args := #[Operand.tmp 63, Operand.tmp 64], argTypes := #[32, 4] }, type := 9, pos := "law.go:118", after := _, guard := some (23, false) }) rfl (fun K hKq => ?_) AllReadyH.nil
   go_simp
   refine (X4.out _ (T6.out.kp KQ)).mono ?_
   rintro e y5 ⟨rfl, kq⟩
   refine hKq.out _ _ (MK.out _ (KQ.trans kq)) (fun hN => ?_)
   clear kq
   clear hKq K hH KQ
   have hH := hN
   clear hN
   have KQ := hH.out
   try simp only [ps]
   refine tk 27 (some 66) (Op.binOp BinOp.neq 9 (Operand.tmp 65) (Operand.const (Value.string { data := #[] })) 9) 4 (v := ?v27a23) rfl ?h27a23 hH ?_
   case h27a23 => intro _ _; go_simp; try with_reducible rfl
   try simp only [ps]
   refine tk 28 (some 67) (Op.pick (Operand.tmp 62) (Operand.const (Value.bool true)) (Operand.tmp 66)) 4 (v := ?v28a24) rfl ?h28a24 hH ?_
   case h28a24 => intro _ _; go_simp; try with_reducible rfl
   try simp only [ps]
   refine tk 29 (some 68) (Op.move (Operand.tmp 67)) 4 (v := ?v29a25) rfl ?h29a25 hH ?_
   case h29a25 => intro _ _; go_simp; try with_reducible rfl
   try simp only [ps]
   refine tk 30 (some 69) (Op.build 32 #[(0, Operand.const (Value.int IntKind.i64 2)), (1, Operand.const (Value.int IntKind.i64 1))]) 32 (v := ?v30a26) rfl ?h30a26 hH ?_
   case h30a26 => intro _ _; go_simp; try with_reducible rfl
   try simp only [ps]
   refine tk 31 (some 70) (Op.move (Operand.tmp 3)) 4 (v := ?v31a27) rfl ?h31a27 hH ?_
   case h31a27 => intro _ _; go_simp; try with_reducible rfl
   try simp only [ps]
   refine wpAnyH_ready (rs := [32]) (by kernel_rfl) (by simp) ?_
   refine AllReadyH.cons (o := { dst := some 71, op := Op.call { callee := Callee.value (Operand.func 31), args := #[Operand.tmp 69, Operand.tmp 70], argTypes := #[32, 4] }, type := 9, pos := "law.go:118", after := _, guard := some (29, false) }) rfl (fun K hKq => ?_) AllReadyH.nil
   go_simp
   refine (X5.out _ (T6.out.kp KQ)).mono ?_
   rintro e y6 ⟨rfl, kq⟩
   refine hKq.out _ _ (MK.out _ (KQ.trans kq)) (fun hN => ?_)
   clear kq
   clear hKq K hH KQ
   have hH := hN
   clear hN
   have KQ := hH.out
   try simp only [ps]
   refine tk 33 (some 72) (Op.binOp BinOp.neq 9 (Operand.tmp 71) (Operand.const (Value.string { data := #[] })) 9) 4 (v := ?v33a28) rfl ?h33a28 hH ?_
   case h33a28 => intro _ _; go_simp; try with_reducible rfl
   try simp only [ps]
   refine tk 34 (some 73) (Op.pick (Operand.tmp 68) (Operand.const (Value.bool true)) (Operand.tmp 72)) 4 (v := ?v34a29) rfl ?h34a29 hH ?_
   case h34a29 => intro _ _; go_simp; try with_reducible rfl
   try simp only [ps]
   refine tk 35 (some 74) (Op.move (Operand.tmp 73)) 4 (v := ?v35a30) rfl ?h35a30 hH ?_
   case h35a30 => intro _ _; go_simp; try with_reducible rfl
   try simp only [ps]
   refine tk 36 (some 75) (Op.fieldAddr 32 (Operand.tmp 11) 2) 0 (v := ?v36a31) rfl ?h36a31 hH ?_
   case h36a31 => intro _ _; go_simp; try with_reducible rfl
   try simp only [ps]
   refine wpAnyH_take (i := 37) (oi := { dst := some 76, op := Op.load 27 (Operand.tmp 75), type := 27, pos := "law.go:118", after := _, guard := some (35, false) }) (v := Rv.v (Av.r (⟨3, 0, ⟨k1, mn1, mx1, mm1, t1, ad1, l1, c1⟩⟩ : Av))) rfl (by kernel_rfl) (by kernel_rfl) (by kernel_rfl) (fun _ _ _ h => h) (yields_ar (by rfl) rfl rfl (⟨3, 0, ⟨k1, mn1, mx1, mm1, t1, ad1, l1, c1⟩⟩ : Av) (fun W hSw => bl_kp Q6.out hSw.out)) hH ?r37a32
   try simp only [ps]
   refine tk 38 (some 77) (Op.build 32 #[(0, Operand.const (Value.int IntKind.i64 1)), (1, Operand.const (Value.int IntKind.i64 1)), (2, Operand.tmp 76)]) 32 (v := ?v38a33) rfl ?h38a33 hH ?_
   case h38a33 => intro _ _; go_simp; try with_reducible rfl
   try simp only [ps]
   refine tk 39 (some 78) (Op.move (Operand.tmp 3)) 4 (v := ?v39a34) rfl ?h39a34 hH ?_
   case h39a34 => intro _ _; go_simp; try with_reducible rfl
   try simp only [ps]
   refine wpAnyH_ready (rs := [40]) (by kernel_rfl) (by simp) ?_
   refine AllReadyH.cons (o := { dst := some 79, op := Op.call { callee := Callee.value (Operand.func 31), args := #[Operand.tmp 77, Operand.tmp 78], argTypes := #[32, 4] }, type := 9, pos := "law.go:118", after := _, guard := some (35, false) }) rfl (fun K hKq => ?_) AllReadyH.nil
   go_simp
   refine (X6.out _ (D6.out.kp KQ) (T6.out.kp KQ)).mono ?_
   rintro e y7 ⟨rfl, kq⟩
   refine hKq.out _ _ (MK.out _ (KQ.trans kq)) (fun hN => ?_)
   clear kq
   clear hKq K hH KQ
   have hH := hN
   clear hN
   have KQ := hH.out
   try simp only [ps]
   refine tk 41 (some 80) (Op.binOp BinOp.neq 9 (Operand.tmp 79) (Operand.const (Value.string { data := #[] })) 9) 4 (v := ?v41a35) rfl ?h41a35 hH ?_
   case h41a35 => intro _ _; go_simp; try with_reducible rfl
   try simp only [ps]
   refine tk 42 (some 81) (Op.pick (Operand.tmp 74) (Operand.const (Value.bool true)) (Operand.tmp 80)) 4 (v := ?v42a36) rfl ?h42a36 hH ?_
   case h42a36 => intro _ _; go_simp; try with_reducible rfl
   try simp only [ps]
   refine wpAnyH_done (by kernel_rfl) ?_ _
   refine NoPanic.normal ?_
   have R7 := hid (bl_kp R6.out KQ)
   have Q7 := hid (bl_kp Q6.out KQ)
   have D7 := hid (D6.out.kp KQ)
   have T7 := hid (T6.out.kp KQ)
   have K7 := hid (K6.out.trans KQ)
   clear KQ hH MK Q0 I6 P6 R6 Q6 D6 T6 K6 X1 X2 X3 X4 X5 X6 PR hs1 hX
   go_upto_region 11 with fail
   have rc : ∀ w, (Instr.index 9 (.string ⟨#[112, 100, 113, 97, 99, 105, 61, 58, 125]⟩) (.int .i64 (j : Int))).run Tryz.prog w = .ok (.int .u8 (p : Int)) w := fun w => by rw [← HP.out]; exact run_ch ops9 j (by show j < 9; omega) w
   go_wp2_with fail
   refine (C2.out _).mono ?_
   rintro e Y ⟨rfl, rfl⟩
   clear C2
   go_upto_region 12 with fail
   clear rc
   go_upto_region 13 with (refine wpList_store_cv rfl rfl rfl (cN Av.z Av.z false p ⟨#[]⟩) rfl (last_at _ _ _ (by simp)) rfl ?_; intro W8 A8x A8k; simp only [Act.put])
   refine opq (fun W9 => W9.heap[Y.heap.size]? = some (Cv.o (cN Av.z Av.z false p ⟨#[]⟩)) ∧ Kp Y W9) ⟨by exact A8x, by exact A8k.up ((Kp.refl _).alloc _) (by omega)⟩ ?_
   rintro W9 ⟨xA9, xK9⟩
   have A9 := hidT xA9
   have K9 := hidT xK9
   clear xA9 xK9
   clear A8x A8k
   go_upto_if 88 with fail
   go_cut [] (fun wc => wc.heap[Y.heap.size]? = some (Cv.o (cN Av.z Av.z false p (txN p))) ∧ Kp Y wc)
   case first =>
    by_cases h58 : p = 58
    ·
     have i1 : ((p : Int) == 58) = true := by simp; omega
     go_wp2_with (refine wpList_store_cell (v := .string ⟨#[120]⟩) rfl rfl rfl rfl A9.out (by exact Nat.le_of_ble_eq_true rfl) rfl rfl (by kernel_rfl) ?_; intro Wa x1 x2; simp only [Act.put])
     go_meet
     case rel =>
      refine ⟨?_, x2.up K9.out (Nat.le_refl _)⟩
      subst h58
      simp only [List.setIfInBounds_toArray, List.set_cons_zero, List.set_cons_succ] at x1
      exact x1
    ·
     have i1 : ((p : Int) == 58) = false := by simp; omega
     go_wp2_with fail
     go_meet
     case rel => exact ⟨by rw [txN, if_neg h58]; exact A9.out, K9.out⟩
   case rest =>
    obtain ⟨x1, x2⟩ := hcut
    rename World => W10
    have A10 := hid x1
    have R10 := hid (bl_kp R7.out x2)
    have Q10 := hid (bl_kp Q7.out x2)
    have D10 := hid (D7.out.kp x2)
    have T10 := hid (T7.out.kp x2)
    have K10 := hid (K7.out.trans x2)
    clear x1 x2 A9 K9 R7 Q7 D7 T7 K7
    have RT0 := right_0 ⟨j, hj9⟩ ere
    have RT1 := right_1 ⟨j, hj9⟩ ere
    have RT2 := right_2 ⟨j, hj9⟩ ⟨k1, mn1, mx1, mm1, t1, ad1, l1, c1⟩ RM.out
    have RT3 := right_3 ⟨j, hj9⟩ ere
    dsimp only at RT0 RT1 RT2 RT3
    rw [HP.out] at RT0 RT1 RT2 RT3
    have htx : (txN p).size ≤ 1 := by unfold txN; split <;> decide
    obtain ⟨tx, hx⟩ : ∃ t, txN p = t := ⟨_, rfl⟩
    rw [hx] at A10 RT0 RT1 RT2 RT3 htx
    obtain ⟨b0, hb⟩ : ∃ t, Y.heap.size = t := ⟨_, rfl⟩
    rw [hb] at A10 ⊢
    clear hx hb HP
    have N0 : Hid (∀ w, Calls Tryz.prog 23 #[Cv.v (cN Av.z Av.z false p tx), .bool ere] w fun e w' => e = .returned (.bool true) ∧ Kp w w') := fun w => by rw [← RT0]; exact rightC_any (cN Av.z Av.z false p tx) zR zR zR [] ere (cN_ok _ _ _ _ _ zR_ok zR_ok hp256 htx) w (cN_is _ _ _ _ _ (zR_is w) (zR_is w))
    have N1 : Hid (∀ w, Calls Tryz.prog 23 #[Cv.v (cN ⟨2, 0, Rv.z⟩ Av.z false p tx), .bool ere] w fun e w' => e = .returned (.bool (!lbl p)) ∧ Kp w w') := fun w => by rw [← RT1]; exact rightC_any (cN ⟨2, 0, Rv.z⟩ Av.z false p tx) zR zR zR [] ere (cN_ok _ _ _ _ _ zR_ok zR_ok hp256 htx) w (cN_is _ _ _ _ _ (zR_is w) (zR_is w))
    have N2 : Hid (∀ w, Pd w T k1 mn1 mx1 mm1 t1 ad1 l1 c1 → Calls Tryz.prog 23 #[Cv.v (cN ⟨3, 0, ⟨k1, mn1, mx1, mm1, t1, ad1, l1, c1⟩⟩ ⟨2, 0, Rv.z⟩ false p tx), .bool ere] w fun e w' => e = .returned (.bool (twoA p)) ∧ Kp w w') := fun w h => by rw [← RT2]; exact rightC_any (cN ⟨3, 0, ⟨k1, mn1, mx1, mm1, t1, ad1, l1, c1⟩⟩ ⟨2, 0, Rv.z⟩ false p tx) T zR zR [] ere (cN_ok _ _ _ _ _ hO zR_ok hp256 htx) w (cN_is _ _ _ _ _ h (zR_is w))
    have N3 : Hid (∀ w, Calls Tryz.prog 23 #[Cv.v (cN Av.z Av.z true p tx), .bool ere] w fun e w' => e = .returned (.bool (!lbl p)) ∧ Kp w w') := fun w => by rw [← RT3]; exact rightC_any (cN Av.z Av.z true p tx) zR zR zR [] ere (cN_ok _ _ _ _ _ zR_ok zR_ok hp256 htx) w (cN_is _ _ _ _ _ (zR_is w) (zR_is w))
    clear RT0 RT1 RT2 RT3 RM htx
    have W0X := hid (Kp.refl W10)
    go_upto_region 15 with fail
    go_cut [17, 18, 19] (fun u v x wc => ∃ B1 B2 B3, u = .pointer (some ⟨B1, 0, none⟩) ∧ v = .pointer (some ⟨B2, 0, none⟩) ∧ x = .pointer (some ⟨B3, 0, none⟩) ∧ B1 ≠ B2 ∧ B1 ≠ B3 ∧ B2 ≠ B3 ∧ W10.heap.size ≤ B1 ∧ W10.heap.size ≤ B2 ∧ W10.heap.size ≤ B3 ∧ wc.heap[B1]? = some (Cv.o (cN Av.z Av.z false p tx)) ∧ wc.heap[B2]? = some (Cv.o (cN Av.z Av.z false p tx)) ∧ wc.heap[B3]? = some (Cv.o (cN Av.z Av.z false p tx)) ∧ Kp W10 wc)
    case first =>
     have Q0 : Kp W10 W10.drew := (Kp.refl _).drew
     have MK : Hid (∀ W, Kp W10 W → Hid (Kp W10 W)) := fun W k => k
     refine wp_region_noPanic ?_
     refine hdrew MK Q0 (fun hH => ?_)
     have KQ := Q0
     refine wpAnyH_take (i := 0) (oi := { dst := some 90, op := Op.load 37 (Operand.tmp 16), type := 37, pos := "law.go:126", after := #[], guard := none }) (v := Cv.v (cN Av.z Av.z false p tx)) rfl (by kernel_rfl) (by kernel_rfl) (by kernel_rfl) (fun _ _ _ h => h) (yields_cv (by rfl) rfl rfl (cN Av.z Av.z false p tx) (fun W hSw => bl_kp A10.out hSw.out)) hH ?r0c2
     try simp only [ps]
     refine wpAnyH_take (i := 1) (oi := { dst := some 91, op := Op.load 37 (Operand.tmp 16), type := 37, pos := "law.go:126", after := _, guard := none }) (v := Cv.v (cN Av.z Av.z false p tx)) rfl (by kernel_rfl) (by kernel_rfl) (by kernel_rfl) (fun _ _ _ h => h) (yields_cv (by rfl) rfl rfl (cN Av.z Av.z false p tx) (fun W hSw => bl_kp A10.out hSw.out)) hH ?r1c4
     try simp only [ps]
     refine wpAnyH_take (i := 2) (oi := { dst := some 92, op := Op.load 37 (Operand.tmp 16), type := 37, pos := "law.go:126", after := _, guard := none }) (v := Cv.v (cN Av.z Av.z false p tx)) rfl (by kernel_rfl) (by kernel_rfl) (by kernel_rfl) (fun _ _ _ h => h) (yields_cv (by rfl) rfl rfl (cN Av.z Av.z false p tx) (fun W hSw => bl_kp A10.out hSw.out)) hH ?r2c6
     try simp only [ps]
     refine wpAnyH_ready (rs := [3, 4, 5]) (by kernel_rfl) (by simp) ?_
     refine AllReadyH.cons (o := { dst := some 17, op := Op.alloc 37, type := 0, pos := "law.go:126", after := #[], guard := none }) rfl (fun K hKq => ?_) ?_
     ·
      go_simp
      refine hKq.out _ _ (MK.out _ (by first | exact KQ.alloc _ | exact (KQ0.alloc _).drew)) (fun hN => ?_)
      clear hKq K hH KQ
      have hH := hN
      clear hN
      have KQ := hH.out
      try simp only [ps]
      refine wpAnyH_ready (rs := [4, 5]) (by kernel_rfl) (by simp) ?_
      refine AllReadyH.cons (o := { dst := some 18, op := Op.alloc 37, type := 0, pos := "law.go:126", after := #[], guard := none }) rfl (fun K hKq => ?_) ?_
      ·
       go_simp
       refine hKq.out _ _ (MK.out _ (by first | exact KQ.alloc _ | exact (KQ0.alloc _).drew)) (fun hN => ?_)
       clear hKq K hH KQ
       have hH := hN
       clear hN
       have KQ := hH.out
       try simp only [ps]
       refine wpAnyH_ready (rs := [5]) (by kernel_rfl) (by simp) ?_
       refine AllReadyH.cons (o := { dst := some 19, op := Op.alloc 37, type := 0, pos := "law.go:126", after := #[], guard := none }) rfl (fun K hKq => ?_) AllReadyH.nil
       go_simp
       refine hKq.out _ _ (MK.out _ (by first | exact KQ.alloc _ | exact (KQ0.alloc _).drew)) (fun hN => ?_)
       clear hKq K hH KQ
       have hH := hN
       clear hN
       have KQ := hH.out
       try simp only [ps]
       refine wpAnyH_ready (rs := [6]) (by kernel_rfl) (by simp) ?_
       refine AllReadyH.cons (o := { dst := none, op := Op.store 37 (Operand.tmp 17) (Operand.tmp 90), type := 0, pos := "law.go:126", after := _, guard := none }) rfl (fun K hKq => ?_) AllReadyH.nil
       refine wp_store_cv rfl rfl (cN Av.z Av.z false p tx) rfl (bl_alloc (bl_alloc (last_at _ _ _ (by first | (simp; done) | rfl)) _) _) rfl ?_
       intro Wa xa ya
       refine hKq.out _ _ (MK.out _ (ya.up KQ (by (first | exact Nat.le_refl _ | (simp; done) | (simp; omega) | omega | (show 0 = 1; rfl))))) (fun hN => ?_)
       clear hKq K hH KQ
       have hH := hN
       clear hN
       have KQ := hH.out
       try simp only [Act.put]
       refine wpAnyH_ready (rs := [7]) (by kernel_rfl) (by simp) ?_
       refine AllReadyH.cons (o := { dst := none, op := Op.store 37 (Operand.tmp 18) (Operand.tmp 91), type := 0, pos := "law.go:126", after := _, guard := none }) rfl (fun K hKq => ?_) AllReadyH.nil
       refine wp_store_cv rfl rfl (cN Av.z Av.z false p tx) rfl (ks_bl ya (bl_alloc (last_at _ _ _ (by first | (simp; done) | rfl)) _) (by (first | exact Nat.le_refl _ | (simp; done) | (simp; omega) | omega | (show 0 = 1; rfl)))) rfl ?_
       intro Wb xb yb
       refine hKq.out _ _ (MK.out _ (yb.up KQ (by (first | exact Nat.le_refl _ | (simp; done) | (simp; omega) | omega | (show 0 = 1; rfl))))) (fun hN => ?_)
       clear hKq K hH KQ
       have hH := hN
       clear hN
       have KQ := hH.out
       try simp only [Act.put]
       refine wpAnyH_ready (rs := [8]) (by kernel_rfl) (by simp) ?_
       refine AllReadyH.cons (o := { dst := none, op := Op.store 37 (Operand.tmp 19) (Operand.tmp 92), type := 0, pos := "law.go:126", after := _, guard := none }) rfl (fun K hKq => ?_) AllReadyH.nil
       refine wp_store_cv rfl rfl (cN Av.z Av.z false p tx) rfl (ks_bl yb (ks_bl ya (last_at _ _ _ (by first | (simp; done) | rfl)) (by (first | exact Nat.le_refl _ | (simp; done) | (simp; omega) | omega | (show 0 = 1; rfl)))) (by (first | exact Nat.le_refl _ | (simp; done) | (simp; omega) | omega | (show 0 = 1; rfl)))) rfl ?_
       intro Wc xc yc
       refine hKq.out _ _ (MK.out _ (yc.up KQ (by (first | exact Nat.le_refl _ | (simp; done) | (simp; omega) | omega | (show 0 = 1; rfl))))) (fun hN => ?_)
       clear hKq K hH KQ
       have hH := hN
       clear hN
       have KQ := hH.out
       try simp only [Act.put]
       refine wpAnyH_done (by kernel_rfl) ?_ _
       refine NoPanic.normal ?_
       go_wp2_with fail
       go_meet
       case rel => exact ⟨_, _, _, rfl, rfl, rfl, by (first | exact Nat.le_refl _ | (simp; done) | (simp; omega) | omega | (show 0 = 1; rfl)), by (first | exact Nat.le_refl _ | (simp; done) | (simp; omega) | omega | (show 0 = 1; rfl)), by (first | exact Nat.le_refl _ | (simp; done) | (simp; omega) | omega | (show 0 = 1; rfl)), by (first | exact Nat.le_refl _ | (simp; done) | (simp; omega) | omega | (show 0 = 1; rfl)), by (first | exact Nat.le_refl _ | (simp; done) | (simp; omega) | omega | (show 0 = 1; rfl)), by (first | exact Nat.le_refl _ | (simp; done) | (simp; omega) | omega | (show 0 = 1; rfl)), bl_ks (bl_ks xa (by (first | exact Nat.le_refl _ | (simp; done) | (simp; omega) | omega | (show 0 = 1; rfl))) yb) (by (first | exact Nat.le_refl _ | (simp; done) | (simp; omega) | omega | (show 0 = 1; rfl))) yc, bl_ks xb (by (first | exact Nat.le_refl _ | (simp; done) | (simp; omega) | omega | (show 0 = 1; rfl))) yc, xc, KQ⟩
      refine AllReadyH.cons (o := { dst := some 19, op := Op.alloc 37, type := 0, pos := "law.go:126", after := #[], guard := none }) rfl (fun K hKq => ?_) ?_
      ·
       go_simp
       refine hKq.out _ _ (MK.out _ (by first | exact KQ.alloc _ | exact (KQ0.alloc _).drew)) (fun hN => ?_)
       clear hKq K hH KQ
       have hH := hN
       clear hN
       have KQ := hH.out
       try simp only [ps]
       refine wpAnyH_ready (rs := [4]) (by kernel_rfl) (by simp) ?_
       refine AllReadyH.cons (o := { dst := some 18, op := Op.alloc 37, type := 0, pos := "law.go:126", after := #[], guard := none }) rfl (fun K hKq => ?_) AllReadyH.nil
       go_simp
       refine hKq.out _ _ (MK.out _ (by first | exact KQ.alloc _ | exact (KQ0.alloc _).drew)) (fun hN => ?_)
       clear hKq K hH KQ
       have hH := hN
       clear hN
       have KQ := hH.out
       try simp only [ps]
       refine wpAnyH_ready (rs := [6]) (by kernel_rfl) (by simp) ?_
       refine AllReadyH.cons (o := { dst := none, op := Op.store 37 (Operand.tmp 17) (Operand.tmp 90), type := 0, pos := "law.go:126", after := _, guard := none }) rfl (fun K hKq => ?_) AllReadyH.nil
       refine wp_store_cv rfl rfl (cN Av.z Av.z false p tx) rfl (bl_alloc (bl_alloc (last_at _ _ _ (by first | (simp; done) | rfl)) _) _) rfl ?_
       intro Wa xa ya
       refine hKq.out _ _ (MK.out _ (ya.up KQ (by (first | exact Nat.le_refl _ | (simp; done) | (simp; omega) | omega | (show 0 = 1; rfl))))) (fun hN => ?_)
       clear hKq K hH KQ
       have hH := hN
       clear hN
       have KQ := hH.out
       try simp only [Act.put]
       refine wpAnyH_ready (rs := [7]) (by kernel_rfl) (by simp) ?_
       refine AllReadyH.cons (o := { dst := none, op := Op.store 37 (Operand.tmp 18) (Operand.tmp 91), type := 0, pos := "law.go:126", after := _, guard := none }) rfl (fun K hKq => ?_) AllReadyH.nil
       refine wp_store_cv rfl rfl (cN Av.z Av.z false p tx) rfl (ks_bl ya (last_at _ _ _ (by first | (simp; done) | rfl)) (by (first | exact Nat.le_refl _ | (simp; done) | (simp; omega) | omega | (show 0 = 1; rfl)))) rfl ?_
       intro Wb xb yb
       refine hKq.out _ _ (MK.out _ (yb.up KQ (by (first | exact Nat.le_refl _ | (simp; done) | (simp; omega) | omega | (show 0 = 1; rfl))))) (fun hN => ?_)
       clear hKq K hH KQ
       have hH := hN
       clear hN
       have KQ := hH.out
       try simp only [Act.put]
       refine wpAnyH_ready (rs := [8]) (by kernel_rfl) (by simp) ?_
       refine AllReadyH.cons (o := { dst := none, op := Op.store 37 (Operand.tmp 19) (Operand.tmp 92), type := 0, pos := "law.go:126", after := _, guard := none }) rfl (fun K hKq => ?_) AllReadyH.nil
       refine wp_store_cv rfl rfl (cN Av.z Av.z false p tx) rfl (ks_bl yb (ks_bl ya (bl_alloc (last_at _ _ _ (by first | (simp; done) | rfl)) _) (by (first | exact Nat.le_refl _ | (simp; done) | (simp; omega) | omega | (show 0 = 1; rfl)))) (by (first | exact Nat.le_refl _ | (simp; done) | (simp; omega) | omega | (show 0 = 1; rfl)))) rfl ?_
       intro Wc xc yc
       refine hKq.out _ _ (MK.out _ (yc.up KQ (by (first | exact Nat.le_refl _ | (simp; done) | (simp; omega) | omega | (show 0 = 1; rfl))))) (fun hN => ?_)
       clear hKq K hH KQ
       have hH := hN
       clear hN
       have KQ := hH.out
       try simp only [Act.put]
       refine wpAnyH_done (by kernel_rfl) ?_ _
       refine NoPanic.normal ?_
       go_wp2_with fail
       go_meet
       case rel => exact ⟨_, _, _, rfl, rfl, rfl, by (first | exact Nat.le_refl _ | (simp; done) | (simp; omega) | omega | (show 0 = 1; rfl)), by (first | exact Nat.le_refl _ | (simp; done) | (simp; omega) | omega | (show 0 = 1; rfl)), by (first | exact Nat.le_refl _ | (simp; done) | (simp; omega) | omega | (show 0 = 1; rfl)), by (first | exact Nat.le_refl _ | (simp; done) | (simp; omega) | omega | (show 0 = 1; rfl)), by (first | exact Nat.le_refl _ | (simp; done) | (simp; omega) | omega | (show 0 = 1; rfl)), by (first | exact Nat.le_refl _ | (simp; done) | (simp; omega) | omega | (show 0 = 1; rfl)), bl_ks (bl_ks xa (by (first | exact Nat.le_refl _ | (simp; done) | (simp; omega) | omega | (show 0 = 1; rfl))) yb) (by (first | exact Nat.le_refl _ | (simp; done) | (simp; omega) | omega | (show 0 = 1; rfl))) yc, bl_ks xb (by (first | exact Nat.le_refl _ | (simp; done) | (simp; omega) | omega | (show 0 = 1; rfl))) yc, xc, KQ⟩
      exact AllReadyH.nil
     refine AllReadyH.cons (o := { dst := some 18, op := Op.alloc 37, type := 0, pos := "law.go:126", after := #[], guard := none }) rfl (fun K hKq => ?_) ?_
     ·
      go_simp
      refine hKq.out _ _ (MK.out _ (by first | exact KQ.alloc _ | exact (KQ0.alloc _).drew)) (fun hN => ?_)
      clear hKq K hH KQ
      have hH := hN
      clear hN
      have KQ := hH.out
      try simp only [ps]
      refine wpAnyH_ready (rs := [3, 5]) (by kernel_rfl) (by simp) ?_
      refine AllReadyH.cons (o := { dst := some 17, op := Op.alloc 37, type := 0, pos := "law.go:126", after := #[], guard := none }) rfl (fun K hKq => ?_) ?_
      ·
       go_simp
       refine hKq.out _ _ (MK.out _ (by first | exact KQ.alloc _ | exact (KQ0.alloc _).drew)) (fun hN => ?_)
       clear hKq K hH KQ
       have hH := hN
       clear hN
       have KQ := hH.out
       try simp only [ps]
       refine wpAnyH_ready (rs := [5]) (by kernel_rfl) (by simp) ?_
       refine AllReadyH.cons (o := { dst := some 19, op := Op.alloc 37, type := 0, pos := "law.go:126", after := #[], guard := none }) rfl (fun K hKq => ?_) AllReadyH.nil
       go_simp
       refine hKq.out _ _ (MK.out _ (by first | exact KQ.alloc _ | exact (KQ0.alloc _).drew)) (fun hN => ?_)
       clear hKq K hH KQ
       have hH := hN
       clear hN
       have KQ := hH.out
       try simp only [ps]
       refine wpAnyH_ready (rs := [6]) (by kernel_rfl) (by simp) ?_
       refine AllReadyH.cons (o := { dst := none, op := Op.store 37 (Operand.tmp 17) (Operand.tmp 90), type := 0, pos := "law.go:126", after := _, guard := none }) rfl (fun K hKq => ?_) AllReadyH.nil
       refine wp_store_cv rfl rfl (cN Av.z Av.z false p tx) rfl (bl_alloc (last_at _ _ _ (by first | (simp; done) | rfl)) _) rfl ?_
       intro Wa xa ya
       refine hKq.out _ _ (MK.out _ (ya.up KQ (by (first | exact Nat.le_refl _ | (simp; done) | (simp; omega) | omega | (show 0 = 1; rfl))))) (fun hN => ?_)
       clear hKq K hH KQ
       have hH := hN
       clear hN
       have KQ := hH.out
       try simp only [Act.put]
       refine wpAnyH_ready (rs := [7]) (by kernel_rfl) (by simp) ?_
       refine AllReadyH.cons (o := { dst := none, op := Op.store 37 (Operand.tmp 18) (Operand.tmp 91), type := 0, pos := "law.go:126", after := _, guard := none }) rfl (fun K hKq => ?_) AllReadyH.nil
       refine wp_store_cv rfl rfl (cN Av.z Av.z false p tx) rfl (ks_bl ya (bl_alloc (bl_alloc (last_at _ _ _ (by first | (simp; done) | rfl)) _) _) (by (first | exact Nat.le_refl _ | (simp; done) | (simp; omega) | omega | (show 0 = 1; rfl)))) rfl ?_
       intro Wb xb yb
       refine hKq.out _ _ (MK.out _ (yb.up KQ (by (first | exact Nat.le_refl _ | (simp; done) | (simp; omega) | omega | (show 0 = 1; rfl))))) (fun hN => ?_)
       clear hKq K hH KQ
       have hH := hN
       clear hN
       have KQ := hH.out
       try simp only [Act.put]
       refine wpAnyH_ready (rs := [8]) (by kernel_rfl) (by simp) ?_
       refine AllReadyH.cons (o := { dst := none, op := Op.store 37 (Operand.tmp 19) (Operand.tmp 92), type := 0, pos := "law.go:126", after := _, guard := none }) rfl (fun K hKq => ?_) AllReadyH.nil
       refine wp_store_cv rfl rfl (cN Av.z Av.z false p tx) rfl (ks_bl yb (ks_bl ya (last_at _ _ _ (by first | (simp; done) | rfl)) (by (first | exact Nat.le_refl _ | (simp; done) | (simp; omega) | omega | (show 0 = 1; rfl)))) (by (first | exact Nat.le_refl _ | (simp; done) | (simp; omega) | omega | (show 0 = 1; rfl)))) rfl ?_
       intro Wc xc yc
       refine hKq.out _ _ (MK.out _ (yc.up KQ (by (first | exact Nat.le_refl _ | (simp; done) | (simp; omega) | omega | (show 0 = 1; rfl))))) (fun hN => ?_)
       clear hKq K hH KQ
       have hH := hN
       clear hN
       have KQ := hH.out
       try simp only [Act.put]
       refine wpAnyH_done (by kernel_rfl) ?_ _
       refine NoPanic.normal ?_
       go_wp2_with fail
       go_meet
       case rel => exact ⟨_, _, _, rfl, rfl, rfl, by (first | exact Nat.le_refl _ | (simp; done) | (simp; omega) | omega | (show 0 = 1; rfl)), by (first | exact Nat.le_refl _ | (simp; done) | (simp; omega) | omega | (show 0 = 1; rfl)), by (first | exact Nat.le_refl _ | (simp; done) | (simp; omega) | omega | (show 0 = 1; rfl)), by (first | exact Nat.le_refl _ | (simp; done) | (simp; omega) | omega | (show 0 = 1; rfl)), by (first | exact Nat.le_refl _ | (simp; done) | (simp; omega) | omega | (show 0 = 1; rfl)), by (first | exact Nat.le_refl _ | (simp; done) | (simp; omega) | omega | (show 0 = 1; rfl)), bl_ks (bl_ks xa (by (first | exact Nat.le_refl _ | (simp; done) | (simp; omega) | omega | (show 0 = 1; rfl))) yb) (by (first | exact Nat.le_refl _ | (simp; done) | (simp; omega) | omega | (show 0 = 1; rfl))) yc, bl_ks xb (by (first | exact Nat.le_refl _ | (simp; done) | (simp; omega) | omega | (show 0 = 1; rfl))) yc, xc, KQ⟩
      refine AllReadyH.cons (o := { dst := some 19, op := Op.alloc 37, type := 0, pos := "law.go:126", after := #[], guard := none }) rfl (fun K hKq => ?_) ?_
      ·
       go_simp
       refine hKq.out _ _ (MK.out _ (by first | exact KQ.alloc _ | exact (KQ0.alloc _).drew)) (fun hN => ?_)
       clear hKq K hH KQ
       have hH := hN
       clear hN
       have KQ := hH.out
       try simp only [ps]
       refine wpAnyH_ready (rs := [3]) (by kernel_rfl) (by simp) ?_
       refine AllReadyH.cons (o := { dst := some 17, op := Op.alloc 37, type := 0, pos := "law.go:126", after := #[], guard := none }) rfl (fun K hKq => ?_) AllReadyH.nil
       go_simp
       refine hKq.out _ _ (MK.out _ (by first | exact KQ.alloc _ | exact (KQ0.alloc _).drew)) (fun hN => ?_)
       clear hKq K hH KQ
       have hH := hN
       clear hN
       have KQ := hH.out
       try simp only [ps]
       refine wpAnyH_ready (rs := [6]) (by kernel_rfl) (by simp) ?_
       refine AllReadyH.cons (o := { dst := none, op := Op.store 37 (Operand.tmp 17) (Operand.tmp 90), type := 0, pos := "law.go:126", after := _, guard := none }) rfl (fun K hKq => ?_) AllReadyH.nil
       refine wp_store_cv rfl rfl (cN Av.z Av.z false p tx) rfl (last_at _ _ _ (by first | (simp; done) | rfl)) rfl ?_
       intro Wa xa ya
       refine hKq.out _ _ (MK.out _ (ya.up KQ (by (first | exact Nat.le_refl _ | (simp; done) | (simp; omega) | omega | (show 0 = 1; rfl))))) (fun hN => ?_)
       clear hKq K hH KQ
       have hH := hN
       clear hN
       have KQ := hH.out
       try simp only [Act.put]
       refine wpAnyH_ready (rs := [7]) (by kernel_rfl) (by simp) ?_
       refine AllReadyH.cons (o := { dst := none, op := Op.store 37 (Operand.tmp 18) (Operand.tmp 91), type := 0, pos := "law.go:126", after := _, guard := none }) rfl (fun K hKq => ?_) AllReadyH.nil
       refine wp_store_cv rfl rfl (cN Av.z Av.z false p tx) rfl (ks_bl ya (bl_alloc (bl_alloc (last_at _ _ _ (by first | (simp; done) | rfl)) _) _) (by (first | exact Nat.le_refl _ | (simp; done) | (simp; omega) | omega | (show 0 = 1; rfl)))) rfl ?_
       intro Wb xb yb
       refine hKq.out _ _ (MK.out _ (yb.up KQ (by (first | exact Nat.le_refl _ | (simp; done) | (simp; omega) | omega | (show 0 = 1; rfl))))) (fun hN => ?_)
       clear hKq K hH KQ
       have hH := hN
       clear hN
       have KQ := hH.out
       try simp only [Act.put]
       refine wpAnyH_ready (rs := [8]) (by kernel_rfl) (by simp) ?_
       refine AllReadyH.cons (o := { dst := none, op := Op.store 37 (Operand.tmp 19) (Operand.tmp 92), type := 0, pos := "law.go:126", after := _, guard := none }) rfl (fun K hKq => ?_) AllReadyH.nil
       refine wp_store_cv rfl rfl (cN Av.z Av.z false p tx) rfl (ks_bl yb (ks_bl ya (bl_alloc (last_at _ _ _ (by first | (simp; done) | rfl)) _) (by (first | exact Nat.le_refl _ | (simp; done) | (simp; omega) | omega | (show 0 = 1; rfl)))) (by (first | exact Nat.le_refl _ | (simp; done) | (simp; omega) | omega | (show 0 = 1; rfl)))) rfl ?_
       intro Wc xc yc
       refine hKq.out _ _ (MK.out _ (yc.up KQ (by (first | exact Nat.le_refl _ | (simp; done) | (simp; omega) | omega | (show 0 = 1; rfl))))) (fun hN => ?_)
       clear hKq K hH KQ
       have hH := hN
       clear hN
       have KQ := hH.out
       try simp only [Act.put]
       refine wpAnyH_done (by kernel_rfl) ?_ _
       refine NoPanic.normal ?_
       go_wp2_with fail
       go_meet
       case rel => exact ⟨_, _, _, rfl, rfl, rfl, by (first | exact Nat.le_refl _ | (simp; done) | (simp; omega) | omega | (show 0 = 1; rfl)), by (first | exact Nat.le_refl _ | (simp; done) | (simp; omega) | omega | (show 0 = 1; rfl)), by (first | exact Nat.le_refl _ | (simp; done) | (simp; omega) | omega | (show 0 = 1; rfl)), by (first | exact Nat.le_refl _ | (simp; done) | (simp; omega) | omega | (show 0 = 1; rfl)), by (first | exact Nat.le_refl _ | (simp; done) | (simp; omega) | omega | (show 0 = 1; rfl)), by (first | exact Nat.le_refl _ | (simp; done) | (simp; omega) | omega | (show 0 = 1; rfl)), bl_ks (bl_ks xa (by (first | exact Nat.le_refl _ | (simp; done) | (simp; omega) | omega | (show 0 = 1; rfl))) yb) (by (first | exact Nat.le_refl _ | (simp; done) | (simp; omega) | omega | (show 0 = 1; rfl))) yc, bl_ks xb (by (first | exact Nat.le_refl _ | (simp; done) | (simp; omega) | omega | (show 0 = 1; rfl))) yc, xc, KQ⟩
      exact AllReadyH.nil
     refine AllReadyH.cons (o := { dst := some 19, op := Op.alloc 37, type := 0, pos := "law.go:126", after := #[], guard := none }) rfl (fun K hKq => ?_) ?_
     ·
      go_simp
      refine hKq.out _ _ (MK.out _ (by first | exact KQ.alloc _ | exact (KQ0.alloc _).drew)) (fun hN => ?_)
      clear hKq K hH KQ
      have hH := hN
      clear hN
      have KQ := hH.out
      try simp only [ps]
      refine wpAnyH_ready (rs := [3, 4]) (by kernel_rfl) (by simp) ?_
      refine AllReadyH.cons (o := { dst := some 17, op := Op.alloc 37, type := 0, pos := "law.go:126", after := #[], guard := none }) rfl (fun K hKq => ?_) ?_
      ·
       go_simp
       refine hKq.out _ _ (MK.out _ (by first | exact KQ.alloc _ | exact (KQ0.alloc _).drew)) (fun hN => ?_)
       clear hKq K hH KQ
       have hH := hN
       clear hN
       have KQ := hH.out
       try simp only [ps]
       refine wpAnyH_ready (rs := [4]) (by kernel_rfl) (by simp) ?_
       refine AllReadyH.cons (o := { dst := some 18, op := Op.alloc 37, type := 0, pos := "law.go:126", after := #[], guard := none }) rfl (fun K hKq => ?_) AllReadyH.nil
       go_simp
       refine hKq.out _ _ (MK.out _ (by first | exact KQ.alloc _ | exact (KQ0.alloc _).drew)) (fun hN => ?_)
       clear hKq K hH KQ
       have hH := hN
       clear hN
       have KQ := hH.out
       try simp only [ps]
       refine wpAnyH_ready (rs := [6]) (by kernel_rfl) (by simp) ?_
       refine AllReadyH.cons (o := { dst := none, op := Op.store 37 (Operand.tmp 17) (Operand.tmp 90), type := 0, pos := "law.go:126", after := _, guard := none }) rfl (fun K hKq => ?_) AllReadyH.nil
       refine wp_store_cv rfl rfl (cN Av.z Av.z false p tx) rfl (bl_alloc (last_at _ _ _ (by first | (simp; done) | rfl)) _) rfl ?_
       intro Wa xa ya
       refine hKq.out _ _ (MK.out _ (ya.up KQ (by (first | exact Nat.le_refl _ | (simp; done) | (simp; omega) | omega | (show 0 = 1; rfl))))) (fun hN => ?_)
       clear hKq K hH KQ
       have hH := hN
       clear hN
       have KQ := hH.out
       try simp only [Act.put]
       refine wpAnyH_ready (rs := [7]) (by kernel_rfl) (by simp) ?_
       refine AllReadyH.cons (o := { dst := none, op := Op.store 37 (Operand.tmp 18) (Operand.tmp 91), type := 0, pos := "law.go:126", after := _, guard := none }) rfl (fun K hKq => ?_) AllReadyH.nil
       refine wp_store_cv rfl rfl (cN Av.z Av.z false p tx) rfl (ks_bl ya (last_at _ _ _ (by first | (simp; done) | rfl)) (by (first | exact Nat.le_refl _ | (simp; done) | (simp; omega) | omega | (show 0 = 1; rfl)))) rfl ?_
       intro Wb xb yb
       refine hKq.out _ _ (MK.out _ (yb.up KQ (by (first | exact Nat.le_refl _ | (simp; done) | (simp; omega) | omega | (show 0 = 1; rfl))))) (fun hN => ?_)
       clear hKq K hH KQ
       have hH := hN
       clear hN
       have KQ := hH.out
       try simp only [Act.put]
       refine wpAnyH_ready (rs := [8]) (by kernel_rfl) (by simp) ?_
       refine AllReadyH.cons (o := { dst := none, op := Op.store 37 (Operand.tmp 19) (Operand.tmp 92), type := 0, pos := "law.go:126", after := _, guard := none }) rfl (fun K hKq => ?_) AllReadyH.nil
       refine wp_store_cv rfl rfl (cN Av.z Av.z false p tx) rfl (ks_bl yb (ks_bl ya (bl_alloc (bl_alloc (last_at _ _ _ (by first | (simp; done) | rfl)) _) _) (by (first | exact Nat.le_refl _ | (simp; done) | (simp; omega) | omega | (show 0 = 1; rfl)))) (by (first | exact Nat.le_refl _ | (simp; done) | (simp; omega) | omega | (show 0 = 1; rfl)))) rfl ?_
       intro Wc xc yc
       refine hKq.out _ _ (MK.out _ (yc.up KQ (by (first | exact Nat.le_refl _ | (simp; done) | (simp; omega) | omega | (show 0 = 1; rfl))))) (fun hN => ?_)
       clear hKq K hH KQ
       have hH := hN
       clear hN
       have KQ := hH.out
       try simp only [Act.put]
       refine wpAnyH_done (by kernel_rfl) ?_ _
       refine NoPanic.normal ?_
       go_wp2_with fail
       go_meet
       case rel => exact ⟨_, _, _, rfl, rfl, rfl, by (first | exact Nat.le_refl _ | (simp; done) | (simp; omega) | omega | (show 0 = 1; rfl)), by (first | exact Nat.le_refl _ | (simp; done) | (simp; omega) | omega | (show 0 = 1; rfl)), by (first | exact Nat.le_refl _ | (simp; done) | (simp; omega) | omega | (show 0 = 1; rfl)), by (first | exact Nat.le_refl _ | (simp; done) | (simp; omega) | omega | (show 0 = 1; rfl)), by (first | exact Nat.le_refl _ | (simp; done) | (simp; omega) | omega | (show 0 = 1; rfl)), by (first | exact Nat.le_refl _ | (simp; done) | (simp; omega) | omega | (show 0 = 1; rfl)), bl_ks (bl_ks xa (by (first | exact Nat.le_refl _ | (simp; done) | (simp; omega) | omega | (show 0 = 1; rfl))) yb) (by (first | exact Nat.le_refl _ | (simp; done) | (simp; omega) | omega | (show 0 = 1; rfl))) yc, bl_ks xb (by (first | exact Nat.le_refl _ | (simp; done) | (simp; omega) | omega | (show 0 = 1; rfl))) yc, xc, KQ⟩
      refine AllReadyH.cons (o := { dst := some 18, op := Op.alloc 37, type := 0, pos := "law.go:126", after := #[], guard := none }) rfl (fun K hKq => ?_) ?_
      ·
       go_simp
       refine hKq.out _ _ (MK.out _ (by first | exact KQ.alloc _ | exact (KQ0.alloc _).drew)) (fun hN => ?_)
       clear hKq K hH KQ
       have hH := hN
       clear hN
       have KQ := hH.out
       try simp only [ps]
       refine wpAnyH_ready (rs := [3]) (by kernel_rfl) (by simp) ?_
       refine AllReadyH.cons (o := { dst := some 17, op := Op.alloc 37, type := 0, pos := "law.go:126", after := #[], guard := none }) rfl (fun K hKq => ?_) AllReadyH.nil
       go_simp
       refine hKq.out _ _ (MK.out _ (by first | exact KQ.alloc _ | exact (KQ0.alloc _).drew)) (fun hN => ?_)
       clear hKq K hH KQ
       have hH := hN
       clear hN
       have KQ := hH.out
       try simp only [ps]
       refine wpAnyH_ready (rs := [6]) (by kernel_rfl) (by simp) ?_
       refine AllReadyH.cons (o := { dst := none, op := Op.store 37 (Operand.tmp 17) (Operand.tmp 90), type := 0, pos := "law.go:126", after := _, guard := none }) rfl (fun K hKq => ?_) AllReadyH.nil
       refine wp_store_cv rfl rfl (cN Av.z Av.z false p tx) rfl (last_at _ _ _ (by first | (simp; done) | rfl)) rfl ?_
       intro Wa xa ya
       refine hKq.out _ _ (MK.out _ (ya.up KQ (by (first | exact Nat.le_refl _ | (simp; done) | (simp; omega) | omega | (show 0 = 1; rfl))))) (fun hN => ?_)
       clear hKq K hH KQ
       have hH := hN
       clear hN
       have KQ := hH.out
       try simp only [Act.put]
       refine wpAnyH_ready (rs := [7]) (by kernel_rfl) (by simp) ?_
       refine AllReadyH.cons (o := { dst := none, op := Op.store 37 (Operand.tmp 18) (Operand.tmp 91), type := 0, pos := "law.go:126", after := _, guard := none }) rfl (fun K hKq => ?_) AllReadyH.nil
       refine wp_store_cv rfl rfl (cN Av.z Av.z false p tx) rfl (ks_bl ya (bl_alloc (last_at _ _ _ (by first | (simp; done) | rfl)) _) (by (first | exact Nat.le_refl _ | (simp; done) | (simp; omega) | omega | (show 0 = 1; rfl)))) rfl ?_
       intro Wb xb yb
       refine hKq.out _ _ (MK.out _ (yb.up KQ (by (first | exact Nat.le_refl _ | (simp; done) | (simp; omega) | omega | (show 0 = 1; rfl))))) (fun hN => ?_)
       clear hKq K hH KQ
       have hH := hN
       clear hN
       have KQ := hH.out
       try simp only [Act.put]
       refine wpAnyH_ready (rs := [8]) (by kernel_rfl) (by simp) ?_
       refine AllReadyH.cons (o := { dst := none, op := Op.store 37 (Operand.tmp 19) (Operand.tmp 92), type := 0, pos := "law.go:126", after := _, guard := none }) rfl (fun K hKq => ?_) AllReadyH.nil
       refine wp_store_cv rfl rfl (cN Av.z Av.z false p tx) rfl (ks_bl yb (ks_bl ya (bl_alloc (bl_alloc (last_at _ _ _ (by first | (simp; done) | rfl)) _) _) (by (first | exact Nat.le_refl _ | (simp; done) | (simp; omega) | omega | (show 0 = 1; rfl)))) (by (first | exact Nat.le_refl _ | (simp; done) | (simp; omega) | omega | (show 0 = 1; rfl)))) rfl ?_
       intro Wc xc yc
       refine hKq.out _ _ (MK.out _ (yc.up KQ (by (first | exact Nat.le_refl _ | (simp; done) | (simp; omega) | omega | (show 0 = 1; rfl))))) (fun hN => ?_)
       clear hKq K hH KQ
       have hH := hN
       clear hN
       have KQ := hH.out
       try simp only [Act.put]
       refine wpAnyH_done (by kernel_rfl) ?_ _
       refine NoPanic.normal ?_
       go_wp2_with fail
       go_meet
       case rel => exact ⟨_, _, _, rfl, rfl, rfl, by (first | exact Nat.le_refl _ | (simp; done) | (simp; omega) | omega | (show 0 = 1; rfl)), by (first | exact Nat.le_refl _ | (simp; done) | (simp; omega) | omega | (show 0 = 1; rfl)), by (first | exact Nat.le_refl _ | (simp; done) | (simp; omega) | omega | (show 0 = 1; rfl)), by (first | exact Nat.le_refl _ | (simp; done) | (simp; omega) | omega | (show 0 = 1; rfl)), by (first | exact Nat.le_refl _ | (simp; done) | (simp; omega) | omega | (show 0 = 1; rfl)), by (first | exact Nat.le_refl _ | (simp; done) | (simp; omega) | omega | (show 0 = 1; rfl)), bl_ks (bl_ks xa (by (first | exact Nat.le_refl _ | (simp; done) | (simp; omega) | omega | (show 0 = 1; rfl))) yb) (by (first | exact Nat.le_refl _ | (simp; done) | (simp; omega) | omega | (show 0 = 1; rfl))) yc, bl_ks xb (by (first | exact Nat.le_refl _ | (simp; done) | (simp; omega) | omega | (show 0 = 1; rfl))) yc, xc, KQ⟩
      exact AllReadyH.nil
     exact AllReadyH.nil
    case rest =>
     obtain ⟨B1, B2, B3, rfl, rfl, rfl, n12, n13, n23, l1', l2', l3', x1, x2, x3, kk⟩ := hcut
     rename World => W11
     have B1x := hid x1
     have B2x := hid x2
     have B3x := hid x3
     have kk0 := hid kk
     clear x1 x2 x3 kk
     go_upto_region 16 with fail
     go_cut [] (fun wc => wc.heap[B1]? = some (Cv.o (cN ⟨2, 0, Rv.z⟩ Av.z false p tx)) ∧ wc.heap[B2]? = some (Cv.o (cN ⟨3, 0, ⟨k1, mn1, mx1, mm1, t1, ad1, l1, c1⟩⟩ ⟨2, 0, Rv.z⟩ false p tx)) ∧ wc.heap[B3]? = some (Cv.o (cN Av.z Av.z true p tx)) ∧ Kp W10 wc)
     case first =>
      have Q0 : Kp W10 W11.drew := kk0.out.drew
      have MK : Hid (∀ W, Kp W10 W → Hid (Kp W10 W)) := fun W k => k
      refine wp_region_noPanic ?_
      refine hdrew MK Q0 (fun hH => ?_)
      have KQ := Q0
      refine wpAnyH_take (i := 0) (oi := { dst := some 93, op := Op.load 32 (Operand.tmp 12), type := 32, pos := "law.go:127", after := #[], guard := none }) (v := Av.v (⟨2, 0, Rv.z⟩ : Av)) rfl (by kernel_rfl) (by kernel_rfl) (by kernel_rfl) (fun _ _ _ h => h) (yields_av (by rfl) rfl rfl (⟨2, 0, Rv.z⟩ : Av) (fun W hSw => bl_kp R10.out hSw.out)) hH ?r0d1
      try simp only [ps]
      refine wpAnyH_take (i := 1) (oi := { dst := some 94, op := Op.load 32 (Operand.tmp 11), type := 32, pos := "law.go:127", after := _, guard := none }) (v := Av.v (⟨3, 0, ⟨k1, mn1, mx1, mm1, t1, ad1, l1, c1⟩⟩ : Av)) rfl (by kernel_rfl) (by kernel_rfl) (by kernel_rfl) (fun _ _ _ h => h) (yields_av (by rfl) rfl rfl (⟨3, 0, ⟨k1, mn1, mx1, mm1, t1, ad1, l1, c1⟩⟩ : Av) (fun W hSw => bl_kp Q10.out hSw.out)) hH ?r1d2
      try simp only [ps]
      refine wpAnyH_take (i := 2) (oi := { dst := some 95, op := Op.load 32 (Operand.tmp 12), type := 32, pos := "law.go:127", after := _, guard := none }) (v := Av.v (⟨2, 0, Rv.z⟩ : Av)) rfl (by kernel_rfl) (by kernel_rfl) (by kernel_rfl) (fun _ _ _ h => h) (yields_av (by rfl) rfl rfl (⟨2, 0, Rv.z⟩ : Av) (fun W hSw => bl_kp R10.out hSw.out)) hH ?r2d3
      try simp only [ps]
      refine tk 3 (some 96) (Op.fieldAddr 37 (Operand.tmp 17) 0) 0 (v := ?v3d4) rfl ?h3d4 hH ?_
      case h3d4 => intro _ _; go_simp; try with_reducible rfl
      try simp only [ps]
      refine wpAnyH_ready (rs := [4]) (by kernel_rfl) (by simp) ?_
      refine AllReadyH.cons (o := { dst := none, op := Op.store 32 (Operand.tmp 96) (Operand.tmp 93), type := 0, pos := "law.go:127", after := _, guard := none }) rfl (fun K hKq => ?_) AllReadyH.nil
      refine wp_store_a rfl rfl (⟨2, 0, Rv.z⟩ : Av) rfl B1x.out ?_
      intro Wa xa ya
      refine hKq.out _ _ (MK.out _ (ya.up KQ l1')) (fun hN => ?_)
      clear hKq K hH KQ
      have hH := hN
      clear hN
      have KQ := hH.out
      try simp only [Act.put]
      refine tk 5 (some 97) (Op.fieldAddr 37 (Operand.tmp 18) 0) 0 (v := ?v5d5) rfl ?h5d5 hH ?_
      case h5d5 => intro _ _; go_simp; try with_reducible rfl
      try simp only [ps]
      refine wpAnyH_ready (rs := [6]) (by kernel_rfl) (by simp) ?_
      refine AllReadyH.cons (o := { dst := none, op := Op.store 32 (Operand.tmp 97) (Operand.tmp 94), type := 0, pos := "law.go:127", after := _, guard := none }) rfl (fun K hKq => ?_) AllReadyH.nil
      refine wp_store_a rfl rfl (⟨3, 0, ⟨k1, mn1, mx1, mm1, t1, ad1, l1, c1⟩⟩ : Av) rfl (ks_bl ya B2x.out n12.symm) ?_
      intro Wb xb yb
      refine hKq.out _ _ (MK.out _ (yb.up KQ l2')) (fun hN => ?_)
      clear hKq K hH KQ
      have hH := hN
      clear hN
      have KQ := hH.out
      try simp only [Act.put]
      refine tk 7 (some 98) (Op.fieldAddr 37 (Operand.tmp 18) 1) 0 (v := ?v7d6) rfl ?h7d6 hH ?_
      case h7d6 => intro _ _; go_simp; try with_reducible rfl
      try simp only [ps]
      refine wpAnyH_ready (rs := [8]) (by kernel_rfl) (by simp) ?_
      refine AllReadyH.cons (o := { dst := none, op := Op.store 32 (Operand.tmp 98) (Operand.tmp 95), type := 0, pos := "law.go:127", after := _, guard := none }) rfl (fun K hKq => ?_) AllReadyH.nil
      refine wp_store_b rfl rfl (⟨2, 0, Rv.z⟩ : Av) rfl xb ?_
      intro Wc xc yc
      refine hKq.out _ _ (MK.out _ (yc.up KQ l2')) (fun hN => ?_)
      clear hKq K hH KQ
      have hH := hN
      clear hN
      have KQ := hH.out
      try simp only [Act.put]
      refine tk 9 (some 99) (Op.fieldAddr 37 (Operand.tmp 19) 2) 0 (v := ?v9d7) rfl ?h9d7 hH ?_
      case h9d7 => intro _ _; go_simp; try with_reducible rfl
      try simp only [ps]
      refine wpAnyH_ready (rs := [10]) (by kernel_rfl) (by simp) ?_
      refine AllReadyH.cons (o := { dst := none, op := Op.store 4 (Operand.tmp 99) (Operand.const (Value.bool true)), type := 0, pos := "law.go:127", after := _, guard := none }) rfl (fun K hKq => ?_) AllReadyH.nil
      refine wp_store_nt rfl rfl true rfl (ks_bl yc (ks_bl yb (ks_bl ya B3x.out n13.symm) n23.symm) n23.symm) ?_
      intro Wd xd yd
      refine hKq.out _ _ (MK.out _ (yd.up KQ l3')) (fun hN => ?_)
      clear hKq K hH KQ
      have hH := hN
      clear hN
      have KQ := hH.out
      try simp only [Act.put]
      refine wpAnyH_done (by kernel_rfl) ?_ _
      refine NoPanic.normal ?_
      go_wp2_with fail
      go_meet
      case rel => exact ⟨bl_ks (bl_ks (bl_ks xa n12 yb) n12 yc) n13 yd, bl_ks xc n23 yd, xd, KQ⟩
     case rest =>
      obtain ⟨x1, x2, x3, kk⟩ := hcut
      rename World => W12
      have A0 := hid (bl_kp A10.out kk)
      have A1 := hid x1
      have A2 := hid x2
      have A3 := hid x3
      have D12 := hid (D10.out.kp kk)
      have T12 := hid (T10.out.kp kk)
      have K12 := hid (K10.out.trans kk)
      clear x1 x2 x3 kk A10 R10 Q10 D10 T10 K10 B1x B2x B3x kk0 l1' l2' l3' n12 n13 n23
      by_cases hp112 : p = 112
      ·
       subst hp112
       as_aux_lemma =>
       have M1 := N1
       have M2 := N2
       have M3 := N3
       rw [show lbl 112 = false from rfl] at M1 M3
       rw [show twoA 112 = true from rfl] at M2
       clear N1 N2 N3
       go_wp2_with (refine wpList_load_cv rfl rfl (cN Av.z Av.z false 112 tx) A0.out (by rfl) ?_; simp only [Act.put, List.setIfInBounds_toArray, List.set_cons_zero, List.set_cons_succ])
       refine (N0.out _).mono ?_
       rintro e Y1 ⟨rfl, k1⟩
       have A1' := hid (bl_kp A1.out k1)
       have A2' := hid (bl_kp A2.out k1)
       have A3' := hid (bl_kp A3.out k1)
       have KK := hid k1
       clear k1 A1 A2 A3
       go_wp2_with (refine wpList_load_cv rfl rfl (cN ⟨2, 0, Rv.z⟩ Av.z false 112 tx) A1'.out (by rfl) ?_; simp only [Act.put, List.setIfInBounds_toArray, List.set_cons_zero, List.set_cons_succ])
       refine (M1.out _).mono ?_
       rintro e Y2 ⟨rfl, k1⟩
       have A2 := hid (bl_kp A2'.out k1)
       have A3 := hid (bl_kp A3'.out k1)
       have KL := hid (KK.out.trans k1)
       clear k1 A1' A2' A3' KK
       go_wp2_with (refine wpList_load_cv rfl rfl (cN ⟨3, 0, ⟨k1, mn1, mx1, mm1, t1, ad1, l1, c1⟩⟩ ⟨2, 0, Rv.z⟩ false 112 tx) A2.out (by rfl) ?_; simp only [Act.put, List.setIfInBounds_toArray, List.set_cons_zero, List.set_cons_succ])
       refine (M2.out _ (D12.out.kp KL.out)).mono ?_
       rintro e Y3 ⟨rfl, k1⟩
       have A3' := hid (bl_kp A3.out k1)
       have KM := hid (KL.out.trans k1)
       clear k1 A2 A3 KL
       go_wp2_with (refine wpList_load_cv rfl rfl (cN Av.z Av.z true 112 tx) A3'.out (by rfl) ?_; simp only [Act.put, List.setIfInBounds_toArray, List.set_cons_zero, List.set_cons_succ])
       refine (M3.out _).mono ?_
       rintro e Y4 ⟨rfl, k1⟩
       have KN := hid (KM.out.trans k1)
       clear k1 A3' KM
       go_wp2_with fail
       refine (cmdRuns_any _ (cell0 Z0.out (K12.out.trans KN.out)) (T12.out.kp KN.out)).mono ?_
       rintro e Y5 ⟨rfl, k1⟩
       go_wp2_with fail
       go_ret
       exact ⟨rfl, (K12.out.trans KN.out).trans k1⟩
      by_cases hp100 : p = 100
      ·
       subst hp100
       as_aux_lemma =>
       have M1 := N1
       have M2 := N2
       have M3 := N3
       rw [show lbl 100 = false from rfl] at M1 M3
       rw [show twoA 100 = true from rfl] at M2
       clear N1 N2 N3
       go_wp2_with (refine wpList_load_cv rfl rfl (cN Av.z Av.z false 100 tx) A0.out (by rfl) ?_; simp only [Act.put, List.setIfInBounds_toArray, List.set_cons_zero, List.set_cons_succ])
       refine (N0.out _).mono ?_
       rintro e Y1 ⟨rfl, k1⟩
       have A1' := hid (bl_kp A1.out k1)
       have A2' := hid (bl_kp A2.out k1)
       have A3' := hid (bl_kp A3.out k1)
       have KK := hid k1
       clear k1 A1 A2 A3
       go_wp2_with (refine wpList_load_cv rfl rfl (cN ⟨2, 0, Rv.z⟩ Av.z false 100 tx) A1'.out (by rfl) ?_; simp only [Act.put, List.setIfInBounds_toArray, List.set_cons_zero, List.set_cons_succ])
       refine (M1.out _).mono ?_
       rintro e Y2 ⟨rfl, k1⟩
       have A2 := hid (bl_kp A2'.out k1)
       have A3 := hid (bl_kp A3'.out k1)
       have KL := hid (KK.out.trans k1)
       clear k1 A1' A2' A3' KK
       go_wp2_with (refine wpList_load_cv rfl rfl (cN ⟨3, 0, ⟨k1, mn1, mx1, mm1, t1, ad1, l1, c1⟩⟩ ⟨2, 0, Rv.z⟩ false 100 tx) A2.out (by rfl) ?_; simp only [Act.put, List.setIfInBounds_toArray, List.set_cons_zero, List.set_cons_succ])
       refine (M2.out _ (D12.out.kp KL.out)).mono ?_
       rintro e Y3 ⟨rfl, k1⟩
       have A3' := hid (bl_kp A3.out k1)
       have KM := hid (KL.out.trans k1)
       clear k1 A2 A3 KL
       go_wp2_with (refine wpList_load_cv rfl rfl (cN Av.z Av.z true 100 tx) A3'.out (by rfl) ?_; simp only [Act.put, List.setIfInBounds_toArray, List.set_cons_zero, List.set_cons_succ])
       refine (M3.out _).mono ?_
       rintro e Y4 ⟨rfl, k1⟩
       have KN := hid (KM.out.trans k1)
       clear k1 A3' KM
       go_wp2_with fail
       refine (cmdRuns_any _ (cell0 Z0.out (K12.out.trans KN.out)) (T12.out.kp KN.out)).mono ?_
       rintro e Y5 ⟨rfl, k1⟩
       go_wp2_with fail
       go_ret
       exact ⟨rfl, (K12.out.trans KN.out).trans k1⟩
      by_cases hp99 : p = 99
      ·
       subst hp99
       as_aux_lemma =>
       have M1 := N1
       have M2 := N2
       have M3 := N3
       rw [show lbl 99 = false from rfl] at M1 M3
       rw [show twoA 99 = true from rfl] at M2
       clear N1 N2 N3
       go_wp2_with (refine wpList_load_cv rfl rfl (cN Av.z Av.z false 99 tx) A0.out (by rfl) ?_; simp only [Act.put, List.setIfInBounds_toArray, List.set_cons_zero, List.set_cons_succ])
       refine (N0.out _).mono ?_
       rintro e Y1 ⟨rfl, k1⟩
       have A1' := hid (bl_kp A1.out k1)
       have A2' := hid (bl_kp A2.out k1)
       have A3' := hid (bl_kp A3.out k1)
       have KK := hid k1
       clear k1 A1 A2 A3
       go_wp2_with (refine wpList_load_cv rfl rfl (cN ⟨2, 0, Rv.z⟩ Av.z false 99 tx) A1'.out (by rfl) ?_; simp only [Act.put, List.setIfInBounds_toArray, List.set_cons_zero, List.set_cons_succ])
       refine (M1.out _).mono ?_
       rintro e Y2 ⟨rfl, k1⟩
       have A2 := hid (bl_kp A2'.out k1)
       have A3 := hid (bl_kp A3'.out k1)
       have KL := hid (KK.out.trans k1)
       clear k1 A1' A2' A3' KK
       go_wp2_with (refine wpList_load_cv rfl rfl (cN ⟨3, 0, ⟨k1, mn1, mx1, mm1, t1, ad1, l1, c1⟩⟩ ⟨2, 0, Rv.z⟩ false 99 tx) A2.out (by rfl) ?_; simp only [Act.put, List.setIfInBounds_toArray, List.set_cons_zero, List.set_cons_succ])
       refine (M2.out _ (D12.out.kp KL.out)).mono ?_
       rintro e Y3 ⟨rfl, k1⟩
       have A3' := hid (bl_kp A3.out k1)
       have KM := hid (KL.out.trans k1)
       clear k1 A2 A3 KL
       go_wp2_with (refine wpList_load_cv rfl rfl (cN Av.z Av.z true 99 tx) A3'.out (by rfl) ?_; simp only [Act.put, List.setIfInBounds_toArray, List.set_cons_zero, List.set_cons_succ])
       refine (M3.out _).mono ?_
       rintro e Y4 ⟨rfl, k1⟩
       have KN := hid (KM.out.trans k1)
       clear k1 A3' KM
       go_wp2_with fail
       refine (cmdRuns_any _ (cell0 Z0.out (K12.out.trans KN.out)) (T12.out.kp KN.out)).mono ?_
       rintro e Y5 ⟨rfl, k1⟩
       go_wp2_with fail
       go_ret
       exact ⟨rfl, (K12.out.trans KN.out).trans k1⟩
      by_cases hp58 : p = 58
      ·
       subst hp58
       as_aux_lemma =>
       have M1 := N1
       have M2 := N2
       have M3 := N3
       rw [show lbl 58 = true from rfl] at M1 M3
       rw [show twoA 58 = false from rfl] at M2
       clear N1 N2 N3
       go_wp2_with (refine wpList_load_cv rfl rfl (cN Av.z Av.z false 58 tx) A0.out (by rfl) ?_; simp only [Act.put, List.setIfInBounds_toArray, List.set_cons_zero, List.set_cons_succ])
       refine (N0.out _).mono ?_
       rintro e Y1 ⟨rfl, k1⟩
       have A1' := hid (bl_kp A1.out k1)
       have A2' := hid (bl_kp A2.out k1)
       have A3' := hid (bl_kp A3.out k1)
       have KK := hid k1
       clear k1 A1 A2 A3
       go_wp2_with (refine wpList_load_cv rfl rfl (cN ⟨2, 0, Rv.z⟩ Av.z false 58 tx) A1'.out (by rfl) ?_; simp only [Act.put, List.setIfInBounds_toArray, List.set_cons_zero, List.set_cons_succ])
       refine (M1.out _).mono ?_
       rintro e Y2 ⟨rfl, k1⟩
       have A2 := hid (bl_kp A2'.out k1)
       have A3 := hid (bl_kp A3'.out k1)
       have KL := hid (KK.out.trans k1)
       clear k1 A1' A2' A3' KK
       go_wp2_with (refine wpList_load_cv rfl rfl (cN ⟨3, 0, ⟨k1, mn1, mx1, mm1, t1, ad1, l1, c1⟩⟩ ⟨2, 0, Rv.z⟩ false 58 tx) A2.out (by rfl) ?_; simp only [Act.put, List.setIfInBounds_toArray, List.set_cons_zero, List.set_cons_succ])
       refine (M2.out _ (D12.out.kp KL.out)).mono ?_
       rintro e Y3 ⟨rfl, k1⟩
       have A3' := hid (bl_kp A3.out k1)
       have KM := hid (KL.out.trans k1)
       clear k1 A2 A3 KL
       go_wp2_with (refine wpList_load_cv rfl rfl (cN Av.z Av.z true 58 tx) A3'.out (by rfl) ?_; simp only [Act.put, List.setIfInBounds_toArray, List.set_cons_zero, List.set_cons_succ])
       refine (M3.out _).mono ?_
       rintro e Y4 ⟨rfl, k1⟩
       have KN := hid (KM.out.trans k1)
       clear k1 A3' KM
       go_wp2_with fail
       refine (cmdRuns_any _ (cell0 Z0.out (K12.out.trans KN.out)) (T12.out.kp KN.out)).mono ?_
       rintro e Y5 ⟨rfl, k1⟩
       go_wp2_with fail
       go_ret
       exact ⟨rfl, (K12.out.trans KN.out).trans k1⟩
      by_cases hp125 : p = 125
      ·
       subst hp125
       as_aux_lemma =>
       have M1 := N1
       have M2 := N2
       have M3 := N3
       rw [show lbl 125 = true from rfl] at M1 M3
       rw [show twoA 125 = false from rfl] at M2
       clear N1 N2 N3
       go_wp2_with (refine wpList_load_cv rfl rfl (cN Av.z Av.z false 125 tx) A0.out (by rfl) ?_; simp only [Act.put, List.setIfInBounds_toArray, List.set_cons_zero, List.set_cons_succ])
       refine (N0.out _).mono ?_
       rintro e Y1 ⟨rfl, k1⟩
       have A1' := hid (bl_kp A1.out k1)
       have A2' := hid (bl_kp A2.out k1)
       have A3' := hid (bl_kp A3.out k1)
       have KK := hid k1
       clear k1 A1 A2 A3
       go_wp2_with (refine wpList_load_cv rfl rfl (cN ⟨2, 0, Rv.z⟩ Av.z false 125 tx) A1'.out (by rfl) ?_; simp only [Act.put, List.setIfInBounds_toArray, List.set_cons_zero, List.set_cons_succ])
       refine (M1.out _).mono ?_
       rintro e Y2 ⟨rfl, k1⟩
       have A2 := hid (bl_kp A2'.out k1)
       have A3 := hid (bl_kp A3'.out k1)
       have KL := hid (KK.out.trans k1)
       clear k1 A1' A2' A3' KK
       go_wp2_with (refine wpList_load_cv rfl rfl (cN ⟨3, 0, ⟨k1, mn1, mx1, mm1, t1, ad1, l1, c1⟩⟩ ⟨2, 0, Rv.z⟩ false 125 tx) A2.out (by rfl) ?_; simp only [Act.put, List.setIfInBounds_toArray, List.set_cons_zero, List.set_cons_succ])
       refine (M2.out _ (D12.out.kp KL.out)).mono ?_
       rintro e Y3 ⟨rfl, k1⟩
       have A3' := hid (bl_kp A3.out k1)
       have KM := hid (KL.out.trans k1)
       clear k1 A2 A3 KL
       go_wp2_with (refine wpList_load_cv rfl rfl (cN Av.z Av.z true 125 tx) A3'.out (by rfl) ?_; simp only [Act.put, List.setIfInBounds_toArray, List.set_cons_zero, List.set_cons_succ])
       refine (M3.out _).mono ?_
       rintro e Y4 ⟨rfl, k1⟩
       have KN := hid (KM.out.trans k1)
       clear k1 A3' KM
       go_wp2_with fail
       refine (cmdRuns_any _ (cell0 Z0.out (K12.out.trans KN.out)) (T12.out.kp KN.out)).mono ?_
       rintro e Y5 ⟨rfl, k1⟩
       go_wp2_with fail
       go_ret
       exact ⟨rfl, (K12.out.trans KN.out).trans k1⟩
      as_aux_lemma =>
      have M1 := N1
      have M2 := N2
      have M3 := N3
      rw [show lbl p = false by simp [lbl]; omega] at M1 M3
      rw [show twoA p = false by simp [twoA]; omega] at M2
      clear N1 N2 N3
      have q112 : ((p : Int) == 112) = false := by simp; omega
      have q100 : ((p : Int) == 100) = false := by simp; omega
      have q99 : ((p : Int) == 99) = false := by simp; omega
      have q58 : ((p : Int) == 58) = false := by simp; omega
      have q125 : ((p : Int) == 125) = false := by simp; omega
      go_wp2_with (refine wpList_load_cv rfl rfl (cN Av.z Av.z false p tx) A0.out (by rfl) ?_; simp only [Act.put, List.setIfInBounds_toArray, List.set_cons_zero, List.set_cons_succ])
      refine (N0.out _).mono ?_
      rintro e Y1 ⟨rfl, k1⟩
      have A1' := hid (bl_kp A1.out k1)
      have A2' := hid (bl_kp A2.out k1)
      have A3' := hid (bl_kp A3.out k1)
      have KK := hid k1
      clear k1 A1 A2 A3
      go_wp2_with (refine wpList_load_cv rfl rfl (cN ⟨2, 0, Rv.z⟩ Av.z false p tx) A1'.out (by rfl) ?_; simp only [Act.put, List.setIfInBounds_toArray, List.set_cons_zero, List.set_cons_succ])
      refine (M1.out _).mono ?_
      rintro e Y2 ⟨rfl, k1⟩
      have A2 := hid (bl_kp A2'.out k1)
      have A3 := hid (bl_kp A3'.out k1)
      have KL := hid (KK.out.trans k1)
      clear k1 A1' A2' A3' KK
      go_wp2_with (refine wpList_load_cv rfl rfl (cN ⟨3, 0, ⟨k1, mn1, mx1, mm1, t1, ad1, l1, c1⟩⟩ ⟨2, 0, Rv.z⟩ false p tx) A2.out (by rfl) ?_; simp only [Act.put, List.setIfInBounds_toArray, List.set_cons_zero, List.set_cons_succ])
      refine (M2.out _ (D12.out.kp KL.out)).mono ?_
      rintro e Y3 ⟨rfl, k1⟩
      have A3' := hid (bl_kp A3.out k1)
      have KM := hid (KL.out.trans k1)
      clear k1 A2 A3 KL
      go_wp2_with (refine wpList_load_cv rfl rfl (cN Av.z Av.z true p tx) A3'.out (by rfl) ?_; simp only [Act.put, List.setIfInBounds_toArray, List.set_cons_zero, List.set_cons_succ])
      refine (M3.out _).mono ?_
      rintro e Y4 ⟨rfl, k1⟩
      have KN := hid (KM.out.trans k1)
      clear k1 A3' KM
      go_wp2_with fail
      refine (cmdRuns_any _ (cell0 Z0.out (K12.out.trans KN.out)) (T12.out.kp KN.out)).mono ?_
      rintro e Y5 ⟨rfl, k1⟩
      go_wp2_with fail
      go_ret
      exact ⟨rfl, (K12.out.trans KN.out).trans k1⟩
end Go.Proofs.YtigdmebijbaofaaGreatDoor
