/-
  Texts of this claim: Text4, Runs, Sets1, Fit, Mak1, Mak2, Mak3.
-/
import Derived.Test.YtigdmebijbaofaaGreatDoorReadDM4
import Derived.Test.YtigdmebijbaofaaGreatDoorReadDM12
import Derived.Test.YtigdmebijbaofaaGreatDoorReadDM18
import Derived.Test.YtigdmebijbaofaaGreatDoorReadDM13
import Derived.Test.YtigdmebijbaofaaGreatDoorReadDM8
/-! ### Text4 -/
namespace Go.Proofs.YtigdmebijbaofaaGreatDoor
set_option maxHeartbeats 2000000
set_option maxRecDepth 100000
open Go.RowKit
structure TxNode (ere : Bool) (k mn mx m : Int) (t : W4) (kids : List Rx) : Prop where
 rep : k = 4 → (∃ r, kids = [r]) ∧ 0 ≤ mn ∧ mn ≤ 20 ∧ -1 ≤ mx ∧ mx ≤ 20
 grp : k = 5 → ∃ r, kids = [r]
 bak : k = 6 → 0 ≤ m ∧ m < 100
 len : kids.length ≤ 100
 w4 : t.a < 18446744073709551616 ∧ t.b < 18446744073709551616 ∧ t.c < 18446744073709551616 ∧ t.d < 18446744073709551616
 all : (txt ere (.mk k mn mx m t kids)).length ≤ 1000000
 kid : ∀ r, r ∈ kids → (txt ere r).length ≤ 1000000
theorem text_step (ere : Bool) (k mn mx m : Int) (t : W4) (kids : List Rx) (H : ∀ r, r ∈ kids → TextSaid ere r) (hN : TxNode ere k mn mx m t kids) : TextSaid ere (.mk k mn mx m t kids) := by
 refine ⟨fun ok v w hI => ?_⟩
 obtain ⟨ad, l, c, rfl, hr⟩ := hI.row
 have RR := hid hr
 have HN := hid hN
 have HH := hid H
 have HSV : Hid (vv t.a t.b t.c t.d = sv (W4.bit t)) := vv_sv t.a t.b t.c t.d hN.w4.1 hN.w4.2.1 hN.w4.2.2.1 hN.w4.2.2.2
 have HA := hid hN.all
 clear hI hr hN H
 obtain ⟨o, ho⟩ : ∃ o, txt ere (.mk k mn mx m t kids) = o := ⟨_, rfl⟩
 rw [ho] at HA ⊢
 unfold txt at ho
 have HO := hid ho
 clear ho
 go_enter Tryz.func82, Tryz.ntmps82
 go_upto_region 1 with fail
 refine opq (fun W0 => W0.heap[w.heap.size]? = some (rxo k mn mx m t (.slice ad l c)) ∧ Kp w W0 ∧ RowAt W0 ok kids ad l c) ⟨by (first | exact last_at _ _ _ (by simp) | (refine bl_alloc ?_ _; first | exact last_at _ _ _ (by simp) | (refine bl_alloc ?_ _; first | exact last_at _ _ _ (by simp) | (refine bl_alloc ?_ _; exact last_at _ _ _ (by simp))))), by exact kpt, by exact RR.out.kp kpt⟩ ?_
 rintro W0 ⟨xA0, xK0, xR0⟩
 have A0 := hidT xA0
 have K0 := hidT xK0
 have R0 := hidT xR0
 clear xA0 xK0 xR0
 obtain ⟨a0, a1, a2, a3, a4, a5, a6, a7, a8⟩ := cells9 (A0.out)
 by_cases k1 : k = 1
 ·
  subst k1
  have E : Hid (o = setT (W4.bit t) ere) := by show _ = _; rw [← HO.out, if_pos rfl]
  have ST : Hid (∀ w, Calls Tryz.prog 115 #[vv t.a t.b t.c t.d, .bool ere] w fun e w' => e = .returned (.string (bs (setT (W4.bit t) ere))) ∧ Kp w w') := fun w => by rw [HSV.out]; exact setText_any _ _ w
  go_wp2_with fail
  clear a0 a1 a2 a3 a4 a5 a6 a7 a8
  refine (ST.out _).mono ?_
  rintro e W1 ⟨rfl, k1⟩
  have K1 := hid (K0.out.trans k1)
  clear k1
  go_wp2_with fail
  go_ret
  exact ⟨by rw [E.out]; rfl, K1.out⟩
 by_cases k2 : k = 2
 ·
  subst k2
  have E : Hid (o = Lib.join (txts ere kids) []) := by show _ = _; rw [← HO.out, if_neg (by omega), if_pos rfl]
  have hlen : (txts ere kids).length ≤ 100 := by rw [txts_map, List.length_map]; exact HN.out.len
  have hjl : Hid ((Lib.join (txts ere kids) []).length ≤ 1000000) := by have := HA.out; rw [E.out] at this; exact this
  go_wp2_with fail
  clear a0 a1 a2 a3 a4 a5 a6 a7 a8
  refine (texts_any ere kids HH.out ok ad l c _ R0.out HN.out.len).mono ?_
  rintro e W1 ⟨v1, rfl, o1, k1⟩
  have O1 := hid o1
  have K1 := hid (K0.out.trans k1)
  clear k1 o1
  go_wp2_with fail
  refine (join_any _ (txts ere kids) [] v1 _ O1.out hlen (by have := hjl.out; omega)).mono ?_
  rintro e W2 ⟨rfl, k2⟩
  have K2 := hid (K1.out.trans k2)
  clear k2
  go_wp2_with fail
  go_ret
  exact ⟨by rw [E.out]; rfl, K2.out⟩
 by_cases k3 : k = 3
 ·
  subst k3
  have E : Hid (o = Lib.join (txts ere kids) [124]) := by show _ = _; rw [← HO.out, if_neg (by omega), if_neg (by omega), if_pos rfl]
  have hlen : (txts ere kids).length ≤ 100 := by rw [txts_map, List.length_map]; exact HN.out.len
  have hjl : Hid ((Lib.join (txts ere kids) [124]).length ≤ 1000000) := by have := HA.out; rw [E.out] at this; exact this
  go_wp2_with fail
  clear a0 a1 a2 a3 a4 a5 a6 a7 a8
  refine (texts_any ere kids HH.out ok ad l c _ R0.out HN.out.len).mono ?_
  rintro e W1 ⟨v1, rfl, o1, k1⟩
  have O1 := hid o1
  have K1 := hid (K0.out.trans k1)
  clear k1 o1
  go_wp2_with fail
  refine (join_any _ (txts ere kids) [124] v1 _ O1.out hlen (by have := hjl.out; omega)).mono ?_
  rintro e W2 ⟨rfl, k2⟩
  have K2 := hid (K1.out.trans k2)
  clear k2
  go_wp2_with fail
  go_ret
  exact ⟨by rw [E.out]; rfl, K2.out⟩
 by_cases k4 : k = 4
 ·
  subst k4
  obtain ⟨⟨r, rfl⟩, b1, b2, b3, b4⟩ := HN.out.rep rfl
  obtain ⟨lo, rfl⟩ : ∃ lo : Nat, mn = lo := ⟨mn.toNat, by omega⟩
  have E : Hid (o = txt ere r ++ timesT lo mx ere) := by show _ = _; rw [← HO.out, if_neg (by omega), if_neg (by omega), if_neg (by omega), if_pos rfl]; rfl
  obtain ⟨bb, oo, kk, mn', mx', mm', tt', ad', ll', cc', e1, hbb, i1, ce1⟩ := R0.out.at 0 r rfl
  subst e1
  rw [Nat.zero_mul, Nat.add_zero] at ce1
  have hl1 : l = 1 := R0.out.ln
  subst hl1
  have I0 := hid i1
  have CE0 := hid ce1
  have hcap := R0.out.cp
  have TS := hid (HH.out r (by simp))
  have hkl : Hid ((txt ere r).length ≤ 1000000) := HN.out.kid r (by simp)
  clear i1 ce1
  have hb2 : lo ≤ 20 := by omega
  have hz1 : (bs (txt ere r)).size ≤ 1000000 := by rw [bs_size]; exact hkl.out
  have hz2 : (bs (timesT lo mx ere)).size ≤ 1000000 := by rw [bs_size]; have := HA.out; rw [E.out, List.length_append] at this; omega
  have E2 : Hid (bs o = bs (txt ere r) ++ bs (timesT lo mx ere)) := by show _ = _; rw [E.out, bs_app]
  obtain ⟨X, hX⟩ : ∃ X, bs (txt ere r) = X := ⟨_, rfl⟩
  obtain ⟨Y, hY⟩ : ∃ Y, bs (timesT lo mx ere) = Y := ⟨_, rfl⟩
  have TT : Hid (∀ w, Calls Tryz.prog 118 #[.int .i64 (lo : Int), .int .i64 mx, .bool ere] w fun e w' => e = .returned (.string Y) ∧ w' = w) := fun w => by rw [← hY]; exact timesText_any lo mx ere hb2 b3 b4 w
  rw [hX, hY] at E2
  rw [hX] at hz1
  rw [hY] at hz2
  have HX := hid hX
  clear hX hY
  go_upto_region 9 with fail
  clear a0 a1 a2 a3 a4 a5 a6 a7 a8
  have Q0 : Kp W0 W0.drew := (Kp.refl _).drew
  have MK : Hid (∀ W, Kp W0 W → W.cell? ⟨w.heap.size, 8, none⟩ = some (.slice (some ⟨bb, oo, none⟩) 1 c) ∧ W.cell? ⟨w.heap.size, 1, none⟩ = some (.int .i64 (lo : Int)) ∧ W.cell? ⟨w.heap.size, 2, none⟩ = some (.int .i64 mx) ∧ W.cell? ⟨bb, oo, none⟩ = some (.int .i64 kk) ∧ W.cell? ⟨bb, (oo + 1), none⟩ = some (.int .i64 mn') ∧ W.cell? ⟨bb, (oo + 2), none⟩ = some (.int .i64 mx') ∧ W.cell? ⟨bb, (oo + 3), none⟩ = some (.int .i64 mm') ∧ W.cell? ⟨bb, (oo + 4), none⟩ = some (Value.int .u64 (tt'.a : Int)) ∧ W.cell? ⟨bb, (oo + 5), none⟩ = some (Value.int .u64 (tt'.b : Int)) ∧ W.cell? ⟨bb, (oo + 6), none⟩ = some (Value.int .u64 (tt'.c : Int)) ∧ W.cell? ⟨bb, (oo + 7), none⟩ = some (Value.int .u64 (tt'.d : Int)) ∧ W.cell? ⟨bb, (oo + 8), none⟩ = some (Value.slice ad' ll' cc') ∧ Hid (Kp W0 W)) := fun W k => ⟨bl_cell (bl_kp A0.out k) 8 _ rfl, bl_cell (bl_kp A0.out k) 1 _ rfl, bl_cell (bl_kp A0.out k) 2 _ rfl, (cells_of_is (CE0.out.turn (k.block _ hbb))).1, (cells_of_is (CE0.out.turn (k.block _ hbb))).2.1, (cells_of_is (CE0.out.turn (k.block _ hbb))).2.2.1, (cells_of_is (CE0.out.turn (k.block _ hbb))).2.2.2.1, (cells_of_is (CE0.out.turn (k.block _ hbb))).2.2.2.2.1, (cells_of_is (CE0.out.turn (k.block _ hbb))).2.2.2.2.2.1, (cells_of_is (CE0.out.turn (k.block _ hbb))).2.2.2.2.2.2.1, (cells_of_is (CE0.out.turn (k.block _ hbb))).2.2.2.2.2.2.2.1, (cells_of_is (CE0.out.turn (k.block _ hbb))).2.2.2.2.2.2.2.2, k⟩
  refine wp_region_noPanic ?_
  refine hdrew MK Q0 (fun hH => ?_)
  have KQ := Q0
  refine tk 0 (some 29) (.fieldAddr 27 (.tmp 2) 5) 0 (v := ?v0a1) rfl ?h0a1 hH ?_
  case h0a1 => intro _ _; go_simp; try with_reducible rfl
  try simp only [ps]
  refine tk 1 (some 30) (.load 25 (.tmp 29)) 25 (v := ?v1a2) rfl ?h1a2 hH ?_
  case h1a2 => intro _ _; go_simp; try with_reducible rfl
  try simp only [ps]
  refine tk 2 (some 31) (.indexAddr 25 (.tmp 30) (.const (.int .i64 0))) 0 (v := ?v2a3) rfl ?h2a3 hH ?_
  case h2a3 => intro _ _; go_simp; try with_reducible rfl
  try simp only [ps]
  refine tk 3 (some 32) (.load 27 (.tmp 31)) 27 (v := ?v3a4) rfl ?h3a4 hH ?_
  case h3a4 => intro _ _; go_simp; try with_reducible rfl
  try simp only [ps]
  refine tk 4 (some 33) (.move (.tmp 1)) 4 (v := ?v4a5) rfl ?h4a5 hH ?_
  case h4a5 => intro _ _; go_simp; try with_reducible rfl
  try simp only [ps]
  refine tk 6 (some 35) (.fieldAddr 27 (.tmp 2) 1) 0 (v := ?v6a6) rfl ?h6a6 hH ?_
  case h6a6 => intro _ _; go_simp; try with_reducible rfl
  try simp only [ps]
  refine tk 7 (some 36) (.load 3 (.tmp 35)) 3 (v := ?v7a7) rfl ?h7a7 hH ?_
  case h7a7 => intro _ _; go_simp; try with_reducible rfl
  try simp only [ps]
  refine tk 8 (some 37) (.fieldAddr 27 (.tmp 2) 2) 0 (v := ?v8a8) rfl ?h8a8 hH ?_
  case h8a8 => intro _ _; go_simp; try with_reducible rfl
  try simp only [ps]
  refine tk 9 (some 38) (.load 3 (.tmp 37)) 3 (v := ?v9a9) rfl ?h9a9 hH ?_
  case h9a9 => intro _ _; go_simp; try with_reducible rfl
  try simp only [ps]
  refine tk 10 (some 39) (.move (.tmp 1)) 4 (v := ?v10a10) rfl ?h10a10 hH ?_
  case h10a10 => intro _ _; go_simp; try with_reducible rfl
  try simp only [ps]
  refine wpAnyH_ready (rs := [5]) (by kernel_rfl) (by simp) ?_
  refine AllReadyH.cons (o := { dst := some 34, op := .call { callee := .value (.func 82), args := #[.tmp 32, .tmp 33], argTypes := #[27, 4] }, type := 9, pos := "print.go:47", after := _, guard := none }) rfl (fun K hKq => ?_) AllReadyH.nil
  go_simp
  refine (TS.out.all ok _ _ (I0.out.kp KQ)).mono ?_
  rintro e y1 ⟨rfl, kq⟩
  rw [HX.out]
  refine hKq.out _ _ (MK.out _ (KQ.trans kq)) (fun hN => ?_)
  clear kq
  clear hKq K hH KQ
  have hH := hN
  clear hN
  have KQ := hH.2.2.2.2.2.2.2.2.2.2.2.2.out
  try simp only [ps]
  refine wpAnyH_ready (rs := [11]) (by kernel_rfl) (by simp) ?_
  refine AllReadyH.cons (o := { dst := some 40, op := .call { callee := .value (.func 118), args := #[.tmp 36, .tmp 38, .tmp 39], argTypes := #[3, 3, 4] }, type := 9, pos := "print.go:47", after := _, guard := none }) rfl (fun K hKq => ?_) AllReadyH.nil
  go_simp
  refine (TT.out _).mono ?_
  rintro e yy ⟨rfl, rfl⟩
  refine hKq.out _ _ (MK.out _ KQ) (fun hN => ?_)
  clear hKq K hH KQ
  have hH := hN
  clear hN
  have KQ := hH.2.2.2.2.2.2.2.2.2.2.2.2.out
  try simp only [ps]
  refine tk 12 (some 41) (.binOp .add 9 (.tmp 34) (.tmp 40) 9) 9 (v := ?v12a11) rfl ?h12a11 hH ?_
  case h12a11 => (intro W hSw; (try dsimp only at hSw); go_simp; rw [if_neg (by omega)])
  try simp only [ps]
  refine tk 13 (some 4) (.assign (.tmp 41)) 9 (v := ?v13a12) rfl ?h13a12 hH ?_
  case h13a12 => intro _ _; go_simp; try with_reducible rfl
  try simp only [ps]
  refine wpAnyH_done (by kernel_rfl) ?_ _
  refine NoPanic.normal ?_
  go_wp2_with fail
  go_ret
  exact ⟨by rw [E2.out]; rfl, K0.out.trans KQ⟩
 by_cases k5 : k = 5
 ·
  subst k5
  obtain ⟨r, rfl⟩ := HN.out.grp rfl
  have E : Hid (o = framedT [40] (txt ere r) [41] ere) := by show _ = _; rw [← HO.out, if_neg (by omega), if_neg (by omega), if_neg (by omega), if_neg (by omega), if_pos rfl]; rfl
  obtain ⟨bb, oo, kk, mn', mx', mm', tt', ad', ll', cc', e1, hbb, i1, ce1⟩ := R0.out.at 0 r rfl
  subst e1
  rw [Nat.zero_mul, Nat.add_zero] at ce1
  have hl1 : l = 1 := R0.out.ln
  subst hl1
  have I0 := hid i1
  have CE0 := hid ce1
  have hcap := R0.out.cp
  have TS := hid (HH.out r (by simp))
  have hkl : Hid ((txt ere r).length ≤ 1000000) := HN.out.kid r (by simp)
  clear i1 ce1
  have FR := hid (framed_any [40] (txt ere r) [41] ere (by simp) (by have := hkl.out; omega) (by simp))
  obtain ⟨x0, x1, x2, x3, x4, x5, x6, x7, x8⟩ := cells_of_is CE0.out
  go_wp2_with fail
  clear x0 x1 x2 x3 x4 x5 x6 x7 x8
  clear a0 a1 a2 a3 a4 a5 a6 a7 a8
  refine (TS.out.all ok _ _ I0.out).mono ?_
  rintro e W1 ⟨rfl, k1⟩
  have K1 := hid (K0.out.trans k1)
  clear k1
  go_wp2_with fail
  refine (FR.out _).mono ?_
  rintro e W1 ⟨rfl, rfl⟩
  go_wp2_with fail
  go_ret
  exact ⟨by rw [E.out]; rfl, K1.out⟩
 by_cases k6 : k = 6
 ·
  subst k6
  obtain ⟨b1, b2⟩ := HN.out.bak rfl
  obtain ⟨q, rfl⟩ : ∃ q : Nat, m = q := ⟨m.toNat, by omega⟩
  have E : Hid (o = [92] ++ dec q) := by show _ = _; rw [← HO.out, if_neg (by omega), if_neg (by omega), if_neg (by omega), if_neg (by omega), if_neg (by omega), if_pos rfl]; rfl
  have hz : (bs (dec q)).size ≤ 2 := by rw [bs_size]; exact dec_len q (by omega)
  have E2 : Hid (bs o = bs [92] ++ bs (dec q)) := by show _ = _; rw [E.out, bs_app]
  obtain ⟨X, hX⟩ : ∃ X, bs (dec q) = X := ⟨_, rfl⟩
  have IT : Hid (∀ w, Calls Tryz.prog 76 #[.int .i64 (q : Int)] w fun e w' => e = .returned (.string X) ∧ w' = w) := fun w => by rw [← hX]; exact itoa_any q (by omega) w
  rw [hX] at hz E2
  clear hX
  go_wp2_with fail
  clear a0 a1 a2 a3 a4 a5 a6 a7 a8
  refine (IT.out _).mono ?_
  rintro e W0 ⟨rfl, rfl⟩
  go_wp2_with fail
  go_ret
  exact ⟨by rw [E2.out]; rfl, K0.out⟩
 by_cases k7 : k = 7
 ·
  subst k7
  have E : Hid (o = [94]) := by show _ = _; rw [← HO.out, if_neg (by omega), if_neg (by omega), if_neg (by omega), if_neg (by omega), if_neg (by omega), if_neg (by omega), if_pos rfl]
  go_wp2_with fail
  go_ret
  exact ⟨by rw [E.out]; rfl, K0.out⟩
 have g1 : (k == 1) = false := by simp [k1]
 have g2 : (k == 2) = false := by simp [k2]
 have g3 : (k == 3) = false := by simp [k3]
 have g4 : (k == 4) = false := by simp [k4]
 have g5 : (k == 5) = false := by simp [k5]
 have g6 : (k == 6) = false := by simp [k6]
 have g7 : (k == 7) = false := by simp [k7]
 have E : Hid (o = [36]) := by show _ = _; rw [← HO.out, if_neg (by omega), if_neg (by omega), if_neg (by omega), if_neg (by omega), if_neg (by omega), if_neg (by omega), if_neg (by omega)]
 go_wp2_with fail
 go_ret
 exact ⟨by rw [E.out]; rfl, K0.out⟩
def TxFit (ere : Bool) : Rx → Prop
 | .mk k mn mx m t kids => TxNode ere k mn mx m t kids ∧ ∀ a, a ∈ kids → TxFit ere a
termination_by r => SizeOf.sizeOf r
decreasing_by
 have := List.sizeOf_lt_of_mem (by assumption)
 simp
 omega
theorem text_all (ere : Bool) : ∀ a, TxFit ere a → TextSaid ere a
 | .mk k mn mx n s kids, h => by
  unfold TxFit at h
  exact text_step ere k mn mx n s kids (fun a ha => text_all ere a (h.2 a ha)) h.1
termination_by a => SizeOf.sizeOf a
decreasing_by
 have := List.sizeOf_lt_of_mem ha
 simp
 omega
def printT (ere : Bool) (r : Rx) : List UInt8 := if right ere r then txt ere r else []
theorem print_any (r : Rx) (ere : Bool) (ok : Nat → Prop) (k mn mx m : Int) (t : W4) (ad : Option Addr) (l c : Nat) (w : World) (hR : RxOk r) (hT : right ere r = true → TxFit ere r) (hI : Is w ok r (rxv k mn mx m t (.slice ad l c))) :
  Calls Tryz.prog 37 #[rxv k mn mx m t (.slice ad l c), .bool ere] w fun e w' => e = .returned (.string (bs (printT ere r))) ∧ Kp w w' := by
 have HI := hid hI
 have HR := hid hR
 have HT := hid hT
 clear hI hR hT
 obtain ⟨q, hq⟩ : ∃ q, right ere r = q := ⟨_, rfl⟩
 have HQ := hid hq
 clear hq
 go_enter Tryz.func37, Tryz.ntmps37
 go_upto_region 1 with fail
 refine opq (fun W0 => W0.heap[w.heap.size]? = some (rxo k mn mx m t (.slice ad l c)) ∧ Kp w W0 ∧ Is W0 ok r (rxv k mn mx m t (.slice ad l c))) ⟨by (first | exact last_at _ _ _ (by simp) | (refine bl_alloc ?_ _; first | exact last_at _ _ _ (by simp) | (refine bl_alloc ?_ _; first | exact last_at _ _ _ (by simp) | (refine bl_alloc ?_ _; exact last_at _ _ _ (by simp))))), by exact kpt, by exact HI.out.kp kpt⟩ ?_
 rintro W0 ⟨xA0, xK0, xI0⟩
 have A0 := hidT xA0
 have K0 := hidT xK0
 have I0 := hidT xI0
 clear xA0 xK0 xI0
 obtain ⟨a0, a1, a2, a3, a4, a5, a6, a7, a8⟩ := cells9 (A0.out)
 go_wp2_with fail
 clear a0 a1 a2 a3 a4 a5 a6 a7 a8
 refine (Right_any r ere ok k mn mx m t ad l c _ HR.out I0.out).mono ?_
 rintro e W1 ⟨rfl, k1⟩
 rw [HQ.out]
 have A1 := hid (bl_kp A0.out k1)
 have I1 := hid (I0.out.kp k1)
 have K1 := hid (K0.out.trans k1)
 clear k1
 cases q with
 | false =>
  have E : Hid (printT ere r = []) := by show _ = _; unfold printT; rw [HQ.out]; rfl
  go_wp2_with fail
  go_ret
  exact ⟨by rw [E.out]; rfl, K1.out⟩
 | true =>
  have E : Hid (printT ere r = txt ere r) := by show _ = _; unfold printT; rw [HQ.out]; rfl
  obtain ⟨a0, a1, a2, a3, a4, a5, a6, a7, a8⟩ := cells9 (A1.out)
  go_wp2_with fail
  clear a0 a1 a2 a3 a4 a5 a6 a7 a8
  refine ((text_all ere r (HT.out HQ.out)).all ok _ _ I1.out).mono ?_
  rintro e W2 ⟨rfl, k2⟩
  have K2 := hid (K1.out.trans k2)
  clear k2
  go_wp2_with fail
  go_ret
  exact ⟨by rw [E.out]; rfl, K2.out⟩
open Go.RowKit
def Rx.kn : Rx → Nat | .mk _ _ _ _ _ kids => kids.length
def Rx.set : Rx → W4 | .mk _ _ _ _ s _ => s
mutual
def rxOkB : Rx → Bool
 | .mk _ _ _ _ s kids => decide (kids.length ≤ 1000000) && decide (s.a < 18446744073709551616) && decide (s.b < 18446744073709551616) && decide (s.c < 18446744073709551616) && decide (s.d < 18446744073709551616) && rxOkL kids
def rxOkL : List Rx → Bool
 | [] => true
 | r :: rs => rxOkB r && rxOkL rs
end
theorem rxOkL_mem : ∀ (rs : List Rx), rxOkL rs = true → ∀ r ∈ rs, rxOkB r = true
 | [], _, r, h => by simp at h
 | x :: rs, h, r, hr => by
  unfold rxOkL at h
  rw [Bool.and_eq_true] at h
  rcases List.mem_cons.1 hr with rfl | hr
  ·
   exact h.1
  ·
   exact rxOkL_mem rs h.2 r hr
theorem rxOk_of : ∀ r, rxOkB r = true → RxOk r
 | .mk k mn mx n s kids, h => by
  unfold rxOkB at h
  simp only [Bool.and_eq_true, decide_eq_true_eq] at h
  obtain ⟨⟨⟨⟨⟨h1, h2⟩, h3⟩, h4⟩, h5⟩, h6⟩ := h
  unfold RxOk
  exact ⟨h1, ⟨h2, h3, h4, h5⟩, fun a ha => rxOk_of a (rxOkL_mem kids h6 a ha)⟩
termination_by r => SizeOf.sizeOf r
decreasing_by
 have := List.sizeOf_lt_of_mem ha
 simp
 omega
structure Pd (w : World) (T : Rx) (k mn mx m : Int) (t : W4) (ad : Option Addr) (l c : Nat) : Prop where
 is : Is w (fun _ => True) T (rxv k mn mx m t (.slice ad l c))
theorem Pd.kp {w w' : World} {T : Rx} {k mn mx m : Int} {t : W4} {ad : Option Addr} {l c : Nat} (h : Pd w T k mn mx m t ad l c) (q : Kp w w') : Pd w' T k mn mx m t ad l c := ⟨h.is.kp q⟩
theorem Pd.all {w : World} {T : Rx} {k mn mx m : Int} {t : W4} {ad : Option Addr} {l c : Nat} (h : Pd w T k mn mx m t ad l c) : l = T.kn ∧ k = T.k ∧ t = T.set := by
 cases T with
 | mk k' mn' mx' n' s' kids =>
  obtain ⟨ad', l', c', he, hr⟩ := h.is.row
  injection he with he
  injection he with he
  simp at he
  obtain ⟨rfl, _, _, _, h1, h2, h3, h4, _, rfl, _⟩ := he
  refine ⟨hr.ln, rfl, ?_⟩
  show t = s'
  obtain ⟨t1, t2, t3, t4⟩ := t
  obtain ⟨q1, q2, q3, q4⟩ := s'
  have e1 : t1 = q1 := Int.ofNat.inj h1
  have e2 : t2 = q2 := Int.ofNat.inj h2
  have e3 : t3 = q3 := Int.ofNat.inj h3
  have e4 : t4 = q4 := Int.ofNat.inj h4
  subst e1; subst e2; subst e3; subst e4
  rfl
theorem cell0 {w w' : World} (h : ∃ m, w.cell? ⟨1, 0, none⟩ = some (.int .i64 m)) (k : Kp w w') : ∃ m, w'.cell? ⟨1, 0, none⟩ = some (.int .i64 m) := by
 obtain ⟨m, hm⟩ := h
 exact ⟨m, (k.cell (World.block_lt_of_cell? w _ hm)).trans hm⟩
end Go.Proofs.YtigdmebijbaofaaGreatDoor
/-! ### Sets1 -/
namespace Go.Proofs.YtigdmebijbaofaaGreatDoor.Trip
open Go Go.Proofs.YtigdmebijbaofaaGreatDoor
def setR (p : Nat → Bool) : Rx := .mk 1 0 0 0 (W4.of p) []
theorem of_lt (p : Nat → Bool) : (W4.of p).a < 18446744073709551616 ∧ (W4.of p).b < 18446744073709551616 ∧ (W4.of p).c < 18446744073709551616 ∧ (W4.of p).d < 18446744073709551616 := ⟨wd_lt p 0, wd_lt p 1, wd_lt p 2, wd_lt p 3⟩
theorem bit_of (p : Nat → Bool) (k : Nat) (hk : k < 256) : W4.bit (W4.of p) k = p k := by
 unfold W4.bit bitOf W4.of
 have h : k / 64 = 0 ∨ k / 64 = 1 ∨ k / 64 = 2 ∨ k / 64 = 3 := by omega
 rcases h with h | h | h | h
 ·
  rw [if_pos h, wd_testBit, decide_eq_true (by omega), Bool.true_and, show 64 * 0 + k % 64 = k by omega]
 ·
  rw [if_neg (by omega), if_pos h, wd_testBit, decide_eq_true (by omega), Bool.true_and, show 64 * 1 + k % 64 = k by omega]
 ·
  rw [if_neg (by omega), if_neg (by omega), if_pos h, wd_testBit, decide_eq_true (by omega), Bool.true_and, show 64 * 2 + k % 64 = k by omega]
 ·
  rw [if_neg (by omega), if_neg (by omega), if_neg (by omega), wd_testBit, decide_eq_true (by omega), Bool.true_and, show 64 * 3 + k % 64 = k by omega]
theorem setR_ok (p : Nat → Bool) : RxOk (setR p) := by
 unfold setR RxOk
 exact ⟨by simp, of_lt p, fun a ha => by cases ha⟩
theorem setT_len2 (p : Nat → Bool) (ere : Bool) : (setT p ere).length ≤ 2000 := by
 have h1 := rowT_len p
 have h2 := rowT_len (notB p)
 have h3 : (setRow p).length ≤ 1024 := by
  unfold setRow
  split
  ·
   simp
  ·
   exact h1
 unfold setT
 split
 ·
  unfold byteT
  split
  ·
   simp
  ·
   split <;> simp
 ·
  split
  ·
   simp
  ·
   split
   ·
    simp; omega
   ·
    simp; omega
end Go.Proofs.YtigdmebijbaofaaGreatDoor.Trip
/-! ### Fit -/
namespace Go.Proofs.YtigdmebijbaofaaGreatDoor.Trip
open Go Go.Proofs.YtigdmebijbaofaaGreatDoor
structure Lg (ere : Bool) (r : Rx) : Prop where
 all : ∀ (b e : Bool) (c c' : Ck), RxOk r → chk ere r b e c = some c' → c.g ≤ 3 → (txt ere r).length ≤ 2100 * nds r ∧ TxFit ere r
theorem txts_len (ere : Bool) (f : Rx → Nat) : ∀ (rs : List Rx), (∀ r ∈ rs, (txt ere r).length ≤ 2100 * nds r) → ((txts ere rs).flatten).length ≤ 2100 * ndss rs
 | [], _ => by simp [txts, ndss]
 | r :: rs, h => by
  rw [txts, List.flatten_cons, List.length_append, ndss]
  have h1 := h r (by simp)
  have h2 := txts_len ere f rs (fun x hx => h x (by simp [hx]))
  omega
theorem bars_le (ere : Bool) : ∀ (rs : List Rx), (∀ r ∈ rs, (txt ere r).length ≤ 2100 * nds r) → (bars ere rs).length ≤ 2100 * ndss rs + rs.length
 | [], _ => by simp [bars]
 | r :: rs, h => by
  have h1 := h r (by simp)
  have h2 := bars_le ere rs (fun x hx => h x (by simp [hx]))
  have e : (bars ere (r :: rs)).length = 1 + (txt ere r).length + (bars ere rs).length := by
   unfold bars
   rw [List.map_cons, List.flatten_cons, List.length_append, List.length_cons]
   omega
  rw [e, ndss, List.length_cons]
  omega
theorem nds_pos (r : Rx) : 1 ≤ nds r := by
 cases r with
 | mk k mn mx n s kids => rw [nds]; omega
theorem len_ndss : ∀ (rs : List Rx), rs.length ≤ ndss rs
 | [] => by simp
 | r :: rs => by
  have := nds_pos r
  have := len_ndss rs
  rw [ndss, List.length_cons]
  omega
theorem timesT_len (lo : Nat) (hi : Int) (ere : Bool) (h : lo ≤ 20) (h1 : -1 ≤ hi) (h2 : hi ≤ 20) : (timesT lo hi ere).length ≤ 9 := by
 have := ivT_len lo hi h h1 h2
 unfold timesT
 split
 ·
  simp
 ·
  split
  ·
   simp
  ·
   split
   ·
    simp
   ·
    unfold framedT
    split <;> simp <;> omega
theorem cat_each {ere : Bool} : ∀ (rs : List Rx) (f : Bool) (c c' : Ck), chkCat ere rs f c = some c' → c.g ≤ 3 → ∀ r ∈ rs, ∃ b e c1 c2, chk ere r b e c1 = some c2 ∧ c1.g ≤ 3
 | [], _, _, _, _, _ => by intro r h; cases h
 | r :: rs, f, c, c', h, hg => by
  rw [chkCat] at h
  split at h
  ·
   cases h
  split at h
  ·
   cases h
  rename_i c1 h1
  have cn := (cnt_any r).all _ _ _ _ _ h1
  intro x hx
  rcases List.mem_cons.1 hx with rfl | hx
  ·
   exact ⟨_, _, _, _, h1, hg⟩
  ·
   exact cat_each rs false c1 c' h (cn.2.2.2 hg) x hx
theorem alt_each {ere : Bool} : ∀ (rs : List Rx) (c c' : Ck), chkAlt ere rs c = some c' → c.g ≤ 3 → ∀ r ∈ rs, ∃ b e c1 c2, chk ere r b e c1 = some c2 ∧ c1.g ≤ 3
 | [], _, _, _, _ => by intro r h; cases h
 | r :: rs, c, c', h, hg => by
  rw [chkAlt] at h
  split at h
  ·
   cases h
  split at h
  ·
   cases h
  rename_i c1 h1
  have cn := (cnt_any r).all _ _ _ _ _ h1
  intro x hx
  rcases List.mem_cons.1 hx with rfl | hx
  ·
   exact ⟨_, _, _, _, h1, hg⟩
  ·
   exact alt_each rs c1 c' h (cn.2.2.2 hg) x hx
theorem lg_step (ere : Bool) (k mn mx n : Int) (s : W4) (kids : List Rx) (H : ∀ a, a ∈ kids → Lg ere a) : Lg ere (.mk k mn mx n s kids) := by
 refine ⟨fun b e c c' hR h hg => ?_⟩
 have h0 := h
 have cn := (cnt_any (.mk k mn mx n s kids)).all _ _ _ _ _ h0
 obtain ⟨h1, h2, h⟩ := chk_inv h
 obtain ⟨l1, l2, l3, l4⟩ := lean_inv h2
 have hR' := rxOk_kid hR
 have z : nds (.mk k mn mx n s kids) = 1 + ndss kids := by rw [nds]
 have hk40 := len_ndss kids
 have hnn : nds (.mk k mn mx n s kids) ≤ 40 := by omega
 -- what is asked of the kids
 have each : ∀ r, r ∈ kids → (txt ere r).length ≤ 2100 * nds r ∧ TxFit ere r := by
  intro r hr
  have : ∃ b e c1 c2, chk ere r b e c1 = some c2 ∧ c1.g ≤ 3 := by
   rcases h with ⟨hk, _⟩ | ⟨hk, h⟩ | ⟨hk, _, h⟩ | ⟨hk, _, h⟩ | ⟨hk, _, hg3, _, h⟩ | ⟨hk, _⟩ | ⟨hk, _⟩ | ⟨hk, _⟩
   ·
    rw [kids_none (by omega) l4] at hr; cases hr
   ·
    exact cat_each kids true _ _ h hg r hr
   ·
    exact alt_each kids _ _ h hg r hr
   ·
    obtain ⟨x, rfl⟩ := kids_one (Or.inl hk) l4
    obtain ⟨_, hx⟩ := rep_inv h
    obtain rfl : r = x := by simpa using hr
    exact ⟨_, _, _, _, hx, hg⟩
   ·
    obtain ⟨x, rfl⟩ := kids_one (Or.inr hk) l4
    obtain ⟨c1, hx, _⟩ := grp_inv h
    obtain rfl : r = x := by simpa using hr
    exact ⟨_, _, _, _, hx, hg3⟩
   ·
    rw [kids_none (by omega) l4] at hr; cases hr
   ·
    rw [kids_none (by omega) l4] at hr; cases hr
   ·
    rw [kids_none (by omega) l4] at hr; cases hr
  obtain ⟨b, e, c1, c2, hc, hg1⟩ := this
  exact (H r hr).all b e c1 c2 (hR'.2 r hr) hc hg1
 have len : (txt ere (.mk k mn mx n s kids)).length ≤ 2100 * nds (.mk k mn mx n s kids) := by
  rw [z, txt_mk]
  rcases h with ⟨rfl, _⟩ | ⟨rfl, h⟩ | ⟨rfl, _, h⟩ | ⟨rfl, ht, h⟩ | ⟨rfl, _, hg3, _, h⟩ | ⟨rfl, hn1, hn2, _⟩ | ⟨rfl, _⟩ | ⟨rfl, _⟩
  ·
   rw [if_pos rfl]
   have := setT_len2 (W4.bit s) ere
   omega
  ·
   rw [if_neg (by decide), if_pos rfl, join_nil]
   have := txts_len ere nds kids (fun r hr => (each r hr).1)
   omega
  ·
   rw [if_neg (by decide), if_neg (by decide), if_pos rfl]
   match kids, l4, each, hk40 with
   | r :: rs, _, each, hk40 =>
    rw [join_bar, List.length_append, ndss]
    have h1 := (each r (by simp)).1
    have h2 := bars_le ere rs (fun x hx => (each x (by simp [hx])).1)
    have := len_ndss rs
    have h3 : rs.length ≤ 40 := by rw [z, ndss] at hnn; omega
    omega
   | [], _, _, _ => simp [txts, Lib.join, List.intercalate]
  ·
   rw [if_neg (by decide), if_neg (by decide), if_neg (by decide), if_pos rfl]
   obtain ⟨x, rfl⟩ := kids_one (Or.inl rfl) l4
   have ht' : 0 ≤ mn ∧ mn ≤ 20 ∧ -1 ≤ mx ∧ mx ≤ 20 := by
    unfold timesFit at ht
    split at ht
    ·
     cases ht
    ·
     simp at ht
     omega
   have h1 := (each x (by simp)).1
   have h2 := timesT_len mn.toNat mx ere (by omega) (by omega) (by omega)
   rw [show (txts ere [x]).headD [] = txt ere x by rw [txts]; rfl, List.length_append]
   simp only [ndss]
   omega
  ·
   rw [if_neg (by decide), if_neg (by decide), if_neg (by decide), if_neg (by decide), if_pos rfl]
   obtain ⟨x, rfl⟩ := kids_one (Or.inr rfl) l4
   have h1 := (each x (by simp)).1
   rw [show (txts ere [x]).headD [] = txt ere x by rw [txts]; rfl]
   have fl : (framedT [40] (txt ere x) [41] ere).length ≤ (txt ere x).length + 4 := by
    unfold framedT
    split <;> simp
   simp only [ndss]
   omega
  ·
   rw [if_neg (by decide), if_neg (by decide), if_neg (by decide), if_neg (by decide), if_neg (by decide), if_pos rfl]
   have := dec_len n.toNat (by omega)
   simp
   omega
  ·
   rw [if_neg (by decide), if_neg (by decide), if_neg (by decide), if_neg (by decide), if_neg (by decide), if_neg (by decide), if_pos rfl]
   simp
   omega
  ·
   rw [if_neg (by decide), if_neg (by decide), if_neg (by decide), if_neg (by decide), if_neg (by decide), if_neg (by decide), if_neg (by decide)]
   simp
   omega
 refine ⟨len, ?_⟩
 unfold TxFit
 refine ⟨⟨fun hk => ?_, fun hk => kids_one (Or.inr hk) l4, fun hk => ?_, by omega, hR'.1, by omega, fun r hr => ?_⟩, fun a ha => (each a ha).2⟩
 ·
  rcases h with ⟨hk', _⟩ | ⟨hk', _⟩ | ⟨hk', _⟩ | ⟨hk', ht, _⟩ | ⟨hk', _⟩ | ⟨hk', _⟩ | ⟨hk', _⟩ | ⟨hk', _⟩ <;> try omega
  refine ⟨kids_one (Or.inl hk) l4, ?_⟩
  unfold timesFit at ht
  split at ht
  ·
   cases ht
  ·
   simp at ht
   omega
 ·
  rcases h with ⟨hk', _⟩ | ⟨hk', _⟩ | ⟨hk', _⟩ | ⟨hk', _⟩ | ⟨hk', _⟩ | ⟨hk', hn1, hn2, _⟩ | ⟨hk', _⟩ | ⟨hk', _⟩ <;> omega
 ·
  have h1 := (each r hr).1
  have h2 : nds r ≤ ndss kids := ndss_mem kids r hr
  omega
theorem lg_any (ere : Bool) : ∀ r, Lg ere r
 | .mk k mn mx n s kids => lg_step ere k mn mx n s kids (fun a _ => lg_any ere a)
termination_by r => SizeOf.sizeOf r
decreasing_by
 have := List.sizeOf_lt_of_mem (by assumption)
 simp
 omega
theorem right_fit (ere : Bool) (r : Rx) (hR : RxOk r) (h : right ere r = true) : TxFit ere r ∧ (txt ere r).length ≤ 84000 := by
 unfold right at h
 obtain ⟨c', hc⟩ := Option.isSome_iff_exists.1 h
 obtain ⟨h1, h2⟩ := (lg_any ere r).all _ _ _ _ hR hc (Nat.zero_le _)
 have cn := (cnt_any r).all _ _ _ _ _ hc
 have := cn.1
 have := cn.2.1
 simp at *
 exact ⟨h2, by omega⟩
end Go.Proofs.YtigdmebijbaofaaGreatDoor.Trip
/-! ### Mak1 -/
namespace Go.Proofs.YtigdmebijbaofaaGreatDoor
open Go.RowKit
open Go.RowKit
theorem At.put {w : World} {S : Nat} {p : Nat → Bool} (h : At w S p) (b j : Nat) (hj : b / 64 = j) (hb : b < 256) : At (w.setCell ⟨S, j, none⟩ (.int .u64 (wd (addB p b) (b / 64) : Nat))) S (addB p b) := by
 subst hj
 have hp := bl_put (j := b / 64) h (.int .u64 (wd (addB p b) (b / 64) : Nat))
 refine hp.trans ?_
 have hk : b / 64 = 0 ∨ b / 64 = 1 ∨ b / 64 = 2 ∨ b / 64 = 3 := by omega
 rcases hk with hk | hk | hk | hk <;> rw [hk]
 ·
  rw [← wd_other p b 1 (by omega), ← wd_other p b 2 (by omega), ← wd_other p b 3 (by omega)]; rfl
 ·
  rw [← wd_other p b 0 (by omega), ← wd_other p b 2 (by omega), ← wd_other p b 3 (by omega)]; rfl
 ·
  rw [← wd_other p b 0 (by omega), ← wd_other p b 1 (by omega), ← wd_other p b 3 (by omega)]; rfl
 ·
  rw [← wd_other p b 0 (by omega), ← wd_other p b 1 (by omega), ← wd_other p b 2 (by omega)]; rfl
theorem cnt_pos (q : Nat → Bool) (k : Nat) (hk : k < 256) (h : q k = true) : 0 < cnt q 256 := by
 rw [← lst_length]
 exact List.length_pos_of_mem ((Trip.mem_lst q k).2 ⟨hk, h⟩)
end Go.Proofs.YtigdmebijbaofaaGreatDoor
/-! ### Mak3 -/
namespace Go.Proofs.YtigdmebijbaofaaGreatDoor.Trip
open Go Go.Proofs.YtigdmebijbaofaaGreatDoor
def noT : Rx → Bool
 | .mk k _ _ _ _ kids => (k == 2) && kids.isEmpty
structure PGood (ere : Bool) (m : Nat) (T : Rx) (d g g' : Nat) : Prop where
 k2 : T.k ≠ 2
 k3 : T.k ≠ 3
 ok : RxOk T
 le : g ≤ g'
 g3 : g' ≤ 3
 nd : nds T ≤ m + 8 * (g' - g)
 chk : ∀ b e n, n + nds T ≤ 40 → chk ere T b e ⟨n, g, d⟩ = some ⟨n + nds T, g', d⟩
structure RGood (ere : Bool) (T : Rx) (d g g' : Nat) : Prop where
 ok : RxOk T
 le : g ≤ g'
 g3 : g' ≤ 3
 nd : nds T ≤ 8 + 8 * (g' - g)
 chk : ∀ n, n + nds T ≤ 40 → chk ere T true true ⟨n, g, d⟩ = some ⟨n + nds T, g', d⟩
 nn : noT T = false
theorem PGood.more {ere : Bool} {m m' : Nat} {T : Rx} {d g g' : Nat} (h : PGood ere m T d g g') (hm : m ≤ m') : PGood ere m' T d g g' := ⟨h.k2, h.k3, h.ok, h.le, h.g3, Nat.le_trans h.nd (by omega), h.chk⟩
theorem z_lt : W4.z.a < 18446744073709551616 ∧ W4.z.b < 18446744073709551616 ∧ W4.z.c < 18446744073709551616 ∧ W4.z.d < 18446744073709551616 := by unfold W4.z; simp
theorem nds0 (k mn mx n : Int) (s : W4) : nds (.mk k mn mx n s []) = 1 := by simp [nds, ndss]
theorem nds1 (k mn mx n : Int) (s : W4) (r : Rx) : nds (.mk k mn mx n s [r]) = 1 + nds r := by simp [nds, ndss]
theorem set_good (ere : Bool) (q : Nat → Bool) (hq : 0 < cnt q 256) (d g : Nat) (hg : g ≤ 3) : PGood ere 1 (setR q) d g g := by
 refine ⟨by show (1 : Int) ≠ 2; decide, by show (1 : Int) ≠ 3; decide, setR_ok q, Nat.le_refl _, hg, by unfold setR; rw [nds0]; omega, fun b e n hn => ?_⟩
 unfold setR at hn ⊢
 rw [nds0] at hn ⊢
 rw [Go.Proofs.YtigdmebijbaofaaGreatDoor.chk]
 have hl : leanB (.mk 1 0 0 0 (W4.of q) []) = true := rfl
 rw [if_neg (by rw [hl]; simp; omega), if_pos rfl, cnt_congr _ q (fun k hk => bit_of q k hk), if_pos hq]
theorem back_good (ere : Bool) (n : Nat) (d g : Nat) (hg : g ≤ 3) (h1 : 1 ≤ n) (h2 : n ≤ g) : PGood ere 1 (.mk 6 0 0 (n : Int) W4.z []) d g g := by
 refine ⟨by show (6 : Int) ≠ 2; decide, by show (6 : Int) ≠ 3; decide, ?_, Nat.le_refl _, hg, by rw [nds0]; omega, fun b e m hm => ?_⟩
 ·
  unfold RxOk
  exact ⟨by simp, z_lt, fun a ha => by cases ha⟩
 ·
  rw [nds0] at hm ⊢
  rw [Go.Proofs.YtigdmebijbaofaaGreatDoor.chk]
  have hl : leanB (.mk 6 0 0 (n : Int) W4.z []) = true := rfl
  rw [if_neg (by rw [hl]; simp; omega), if_neg (by decide), if_neg (by decide), if_neg (by decide), if_neg (by decide), if_neg (by decide), if_pos rfl, if_pos (by constructor <;> (try simp) <;> omega)]
theorem leaf_ok (k : Int) : RxOk (.mk k 0 0 0 W4.z []) := by
 unfold RxOk
 exact ⟨by simp, z_lt, fun a ha => by cases ha⟩
theorem RGood.right {ere : Bool} {T : Rx} {g' : Nat} (h : RGood ere T 0 0 g') : right ere T = true := by
 unfold Go.Proofs.YtigdmebijbaofaaGreatDoor.right
 have := h.nd
 have := h.g3
 rw [h.chk 0 (by omega)]
 rfl
end Go.Proofs.YtigdmebijbaofaaGreatDoor.Trip
