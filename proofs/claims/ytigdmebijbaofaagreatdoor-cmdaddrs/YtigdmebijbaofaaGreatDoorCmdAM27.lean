/-
  Texts of this claim: CmN, Mak3, PrintE, Mak1.
-/
import Derived.Test.YtigdmebijbaofaaGreatDoorCmdAM4
import Derived.Test.YtigdmebijbaofaaGreatDoorCmdAM26
import Derived.Test.YtigdmebijbaofaaGreatDoorCmdAM19
import Derived.Test.YtigdmebijbaofaaGreatDoorCmdAM3

/-! ### CmN -/

namespace Go.Proofs.YtigdmebijbaofaaGreatDoor
set_option maxHeartbeats 2000000
set_option maxRecDepth 100000
open Go.RowKit

theorem dec_len5 (n : Nat) (h : n < 100000) : (dec n).length ≤ 5 := dec_more n 4 (by omega) (fun m hm => dec_len4 m hm) (by omega)
theorem dec1 (n : Nat) (h : n < 10) : dec n = [UInt8.ofNat (48 + n)] := by unfold dec; rw [Lib.decDigits, dif_pos h]
theorem dec2 (n : Nat) (h : 10 ≤ n) : dec n = dec (n / 10) ++ [UInt8.ofNat (48 + n % 10)] := by
 unfold dec
 rw [Lib.decDigits, dif_neg (by omega)]
theorem num1 (n : Nat) (h : n < 10) (w : World) : Calls Tryz.prog 36 #[.int .i64 (n : Int)] w fun e w' => e = .returned (.string (bs (dec n))) ∧ Kp w w' := by
 have hl : (n : Int) < 10 := by omega
 have E : Hid (dec n = [UInt8.ofNat (48 + n)]) := dec1 n h
 have g1 : IntKind.i64.wrap (48 + (n : Int)) = ((48 + n : Nat) : Int) := by rw [IntKind.wrap_i64]; omega
 have g2 : IntKind.u8.wrap (48 + (n : Int)) = ((48 + n : Nat) : Int) := by rw [IntKind.wrap_u8']; omega
 have g3 : IntKind.u8.wrap ((48 + n : Nat) : Int) = ((48 + n : Nat) : Int) := by rw [IntKind.wrap_u8']; omega
 have cv := conv_one w (48 + n) (by omega)
 obtain ⟨b, hb⟩ : ∃ b, 48 + n = b := ⟨_, rfl⟩
 rw [hb] at E cv g1 g2 g3
 clear hb
 go_enter Tryz.func36, Tryz.ntmps36
 go_wp2_with fail
 go_ret
 exact ⟨by rw [E.out]; rfl, (Kp.refl _).alloc _⟩
theorem num_step (n : Nat) (h10 : 10 ≤ n) (h : n < 100000) (w : World) (H : ∀ w, Calls Tryz.prog 36 #[.int .i64 ((n / 10 : Nat) : Int)] w fun e w' => e = .returned (.string (bs (dec (n / 10)))) ∧ Kp w w') : Calls Tryz.prog 36 #[.int .i64 (n : Int)] w fun e w' => e = .returned (.string (bs (dec n))) ∧ Kp w w' := by
 have hl : ¬ (n : Int) < 10 := by omega
 obtain ⟨q, hq⟩ : ∃ q, n / 10 = q := ⟨_, rfl⟩
 obtain ⟨b, hb⟩ : ∃ b, 48 + n % 10 = b := ⟨_, rfl⟩
 rw [hq] at H
 have NM := hid H
 clear H
 have hz : (bs (dec q)).size ≤ 10 := by rw [bs_size]; have := dec_len5 q (by omega); omega
 have hz2 : (bs [UInt8.ofNat b]).size ≤ 10 := by rw [bs_size]; simp
 have E : Hid (bs (dec n) = bs (dec q) ++ bs [UInt8.ofNat b]) := by show _ = _; rw [dec2 n (by omega), bs_app, hq, hb]
 obtain ⟨D1, hD1⟩ : ∃ D, bs (dec q) = D := ⟨_, rfl⟩
 obtain ⟨D2, hD2⟩ : ∃ D, bs [UInt8.ofNat b] = D := ⟨_, rfl⟩
 rw [hD1] at NM hz E
 rw [hD2] at hz2 E
 have HT := hid hD2
 clear hD1 hD2
 have hb8 : b < 256 := by omega
 have e1 : (n : Int) / 10 = (q : Int) := by omega
 obtain ⟨r, hr⟩ : ∃ r, n % 10 = r := ⟨_, rfl⟩
 have e2 : (n : Int) % 10 = (r : Int) := by omega
 have e3 : (n : Int).tdiv 10 = (q : Int) := by rw [Int.tdiv_eq_ediv_of_nonneg (by omega)]; omega
 have e4 : (n : Int).tmod 10 = (r : Int) := by rw [Int.tmod_eq_emod_of_nonneg (by omega)]; omega
 have e5 : 48 + (r : Int) = (b : Int) := by omega
 have gr : IntKind.i64.wrap (r : Int) = (r : Int) := by rw [IntKind.wrap_i64]; omega
 have gw : IntKind.i64.wrap (q : Int) = (q : Int) := by rw [IntKind.wrap_i64]; omega
 have gb : IntKind.i64.wrap (b : Int) = (b : Int) := by rw [IntKind.wrap_i64]; omega
 have gb8 : IntKind.u8.wrap (b : Int) = (b : Int) := by rw [IntKind.wrap_u8']; omega
 clear hq hb hr
 go_enter Tryz.func36, Tryz.ntmps36
 go_upto_region 3 with fail
 have Q0 : Kp w w.drew := (Kp.refl _).drew
 have MK : Hid (∀ W, Kp w W → Hid (Kp w W)) := fun W k => k
 refine wp_region_noPanic ?_
 refine hdrew MK Q0 (fun hH => ?_)
 have KQ := Q0
 refine tk 0 (some 10) (Op.move (Operand.tmp 0)) 3 (v := ?v0n1) rfl ?h0n1 hH ?_
 case h0n1 => intro _ _; go_simp; try with_reducible rfl
 try simp only [ps]
 refine tk 1 (some 11) (Op.binOp BinOp.quo 3 (Operand.tmp 10) (Operand.const (Value.int IntKind.i64 10)) 3) 3 (v := ?v1n2) rfl ?h1n2 hH ?_
 case h1n2 => intro _ _; go_simp; try with_reducible rfl
 try simp only [ps]
 refine tk 3 (some 13) (Op.move (Operand.tmp 0)) 3 (v := ?v3n3) rfl ?h3n3 hH ?_
 case h3n3 => intro _ _; go_simp; try with_reducible rfl
 try simp only [ps]
 refine tk 4 (some 14) (Op.binOp BinOp.rem 3 (Operand.tmp 13) (Operand.const (Value.int IntKind.i64 10)) 3) 3 (v := ?v4n4) rfl ?h4n4 hH ?_
 case h4n4 => intro _ _; go_simp; try with_reducible rfl
 try simp only [ps]
 refine tk 5 (some 15) (Op.binOp BinOp.add 3 (Operand.const (Value.int IntKind.i64 48)) (Operand.tmp 14) 3) 3 (v := ?v5n5) rfl ?h5n5 hH ?_
 case h5n5 => intro _ _; go_simp; try with_reducible rfl
 try simp only [ps]
 refine tk 6 (some 16) (Op.convert 3 5 (Operand.tmp 15)) 5 (v := ?v6n6) rfl ?h6n6 hH ?_
 case h6n6 => intro _ _; go_simp; try with_reducible rfl
 try simp only [ps]
 refine wpAnyH_ready (rs := [2, 7]) (by kernel_rfl) (by simp) ?_
 refine AllReadyH.cons (o := { dst := some 12, op := Op.call { callee := Callee.value (Operand.func 36), args := #[Operand.tmp 11], argTypes := #[3] }, type := 9, pos := "keep.go:306", after := #[{ on := 1, ground := Ground.data }], guard := none }) rfl (fun K hKq => ?_) ?_
 ·
  go_simp
  refine (NM.out _).mono ?_
  rintro e y1 ⟨rfl, kq⟩
  try have CB : Hid (y1.cell? ⟨w.heap.size, 0, none⟩ = some (.int .u8 (b : Int))) := (kq.cell (by simp [World.drew])).trans (bl_cell (last_drew _ _) 0 _ rfl)
  refine hKq.out _ _ (MK.out _ (KQ.trans kq)) (fun hN => ?_)
  clear kq
  clear hKq K hH KQ
  have hH := hN
  clear hN
  have KQ := hH.out
  try simp only [ps]
  refine wpAnyH_ready (rs := [7]) (by kernel_rfl) (by simp) ?_
  refine AllReadyH.cons (o := { dst := some 17, op := Op.buildSlice 59 1 #[(0, Operand.tmp 16)], type := 59, pos := "keep.go:306", after := #[{ on := 6, ground := Ground.data }], guard := none }) rfl (fun K hKq => ?_) AllReadyH.nil
  go_simp
  refine hKq.out _ _ (MK.out _ (by first | exact KQ.alloc _ | exact (KQ0.alloc _).drew)) (fun hN => ?_)
  clear hKq K hH KQ
  have hH := hN
  clear hN
  have KQ := hH.out
  try simp only [ps]
  refine wpAnyH_ready (rs := [8]) (by kernel_rfl) (by simp) ?_
  refine AllReadyH.cons (o := { dst := some 18, op := Op.convert 59 9 (Operand.tmp 17), type := 9, pos := "keep.go:306", after := #[{ on := 7, ground := Ground.data }], guard := none }) rfl (fun K hKq => ?_) AllReadyH.nil
  first
  | (have cv := conv_at _ w.heap.size b hb8 CB.out; rw [HT.out] at cv; go_simp; refine hKq.out _ _ (MK.out _ KQ) (fun hN => ?_))
  | (have cv := conv_at (w.alloc (.cells #[.int .u8 (b : Int)] 5)).drew w.heap.size b hb8 (bl_cell (last_drew _ _) 0 _ rfl); rw [HT.out] at cv; go_simp; refine hKq.out _ _ (MK.out _ KQ) (fun hN => ?_))
  | (have cv := conv_at (y1.alloc (.cells #[.int .u8 (b : Int)] 5)) y1.heap.size b hb8 (bl_cell (last_of _ _) 0 _ rfl); rw [HT.out] at cv; go_simp; refine hKq.out _ _ (MK.out _ KQ) (fun hN => ?_))
  clear hKq K hH KQ
  have hH := hN
  clear hN
  have KQ := hH.out
  try simp only [ps]
  refine wpAnyH_ready (rs := [9]) (by kernel_rfl) (by simp) ?_
  refine AllReadyH.cons (o := { dst := some 19, op := Op.binOp BinOp.add 9 (Operand.tmp 12) (Operand.tmp 18) 9, type := 9, pos := "keep.go:306", after := #[{ on := 2, ground := Ground.data }, { on := 8, ground := Ground.data }], guard := none }) rfl (fun K hKq => ?_) AllReadyH.nil
  go_simp
  rw [if_neg (by omega)]
  refine hKq.out _ _ (MK.out _ KQ) (fun hN => ?_)
  clear hKq K hH KQ
  have hH := hN
  clear hN
  have KQ := hH.out
  try simp only [ps]
  refine tk 10 (some 2) (Op.assign (Operand.tmp 19)) 9 (v := ?v10n7) rfl ?h10n7 hH ?_
  case h10n7 => intro _ _; go_simp; try with_reducible rfl
  try simp only [ps]
  refine wpAnyH_done (by kernel_rfl) ?_ _
  refine NoPanic.normal ?_
  go_wp2_with fail
  go_ret
  exact ⟨by rw [E.out]; rfl, KQ⟩
 refine AllReadyH.cons (o := { dst := some 17, op := Op.buildSlice 59 1 #[(0, Operand.tmp 16)], type := 59, pos := "keep.go:306", after := #[{ on := 6, ground := Ground.data }], guard := none }) rfl (fun K hKq => ?_) ?_
 ·
  go_simp
  refine hKq.out _ _ (MK.out _ (by first | exact KQ.alloc _ | exact (KQ0.alloc _).drew)) (fun hN => ?_)
  clear hKq K hH KQ
  have hH := hN
  clear hN
  have KQ := hH.out
  try simp only [ps]
  refine wpAnyH_ready (rs := [2, 8]) (by kernel_rfl) (by simp) ?_
  refine AllReadyH.cons (o := { dst := some 12, op := Op.call { callee := Callee.value (Operand.func 36), args := #[Operand.tmp 11], argTypes := #[3] }, type := 9, pos := "keep.go:306", after := #[{ on := 1, ground := Ground.data }], guard := none }) rfl (fun K hKq => ?_) ?_
  ·
   go_simp
   refine (NM.out _).mono ?_
   rintro e y2 ⟨rfl, kq⟩
   try have CB : Hid (y2.cell? ⟨w.heap.size, 0, none⟩ = some (.int .u8 (b : Int))) := (kq.cell (by simp [World.drew])).trans (bl_cell (last_drew _ _) 0 _ rfl)
   refine hKq.out _ _ (MK.out _ (KQ.trans kq)) (fun hN => ?_)
   clear kq
   clear hKq K hH KQ
   have hH := hN
   clear hN
   have KQ := hH.out
   try simp only [ps]
   refine wpAnyH_ready (rs := [8]) (by kernel_rfl) (by simp) ?_
   refine AllReadyH.cons (o := { dst := some 18, op := Op.convert 59 9 (Operand.tmp 17), type := 9, pos := "keep.go:306", after := #[{ on := 7, ground := Ground.data }], guard := none }) rfl (fun K hKq => ?_) AllReadyH.nil
   first
   | (have cv := conv_at _ w.heap.size b hb8 CB.out; rw [HT.out] at cv; go_simp; refine hKq.out _ _ (MK.out _ KQ) (fun hN => ?_))
   | (have cv := conv_at (w.alloc (.cells #[.int .u8 (b : Int)] 5)).drew w.heap.size b hb8 (bl_cell (last_drew _ _) 0 _ rfl); rw [HT.out] at cv; go_simp; refine hKq.out _ _ (MK.out _ KQ) (fun hN => ?_))
   | (have cv := conv_at (y1.alloc (.cells #[.int .u8 (b : Int)] 5)) y1.heap.size b hb8 (bl_cell (last_of _ _) 0 _ rfl); rw [HT.out] at cv; go_simp; refine hKq.out _ _ (MK.out _ KQ) (fun hN => ?_))
   clear hKq K hH KQ
   have hH := hN
   clear hN
   have KQ := hH.out
   try simp only [ps]
   refine wpAnyH_ready (rs := [9]) (by kernel_rfl) (by simp) ?_
   refine AllReadyH.cons (o := { dst := some 19, op := Op.binOp BinOp.add 9 (Operand.tmp 12) (Operand.tmp 18) 9, type := 9, pos := "keep.go:306", after := #[{ on := 2, ground := Ground.data }, { on := 8, ground := Ground.data }], guard := none }) rfl (fun K hKq => ?_) AllReadyH.nil
   go_simp
   rw [if_neg (by omega)]
   refine hKq.out _ _ (MK.out _ KQ) (fun hN => ?_)
   clear hKq K hH KQ
   have hH := hN
   clear hN
   have KQ := hH.out
   try simp only [ps]
   refine tk 10 (some 2) (Op.assign (Operand.tmp 19)) 9 (v := ?v10n8) rfl ?h10n8 hH ?_
   case h10n8 => intro _ _; go_simp; try with_reducible rfl
   try simp only [ps]
   refine wpAnyH_done (by kernel_rfl) ?_ _
   refine NoPanic.normal ?_
   go_wp2_with fail
   go_ret
   exact ⟨by rw [E.out]; rfl, KQ⟩
  refine AllReadyH.cons (o := { dst := some 18, op := Op.convert 59 9 (Operand.tmp 17), type := 9, pos := "keep.go:306", after := #[{ on := 7, ground := Ground.data }], guard := none }) rfl (fun K hKq => ?_) ?_
  ·
   first
   | (have cv := conv_at _ w.heap.size b hb8 CB.out; rw [HT.out] at cv; go_simp; refine hKq.out _ _ (MK.out _ KQ) (fun hN => ?_))
   | (have cv := conv_at (w.alloc (.cells #[.int .u8 (b : Int)] 5)).drew w.heap.size b hb8 (bl_cell (last_drew _ _) 0 _ rfl); rw [HT.out] at cv; go_simp; refine hKq.out _ _ (MK.out _ KQ) (fun hN => ?_))
   | (have cv := conv_at (y1.alloc (.cells #[.int .u8 (b : Int)] 5)) y1.heap.size b hb8 (bl_cell (last_of _ _) 0 _ rfl); rw [HT.out] at cv; go_simp; refine hKq.out _ _ (MK.out _ KQ) (fun hN => ?_))
   clear hKq K hH KQ
   have hH := hN
   clear hN
   have KQ := hH.out
   try simp only [ps]
   refine wpAnyH_ready (rs := [2]) (by kernel_rfl) (by simp) ?_
   refine AllReadyH.cons (o := { dst := some 12, op := Op.call { callee := Callee.value (Operand.func 36), args := #[Operand.tmp 11], argTypes := #[3] }, type := 9, pos := "keep.go:306", after := #[{ on := 1, ground := Ground.data }], guard := none }) rfl (fun K hKq => ?_) AllReadyH.nil
   go_simp
   refine (NM.out _).mono ?_
   rintro e y3 ⟨rfl, kq⟩
   try have CB : Hid (y3.cell? ⟨w.heap.size, 0, none⟩ = some (.int .u8 (b : Int))) := (kq.cell (by simp [World.drew])).trans (bl_cell (last_drew _ _) 0 _ rfl)
   refine hKq.out _ _ (MK.out _ (KQ.trans kq)) (fun hN => ?_)
   clear kq
   clear hKq K hH KQ
   have hH := hN
   clear hN
   have KQ := hH.out
   try simp only [ps]
   refine wpAnyH_ready (rs := [9]) (by kernel_rfl) (by simp) ?_
   refine AllReadyH.cons (o := { dst := some 19, op := Op.binOp BinOp.add 9 (Operand.tmp 12) (Operand.tmp 18) 9, type := 9, pos := "keep.go:306", after := #[{ on := 2, ground := Ground.data }, { on := 8, ground := Ground.data }], guard := none }) rfl (fun K hKq => ?_) AllReadyH.nil
   go_simp
   rw [if_neg (by omega)]
   refine hKq.out _ _ (MK.out _ KQ) (fun hN => ?_)
   clear hKq K hH KQ
   have hH := hN
   clear hN
   have KQ := hH.out
   try simp only [ps]
   refine tk 10 (some 2) (Op.assign (Operand.tmp 19)) 9 (v := ?v10n9) rfl ?h10n9 hH ?_
   case h10n9 => intro _ _; go_simp; try with_reducible rfl
   try simp only [ps]
   refine wpAnyH_done (by kernel_rfl) ?_ _
   refine NoPanic.normal ?_
   go_wp2_with fail
   go_ret
   exact ⟨by rw [E.out]; rfl, KQ⟩
  exact AllReadyH.nil
 exact AllReadyH.nil
theorem num_any (n : Nat) (h : n < 10000) (w : World) : Calls Tryz.prog 36 #[.int .i64 (n : Int)] w fun e w' => e = .returned (.string (bs (dec n))) ∧ Kp w w' := by
 by_cases h1 : n < 10
 ·
  exact num1 n h1 w
 refine num_step n (by omega) (by omega) w fun w => ?_
 by_cases h2 : n / 10 < 10
 ·
  exact num1 _ h2 w
 refine num_step _ (by omega) (by omega) w fun w => ?_
 by_cases h3 : n / 10 / 10 < 10
 ·
  exact num1 _ h3 w
 refine num_step _ (by omega) (by omega) w fun w => ?_
 exact num1 _ (by omega) w
end Go.Proofs.YtigdmebijbaofaaGreatDoor

/-! ### Mak3 -/

namespace Go.Proofs.YtigdmebijbaofaaGreatDoor.Trip
open Go Go.Proofs.YtigdmebijbaofaaGreatDoor

def noT : Rx → Bool
 | .mk k _ _ _ _ kids => (k == 2) && kids.isEmpty
structure PGood (ere : Bool) (m : Nat) (T : Rx) (d g g' : Nat) : Prop where
 k2 : T.k ≠ 2
 k3 : T.k ≠ 3
 ok : RxOk T
 le : g ≤ g'
 g3 : g' ≤ 3
 nd : nds T ≤ m + 8 * (g' - g)
 chk : ∀ b e n, n + nds T ≤ 40 → chk ere T b e ⟨n, g, d⟩ = some ⟨n + nds T, g', d⟩
structure RGood (ere : Bool) (T : Rx) (d g g' : Nat) : Prop where
 ok : RxOk T
 le : g ≤ g'
 g3 : g' ≤ 3
 nd : nds T ≤ 8 + 8 * (g' - g)
 chk : ∀ n, n + nds T ≤ 40 → chk ere T true true ⟨n, g, d⟩ = some ⟨n + nds T, g', d⟩
 nn : noT T = false
structure SGood (ere : Bool) (m : Nat) (T : Rx) (d g g' : Nat) : Prop where
 k3 : T.k ≠ 3
 ok : RxOk T
 le : g ≤ g'
 g3 : g' ≤ 3
 nd : nds T ≤ m + 8 * (g' - g)
 chk : ∀ b e n, n + nds T ≤ 40 → chk ere T b e ⟨n, g, d⟩ = some ⟨n + nds T, g', d⟩
 nn : noT T = false
theorem noT_k : ∀ {T : Rx}, T.k ≠ 2 → noT T = false
 | .mk k _ _ _ _ _, h => by
  have h' : k ≠ 2 := h
  simp [noT, h']
theorem PGood.part {ere : Bool} {m : Nat} {T : Rx} {d g g' : Nat} (h : PGood ere m T d g g') : SGood ere m T d g g' := ⟨h.k3, h.ok, h.le, h.g3, h.nd, h.chk, noT_k h.k2⟩
theorem PGood.more {ere : Bool} {m m' : Nat} {T : Rx} {d g g' : Nat} (h : PGood ere m T d g g') (hm : m ≤ m') : PGood ere m' T d g g' := ⟨h.k2, h.k3, h.ok, h.le, h.g3, Nat.le_trans h.nd (by omega), h.chk⟩
theorem SGood.row {ere : Bool} {m : Nat} {T : Rx} {d g g' : Nat} (h : SGood ere m T d g g') (hm : m ≤ 8) : RGood ere T d g g' := ⟨h.ok, h.le, h.g3, Nat.le_trans h.nd (by omega), fun n hn => h.chk true true n hn, h.nn⟩
theorem z_lt : W4.z.a < 18446744073709551616 ∧ W4.z.b < 18446744073709551616 ∧ W4.z.c < 18446744073709551616 ∧ W4.z.d < 18446744073709551616 := by unfold W4.z; simp
theorem nds0 (k mn mx n : Int) (s : W4) : nds (.mk k mn mx n s []) = 1 := by simp [nds, ndss]
theorem nds1 (k mn mx n : Int) (s : W4) (r : Rx) : nds (.mk k mn mx n s [r]) = 1 + nds r := by simp [nds, ndss]
theorem set_good (ere : Bool) (q : Nat → Bool) (hq : 0 < cnt q 256) (d g : Nat) (hg : g ≤ 3) : PGood ere 1 (setR q) d g g := by
 refine ⟨by show (1 : Int) ≠ 2; decide, by show (1 : Int) ≠ 3; decide, setR_ok q, Nat.le_refl _, hg, by unfold setR; rw [nds0]; omega, fun b e n hn => ?_⟩
 unfold setR at hn ⊢
 rw [nds0] at hn ⊢
 rw [Go.Proofs.YtigdmebijbaofaaGreatDoor.chk]
 have hl : leanB (.mk 1 0 0 0 (W4.of q) []) = true := rfl
 rw [if_neg (by rw [hl]; simp; omega), if_pos rfl, cnt_congr _ q (fun k hk => bit_of q k hk), if_pos hq]
theorem back_good (ere : Bool) (n : Nat) (d g : Nat) (hg : g ≤ 3) (h1 : 1 ≤ n) (h2 : n ≤ g) : PGood ere 1 (.mk 6 0 0 (n : Int) W4.z []) d g g := by
 refine ⟨by show (6 : Int) ≠ 2; decide, by show (6 : Int) ≠ 3; decide, ?_, Nat.le_refl _, hg, by rw [nds0]; omega, fun b e m hm => ?_⟩
 ·
  unfold RxOk
  exact ⟨by simp, z_lt, fun a ha => by cases ha⟩
 ·
  rw [nds0] at hm ⊢
  rw [Go.Proofs.YtigdmebijbaofaaGreatDoor.chk]
  have hl : leanB (.mk 6 0 0 (n : Int) W4.z []) = true := rfl
  rw [if_neg (by rw [hl]; simp; omega), if_neg (by decide), if_neg (by decide), if_neg (by decide), if_neg (by decide), if_neg (by decide), if_pos rfl, if_pos (by constructor <;> (try simp) <;> omega)]
theorem group_good (ere : Bool) (R : Rx) (d g g' : Nat) (hd : d ≤ 5) (hg : g + 1 ≤ 3) (h : RGood ere R (d + 1) (g + 1) g') : PGood ere 1 (.mk 5 0 0 ((g + 1 : Nat) : Int) W4.z [R]) d g g' := by
 have hle := h.le
 have hnd := h.nd
 refine ⟨by show (5 : Int) ≠ 2; decide, by show (5 : Int) ≠ 3; decide, ?_, by omega, h.g3, by rw [nds1]; omega, fun b e m hm => ?_⟩
 ·
  unfold RxOk
  exact ⟨by simp, z_lt, fun a ha => by
   obtain rfl : a = R := by simpa using ha
   exact h.ok⟩
 ·
  rw [nds1] at hm ⊢
  rw [Go.Proofs.YtigdmebijbaofaaGreatDoor.chk]
  have hl : leanB (.mk 5 0 0 ((g + 1 : Nat) : Int) W4.z [R]) = true := rfl
  rw [if_neg (by rw [hl]; simp; omega), if_neg (by decide), if_neg (by decide), if_neg (by decide), if_neg (by decide), if_pos rfl, if_neg (by simp; omega)]
  rw [chkGroup]
  have := h.chk (m + 1) (by omega)
  rw [show (⟨m + 1, g + 1, d + 1⟩ : Ck) = ⟨m + 1, g + 1, d + 1⟩ from rfl, this]
  show some (Ck.mk (m + 1 + nds R) g' (d + 1 - 1)) = _
  rw [show m + 1 + nds R = m + (1 + nds R) by omega, show d + 1 - 1 = d by omega]
theorem rep_good (ere : Bool) (X : Rx) (lo hi : Int) (d g g' : Nat) (h : PGood ere 1 X d g g') (hk : mayRep X.k = true) (ht : timesFit lo hi = true) : PGood ere 2 (.mk 4 lo hi 0 W4.z [X]) d g g' := by
 have hnd := h.nd
 refine ⟨by show (4 : Int) ≠ 2; decide, by show (4 : Int) ≠ 3; decide, ?_, h.le, h.g3, by rw [nds1]; omega, fun b e m hm => ?_⟩
 ·
  unfold RxOk
  exact ⟨by simp, z_lt, fun a ha => by
   obtain rfl : a = X := by simpa using ha
   exact h.ok⟩
 ·
  rw [nds1] at hm ⊢
  rw [Go.Proofs.YtigdmebijbaofaaGreatDoor.chk]
  have hl : leanB (.mk 4 lo hi 0 W4.z [X]) = true := rfl
  rw [if_neg (by rw [hl]; simp; omega), if_neg (by decide), if_neg (by decide), if_neg (by decide), if_pos rfl, if_pos ht, chkRep, if_pos hk, h.chk false false (m + 1) (by omega)]
  rw [show m + 1 + nds X = m + (1 + nds X) by omega]
inductive LG (ere : Bool) (d : Nat) : List Rx → Nat → Nat → Prop
 | nil (g : Nat) : LG ere d [] g g
 | cons {T : Rx} {ks : List Rx} {g g1 g' : Nat} (h : PGood ere 2 T d g g1) (r : LG ere d ks g1 g') : LG ere d (T :: ks) g g'
theorem LG.snoc {ere : Bool} {d : Nat} {ks : List Rx} {g g1 : Nat} (h : LG ere d ks g g1) : ∀ {T : Rx} {g' : Nat}, PGood ere 2 T d g1 g' → LG ere d (ks ++ [T]) g g' := by
 induction h with
 | nil g => intro T g' hT; exact .cons hT (.nil _)
 | cons h r ih => intro T g' hT; exact .cons h (ih hT)
theorem LG.facts {ere : Bool} {d : Nat} {ks : List Rx} {g g' : Nat} (h : LG ere d ks g g') : g ≤ g' ∧ (g ≤ 3 → g' ≤ 3) ∧ ndss ks ≤ 2 * ks.length + 8 * (g' - g) ∧ ∀ r ∈ ks, RxOk r := by
 induction h with
 | nil g => exact ⟨Nat.le_refl _, fun h => h, by simp [ndss], fun r hr => by cases hr⟩
 | cons h r ih =>
  have h1 := h.le
  have h2 := h.g3
  have h3 := h.nd
  obtain ⟨i1, i2, i3, i4⟩ := ih
  refine ⟨by omega, fun _ => i2 h2, by rw [ndss, List.length_cons]; omega, fun x hx => ?_⟩
  rcases List.mem_cons.1 hx with rfl | hx
  ·
   exact h.ok
  ·
   exact i4 x hx
theorem LG.cat {ere : Bool} {d : Nat} {ks : List Rx} {g g' : Nat} (h : LG ere d ks g g') : ∀ (rest : List Rx) (first : Bool) (n : Nat), n + ndss ks ≤ 40 → chkCat ere (ks ++ rest) first ⟨n, g, d⟩ = chkCat ere rest (first && ks.isEmpty) ⟨n + ndss ks, g', d⟩ := by
 induction h with
 | nil g => intro rest first n _; simp [ndss]
 | cons h r ih =>
  rename_i T ks g g1 g'
  intro rest first n hn
  rw [ndss] at hn ⊢
  show chkCat ere (T :: (ks ++ rest)) first ⟨n, g, d⟩ = _
  rw [chkCat, if_neg (by rintro (h' | h'); exact h.k2 h'; exact h.k3 h'), h.chk first _ n (by omega)]
  show chkCat ere (ks ++ rest) false ⟨n + nds T, g1, d⟩ = _
  rw [ih rest false (n + nds T) (by omega), Bool.false_and, show (first && (T :: ks).isEmpty) = false by simp, Nat.add_assoc]
theorem cat_good (ere : Bool) (d g g' : Nat) (hg : g ≤ 3) (ks : List Rx) (h : LG ere d ks g g') (h2 : 2 ≤ ks.length) (h3 : ks.length ≤ 3) : SGood ere (1 + 2 * ks.length) (.mk 2 0 0 0 W4.z ks) d g g' := by
 obtain ⟨f1, f2, f3, f4⟩ := h.facts
 have z : nds (.mk 2 0 0 0 W4.z ks) = 1 + ndss ks := by rw [nds]
 refine ⟨by show (2 : Int) ≠ 3; decide, ?_, f1, f2 hg, by rw [z]; omega, fun b e n hn => ?_, by unfold noT; cases ks with | nil => simp at h2 | cons a r => rfl⟩
 ·
  unfold RxOk
  exact ⟨by omega, z_lt, f4⟩
 ·
  rw [z] at hn ⊢
  rw [Go.Proofs.YtigdmebijbaofaaGreatDoor.chk]
  have hl : leanB (.mk 2 0 0 0 W4.z ks) = true := by
   unfold leanB kidsFit
   simp
   omega
  rw [if_neg (by rw [hl]; simp; omega), if_neg (by decide), if_pos rfl]
  have := h.cat [] true (n + 1) (by omega)
  rw [List.append_nil] at this
  rw [this, chkCat, show n + 1 + ndss ks = n + (1 + ndss ks) by omega]
theorem leaf_ok (k : Int) : RxOk (.mk k 0 0 0 W4.z []) := by
 unfold RxOk
 exact ⟨by simp, z_lt, fun a ha => by cases ha⟩
theorem begin_good (ere : Bool) (d g g' : Nat) (hg : g ≤ 3) (ks : List Rx) (h : LG ere d ks g g') (h2 : 2 ≤ ks.length) (h3 : ks.length ≤ 3) : RGood ere (.mk 2 0 0 0 W4.z (.mk 7 0 0 0 W4.z [] :: ks)) d g g' := by
 obtain ⟨f1, f2, f3, f4⟩ := h.facts
 have z : nds (.mk 2 0 0 0 W4.z (.mk 7 0 0 0 W4.z [] :: ks)) = 2 + ndss ks := by rw [nds, ndss, nds0]; omega
 refine ⟨?_, f1, f2 hg, by rw [z]; omega, fun n hn => ?_, rfl⟩
 ·
  unfold RxOk
  refine ⟨by simp; omega, z_lt, fun a ha => ?_⟩
  rcases List.mem_cons.1 ha with rfl | ha
  ·
   exact leaf_ok 7
  ·
   exact f4 a ha
 ·
  rw [z] at hn ⊢
  rw [Go.Proofs.YtigdmebijbaofaaGreatDoor.chk]
  have hl : leanB (.mk 2 0 0 0 W4.z (.mk 7 0 0 0 W4.z [] :: ks)) = true := by
   unfold leanB kidsFit
   simp
   intro e
   rw [e] at h2
   simp at h2
  rw [if_neg (by rw [hl]; simp; omega), if_neg (by decide), if_pos rfl, chkCat, if_neg (by rintro (h' | h') <;> exact absurd h' (by decide))]
  have hb : Go.Proofs.YtigdmebijbaofaaGreatDoor.chk ere (.mk 7 0 0 0 W4.z []) true ks.isEmpty ⟨n + 1, g, d⟩ = some ⟨n + 2, g, d⟩ := by
   rw [Go.Proofs.YtigdmebijbaofaaGreatDoor.chk]
   have hl : leanB (.mk 7 0 0 0 W4.z []) = true := rfl
   rw [if_neg (by rw [hl]; simp; omega), if_neg (by decide), if_neg (by decide), if_neg (by decide), if_neg (by decide), if_neg (by decide), if_neg (by decide), if_pos rfl, if_pos (by simp)]
  rw [hb]
  show chkCat ere ks false ⟨n + 2, g, d⟩ = _
  have := h.cat [] false (n + 2) (by omega)
  rw [List.append_nil] at this
  rw [this, chkCat, show n + 2 + ndss ks = n + (2 + ndss ks) by omega]
theorem end_good (ere : Bool) (d g g' : Nat) (hg : g ≤ 3) (ks : List Rx) (h : LG ere d ks g g') (h2 : 2 ≤ ks.length) (h3 : ks.length ≤ 3) : RGood ere (.mk 2 0 0 0 W4.z (ks ++ [.mk 8 0 0 0 W4.z []])) d g g' := by
 obtain ⟨f1, f2, f3, f4⟩ := h.facts
 have z : nds (.mk 2 0 0 0 W4.z (ks ++ [.mk 8 0 0 0 W4.z []])) = 2 + ndss ks := by rw [nds, ndss_app]; simp [ndss, nds0]; omega
 refine ⟨?_, f1, f2 hg, by rw [z]; omega, fun n hn => ?_, by simp [noT]⟩
 ·
  unfold RxOk
  refine ⟨by simp; omega, z_lt, fun a ha => ?_⟩
  rcases List.mem_append.1 ha with ha | ha
  ·
   exact f4 a ha
  ·
   obtain rfl : a = .mk 8 0 0 0 W4.z [] := by simpa using ha
   exact leaf_ok 8
 ·
  rw [z] at hn ⊢
  rw [Go.Proofs.YtigdmebijbaofaaGreatDoor.chk]
  have hl : leanB (.mk 2 0 0 0 W4.z (ks ++ [.mk 8 0 0 0 W4.z []])) = true := by
   unfold leanB kidsFit
   simp
   intro e
   rw [e] at h2
   simp at h2
  rw [if_neg (by rw [hl]; simp; omega), if_neg (by decide), if_pos rfl, h.cat _ true (n + 1) (by omega), chkCat, if_neg (by rintro (h' | h') <;> exact absurd h' (by decide))]
  have hb : ∀ f, Go.Proofs.YtigdmebijbaofaaGreatDoor.chk ere (.mk 8 0 0 0 W4.z []) f true ⟨n + 1 + ndss ks, g', d⟩ = some ⟨n + (2 + ndss ks), g', d⟩ := by
   intro f
   rw [Go.Proofs.YtigdmebijbaofaaGreatDoor.chk]
   have hl : leanB (.mk 8 0 0 0 W4.z []) = true := rfl
   rw [if_neg (by rw [hl]; simp; omega), if_neg (by decide), if_neg (by decide), if_neg (by decide), if_neg (by decide), if_neg (by decide), if_neg (by decide), if_neg (by decide), if_pos rfl, if_pos (by simp)]
   rw [show n + 1 + ndss ks + 1 = n + (2 + ndss ks) by omega]
  rw [show ([] : List Rx).isEmpty = true from rfl, hb]
  rfl
theorem alt_good (a b : Rx) (d g g1 g' : Nat) (ha : SGood true 5 a d g g1) (hb : SGood true 2 b d g1 g') : RGood true (.mk 3 0 0 0 W4.z [a, b]) d g g' := by
 have a1 := ha.le
 have b1 := hb.le
 have a2 := ha.nd
 have b2 := hb.nd
 have z : nds (.mk 3 0 0 0 W4.z [a, b]) = 1 + nds a + nds b := by simp [nds, ndss]; omega
 refine ⟨?_, by omega, hb.g3, by rw [z]; omega, fun n hn => ?_, rfl⟩
 ·
  unfold RxOk
  refine ⟨by simp, z_lt, fun x hx => ?_⟩
  simp at hx
  rcases hx with rfl | rfl
  ·
   exact ha.ok
  ·
   exact hb.ok
 ·
  rw [z] at hn ⊢
  rw [Go.Proofs.YtigdmebijbaofaaGreatDoor.chk]
  have hl : leanB (.mk 3 0 0 0 W4.z [a, b]) = true := rfl
  rw [if_neg (by rw [hl]; simp; omega), if_neg (by decide), if_neg (by decide), if_pos rfl, if_pos rfl, chkAlt, if_neg ha.k3, ha.chk false false (n + 1) (by omega)]
  show chkAlt true [b] ⟨n + 1 + nds a, g1, d⟩ = _
  rw [chkAlt, if_neg hb.k3, hb.chk false false (n + 1 + nds a) (by omega)]
  show chkAlt true [] ⟨n + 1 + nds a + nds b, g', d⟩ = _
  rw [chkAlt, show n + 1 + nds a + nds b = n + (1 + nds a + nds b) by omega]
theorem RGood.right {ere : Bool} {T : Rx} {g' : Nat} (h : RGood ere T 0 0 g') : right ere T = true := by
 unfold Go.Proofs.YtigdmebijbaofaaGreatDoor.right
 have := h.nd
 have := h.g3
 rw [h.chk 0 (by omega)]
 rfl
end Go.Proofs.YtigdmebijbaofaaGreatDoor.Trip

/-! ### PrintE -/

namespace Go.Proofs.YtigdmebijbaofaaGreatDoor
open Go.RowKit

theorem parse_none (ere : Bool) : pParse (bs []) ere = (.mk 2 0 0 0 W4.z [], 0, 0) := by
 cases ere
 ·
  exact Trip.trip false (.mk 2 0 0 0 W4.z []) (by unfold RxOk; exact ⟨by simp, Trip.z_lt, fun a ha => by cases ha⟩) (by decide +kernel)
 ·
  exact Trip.trip true (.mk 2 0 0 0 W4.z []) (by unfold RxOk; exact ⟨by simp, Trip.z_lt, fun a ha => by cases ha⟩) (by decide +kernel)
theorem print_empty (ere : Bool) (k mn mx n : Int) (s : W4) (kids : List Rx) (hO : RxOk (.mk k mn mx n s kids)) :
  printT ere (.mk k mn mx n s kids) = [] ↔ (right ere (.mk k mn mx n s kids) = false ∨ (k = 2 ∧ kids = [])) := by
 constructor
 ·
  intro h
  cases hr : right ere (.mk k mn mx n s kids) with
  | false => exact Or.inl rfl
  | true =>
   right
   have ht := Trip.print_trip ere _ hO hr
   rw [h, parse_none] at ht
   injection ht with h1 _
   injection h1 with e1 e2 e3 e4 e5 e6
   exact ⟨e1.symm, e6.symm⟩
 ·
  rintro (h | ⟨rfl, rfl⟩)
  ·
   unfold printT
   rw [if_neg (by rw [h]; decide)]
  ·
   unfold printT
   split
   ·
    rw [txt]
    simp [txts, Lib.join]
   ·
    rfl
end Go.Proofs.YtigdmebijbaofaaGreatDoor

/-! ### Mak1 -/

namespace Go.Proofs.YtigdmebijbaofaaGreatDoor
set_option maxHeartbeats 2000000
set_option maxRecDepth 100000
open Go.RowKit

structure Km (B : Nat) (w w' : World) : Prop where
 lo : Below B w w'
 block : ∀ b, b < w.heap.size → b ≠ B → b ≠ B + 1 → b ≠ B + 2 → w'.heap[b]? = w.heap[b]?
theorem Km.refl (B : Nat) (w : World) : Km B w w := ⟨Below.refl _ _, fun _ _ _ _ _ => rfl⟩
theorem Km.size {B : Nat} {a b : World} (h : Km B a b) : a.heap.size ≤ b.heap.size := h.lo.size
theorem Km.trans {B : Nat} {a b c : World} (h : Km B a b) (g : Km B b c) : Km B a c := ⟨h.lo.trans g.lo, fun k hk n0 n1 n2 => (g.block k (Nat.lt_of_lt_of_le hk h.size) n0 n1 n2).trans (h.block k hk n0 n1 n2)⟩
theorem Kp.km {B : Nat} {a b : World} (h : Kp a b) (hB : B ≤ a.heap.size) : Km B a b := ⟨Below.mono h hB, fun k hk _ _ _ => h.block k hk⟩
theorem Km.kp {B : Nat} {a b c : World} (h : Km B a b) (k : Kp b c) (hB : B ≤ a.heap.size) : Km B a c := h.trans (k.km (Nat.le_trans hB h.size))
theorem Km.set {B : Nat} {a b : World} (h : Km B a b) (i : Nat) (hi : i < 3) (j : Nat) (u : Value) : Km B a (b.setCell ⟨B + i, j, none⟩ u) :=
 ⟨h.lo.setCell (by show B ≤ B + i; omega) u, fun k hk n0 n1 n2 => (Below.heap_setCell b ⟨B + i, j, none⟩ u k (by show k ≠ B + i; omega)).trans (h.block k hk n0 n1 n2)⟩
theorem Km.up {B : Nat} {W w w' : World} (h : Km B w w') (k : Kp W w) (hB : W.heap.size ≤ B) : Kp W w' :=
 ⟨h.lo.os.trans k.os, h.lo.tape.trans k.tape, h.lo.output.trans k.output, Nat.le_trans k.size h.size, fun b hb => (h.block b (Nat.lt_of_lt_of_le hb k.size) (by omega) (by omega) (by omega)).trans (k.block b hb)⟩
theorem bl_km {B : Nat} {w w' : World} {S : Nat} {o : Obj} (h : w.heap[S]? = some o) (hS : B + 2 < S) (hk : Km B w w') : w'.heap[S]? = some o := (hk.block S (bl_lt h) (by omega) (by omega) (by omega)).trans h
theorem Is.km {B : Nat} {w w' : World} {ok : Nat → Prop} {t : Rx} {v : Value} (h : Is w ok t v) (k : Km B w w') (hP : ∀ b, ok b → b < w.heap.size → B + 2 < b) : Is w' ok t v := Is.turn k.size (fun b hb hl => ⟨hb, k.block b hl (by have := hP b hb hl; omega) (by have := hP b hb hl; omega) (by have := hP b hb hl; omega)⟩) t v h
structure Mk (w : World) (B : Nat) (x y z : Int) : Prop where
 at_ : w.heap[B]? = some (.cells #[.int .i64 x] 3)
 gr : w.heap[B + 1]? = some (.cells #[.int .i64 y] 3)
 lf : w.heap[B + 2]? = some (.cells #[.int .i64 z] 3)
theorem Mk.kp {w w' : World} {B : Nat} {x y z : Int} (h : Mk w B x y z) (k : Kp w w') : Mk w' B x y z := ⟨bl_kp h.at_ k, bl_kp h.gr k, bl_kp h.lf k⟩
theorem Mk.lt {w : World} {B : Nat} {x y z : Int} (h : Mk w B x y z) : B + 2 < w.heap.size := bl_lt h.lf
theorem Mk.setA {w : World} {B : Nat} {x y z : Int} (h : Mk w B x y z) (u : Int) : Mk (w.setCell ⟨B, 0, none⟩ (.int .i64 u)) B u y z := ⟨bl_put h.at_ _, bl_set h.gr (by omega) _, bl_set h.lf (by omega) _⟩
theorem Mk.setG {w : World} {B : Nat} {x y z : Int} (h : Mk w B x y z) (u : Int) : Mk (w.setCell ⟨B + 1, 0, none⟩ (.int .i64 u)) B x u z := ⟨bl_set h.at_ (by omega) _, bl_put h.gr _, bl_set h.lf (by omega) _⟩
theorem Mk.setL {w : World} {B : Nat} {x y z : Int} (h : Mk w B x y z) (u : Int) : Mk (w.setCell ⟨B + 2, 0, none⟩ (.int .i64 u)) B x y u := ⟨bl_set h.at_ (by omega) _, bl_set h.gr (by omega) _, bl_put h.lf _⟩
structure Nums (w : World) (B : Nat) (a : Option Addr) (l : Nat) : Prop where
 ex : 0 < l → ∃ b o, a = some ⟨b, o, none⟩ ∧ b < B ∧ ∀ i, i < l → ∃ x : Int, w.cell? ⟨b, o + i, none⟩ = some (.int .i64 x)
theorem Nums.km {w w' : World} {B : Nat} {a : Option Addr} {l : Nat} (h : Nums w B a l) (k : Km B w w') : Nums w' B a l := ⟨fun hl => by
 obtain ⟨b, o, h1, h2, h3⟩ := h.ex hl
 exact ⟨b, o, h1, h2, fun i hi => by
  obtain ⟨x, hx⟩ := h3 i hi
  exact ⟨x, (k.lo.cell (p := ⟨b, o + i, none⟩) h2).trans hx⟩⟩⟩
abbrev mkv (aK : Option Addr) (lK cK : Nat) (aN : Option Addr) (lN cN : Nat) (ere : Bool) (B : Nat) : Value := .agg #[.slice aK lK cK, .slice aN lN cN, .bool ere, .pointer (some ⟨B, 0, none⟩), .pointer (some ⟨B + 1, 0, none⟩), .pointer (some ⟨B + 2, 0, none⟩)]
abbrev mko (aK : Option Addr) (lK cK : Nat) (aN : Option Addr) (lN cN : Nat) (ere : Bool) (B : Nat) : Obj := .cells #[.slice aK lK cK, .slice aN lN cN, .bool ere, .pointer (some ⟨B, 0, none⟩), .pointer (some ⟨B + 1, 0, none⟩), .pointer (some ⟨B + 2, 0, none⟩)] 120
structure Nxt (B x : Nat) (y z : Int) (w : World) (e : Ending) (w' : World) : Prop where
 ex : ∃ a b : Int, e = .returned (.tuple #[.int .i64 a, .int .i64 b]) ∧ Mk w' B ((x + 1 : Nat) : Int) y z ∧ Km B w w'

theorem next_any (aK : Option Addr) (lK cK : Nat) (aN : Option Addr) (lN cN : Nat) (ere : Bool) (B x : Nat) (y z : Int) (w : World) (hM : Mk w B (x : Int) y z) (hK : Nums w B aK lK) (hN : Nums w B aN lN) (hx : x ≤ 1000) :
  Calls Tryz.prog 112 #[(mkv aK lK cK aN lN cN ere B)] w fun e w' => Nxt B x y z w e w' := by
 have HM := hid hM
 have HK := hid hK
 have HN := hid hN
 have hBw := hM.lt
 clear hM hK hN
 go_enter Tryz.func112, Tryz.ntmps112
 go_upto_region 1 with fail
 refine opq (fun W0 => Mk W0 B (x : Int) y z ∧ W0.heap[w.heap.size]? = some (mko aK lK cK aN lN cN ere B) ∧ Km B w W0) ⟨by exact HM.out.kp kpt, by (first | exact last_at _ _ _ (by simp) | (refine bl_alloc ?_ _; first | exact last_at _ _ _ (by simp) | (refine bl_alloc ?_ _; first | exact last_at _ _ _ (by simp) | (refine bl_alloc ?_ _; exact last_at _ _ _ (by simp))))), by exact (Km.refl _ _).kp kpt (by omega)⟩ ?_
 rintro W0 ⟨xM0, xA0, xK0⟩
 have M0 := hidT xM0
 have A0 := hidT xA0
 have K0 := hidT xK0
 clear xM0 xA0 xK0
 obtain ⟨p0, p1, p2, p3, p4, p5⟩ := cells6 (A0.out)
 have q0 := bl_cell M0.out.at_ 0 _ rfl
 have fq0 := bl_frozen M0.out.at_ 0
 have gx : IntKind.i64.wrap ((x : Int) + 1) = (x : Int) + 1 := by rw [IntKind.wrap_i64]; omega
 go_upto_region 3 with fail
 refine opq (fun W1 => Mk W1 B ((x + 1 : Nat) : Int) y z ∧ W1.heap[w.heap.size]? = some (mko aK lK cK aN lN cN ere B) ∧ Km B w W1) ⟨by exact M0.out.setA _, by exact bl_set A0.out (by omega) _, by exact K0.out.set 0 (by omega) 0 _⟩ ?_
 rintro W1 ⟨xM1, xA1, xK1⟩
 have M1 := hidT xM1
 have A1 := hidT xA1
 have K1 := hidT xK1
 clear xM1 xA1 xK1
 clear p0 p1 p2 p3 p4 p5 q0 fq0 gx M0 A0 K0
 have NK := hid (HK.out.km K1.out)
 have NN := hid (HN.out.km K1.out)
 obtain ⟨p0, p1, p2, p3, p4, p5⟩ := cells6 (A1.out)
 by_cases hl : x < lK
 ·
  have hli : (x : Int) < (lK : Int) := by omega
  by_cases h30 : x < 30
  ·
   have h30i : (x : Int) < 30 := by omega
   obtain ⟨bK, oK, hae, hbK, hcK⟩ := NK.out.ex (by omega)
   subst hae
   obtain ⟨v, hv⟩ := hcK x hl
   clear hcK
   go_upto_region 6 with fail
   clear hv
   by_cases hn : 0 < lN
   ·
    have hni : (0 : Int) < (lN : Int) := by omega
    have hnz : ¬ (lN : Int) = 0 := by omega
    have hnz2 : ¬ lN = 0 := by omega
    obtain ⟨bN, oN, hae, hbN, hcN⟩ := NN.out.ex hn
    subst hae
    obtain ⟨r, hr⟩ : ∃ r, x % lN = r := ⟨_, rfl⟩
    have hrl : r < lN := by rw [← hr]; exact Nat.mod_lt _ hn
    have hrli : (r : Int) < (lN : Int) := by omega
    have er : (x : Int).tmod (lN : Int) = (r : Int) := by rw [Int.tmod_eq_emod_of_nonneg (by omega), ← hr]; exact (Int.natCast_emod x lN).symm
    have er2 : (x : Int) % (lN : Int) = (r : Int) := by rw [← hr]; exact (Int.natCast_emod x lN).symm
    have hrx : r ≤ x := by rw [← hr]; exact Nat.mod_le _ _
    have gr : IntKind.i64.wrap (r : Int) = (r : Int) := by rw [IntKind.wrap_i64]; omega
    obtain ⟨u, hu⟩ := hcN r hrl
    have HU := hid hu
    clear hu hcN hr
    go_upto_region 8 with fail
    have Q0 : Kp W1 W1.drew := (Kp.refl _).drew
    have MK : Hid (∀ W, Kp W1 W → W.cell? ⟨w.heap.size, 1, none⟩ = some (.slice (some ⟨bN, oN, none⟩) lN cN) ∧ W.cell? ⟨bN, (oN + r), none⟩ = some (.int .i64 u) ∧ Hid (Kp W1 W)) := fun W k => ⟨bl_cell (bl_kp A1.out k) 1 _ rfl, (k.cell (World.block_lt_of_cell? W1 _ HU.out)).trans HU.out, k⟩
    refine wp_region_noPanic ?_
    refine hdrew MK Q0 (fun hH => ?_)
    have KQ := Q0
    refine tk 0 (some 39) (Op.fieldAddr 120 (Operand.tmp 1) 0) 0 (v := ?v0a1) rfl ?h0a1 hH ?_
    case h0a1 => intro _ _; go_simp; try with_reducible rfl
    try simp only [ps]
    refine tk 1 (some 40) (Op.fieldAddr 44 (Operand.tmp 39) 1) 0 (v := ?v1a2) rfl ?h1a2 hH ?_
    case h1a2 => intro _ _; go_simp; try with_reducible rfl
    try simp only [ps]
    refine tk 2 (some 41) (Op.load 42 (Operand.tmp 40)) 42 (v := ?v2a3) rfl ?h2a3 hH ?_
    case h2a3 => intro _ _; go_simp; try with_reducible rfl
    try simp only [ps]
    refine tk 3 (some 42) (Op.move (Operand.tmp 4)) 3 (v := ?v3a4) rfl ?h3a4 hH ?_
    case h3a4 => intro _ _; go_simp; try with_reducible rfl
    try simp only [ps]
    refine tk 4 (some 43) (Op.move (Operand.tmp 7)) 3 (v := ?v4a5) rfl ?h4a5 hH ?_
    case h4a5 => intro _ _; go_simp; try with_reducible rfl
    try simp only [ps]
    refine tk 5 (some 44) (Op.binOp BinOp.rem 3 (Operand.tmp 42) (Operand.tmp 43) 3) 3 (v := ?v5a6) rfl ?h5a6 hH ?_
    case h5a6 => intro _ _; go_simp; try with_reducible rfl
    try simp only [ps]
    refine tk 6 (some 45) (Op.indexAddr 42 (Operand.tmp 41) (Operand.tmp 44)) 0 (v := ?v6a7) rfl ?h6a7 hH ?_
    case h6a7 => intro _ _; go_simp; try with_reducible rfl
    try simp only [ps]
    refine tk 7 (some 46) (Op.load 3 (Operand.tmp 45)) 3 (v := ?v7a8) rfl ?h7a8 hH ?_
    case h7a8 => intro _ _; go_simp; try with_reducible rfl
    try simp only [ps]
    refine tk 8 (some 6) (Op.assign (Operand.tmp 46)) 3 (v := ?v8a9) rfl ?h8a9 hH ?_
    case h8a9 => intro _ _; go_simp; try with_reducible rfl
    try simp only [ps]
    refine wpAnyH_done (by kernel_rfl) ?_ _
    refine NoPanic.normal ?_
    go_wp2_with fail
    go_ret2
    exact ⟨⟨_, _, rfl, M1.out.kp KQ, K1.out.kp KQ (by omega)⟩⟩
   ·
    have hni : ¬ (0 : Int) < (lN : Int) := by omega
    go_wp2_with fail
    go_ret2
    exact ⟨⟨_, _, rfl, M1.out, K1.out⟩⟩
  ·
   have h30i : ¬ (x : Int) < 30 := by omega
   go_upto_region 6 with fail
   by_cases hn : 0 < lN
   ·
    have hni : (0 : Int) < (lN : Int) := by omega
    have hnz : ¬ (lN : Int) = 0 := by omega
    have hnz2 : ¬ lN = 0 := by omega
    obtain ⟨bN, oN, hae, hbN, hcN⟩ := NN.out.ex hn
    subst hae
    obtain ⟨r, hr⟩ : ∃ r, x % lN = r := ⟨_, rfl⟩
    have hrl : r < lN := by rw [← hr]; exact Nat.mod_lt _ hn
    have hrli : (r : Int) < (lN : Int) := by omega
    have er : (x : Int).tmod (lN : Int) = (r : Int) := by rw [Int.tmod_eq_emod_of_nonneg (by omega), ← hr]; exact (Int.natCast_emod x lN).symm
    have er2 : (x : Int) % (lN : Int) = (r : Int) := by rw [← hr]; exact (Int.natCast_emod x lN).symm
    have hrx : r ≤ x := by rw [← hr]; exact Nat.mod_le _ _
    have gr : IntKind.i64.wrap (r : Int) = (r : Int) := by rw [IntKind.wrap_i64]; omega
    obtain ⟨u, hu⟩ := hcN r hrl
    have HU := hid hu
    clear hu hcN hr
    go_upto_region 8 with fail
    have Q0 : Kp W1 W1.drew := (Kp.refl _).drew
    have MK : Hid (∀ W, Kp W1 W → W.cell? ⟨w.heap.size, 1, none⟩ = some (.slice (some ⟨bN, oN, none⟩) lN cN) ∧ W.cell? ⟨bN, (oN + r), none⟩ = some (.int .i64 u) ∧ Hid (Kp W1 W)) := fun W k => ⟨bl_cell (bl_kp A1.out k) 1 _ rfl, (k.cell (World.block_lt_of_cell? W1 _ HU.out)).trans HU.out, k⟩
    refine wp_region_noPanic ?_
    refine hdrew MK Q0 (fun hH => ?_)
    have KQ := Q0
    refine tk 0 (some 39) (Op.fieldAddr 120 (Operand.tmp 1) 0) 0 (v := ?v0b1) rfl ?h0b1 hH ?_
    case h0b1 => intro _ _; go_simp; try with_reducible rfl
    try simp only [ps]
    refine tk 1 (some 40) (Op.fieldAddr 44 (Operand.tmp 39) 1) 0 (v := ?v1b2) rfl ?h1b2 hH ?_
    case h1b2 => intro _ _; go_simp; try with_reducible rfl
    try simp only [ps]
    refine tk 2 (some 41) (Op.load 42 (Operand.tmp 40)) 42 (v := ?v2b3) rfl ?h2b3 hH ?_
    case h2b3 => intro _ _; go_simp; try with_reducible rfl
    try simp only [ps]
    refine tk 3 (some 42) (Op.move (Operand.tmp 4)) 3 (v := ?v3b4) rfl ?h3b4 hH ?_
    case h3b4 => intro _ _; go_simp; try with_reducible rfl
    try simp only [ps]
    refine tk 4 (some 43) (Op.move (Operand.tmp 7)) 3 (v := ?v4b5) rfl ?h4b5 hH ?_
    case h4b5 => intro _ _; go_simp; try with_reducible rfl
    try simp only [ps]
    refine tk 5 (some 44) (Op.binOp BinOp.rem 3 (Operand.tmp 42) (Operand.tmp 43) 3) 3 (v := ?v5b6) rfl ?h5b6 hH ?_
    case h5b6 => intro _ _; go_simp; try with_reducible rfl
    try simp only [ps]
    refine tk 6 (some 45) (Op.indexAddr 42 (Operand.tmp 41) (Operand.tmp 44)) 0 (v := ?v6b7) rfl ?h6b7 hH ?_
    case h6b7 => intro _ _; go_simp; try with_reducible rfl
    try simp only [ps]
    refine tk 7 (some 46) (Op.load 3 (Operand.tmp 45)) 3 (v := ?v7b8) rfl ?h7b8 hH ?_
    case h7b8 => intro _ _; go_simp; try with_reducible rfl
    try simp only [ps]
    refine tk 8 (some 6) (Op.assign (Operand.tmp 46)) 3 (v := ?v8b9) rfl ?h8b9 hH ?_
    case h8b9 => intro _ _; go_simp; try with_reducible rfl
    try simp only [ps]
    refine wpAnyH_done (by kernel_rfl) ?_ _
    refine NoPanic.normal ?_
    go_wp2_with fail
    go_ret2
    exact ⟨⟨_, _, rfl, M1.out.kp KQ, K1.out.kp KQ (by omega)⟩⟩
   ·
    have hni : ¬ (0 : Int) < (lN : Int) := by omega
    go_wp2_with fail
    go_ret2
    exact ⟨⟨_, _, rfl, M1.out, K1.out⟩⟩
 ·
  have hli : ¬ (x : Int) < (lK : Int) := by omega
  go_upto_region 6 with fail
  by_cases hn : 0 < lN
  ·
   have hni : (0 : Int) < (lN : Int) := by omega
   have hnz : ¬ (lN : Int) = 0 := by omega
   have hnz2 : ¬ lN = 0 := by omega
   obtain ⟨bN, oN, hae, hbN, hcN⟩ := NN.out.ex hn
   subst hae
   obtain ⟨r, hr⟩ : ∃ r, x % lN = r := ⟨_, rfl⟩
   have hrl : r < lN := by rw [← hr]; exact Nat.mod_lt _ hn
   have hrli : (r : Int) < (lN : Int) := by omega
   have er : (x : Int).tmod (lN : Int) = (r : Int) := by rw [Int.tmod_eq_emod_of_nonneg (by omega), ← hr]; exact (Int.natCast_emod x lN).symm
   have er2 : (x : Int) % (lN : Int) = (r : Int) := by rw [← hr]; exact (Int.natCast_emod x lN).symm
   have hrx : r ≤ x := by rw [← hr]; exact Nat.mod_le _ _
   have gr : IntKind.i64.wrap (r : Int) = (r : Int) := by rw [IntKind.wrap_i64]; omega
   obtain ⟨u, hu⟩ := hcN r hrl
   have HU := hid hu
   clear hu hcN hr
   go_upto_region 8 with fail
   have Q0 : Kp W1 W1.drew := (Kp.refl _).drew
   have MK : Hid (∀ W, Kp W1 W → W.cell? ⟨w.heap.size, 1, none⟩ = some (.slice (some ⟨bN, oN, none⟩) lN cN) ∧ W.cell? ⟨bN, (oN + r), none⟩ = some (.int .i64 u) ∧ Hid (Kp W1 W)) := fun W k => ⟨bl_cell (bl_kp A1.out k) 1 _ rfl, (k.cell (World.block_lt_of_cell? W1 _ HU.out)).trans HU.out, k⟩
   refine wp_region_noPanic ?_
   refine hdrew MK Q0 (fun hH => ?_)
   have KQ := Q0
   refine tk 0 (some 39) (Op.fieldAddr 120 (Operand.tmp 1) 0) 0 (v := ?v0c1) rfl ?h0c1 hH ?_
   case h0c1 => intro _ _; go_simp; try with_reducible rfl
   try simp only [ps]
   refine tk 1 (some 40) (Op.fieldAddr 44 (Operand.tmp 39) 1) 0 (v := ?v1c2) rfl ?h1c2 hH ?_
   case h1c2 => intro _ _; go_simp; try with_reducible rfl
   try simp only [ps]
   refine tk 2 (some 41) (Op.load 42 (Operand.tmp 40)) 42 (v := ?v2c3) rfl ?h2c3 hH ?_
   case h2c3 => intro _ _; go_simp; try with_reducible rfl
   try simp only [ps]
   refine tk 3 (some 42) (Op.move (Operand.tmp 4)) 3 (v := ?v3c4) rfl ?h3c4 hH ?_
   case h3c4 => intro _ _; go_simp; try with_reducible rfl
   try simp only [ps]
   refine tk 4 (some 43) (Op.move (Operand.tmp 7)) 3 (v := ?v4c5) rfl ?h4c5 hH ?_
   case h4c5 => intro _ _; go_simp; try with_reducible rfl
   try simp only [ps]
   refine tk 5 (some 44) (Op.binOp BinOp.rem 3 (Operand.tmp 42) (Operand.tmp 43) 3) 3 (v := ?v5c6) rfl ?h5c6 hH ?_
   case h5c6 => intro _ _; go_simp; try with_reducible rfl
   try simp only [ps]
   refine tk 6 (some 45) (Op.indexAddr 42 (Operand.tmp 41) (Operand.tmp 44)) 0 (v := ?v6c7) rfl ?h6c7 hH ?_
   case h6c7 => intro _ _; go_simp; try with_reducible rfl
   try simp only [ps]
   refine tk 7 (some 46) (Op.load 3 (Operand.tmp 45)) 3 (v := ?v7c8) rfl ?h7c8 hH ?_
   case h7c8 => intro _ _; go_simp; try with_reducible rfl
   try simp only [ps]
   refine tk 8 (some 6) (Op.assign (Operand.tmp 46)) 3 (v := ?v8c9) rfl ?h8c9 hH ?_
   case h8c9 => intro _ _; go_simp; try with_reducible rfl
   try simp only [ps]
   refine wpAnyH_done (by kernel_rfl) ?_ _
   refine NoPanic.normal ?_
   go_wp2_with fail
   go_ret2
   exact ⟨⟨_, _, rfl, M1.out.kp KQ, K1.out.kp KQ (by omega)⟩⟩
  ·
   have hni : ¬ (0 : Int) < (lN : Int) := by omega
   go_wp2_with fail
   go_ret2
   exact ⟨⟨_, _, rfl, M1.out, K1.out⟩⟩
end Go.Proofs.YtigdmebijbaofaaGreatDoor
