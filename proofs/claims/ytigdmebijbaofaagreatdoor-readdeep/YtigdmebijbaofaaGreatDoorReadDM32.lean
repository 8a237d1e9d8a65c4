/-
  Texts of this claim: ReC, ReD, RdN.
-/
import Derived.Test.YtigdmebijbaofaaGreatDoorReadDM4
import Derived.Test.YtigdmebijbaofaaGreatDoorReadDM31
import Derived.Test.YtigdmebijbaofaaGreatDoorReadDM25
import Derived.Test.YtigdmebijbaofaaGreatDoorReadDM21
import Derived.Test.YtigdmebijbaofaaGreatDoorReadDM30
/-! ### ReC -/
namespace Go.Proofs.YtigdmebijbaofaaGreatDoor
set_option maxHeartbeats 2000000
set_option maxRecDepth 100000
open Go.RowKit
def fitN (ok : Bool) (o op : Nat) : Nat × Nat := if ok then ((nestN o op).2, (nestN o op).1) else (1, o)
theorem nestN_le (o op : Nat) (h : o ≤ 6) : (nestN o op).1 ≤ 6 := by
 unfold nestN
 split
 ·
  split
  ·
   exact Nat.zero_le _
  ·
   show o + 1 ≤ 6; omega
 ·
  split
  ·
   split
   ·
    exact Nat.zero_le _
   ·
    show o - 1 ≤ 6; omega
  ·
   exact h
theorem fitN_le (ok : Bool) (o op : Nat) (h : o ≤ 6) : (fitN ok o op).2 ≤ 6 := by
 unfold fitN
 split
 ·
  exact nestN_le o op h
 ·
  exact h
theorem fit_any {w : World} {P : Nat} {s : ByteArray} {ere : Bool} {i o : Nat} (c : Cv) (A B R : Rx) (Q : List Pc) (hO : COk c A B R Q) (h : Rr w P s ere i o) (hc : CIs w c A B R Q) (ho : o ≤ 1000000) :
  Calls Tryz.prog 164 #[.pointer (some ⟨P, 0, none⟩), c.v] w fun e w' => e = .returned (.int .i64 (((fitN (rightC c A B R Q ere) o c.op).1 : Nat) : Int)) ∧ Rr w' P s ere i (fitN (rightC c A B R Q ere) o c.op).2 ∧ Ks P w w' := by
 have R0' := hid h
 have hP : P < w.heap.size := h.lt
 obtain ⟨q, hq⟩ : ∃ q, rightC c A B R Q ere = q := ⟨_, rfl⟩
 have C1 : Hid (∀ w, CIs w c A B R Q → Calls Tryz.prog 23 #[c.v, .bool ere] w fun e w' => e = .returned (.bool q) ∧ Kp w w') := fun w h => by rw [← hq]; exact rightC_any c A B R Q ere hO w h
 rw [hq]
 have HC := hid hc
 have hop := hO.op
 clear h hc hq
 go_enter Tryz.func164, Tryz.ntmps164
 go_upto_region 1 with fail
 refine opq (fun W0 => W0.heap[w.heap.size]? = some c.o ∧ Rr W0 P s ere i o ∧ Kp w W0 ∧ CIs W0 c A B R Q) ⟨by (first | exact last_at _ _ _ (by simp) | (refine bl_alloc ?_ _; first | exact last_at _ _ _ (by simp) | (refine bl_alloc ?_ _; first | exact last_at _ _ _ (by simp) | (refine bl_alloc ?_ _; exact last_at _ _ _ (by simp))))), by exact R0'.out.kp kpt, by exact kpt, by exact HC.out.kp kpt⟩ ?_
 rintro W0 ⟨xA0, xR1, xK0, xI0⟩
 have A0 := hidT xA0
 have R1 := hidT xR1
 have K0 := hidT xK0
 have I0 := hidT xI0
 clear xA0 xR1 xK0 xI0
 obtain ⟨D, hD⟩ : ∃ D, w.heap.size = D := ⟨_, rfl⟩
 rw [hD] at A0 ⊢
 have hPD : P < D := by omega
 clear R0' HC
 go_cut [11] (fun v wc => v = .bool (!q) ∧ Kp W0 wc)
 case first =>
  have Q0 : Kp W0 W0.drew := (Kp.refl _).drew
  have MK : Hid (∀ W, Kp W0 W → W.cell? ⟨P, 1, none⟩ = some (.bool ere) ∧ Hid (Kp W0 W)) := fun W k => ⟨(R1.out.kp k).cells.2.1, k⟩
  refine wp_region_noPanic ?_
  refine hdrew MK Q0 (fun hH => ?_)
  have KQ := Q0
  refine tk 1 (some 6) (.move (.tmp 0)) 161 (v := ?v1e1) rfl ?h1e1 hH ?_
  case h1e1 => intro _ _; go_simp; try with_reducible rfl
  try simp only [ps]
  refine tk 2 (some 7) (.nilCheck (.tmp 6)) 0 (v := ?v2e2) rfl ?h2e2 hH ?_
  case h2e2 => intro _ _; go_simp; try with_reducible rfl
  try simp only [ps]
  refine tk 3 (some 8) (.fieldAddr 123 (.tmp 7) 1) 0 (v := ?v3e3) rfl ?h3e3 hH ?_
  case h3e3 => intro _ _; go_simp; try with_reducible rfl
  try simp only [ps]
  refine tk 4 (some 9) (.load 4 (.tmp 8)) 4 (v := ?v4e4) rfl ?h4e4 hH ?_
  case h4e4 => intro _ _; go_simp; try with_reducible rfl
  try simp only [ps]
  refine wpAnyH_ready (rs := [0]) (by kernel_rfl) (by simp) ?_
  refine AllReadyH.cons (o := { dst := some 5, op := .load 37 (.tmp 3), type := 37, pos := "parse.go:94", after := #[], guard := none }) rfl (fun K hKq => ?_) AllReadyH.nil
  refine wp_load_cv rfl rfl c (bl_kp A0.out KQ) ?_
  simp only [Act.put, List.setIfInBounds_toArray, List.set_cons_zero, List.set_cons_succ]
  refine hKq.out _ _ (MK.out _ KQ) (fun hN => ?_)
  clear hKq K hH KQ
  have hH := hN
  clear hN
  have KQ := hH.2.out
  try simp only [ps]
  refine wpAnyH_ready (rs := [5]) (by kernel_rfl) (by simp) ?_
  refine AllReadyH.cons (o := { dst := some 10, op := .call { callee := .value (.func 23), args := #[.tmp 5, .tmp 9], argTypes := #[37, 4] }, type := 4, pos := "parse.go:94", after := _, guard := none }) rfl (fun K hKq => ?_) AllReadyH.nil
  go_simp
  refine (C1.out _ (I0.out.kp KQ)).mono ?_
  rintro e y2 ⟨rfl, kq⟩
  refine hKq.out _ _ (MK.out _ (KQ.trans kq)) (fun hN => ?_)
  clear kq
  clear hKq K hH KQ
  have hH := hN
  clear hN
  have KQ := hH.2.out
  try simp only [ps]
  refine tk 6 (some 11) (.unOp .not 4 (.tmp 10)) 4 (v := ?v6e5) rfl ?h6e5 hH ?_
  case h6e5 => intro _ _; go_simp; try with_reducible rfl
  try simp only [ps]
  refine wpAnyH_done (by kernel_rfl) ?_ _
  refine NoPanic.normal ?_
  go_wp2_with fail
  go_meet
  case rel => exact ⟨rfl, KQ⟩
 case rest =>
 obtain ⟨rfl, k1⟩ := hcut
 rename World => W2
 have A2 := hid (bl_kp A0.out k1)
 have R2 := hid (R1.out.kp k1)
 have K2' := hid (K0.out.trans k1)
 clear k1 A0 R1 K0 I0 C1
 cases q with
 | false =>
  go_wp2_with fail
  go_ret
  exact ⟨rfl, R2.out, K2'.out.ks (by omega)⟩
 | true =>
  obtain ⟨o2, e2, hn⟩ : ∃ o2 e2, nestN o c.op = (o2, e2) := ⟨_, _, rfl⟩
  have EF : Hid (fitN true o c.op = (e2, o2)) := by show _ = _; unfold fitN; rw [if_pos rfl, hn]
  have C2 : Hid (∀ w, Calls Tryz.prog 87 #[.int .i64 (o : Int), .int .u8 (c.op : Int)] w fun e w' => e = .returned (.tuple #[.int .i64 (o2 : Int), .int .i64 (e2 : Int)]) ∧ w' = w) := fun w => by have := nested_any o c.op ho w; rw [hn] at this; exact this
  have R3 := hid (R2.out.kp ((Kp.refl _).drew))
  have HNE := hid (show D ≠ P by omega)
  clear hn
  go_upto_region 3 with fail
  have Q0 : Ks P W2 W2.drew := (Ks.refl _ _).drew
  have MK : Hid (∀ W, Ks P W2 W → W.cell? ⟨D, 23, none⟩ = some (.int .u8 (c.op : Int)) ∧ Hid (Ks P W2 W)) := fun W k => ⟨bl_cell (bl_ks A2.out HNE.out k) 23 _ rfl, k⟩
  refine wp_region_noPanic ?_
  refine hdrew MK Q0 (fun hH => ?_)
  have KQ := Q0
  refine tk 0 (some 13) (.move (.tmp 0)) 161 (v := ?v0f1) rfl ?h0f1 hH ?_
  case h0f1 => intro _ _; go_simp; try with_reducible rfl
  try simp only [ps]
  refine tk 1 (some 14) (.move (.tmp 0)) 161 (v := ?v1f2) rfl ?h1f2 hH ?_
  case h1f2 => intro _ _; go_simp; try with_reducible rfl
  try simp only [ps]
  refine tk 2 (some 15) (.nilCheck (.tmp 14)) 0 (v := ?v2f3) rfl ?h2f3 hH ?_
  case h2f3 => intro _ _; go_simp; try with_reducible rfl
  try simp only [ps]
  refine tk 3 (some 16) (.fieldAddr 123 (.tmp 15) 3) 0 (v := ?v3f4) rfl ?h3f4 hH ?_
  case h3f4 => intro _ _; go_simp; try with_reducible rfl
  try simp only [ps]
  refine tk 5 (some 18) (.fieldAddr 37 (.tmp 3) 3) 0 (v := ?v5f5) rfl ?h5f5 hH ?_
  case h5f5 => intro _ _; go_simp; try with_reducible rfl
  try simp only [ps]
  refine tk 6 (some 19) (.load 5 (.tmp 18)) 5 (v := ?v6f6) rfl ?h6f6 hH ?_
  case h6f6 => intro _ _; go_simp; try with_reducible rfl
  try simp only [ps]
  refine wpAnyH_ready (rs := [4]) (by kernel_rfl) (by simp) ?_
  refine AllReadyH.cons (o := { dst := some 17, op := .load 3 (.tmp 16), type := 3, pos := "parse.go:97", after := _, guard := none }) rfl (fun K hKq => ?_) AllReadyH.nil
  have q3 := R3.out.cells.2.2.2
  go_simp
  refine hKq.out _ _ (MK.out _ KQ) (fun hN => ?_)
  clear q3
  clear hKq K hH KQ
  have hH := hN
  clear hN
  have KQ := hH.2.out
  try simp only [ps]
  refine wpAnyH_ready (rs := [7]) (by kernel_rfl) (by simp) ?_
  refine AllReadyH.cons (o := { dst := some 20, op := .call { callee := .value (.func 87), args := #[.tmp 17, .tmp 19], argTypes := #[3, 5] }, type := 136, pos := "parse.go:97", after := _, guard := none }) rfl (fun K hKq => ?_) AllReadyH.nil
  go_simp
  refine (C2.out _).mono ?_
  rintro e y2 ⟨rfl, rfl⟩
  refine hKq.out _ _ (MK.out _ KQ) (fun hN => ?_)
  clear hKq K hH KQ
  have hH := hN
  clear hN
  have KQ := hH.2.out
  try simp only [ps]
  refine tk 8 (some 12) (.move (.tmp 20)) 136 (v := ?v8f7) rfl ?h8f7 hH ?_
  case h8f7 => intro _ _; go_simp; try with_reducible rfl
  try simp only [ps]
  refine tk 9 (some 21) (.extract (.tmp 12) 0) 3 (v := ?v9f8) rfl ?h9f8 hH ?_
  case h9f8 => intro _ _; go_simp; try with_reducible rfl
  try simp only [ps]
  refine tk 10 (some 22) (.extract (.tmp 12) 1) 28 (v := ?v10f9) rfl ?h10f9 hH ?_
  case h10f9 => intro _ _; go_simp; try with_reducible rfl
  try simp only [ps]
  refine tk 11 (some 23) (.nilCheck (.tmp 13)) 0 (v := ?v11f10) rfl ?h11f10 hH ?_
  case h11f10 => intro _ _; go_simp; try with_reducible rfl
  try simp only [ps]
  refine tk 12 (some 24) (.fieldAddr 123 (.tmp 23) 3) 0 (v := ?v12f11) rfl ?h12f11 hH ?_
  case h12f11 => intro _ _; go_simp; try with_reducible rfl
  try simp only [ps]
  refine wpAnyH_ready (rs := [13]) (by kernel_rfl) (by simp) ?_
  refine AllReadyH.cons (o := { dst := none, op := .store 3 (.tmp 24) (.tmp 21), type := 0, pos := "parse.go:97", after := _, guard := none }) rfl (fun K hKq => ?_) AllReadyH.nil
  have q3 := R3.out.cells.2.2.2
  have f3 := bl_frozen R3.out.b 3
  go_simp
  refine hKq.out _ _ (MK.out _ (KQ.set 3 _)) (fun hN => ?_)
  clear q3 f3
  clear hKq K hH KQ
  have hH := hN
  clear hN
  have KQ := hH.2.out
  try simp only [ps]
  refine tk 14 (some 4) (.assign (.tmp 22)) 28 (v := ?v14f12) rfl ?h14f12 hH ?_
  case h14f12 => intro _ _; go_simp; try with_reducible rfl
  try simp only [ps]
  refine wpAnyH_done (by kernel_rfl) ?_ _
  refine NoPanic.normal ?_
  go_wp2_with fail
  go_ret
  exact ⟨by rw [EF.out] <;> rfl, by rw [EF.out]; exact R3.out.op o2, (K2'.out.ks (by omega)).trans KQ⟩
def endN (s : ByteArray) (op i : Nat) : Bool × Nat :=
 if op = 123 ∨ op = 97 ∨ op = 105 ∨ op = 99 then (true, i)
 else (decide (skipN blankL s i = s.size) || inS closeL (ch s (skipN blankL s i)), skipN blankL s i)
theorem endN_le (s : ByteArray) (op i : Nat) (hi : i ≤ s.size) : i ≤ (endN s op i).2 ∧ (endN s op i).2 ≤ s.size := by
 unfold endN
 split
 ·
  exact ⟨Nat.le_refl _, hi⟩
 ·
  exact skipN_le blankL s i hi
theorem ended_any {w : World} {P : Nat} {s : ByteArray} {ere : Bool} {i o : Nat} (op : Nat) (h : Rr w P s ere i o) (hi : i ≤ s.size) (hs : s.size ≤ 1000000) :
  Calls Tryz.prog 165 #[.pointer (some ⟨P, 0, none⟩), .int .u8 (op : Int)] w fun e w' => e = .returned (.bool (endN s op i).1) ∧ Rr w' P s ere (endN s op i).2 o ∧ Ks P w w' := by
 have R := hid h
 have hP : P < w.heap.size := h.lt
 clear h
 obtain ⟨x, hx⟩ : ∃ x, endN s op i = x := ⟨_, rfl⟩
 rw [hx]
 have HX := hid hx
 unfold endN at HX
 clear hx
 by_cases h123 : op = 123
 ·
  subst h123
  obtain rfl : (true, i) = x := HX.out
  go_enter Tryz.func165, Tryz.ntmps165
  go_wp2_with fail
  go_ret
  exact ⟨rfl, R.out, Ks.refl _ _⟩
 have g123 : ((op : Int) == 123) = false := by simp; omega
 by_cases h97 : op = 97
 ·
  subst h97
  obtain rfl : (true, i) = x := HX.out
  go_enter Tryz.func165, Tryz.ntmps165
  go_wp2_with fail
  go_ret
  exact ⟨rfl, R.out, Ks.refl _ _⟩
 have g97 : ((op : Int) == 97) = false := by simp; omega
 by_cases h105 : op = 105
 ·
  subst h105
  obtain rfl : (true, i) = x := HX.out
  go_enter Tryz.func165, Tryz.ntmps165
  go_wp2_with fail
  go_ret
  exact ⟨rfl, R.out, Ks.refl _ _⟩
 have g105 : ((op : Int) == 105) = false := by simp; omega
 by_cases h99 : op = 99
 ·
  subst h99
  obtain rfl : (true, i) = x := HX.out
  go_enter Tryz.func165, Tryz.ntmps165
  go_wp2_with fail
  go_ret
  exact ⟨rfl, R.out, Ks.refl _ _⟩
 have g99 : ((op : Int) == 99) = false := by simp; omega
 obtain ⟨j, hj⟩ : ∃ j, skipN blankL s i = j := ⟨_, rfl⟩
 have hjl := skipN_le blankL s i hi
 obtain rfl : (decide (j = s.size) || inS closeL (ch s j), j) = x := by
  have := HX.out
  rw [if_neg (by simp [h123, h97, h105, h99]), hj] at this
  exact this
 rw [hj] at hjl
 have S1 : Hid (∀ w, Rr w P s ere i o → Calls Tryz.prog 120 #[.pointer (some ⟨P, 0, none⟩), .string ⟨#[32, 9]⟩] w fun e w' => e = .returned (.tuple #[]) ∧ Rr w' P s ere j o ∧ Ks P w w') := fun w h => by rw [← hj]; exact skip_any ⟨#[32, 9]⟩ h hi hs
 obtain ⟨c, hc⟩ : ∃ c, ch s j = c := ⟨_, rfl⟩
 have H0 : Hid (∀ w, Rr w P s ere j o → Calls Tryz.prog 161 #[.pointer (some ⟨P, 0, none⟩)] w fun e w' => e = .returned (.int .u8 (c : Int)) ∧ Kp w w') := fun w h => by rw [← hc]; exact here_any h hjl.2
 obtain ⟨x, hx⟩ : ∃ x, Lib.indexByte [10, 59, 125] (UInt8.ofNat c) = x := ⟨_, rfl⟩
 have H1 : Hid (∀ w, Calls Tryz.prog 141 #[.string ⟨#[10, 59, 125]⟩, .int .u8 (c : Int)] w fun e w' => e = .returned (.int .i64 x) ∧ w' = w) := fun w => by rw [← hx]; exact indexByte_any ⟨#[10, 59, 125]⟩ (c : Int) w
 have EI : Hid (inS closeL c = decide (x ≥ 0)) := by show _ = _; unfold inS closeL; rw [hx]
 rw [hc]
 clear HX hj hc hx h123 h97 h105 h99 hjl
 go_enter Tryz.func165, Tryz.ntmps165
 go_wp2_with fail
 refine (S1.out _ R.out).mono ?_
 rintro e w1 ⟨rfl, r1, k1⟩
 have R1 := hid (r1)
 have K1 := hid (k1)
 clear r1 k1 R S1
 go_wp2_with fail
 refine (over_any R1.out).mono ?_
 rintro e w2 ⟨rfl, k1⟩
 have R2 := hid (R1.out.kp k1)
 have K2 := hid (K1.out.kpt k1 hP)
 clear k1 R1 K1
 by_cases he : j = s.size
 ·
  rw [decide_eq_true he]
  have R3 : Hid (Rr w2 P s ere j o) := R2.out
  have HE := hid he
  clear he
  go_wp2_with fail
  go_ret
  exact ⟨by rw [decide_eq_true HE.out] <;> rfl, R3.out, K2.out⟩
 ·
  rw [decide_eq_false he]
  have HE := hid he
  clear he
  go_wp2_with fail
  refine (H0.out _ R2.out).mono ?_
  rintro e w3 ⟨rfl, k1⟩
  have R3 := hid (R2.out.kp k1)
  have K3 := hid (K2.out.kpt k1 hP)
  clear k1
  go_wp2_with fail
  refine (H1.out _).mono ?_
  rintro e w4 ⟨rfl, rfl⟩
  go_wp2_with fail
  go_ret
  exact ⟨by rw [decide_eq_false HE.out, EI.out] <;> rfl, R3.out, K3.out⟩
structure Hd where
 a : PA
 b : PA
 nt : Bool
 op : Nat
 e : Nat
 j : Nat
def hdJ (s : ByteArray) (j : Nat) : Nat := skipN blankL s (tkI s (skipN blankL s j) 33)
def pHead (s : ByteArray) (ere : Bool) (i : Nat) : Hd :=
 if (pAddrs s ere i).2.2.1 = 0 then
  if hdJ s (pAddrs s ere i).2.2.2 = s.size then ⟨PA.z, PA.z, false, 0, 1, hdJ s (pAddrs s ere i).2.2.2⟩
  else ⟨(pAddrs s ere i).1, (pAddrs s ere i).2.1, tkN s (skipN blankL s (pAddrs s ere i).2.2.2) 33, ch s (hdJ s (pAddrs s ere i).2.2.2), 0, hdJ s (pAddrs s ere i).2.2.2⟩
 else ⟨PA.z, PA.z, false, 0, (pAddrs s ere i).2.2.1, (pAddrs s ere i).2.2.2⟩
theorem hdJ_le (s : ByteArray) (j : Nat) (hj : j ≤ s.size) : j ≤ hdJ s j ∧ hdJ s j ≤ s.size := by
 have h1 := skipN_le blankL s j hj
 have h2 := tkI_le s (skipN blankL s j) 33 h1.2
 have h3 := skipN_le blankL s (tkI s (skipN blankL s j) 33) h2.2
 unfold hdJ
 omega
theorem pHead_le (s : ByteArray) (ere : Bool) (i : Nat) (hi : i ≤ s.size) : i ≤ (pHead s ere i).j ∧ (pHead s ere i).j ≤ s.size ∧ ((pHead s ere i).e = 0 → (pHead s ere i).j < s.size) ∧ RxOk (pHead s ere i).a.t ∧ RxOk (pHead s ere i).b.t ∧ (pHead s ere i).op < 256 := by
 have h1 := pAddrs_le s ere i hi
 unfold pHead
 generalize pAddrs s ere i = x at *
 obtain ⟨A, B, e, j⟩ := x
 dsimp only at h1 ⊢
 have h2 := hdJ_le s j h1.2.1
 split
 ·
  split
  ·
   exact ⟨by show i ≤ hdJ s j; omega, h2.2, fun h => absurd h (by show ¬ (1 : Nat) = 0; decide), zR_ok, zR_ok, by show 0 < 256; omega⟩
  ·
   exact ⟨by show i ≤ hdJ s j; omega, h2.2, fun _ => by show hdJ s j < s.size; omega, h1.2.2.1, h1.2.2.2, ch_lt _ _⟩
 ·
  rename_i hne
  exact ⟨h1.1, h1.2.1, fun h => absurd h hne, zR_ok, zR_ok, by show 0 < 256; omega⟩
structure HdD (x : Hd) (P : Nat) (s : ByteArray) (ere : Bool) (o : Nat) (w : World) (e : Ending) (w' : World) : Prop where
 ex : ∃ a b, e = .returned (.tuple #[Cv.v (bareC a b x.nt x.op), .int .i64 ((x.e : Nat) : Int)]) ∧ AIs w' (fun q => w.heap.size ≤ q) a x.a ∧ AIs w' (fun q => w.heap.size ≤ q) b x.b ∧ Rr w' P s ere x.j o ∧ Ks P w w'
theorem head_any {w : World} {P : Nat} {s : ByteArray} {ere : Bool} {i o : Nat} (h : Rr w P s ere i o) (hi : i ≤ s.size) (hs : s.size ≤ 100000) :
  Calls Tryz.prog 162 #[.pointer (some ⟨P, 0, none⟩)] w fun e w' => HdD (pHead s ere i) P s ere o w e w' := by
 have R := hid h
 have hP : P < w.heap.size := h.lt
 clear h
 obtain ⟨x, hx⟩ : ∃ x, pHead s ere i = x := ⟨_, rfl⟩
 rw [hx]
 have HX := hid hx
 unfold pHead at HX
 clear hx
 obtain ⟨A, B, m, j, hp⟩ : ∃ A B m j, pAddrs s ere i = (A, B, m, j) := ⟨_, _, _, _, rfl⟩
 have hpl := pAddrs_le s ere i hi
 rw [hp] at hpl HX
 have hjl : j ≤ s.size := hpl.2.1
 have HX1 : Hid ((if m = 0 then (if hdJ s j = s.size then ⟨PA.z, PA.z, false, 0, 1, hdJ s j⟩ else ⟨A, B, tkN s (skipN blankL s j) 33, ch s (hdJ s j), 0, hdJ s j⟩) else (⟨PA.z, PA.z, false, 0, m, j⟩ : Hd)) = x) := HX.out
 have E0 : Hid (∀ w C, Rr w P s ere i o → w.heap[C]? = some (Cv.o (bareC Av.z Av.z false 0)) → P < C → Calls Tryz.prog 194 #[.pointer (some ⟨P, 0, none⟩), .pointer (some ⟨C, 0, none⟩)] w fun e w' => AdD (A, B, m, j) P C s ere o w e w') := fun w C h hc hPC => by
  have := addresses_any h hc hPC hi hs
  rw [hp] at this
  exact this
 clear hp hpl HX
 go_enter Tryz.func162, Tryz.ntmps162
 go_upto_region 2 with fail
 refine opq (fun V0 => Rr V0 P s ere i o ∧ V0.heap[w.heap.size]? = some (Cv.o (bareC Av.z Av.z false 0)) ∧ V0.heap[(w.heap.size + 1)]? = some (Cv.o (bareC Av.z Av.z false 0)) ∧ Ks P w V0) ⟨by exact R.out.kp kpt, by exact bl_alloc (last_of _ _) _, by exact last_at _ _ _ (by simp), by exact (Kp.ks kpt (Nat.le_of_lt hP))⟩ ?_
 rintro V0 ⟨xR0, xB0, xC0, xK0⟩
 have R0 := hidT xR0
 have B0 := hidT xB0
 have C0 := hidT xC0
 have K0 := hidT xK0
 clear xR0 xB0 xC0 xK0
 clear R
 have hPC : P < w.heap.size + 1 := by omega
 go_wp2_with fail
 refine (E0.out _ _ R0.out C0.out hPC).mono ?_
 rintro e w1 ⟨⟨rfl, a, b, hc1, ha, hb, r1, k1⟩⟩
 have R1 := hid r1
 have C1 := hid hc1
 have B1 := hid ((k1.block w.heap.size (bl_lt B0.out) (by omega) (by omega)).trans B0.out)
 have hz1 := bl_lt C0.out
 have AA := hid (ha.weak (fun q hq _ => (show w.heap.size + 1 < q from Nat.lt_of_lt_of_le hz1 hq)))
 have AB := hid (hb.weak (fun q hq _ => (show w.heap.size + 1 < q from Nat.lt_of_lt_of_le hz1 hq)))
 have K1 := hid (K0.out.k2o k1 (Nat.le_succ _))
 clear r1 hc1 ha hb k1 R0 C0 B0 K0 E0 hz1
 by_cases hm : m = 0
 ·
  subst hm
  have HX2 : Hid ((if hdJ s j = s.size then ⟨PA.z, PA.z, false, 0, 1, hdJ s j⟩ else (⟨A, B, tkN s (skipN blankL s j) 33, ch s (hdJ s j), 0, hdJ s j⟩ : Hd)) = x) := HX1.out
  have R2 : Hid (Rr w1 P s ere j o) := R1.out
  obtain ⟨j1, hj1⟩ : ∃ j1, skipN blankL s j = j1 := ⟨_, rfl⟩
  have l1 := skipN_le blankL s j hjl
  rw [hj1] at l1
  have S1 : Hid (∀ w, Rr w P s ere j o → Calls Tryz.prog 120 #[.pointer (some ⟨P, 0, none⟩), .string ⟨#[32, 9]⟩] w fun e w' => e = .returned (.tuple #[]) ∧ Rr w' P s ere j1 o ∧ Ks P w w') := fun w h => by rw [← hj1]; exact skip_any ⟨#[32, 9]⟩ h hjl (by omega)
  obtain ⟨nt, hnt⟩ : ∃ nt, tkN s j1 33 = nt := ⟨_, rfl⟩
  obtain ⟨j2, hj2⟩ : ∃ j2, tkI s j1 33 = j2 := ⟨_, rfl⟩
  have l2 := tkI_le s j1 33 l1.2
  rw [hj2] at l2
  have T1 : Hid (∀ w, Rr w P s ere j1 o → Calls Tryz.prog 195 #[.pointer (some ⟨P, 0, none⟩), .int .u8 33] w fun e w' => e = .returned (.bool nt) ∧ Rr w' P s ere j2 o ∧ Ks P w w') := fun w h => by rw [← hnt, ← hj2]; exact tk_any 33 h l1.2 (by omega)
  obtain ⟨j3, hj3⟩ : ∃ j3, skipN blankL s j2 = j3 := ⟨_, rfl⟩
  have l3 := skipN_le blankL s j2 l2.2
  rw [hj3] at l3
  have S2 : Hid (∀ w, Rr w P s ere j2 o → Calls Tryz.prog 120 #[.pointer (some ⟨P, 0, none⟩), .string ⟨#[32, 9]⟩] w fun e w' => e = .returned (.tuple #[]) ∧ Rr w' P s ere j3 o ∧ Ks P w w') := fun w h => by rw [← hj3]; exact skip_any ⟨#[32, 9]⟩ h l2.2 (by omega)
  obtain ⟨c, hc⟩ : ∃ c, ch s j3 = c := ⟨_, rfl⟩
  have H0 : Hid (∀ w, Rr w P s ere j3 o → Calls Tryz.prog 161 #[.pointer (some ⟨P, 0, none⟩)] w fun e w' => e = .returned (.int .u8 (c : Int)) ∧ Kp w w') := fun w h => by rw [← hc]; exact here_any h l3.2
  have hh : hdJ s j = j3 := by unfold hdJ; rw [hj1, hj2, hj3]
  rw [hh, hj1, hnt, hc] at HX2
  clear hj1 hnt hj2 hj3 hc hh HX1 R1 l1 l2 l3
  go_wp2_with fail
  refine (S1.out _ R2.out).mono ?_
  rintro e w3 ⟨rfl, r1, k1⟩
  have R3 := hid (r1)
  have B3 := hid (bl_ks B1.out (by omega) k1)
  have C3 := hid (bl_ks C1.out (by omega) k1)
  have A3 := hid (AA.out.ks k1 (fun q hq _ => by omega))
  have AB3 := hid (AB.out.ks k1 (fun q hq _ => by omega))
  have K3 := hid (K1.out.trans k1)
  clear r1 k1 R2 B1 C1 AA AB K1 S1
  go_wp2_with fail
  refine (T1.out _ R3.out).mono ?_
  rintro e w4 ⟨rfl, r1, k1⟩
  have R4 := hid (r1)
  have B4 := hid (bl_ks B3.out (by omega) k1)
  have C4 := hid (bl_ks C3.out (by omega) k1)
  have A4 := hid (A3.out.ks k1 (fun q hq _ => by omega))
  have AB4 := hid (AB3.out.ks k1 (fun q hq _ => by omega))
  have K4 := hid (K3.out.trans k1)
  clear r1 k1 R3 B3 C3 A3 AB3 K3 T1
  go_upto_region 7 with (refine wpList_store_c_nt rfl rfl rfl nt rfl C4.out ?_; intro Wa x1 x2; have Waa := hid x1; have Wak := hid x2; clear x1 x2; simp only [Act.put])
  have C5 : Hid (Wa.heap[w.heap.size + 1]? = some (Cv.o (bareC a b nt 0))) := Waa.out
  have R5 := hid (R4.out.ks Wak.out hPC)
  have B5 := hid (bl_ks B4.out (by omega) Wak.out)
  have A5 := hid (A4.out.ks Wak.out (fun q hq _ => by omega))
  have AB5 := hid (AB4.out.ks Wak.out (fun q hq _ => by omega))
  have K5 := hid (K4.out.off Wak.out (Nat.le_succ _) hP)
  clear Waa Wak R4 B4 C4 A4 AB4 K4
  go_wp2_with fail
  refine (S2.out _ R5.out).mono ?_
  rintro e w6 ⟨rfl, r1, k1⟩
  have R6 := hid (r1)
  have B6 := hid (bl_ks B5.out (by omega) k1)
  have C6 := hid (bl_ks C5.out (by omega) k1)
  have A6 := hid (A5.out.ks k1 (fun q hq _ => by omega))
  have AB6 := hid (AB5.out.ks k1 (fun q hq _ => by omega))
  have K6 := hid (K5.out.trans k1)
  clear r1 k1 R5 B5 C5 A5 AB5 K5 S2
  go_wp2_with fail
  refine (over_any R6.out).mono ?_
  rintro e w7 ⟨rfl, k1⟩
  have R7 := hid (R6.out.kp k1)
  have B7 := hid (bl_kp B6.out k1)
  have C7 := hid (bl_kp C6.out k1)
  have A7 := hid (A6.out.kp k1)
  have AB7 := hid (AB6.out.kp k1)
  have K7 := hid (K6.out.kpt k1 hP)
  clear k1 R6 B6 C6 A6 AB6 K6
  by_cases he : j3 = s.size
  ·
   rw [decide_eq_true he]
   obtain rfl : (⟨PA.z, PA.z, false, 0, 1, j3⟩ : Hd) = x := by have := HX2.out; rw [if_pos he] at this; exact this
   clear HX2 he A7 AB7 C7
   go_wp2_with (refine wpList_store_cv rfl rfl rfl (bareC Av.z Av.z false 0) rfl B7.out (by rfl) ?_; intro Wz x1 x2; have Wza := hid x1; have Wzk := hid x2; clear x1 x2; simp only [Act.put])
   refine bodyPost_ret (v := .tuple #[Cv.v (bareC Av.z Av.z false 0), .int .i64 1]) (cv_ret2 rfl _ _ _ (bareC Av.z Av.z false 0) _ rfl rfl Wza.out) rfl ⟨Av.z, Av.z, rfl, AIs.zero _ _, AIs.zero _ _, R7.out.ks Wzk.out hP, (K7.out).off Wzk.out (Nat.le_refl _) hP⟩
  ·
   rw [decide_eq_false he]
   obtain rfl : (⟨A, B, nt, c, 0, j3⟩ : Hd) = x := by have := HX2.out; rw [if_neg he] at this; exact this
   clear HX2 he
   go_wp2_with fail
   refine (H0.out _ R7.out).mono ?_
   rintro e w8 ⟨rfl, k1⟩
   have R8 := hid (R7.out.kp k1)
   have B8 := hid (bl_kp B7.out k1)
   have C8 := hid (bl_kp C7.out k1)
   have A8 := hid (A7.out.kp k1)
   have AB8 := hid (AB7.out.kp k1)
   have K8 := hid (K7.out.kpt k1 hP)
   clear k1 R7 B7 C7 A7 AB7 K7 H0
   go_upto_region 11 with (refine wpList_store_c_op rfl rfl rfl c rfl C8.out ?_; intro Wb x1 x2; have Wba := hid x1; have Wbk := hid x2; clear x1 x2; simp only [Act.put])
   have C9 : Hid (Wb.heap[w.heap.size + 1]? = some (Cv.o (bareC a b nt c))) := Wba.out
   have R9 := hid (R8.out.ks Wbk.out hPC)
   have B9 := hid (bl_ks B8.out (by omega) Wbk.out)
   have A9 := hid (A8.out.ks Wbk.out (fun q hq _ => by omega))
   have AB9 := hid (AB8.out.ks Wbk.out (fun q hq _ => by omega))
   have K9 := hid (K8.out.off Wbk.out (Nat.le_succ _) hP)
   clear Wba Wbk R8 B8 C8 A8 AB8 K8
   go_wp2_with ((refine wpList_load_cv rfl rfl (bareC a b nt c) C9.out (by rfl) ?_; simp only [Act.put, List.setIfInBounds_toArray, List.set_cons_zero, List.set_cons_succ]); (refine wpList_store_cv rfl rfl rfl (bareC a b nt c) rfl B9.out (by rfl) ?_; intro Wz x1 x2; have Wza := hid x1; have Wzk := hid x2; clear x1 x2; simp only [Act.put]))
   refine bodyPost_ret (v := .tuple #[Cv.v (bareC a b nt c), .int .i64 0]) (cv_ret2 rfl _ _ _ (bareC a b nt c) _ rfl rfl Wza.out) rfl ⟨a, b, rfl, (A9.out.ks Wzk.out (fun q hq _ => by omega)).weak (fun q hq _ => by omega), (AB9.out.ks Wzk.out (fun q hq _ => by omega)).weak (fun q hq _ => by omega), R9.out.ks Wzk.out hP, (K9.out).off Wzk.out (Nat.le_refl _) hP⟩
 ·
  have gm : ((m : Int) != 0) = true := by simp; omega
  obtain rfl : (⟨PA.z, PA.z, false, 0, m, j⟩ : Hd) = x := by have := HX1.out; rw [if_neg hm] at this; exact this
  have R2 : Hid (Rr w1 P s ere j o) := R1.out
  clear HX1 hm AA AB C1 R1
  go_wp2_with (refine wpList_store_cv rfl rfl rfl (bareC Av.z Av.z false 0) rfl B1.out (by rfl) ?_; intro Wz x1 x2; have Wza := hid x1; have Wzk := hid x2; clear x1 x2; simp only [Act.put])
  refine bodyPost_ret (v := .tuple #[Cv.v (bareC Av.z Av.z false 0), .int .i64 _]) (cv_ret2 rfl _ _ _ (bareC Av.z Av.z false 0) _ rfl rfl Wza.out) rfl ⟨Av.z, Av.z, rfl, AIs.zero _ _, AIs.zero _ _, R2.out.ks Wzk.out hP, (K1.out).off Wzk.out (Nat.le_refl _) hP⟩
def linF (s : ByteArray) : Nat → List UInt8 → Nat → ByteArray × Bool × Nat
 | 0, _, i => (bs [], false, i)
 | f + 1, l, i => if decide (i < s.size) && !(ch s i == 10) then (if tkN s i 92 then (if i + 1 = s.size then (bs [], false, i + 1) else linF s f (l ++ [UInt8.ofNat (ch s (i + 1))]) (i + 2)) else linF s f (l ++ [UInt8.ofNat (ch s i)]) (i + 1)) else (bs l, true, i)
def pLines (s : ByteArray) (i : Nat) : ByteArray × Bool × Nat := if tkN s i 92 then if tkN s (i + 1) 10 then linF s (s.size + 1) [] (i + 2) else (bs [], false, i + 1) else (bs [], false, i)
theorem linF_le (s : ByteArray) : ∀ f l i, i ≤ s.size → i ≤ (linF s f l i).2.2 ∧ (linF s f l i).2.2 ≤ s.size ∧ (linF s f l i).1.size ≤ l.length + f
 | 0, l, i, hi => ⟨Nat.le_refl _, hi, Nat.zero_le _⟩
 | f + 1, l, i, hi => by
  unfold linF
  split
  ·
   rename_i hc
   have hlt : i < s.size := by simp at hc; exact hc.1
   split
   ·
    split
    ·
     exact ⟨Nat.le_succ _, hlt, Nat.zero_le _⟩
    ·
     rename_i hne
     have h2 := linF_le s f (l ++ [UInt8.ofNat (ch s (i + 1))]) (i + 2) (by omega)
     rw [List.length_append, List.length_singleton] at h2
     exact ⟨by omega, h2.2.1, by omega⟩
   ·
    have h2 := linF_le s f (l ++ [UInt8.ofNat (ch s i)]) (i + 1) hlt
    rw [List.length_append, List.length_singleton] at h2
    exact ⟨by omega, h2.2.1, by omega⟩
  ·
   exact ⟨Nat.le_refl _, hi, by show (bs l).size ≤ _; rw [bs_size]; omega⟩
theorem pLines_le (s : ByteArray) (i : Nat) (hi : i ≤ s.size) : i ≤ (pLines s i).2.2 ∧ (pLines s i).2.2 ≤ s.size ∧ (pLines s i).1.size ≤ s.size + 1 := by
 unfold pLines
 split
 ·
  rename_i h1
  split
  ·
   rename_i h2
   have h := linF_le s (s.size + 1) [] (i + 2) (tk_lt h2)
   rw [List.length_nil, Nat.zero_add] at h
   exact ⟨by omega, h.2.1, h.2.2⟩
  ·
   exact ⟨Nat.le_succ _, tk_lt h1, Nat.zero_le _⟩
 ·
  exact ⟨Nat.le_refl _, hi, Nat.zero_le _⟩
theorem linesr_any {w : World} {P : Nat} {s : ByteArray} {ere : Bool} {i o : Nat} (h : Rr w P s ere i o) (hi : i ≤ s.size) (hs : s.size ≤ 1000000) :
  Calls Tryz.prog 196 #[.pointer (some ⟨P, 0, none⟩)] w fun e w' => e = .returned (.tuple #[.string (pLines s i).1, .bool (pLines s i).2.1]) ∧ Rr w' P s ere (pLines s i).2.2 o ∧ Ks P w w' := by
 have R := hid h
 have hP : P < w.heap.size := h.lt
 clear h
 obtain ⟨x, hx⟩ : ∃ x, pLines s i = x := ⟨_, rfl⟩
 rw [hx]
 have HX := hid hx
 unfold pLines at HX
 clear hx
 obtain ⟨i0, hi0, hz0, hz1, hz2⟩ := info5
 go_enter Tryz.func196, Tryz.ntmps196
 obtain ⟨q, hq⟩ : ∃ q, tkN s i 92 = q := ⟨_, rfl⟩
 have htq : tkI s i 92 = if q then i + 1 else i := by unfold tkI; rw [hq]
 have hlq : q = true → i + 1 ≤ s.size := fun h => tk_lt (hq.trans h)
 have T1 := hid (fun w h => tk_any (w := w) (P := P) (s := s) (ere := ere) (o := o) (i := i) 92 h (by omega) hs)
 rw [hq, htq] at T1
 clear htq
 go_wp2_with fail
 refine (T1.out _ R.out).mono ?_
 rintro e w0 ⟨rfl, r1, k1⟩
 have R0 := hid (r1)
 have K0 := hid (k1)
 clear r1 k1 R  T1
 rw [hq] at HX
 clear hq
 cases q with
 | false =>
  obtain rfl : ((bs [], false, i) : ByteArray × Bool × Nat) = x := HX.out
  have R1 : Hid (Rr w0 P s ere i o) := R0.out
  go_wp2_with fail
  refine bodyPost_ret (results_tmp2 rfl _ _ _) rfl ⟨rfl, R1.out, K0.out⟩
 | true =>
  have HX1 : Hid ((if tkN s (i + 1) 10 then linF s (s.size + 1) [] (i + 2) else (bs [], false, i + 1)) = x) := HX.out
  have R1 : Hid (Rr w0 P s ere (i + 1) o) := R0.out
  have hi1 := hlq rfl
  clear HX R0 hlq
  obtain ⟨q, hq⟩ : ∃ q, tkN s (i + 1) 10 = q := ⟨_, rfl⟩
  have htq : tkI s (i + 1) 10 = if q then (i + 1) + 1 else (i + 1) := by unfold tkI; rw [hq]
  have hlq : q = true → (i + 1) + 1 ≤ s.size := fun h => tk_lt (hq.trans h)
  have T1 := hid (fun w h => tk_any (w := w) (P := P) (s := s) (ere := ere) (o := o) (i := (i + 1)) 10 h (by omega) hs)
  rw [hq, htq] at T1
  clear htq
  go_wp2_with fail
  refine (T1.out _ R1.out).mono ?_
  rintro e w2 ⟨rfl, r1, k1⟩
  have R2 := hid (r1)
  have K2 := hid (K0.out.trans k1)
  clear r1 k1 R1 K0 T1
  rw [hq] at HX1
  clear hq
  cases q with
  | false =>
   obtain rfl : ((bs [], false, i + 1) : ByteArray × Bool × Nat) = x := HX1.out
   have R3 : Hid (Rr w2 P s ere (i + 1) o) := R2.out
   go_wp2_with fail
   refine bodyPost_ret (results_tmp2 rfl _ _ _) rfl ⟨rfl, R3.out, K2.out⟩
  | true =>
   have HX2 : Hid (linF s (s.size + 1) [] (i + 2) = x) := HX1.out
   have R3 : Hid (Rr w2 P s ere (i + 2) o) := R2.out
   have hi2 : i + 2 ≤ s.size := hlq rfl
   clear HX1 R2 hlq
   go_wp2_with fail
   go_loopg [4] (s.size + 1) (fun k v wr => ∃ (l : List UInt8) (j : Nat), j ≤ s.size ∧ s.size < k + j ∧ l.length ≤ j ∧ linF s k l j = x ∧ Ob w.heap.size l v wr ∧ Rr wr P s ere j o ∧ Ks P w wr)
   case atStart => exact ⟨[], i + 2, hi2, by omega, by simp, HX2.out, Ob.nil _ _, R3.out, K2.out⟩
   case round =>
    obtain ⟨l, j, hj, hk, hl, hp, hO, hR, hK⟩ := hrel
    obtain ⟨k, rfl⟩ : ∃ k, gk = k + 1 := ⟨gk - 1, by omega⟩
    have R1 := hid hR
    have K1 := hid hK
    have O1 := hid hO
    have HP := hid hp
    clear hR hK hp HX2 hO R3 K2
    obtain ⟨c, hc⟩ : ∃ c, ch s j = c := ⟨_, rfl⟩
    have HC := hid hc
    clear hc
    have H0 : Hid (∀ w, Rr w P s ere j o → Calls Tryz.prog 161 #[.pointer (some ⟨P, 0, none⟩)] w fun e w' => e = .returned (.int .u8 (c : Int)) ∧ Kp w w') := fun w h => by rw [← HC.out]; exact here_any h hj
    obtain ⟨u, hu⟩ : ∃ u, (decide (j < s.size) && !(c == 10)) = u := ⟨_, rfl⟩
    have HU := hid hu
    clear hu
    go_upto_region 4 with fail
    go_cut [20] (fun v wc => v = .bool u ∧ Kp wr wc)
    case first =>
     by_cases he : j = s.size
     ·
      obtain rfl : false = u := by have := HU.out; rw [decide_eq_false (by omega)] at this; exact this
      go_wp2_with fail
      refine (over_any R1.out).mono ?_
      rintro e w2 ⟨rfl, k1⟩
      have K2 := hid (k1)
      clear k1
      rw [decide_eq_true he]
      go_wp2_with fail
      go_meet
      case rel => exact ⟨rfl, K2.out⟩
     ·
      obtain rfl : (!(c == 10)) = u := by have := HU.out; rw [decide_eq_true (by omega), Bool.true_and] at this; exact this
      go_wp2_with fail
      refine (over_any R1.out).mono ?_
      rintro e w2 ⟨rfl, k1⟩
      have K2 := hid (k1)
      have R2 := hid (R1.out.kp k1)
      clear k1
      rw [decide_eq_false he]
      go_wp2_with fail
      refine (H0.out _ R2.out).mono ?_
      rintro e w3 ⟨rfl, k1⟩
      have K3 := hid (K2.out.trans k1)
      clear k1
      by_cases h47 : c = 10
      ·
       have g47 : ((c : Int) != 10) = false := by simp; omega
       go_wp2_with fail
       go_meet
       case rel => exact ⟨by simp [h47], K3.out⟩
      ·
       have g47 : ((c : Int) != 10) = true := by simp; omega
       go_wp2_with fail
       go_meet
       case rel => exact ⟨by simp [h47], K3.out⟩
    case rest =>
     obtain ⟨rfl, k1⟩ := hcut
     rename World => w4
     have R4 := hid (R1.out.kp k1)
     have K4 := hid (K1.out.kpt k1 hP)
     have O4 := hid (O1.out.kp k1)
     clear k1 R1 K1 O1 H0
     cases u with
     | true =>
      have hlt : j < s.size := by have := HU.out; simp at this; exact this.1
      have EX0 : Hid ((if tkN s j 92 then (if j + 1 = s.size then (bs [], false, j + 1) else linF s k (l ++ [UInt8.ofNat (ch s (j + 1))]) (j + 2)) else linF s k (l ++ [UInt8.ofNat (ch s j)]) (j + 1)) = x) := by
       show _ = _
       rw [← HP.out]
       conv => { rhs; unfold linF }
       rw [if_pos (show (decide (j < s.size) && !(ch s j == 10)) = true by rw [HC.out]; exact HU.out)]
      clear HP HU HC
      obtain ⟨q, hq⟩ : ∃ q, tkN s j 92 = q := ⟨_, rfl⟩
      have htq : tkI s j 92 = if q then j + 1 else j := by unfold tkI; rw [hq]
      have hlq : q = true → j + 1 ≤ s.size := fun h => tk_lt (hq.trans h)
      have T1 := hid (fun w h => tk_any (w := w) (P := P) (s := s) (ere := ere) (o := o) (i := j) 92 h (by omega) hs)
      rw [hq, htq] at T1
      clear htq
      go_wp2_with fail
      refine (T1.out _ R4.out).mono ?_
      rintro e w5 ⟨rfl, r1, k1⟩
      have R5 := hid (r1)
      have K5 := hid (K4.out.trans k1)
      have O5 := hid (O4.out.ks k1 hP)
      clear r1 k1 R4 K4 O4 T1
      rw [hq] at EX0
      clear hq hlq
      cases q with
      | false =>
       have EX : Hid (linF s k (l ++ [UInt8.ofNat (ch s j)]) (j + 1) = x) := EX0.out
       have R6 : Hid (Rr w5 P s ere j o) := R5.out
       have gi : IntKind.i64.wrap ((j : Int) + 1) = (j : Int) + 1 := by rw [IntKind.wrap_i64]; omega
       clear EX0 R5
       obtain ⟨c2, hc2⟩ : ∃ c2, ch s (j) = c2 := ⟨_, rfl⟩
       have hc256 : c2 < 256 := by rw [← hc2]; exact ch_lt _ _
       have H5 : Hid (∀ w, Rr w P s ere (j) o → Calls Tryz.prog 161 #[.pointer (some ⟨P, 0, none⟩)] w fun e w' => e = .returned (.int .u8 (c2 : Int)) ∧ Kp w w') := fun w h => by rw [← hc2]; exact here_any h (by omega)
       rw [hc2] at EX
       clear hc2
       go_wp2_with fail
       refine (H5.out _ R6.out).mono ?_
       rintro e w7 ⟨rfl, k1⟩
       have R7 := hid (R6.out.kp k1)
       have K7 := hid (K5.out.kpt k1 hP)
       have O7 := hid (O5.out.kp k1)
       clear k1 R6 K5 O5 H5
       have hszA := K7.out.size
       go_wp2_with (at_builtin; refine wpList_append_own _ rfl _ _ 59 rfl w.heap.size 5 i0 (.int .u8 0) 1 1 Tryz.underlying59 hi0 hz0 hz1 hz2 rfl (by decide) _ _ _ rfl (O7.out.own.alloc _) ⟨w7.heap.size, 0, none⟩ 1 1 [.int .u8 (c2 : Int)] rfl rfl ?c1 ?c2 ?c3 ?c4 ?c5 ?_)
       case c1 =>
        intro j u hj
        match j, hj with
        | 0, hj => simp at hj; subst hj; simp [Addr.add]
       case c2 => intro u hu; simp at hu; subst hu; rfl
       case c3 => unfold maxLen; omega
       case c4 => omega
       case c5 => simp; omega
       intro v2 W2 hown hgrow _
       have hlt2 : ∀ k, Value.ownBlock _ = some k → w.heap.size ≤ k ∧ k ≤ w7.heap.size := fun k hk => ⟨(O7.out.own.lt k hk).1, Nat.le_of_lt (O7.out.own.lt k hk).2⟩
       have O8 : Hid (Ob w.heap.size (l ++ [UInt8.ofNat c2]) v2 W2) := ⟨by rw [bytes_push _ _ (by omega), List.length_append, List.length_singleton]; exact hown⟩
       have R8 := hid ((R7.out.kp ((Kp.refl _).alloc _)).grown hgrow (fun k hk => ⟨Nat.lt_of_lt_of_le hP (hlt2 k hk).1, Nat.le_trans (hlt2 k hk).2 (by simp)⟩))
       have K8 := hid ((K7.out.kpt ((Kp.refl _).alloc _) hP).grow hgrow (fun k hk => ⟨(hlt2 k hk).1, Nat.le_trans (hlt2 k hk).2 (by simp)⟩) (Nat.le_refl _) hP)
       clear hown hgrow hlt2 hszA
       have p2 := R8.out.cells.2.2.1
       have fp2 := bl_frozen R8.out.b 2
       go_wp2_with fail
       go_roundg k
       case measure => omega
       case rel => exact ⟨l ++ [UInt8.ofNat c2], j + 1, by omega, by omega, by rw [List.length_append, List.length_singleton]; omega, EX.out, (O8.out.ks ((Ks.refl P _).set 2 _) hP), R8.out.at (j + 1), K8.out.set 2 _⟩
      | true =>
       have EX1 : Hid ((if j + 1 = s.size then (bs [], false, j + 1) else linF s k (l ++ [UInt8.ofNat (ch s (j + 1))]) (j + 2)) = x) := EX0.out
       have R6 : Hid (Rr w5 P s ere (j + 1) o) := R5.out
       clear EX0 R5
       go_wp2_with fail
       refine (over_any R6.out).mono ?_
       rintro e w7 ⟨rfl, k1⟩
       have R7 := hid (R6.out.kp k1)
       have K7 := hid (K5.out.kpt k1 hP)
       have O7 := hid (O5.out.kp k1)
       clear k1 R6 K5 O5
       by_cases he : j + 1 = s.size
       ·
        rw [decide_eq_true he]
        obtain rfl : ((bs [], false, j + 1) : ByteArray × Bool × Nat) = x := by have := EX1.out; rw [if_pos he] at this; exact this
        clear he
        go_wp2_with fail
        refine bodyPost_ret (results_tmp2 rfl _ _ _) rfl ⟨rfl, R7.out, K7.out⟩
       ·
        rw [decide_eq_false he]
        have EX : Hid (linF s k (l ++ [UInt8.ofNat (ch s (j + 1))]) (j + 2) = x) := by have := EX1.out; rw [if_neg he] at this; exact this
        have gi : IntKind.i64.wrap (((j + 1 : Nat) : Int) + 1) = (((j + 1 + 1 : Nat)) : Int) := by rw [IntKind.wrap_i64]; omega
        clear EX1
        obtain ⟨c2, hc2⟩ : ∃ c2, ch s (j + 1) = c2 := ⟨_, rfl⟩
        have hc256 : c2 < 256 := by rw [← hc2]; exact ch_lt _ _
        have H5 : Hid (∀ w, Rr w P s ere (j + 1) o → Calls Tryz.prog 161 #[.pointer (some ⟨P, 0, none⟩)] w fun e w' => e = .returned (.int .u8 (c2 : Int)) ∧ Kp w w') := fun w h => by rw [← hc2]; exact here_any h (by omega)
        rw [hc2] at EX
        clear hc2
        go_wp2_with fail
        refine (H5.out _ R7.out).mono ?_
        rintro e w8 ⟨rfl, k1⟩
        have R8 := hid (R7.out.kp k1)
        have K8 := hid (K7.out.kpt k1 hP)
        have O8 := hid (O7.out.kp k1)
        clear k1 R7 K7 O7 H5
        have hszA := K8.out.size
        go_wp2_with (at_builtin; refine wpList_append_own _ rfl _ _ 59 rfl w.heap.size 5 i0 (.int .u8 0) 1 1 Tryz.underlying59 hi0 hz0 hz1 hz2 rfl (by decide) _ _ _ rfl (O8.out.own.alloc _) ⟨w8.heap.size, 0, none⟩ 1 1 [.int .u8 (c2 : Int)] rfl rfl ?c1 ?c2 ?c3 ?c4 ?c5 ?_)
        case c1 =>
         intro j u hj
         match j, hj with
         | 0, hj => simp at hj; subst hj; simp [Addr.add]
        case c2 => intro u hu; simp at hu; subst hu; rfl
        case c3 => unfold maxLen; omega
        case c4 => omega
        case c5 => simp; omega
        intro v2 W2 hown hgrow _
        have hlt2 : ∀ k, Value.ownBlock _ = some k → w.heap.size ≤ k ∧ k ≤ w8.heap.size := fun k hk => ⟨(O8.out.own.lt k hk).1, Nat.le_of_lt (O8.out.own.lt k hk).2⟩
        have O9 : Hid (Ob w.heap.size (l ++ [UInt8.ofNat c2]) v2 W2) := ⟨by rw [bytes_push _ _ (by omega), List.length_append, List.length_singleton]; exact hown⟩
        have R9 := hid ((R8.out.kp ((Kp.refl _).alloc _)).grown hgrow (fun k hk => ⟨Nat.lt_of_lt_of_le hP (hlt2 k hk).1, Nat.le_trans (hlt2 k hk).2 (by simp)⟩))
        have K9 := hid ((K8.out.kpt ((Kp.refl _).alloc _) hP).grow hgrow (fun k hk => ⟨(hlt2 k hk).1, Nat.le_trans (hlt2 k hk).2 (by simp)⟩) (Nat.le_refl _) hP)
        clear hown hgrow hlt2 hszA
        have p2 := R9.out.cells.2.2.1
        have fp2 := bl_frozen R9.out.b 2
        go_wp2_with fail
        go_roundg k
        case measure => omega
        case rel => exact ⟨l ++ [UInt8.ofNat c2], j + 1 + 1, by omega, by omega, by rw [List.length_append, List.length_singleton]; omega, EX.out, (O9.out.ks ((Ks.refl P _).set 2 _) hP), R9.out.at (j + 1 + 1), K9.out.set 2 _⟩
     | false =>
      have EX : Hid ((bs l, true, j) = x) := by
       show _ = _
       rw [← HP.out]
       conv => { rhs; unfold linF }
       rw [if_neg (show ¬ (decide (j < s.size) && !(ch s j == 10)) = true by rw [HC.out, HU.out]; decide)]
      obtain rfl := EX.out
      have cf := O4.out.str
      clear EX HP HC HU
      go_wp2_with fail
      refine bodyPost_ret (results_tmp2 rfl _ _ _) rfl ⟨rfl, R4.out, K4.out⟩
end Go.Proofs.YtigdmebijbaofaaGreatDoor
