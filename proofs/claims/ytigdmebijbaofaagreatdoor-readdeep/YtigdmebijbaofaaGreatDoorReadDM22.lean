/-
  Texts of this claim: CmC.
-/
import Derived.Test.YtigdmebijbaofaaGreatDoorReadDM4
import Derived.Test.YtigdmebijbaofaaGreatDoorReadDM21
/-! ### CmC -/
namespace Go.Proofs.YtigdmebijbaofaaGreatDoor
set_option maxHeartbeats 2000000
set_option maxRecDepth 100000
open Go.RowKit
theorem addr_any (a : Av) (A : Rx) (ere : Bool) (hO : RxOk A) (w : World) (ha : a.r.is w A) (hT : Tb w) : Calls Tryz.prog 31 #[a.v, .bool ere] w fun e w' => e = .returned (.string (bs (adT a.k a.ln A ere))) ∧ Kp w w' := by
 obtain ⟨k, ln, r⟩ := a
 obtain ⟨E, hE⟩ : ∃ E, adT k ln A ere = E := ⟨_, rfl⟩
 show Calls Tryz.prog 31 #[Av.v ⟨k, ln, r⟩, .bool ere] w fun e w' => e = .returned (.string (bs (adT k ln A ere))) ∧ Kp w w'
 rw [hE]
 obtain ⟨q, hq⟩ : ∃ q, adR k ln A ere = q := ⟨_, rfl⟩
 obtain ⟨S, hS⟩ : ∃ S, bs (printT ere A) = S := ⟨_, rfl⟩
 have hz : S.size ≤ 1000000 := by rw [← hS]; exact print_size ere A hO
 have AR : Hid (∀ w, r.is w A → Calls Tryz.prog 75 #[Av.v ⟨k, ln, r⟩, .bool ere] w fun e w' => e = .returned (.bool q) ∧ Kp w w') := fun w h => by rw [← hq]; exact addrRight_any ⟨k, ln, r⟩ A ere hO w h
 have PR := hid (talk_print A ere hO S hS)
 have HQ := hid hq
 have HS := hid hS
 unfold adT at hE
 rw [hq] at hE
 have HE := hid hE
 have HA : Hid (r.is w A) := ha
 have HT := hid hT
 clear hE hq ha hS hT
 go_enter Tryz.func31, Tryz.ntmps31
 go_upto_region 1 with fail
 refine opq (fun W0 => W0.heap[w.heap.size]? = some (Av.o ⟨k, ln, r⟩) ∧ Kp w W0 ∧ r.is W0 A ∧ Tb W0) ⟨by (first | exact last_at _ _ _ (by simp) | (refine bl_alloc ?_ _; first | exact last_at _ _ _ (by simp) | (refine bl_alloc ?_ _; first | exact last_at _ _ _ (by simp) | (refine bl_alloc ?_ _; exact last_at _ _ _ (by simp))))), by exact kpt, by exact HA.out.kp kpt, by exact HT.out.kp kpt⟩ ?_
 rintro W0 ⟨xA0, xK0, xI0, xT0⟩
 have A0 := hidT xA0
 have K0 := hidT xK0
 have I0 := hidT xI0
 have T0 := hidT xT0
 clear xA0 xK0 xI0 xT0
 obtain ⟨a0, a1, a2, a3, a4, a5, a6, a7, a8, a9, a10⟩ := cellsAv A0.out
 go_wp2_with fail
 clear a0 a1 a2 a3 a4 a5 a6 a7 a8 a9 a10
 refine (AR.out _ I0.out).mono ?_
 rintro e W1 ⟨rfl, k1⟩
 have A1 := hid (bl_kp A0.out k1)
 have I1 := hid (I0.out.kp' k1)
 have T1 := hid (T0.out.kp k1)
 have K1 := hid (K0.out.trans k1)
 clear k1
 cases q with
 | false =>
  have E2 : Hid (E = []) := by show _ = _; rw [← HE.out]; rfl
  go_wp2_with fail
  go_ret
  exact ⟨by rw [E2.out]; rfl, K1.out⟩
 | true =>
  by_cases h1 : k = 1
  ·
   subst h1
   have hln : 1 ≤ ln ∧ ln ≤ 9999 := by have := HQ.out; unfold adR at this; simp at this; exact this.1
   obtain ⟨m, rfl⟩ : ∃ m : Nat, ln = m := ⟨ln.toNat, by omega⟩
   have E2 : Hid (E = dec m) := by show _ = _; rw [← HE.out]; rfl
   obtain ⟨a0, a1, a2, a3, a4, a5, a6, a7, a8, a9, a10⟩ := cellsAv A1.out
   go_wp2_with fail
   clear a0 a1 a2 a3 a4 a5 a6 a7 a8 a9 a10
   refine (itoa_all m (by omega) _ T1.out).mono ?_
   rintro e W2 ⟨rfl, k2⟩
   have K2 := hid (K1.out.trans k2)
   clear k2
   go_wp2_with fail
   go_ret
   exact ⟨by rw [E2.out]; rfl, K2.out⟩
  have n1 : (k == 1) = false := by simp [h1]
  by_cases h2 : k = 2
  ·
   subst h2
   have E2 : Hid (E = [36]) := by show _ = _; rw [← HE.out]; rfl
   obtain ⟨a0, a1, a2, a3, a4, a5, a6, a7, a8, a9, a10⟩ := cellsAv A1.out
   go_wp2_with fail
   go_ret
   exact ⟨by rw [E2.out]; rfl, K1.out⟩
  have n2 : (k == 2) = false := by simp [h2]
  by_cases h3 : k = 3
  ·
   subst h3
   have E2 : Hid (bs E = bs [47] ++ S ++ bs [47]) := by
    show _ = _
    rw [← HE.out, if_pos rfl, if_neg (by decide), if_neg (by decide), if_pos rfl, ← HS.out, bs_app, bs_app]
   have s1 : (bs [47]).size = 1 := rfl
   obtain ⟨a0, a1, a2, a3, a4, a5, a6, a7, a8, a9, a10⟩ := cellsAv A1.out
   go_wp2_with fail
   clear a0 a1 a2 a3 a4 a5 a6 a7 a8 a9 a10
   refine (PR.out _ I1.out).mono ?_
   rintro e W2 ⟨rfl, k2⟩
   have K2 := hid (K1.out.trans k2)
   clear k2
   go_wp2_with fail
   go_ret
   exact ⟨by rw [E2.out]; rfl, K2.out⟩
  have n3 : (k == 3) = false := by simp [h3]
  have E2 : Hid (E = []) := by show _ = _; rw [← HE.out, if_pos rfl, if_neg h1, if_neg h2, if_neg h3]
  obtain ⟨a0, a1, a2, a3, a4, a5, a6, a7, a8, a9, a10⟩ := cellsAv A1.out
  go_wp2_with fail
  go_ret
  exact ⟨by rw [E2.out]; rfl, K1.out⟩
set_option maxHeartbeats 20000000 in
theorem cmdSame_any (c d : Cv) (A B R A' B' R' : Rx) (P P' : List Pc) (hO : COk c A B R P) (w : World) (hc : CIs w c A B R P) (hd : CIs w d A' B' R' P') : Calls Tryz.prog 24 #[c.v, d.v] w fun e w' => e = .returned (.bool (sameC c d A B R A' B' R' P P')) ∧ Kp w w' := by
 obtain ⟨E, hE⟩ : ∃ E, sameC c d A B R A' B' R' P P' = E := ⟨_, rfl⟩
 rw [hE]
 obtain ⟨e1, h1⟩ : ∃ q, decide (c.op = d.op) = q := ⟨_, rfl⟩
 obtain ⟨e2, h2⟩ : ∃ q, (c.nt == d.nt) = q := ⟨_, rfl⟩
 obtain ⟨e3, h3⟩ : ∃ q, (c.tx.data.toList == d.tx.data.toList) = q := ⟨_, rfl⟩
 obtain ⟨e4, h4⟩ : ∃ q, (c.y.data.toList == d.y.data.toList) = q := ⟨_, rfl⟩
 obtain ⟨e5, h5⟩ : ∃ q, (c.z.data.toList == d.z.data.toList) = q := ⟨_, rfl⟩
 obtain ⟨e6, h6⟩ : ∃ q, (c.g == d.g) = q := ⟨_, rfl⟩
 obtain ⟨e7, h7⟩ : ∃ q, (c.s == d.s) = q := ⟨_, rfl⟩
 obtain ⟨e8, h8⟩ : ∃ q, decide (c.nth = d.nth) = q := ⟨_, rfl⟩
 obtain ⟨e9, h9⟩ : ∃ q, adEq c.a d.a A A' = q := ⟨_, rfl⟩
 obtain ⟨e10, h10⟩ : ∃ q, adEq c.b d.b B B' = q := ⟨_, rfl⟩
 obtain ⟨e11, h11⟩ : ∃ q, sameR R R' = q := ⟨_, rfl⟩
 obtain ⟨e12, h12⟩ : ∃ q, pcsEq P P' = q := ⟨_, rfl⟩
 have HE : Hid ((e1 && e2 && e3 && e4 && e5 && e6 && e7 && e8 && e9 && e10 && e11 && e12) = E) := by show _ = _; rw [← hE, ← h1, ← h2, ← h3, ← h4, ← h5, ← h6, ← h7, ← h8, ← h9, ← h10, ← h11, ← h12]; rfl
 have g1 : Hid (((c.op : Int) == (d.op : Int)) = e1) := by show _ = _; rw [← h1]; by_cases h : c.op = d.op; (simp [h]); (rw [decide_eq_false h, beq_eq_false_iff_ne]; omega)
 have g2 : Hid ((c.nt == d.nt) = e2) := h2
 have g3 : Hid ((c.tx.toList == d.tx.toList) = e3) := (str_eq _ _).trans h3
 have g4 : Hid ((c.y.toList == d.y.toList) = e4) := (str_eq _ _).trans h4
 have g5 : Hid ((c.z.toList == d.z.toList) = e5) := (str_eq _ _).trans h5
 have g6 : Hid ((c.g == d.g) = e6) := h6
 have g7 : Hid ((c.s == d.s) = e7) := h7
 have g8 : Hid ((c.nth == d.nth) = e8) := by show _ = _; rw [← h8]; by_cases h : c.nth = d.nth <;> simp [h]
 have C9 : Hid (∀ w, c.a.r.is w A → d.a.r.is w A' → Calls Tryz.prog 57 #[c.a.v, d.a.v] w fun e w' => e = .returned (.bool e9) ∧ Kp w w') := fun w x y => by rw [← h9]; exact sameAddr_any c.a d.a A A' hO.a w x y
 have C10 : Hid (∀ w, c.b.r.is w B → d.b.r.is w B' → Calls Tryz.prog 57 #[c.b.v, d.b.v] w fun e w' => e = .returned (.bool e10) ∧ Kp w w') := fun w x y => by rw [← h10]; exact sameAddr_any c.b d.b B B' hO.b w x y
 have C11 : Hid (∀ w, c.r.is w R → d.r.is w R' → Calls Tryz.prog 58 #[c.r.v, d.r.v] w fun e w' => e = .returned (.bool e11) ∧ Kp w w') := fun w x y => talk_same R R' e11 hO.r h11 w x y
 have C12 : Hid (∀ w, PcAt w P c.pa c.pl c.pc → PcAt w P' d.pa d.pl d.pc → Calls Tryz.prog 59 #[.slice c.pa c.pl c.pc, .slice d.pa d.pl d.pc] w fun e w' => e = .returned (.bool e12) ∧ Kp w w') := fun w x y => by rw [← h12]; exact pcsEqual_any P P' _ _ _ _ _ _ w x y hO.p
 have HC := hid hc
 have HD := hid hd
 clear hE h1 h2 h3 h4 h5 h6 h7 h8 h9 h10 h11 h12 hc hd
 go_enter Tryz.func24, Tryz.ntmps24
 go_upto_region 1 with fail
 refine opq (fun W0 => W0.heap[w.heap.size]? = some c.o ∧ W0.heap[w.heap.size + 1]? = some d.o ∧ Kp w W0 ∧ CIs W0 c A B R P ∧ CIs W0 d A' B' R' P') ⟨by (first | exact last_at _ _ _ (by simp) | (refine bl_alloc ?_ _; first | exact last_at _ _ _ (by simp) | (refine bl_alloc ?_ _; first | exact last_at _ _ _ (by simp) | (refine bl_alloc ?_ _; exact last_at _ _ _ (by simp))))), by (first | exact last_at _ _ _ (by simp) | (refine bl_alloc ?_ _; first | exact last_at _ _ _ (by simp) | (refine bl_alloc ?_ _; first | exact last_at _ _ _ (by simp) | (refine bl_alloc ?_ _; exact last_at _ _ _ (by simp))))), by exact kpt, by exact HC.out.kp kpt, by exact HD.out.kp kpt⟩ ?_
 rintro W0 ⟨xA0, xB0, xK0, xI0, xJ0⟩
 have A0 := hidT xA0
 have B0 := hidT xB0
 have K0 := hidT xK0
 have I0 := hidT xI0
 have J0 := hidT xJ0
 clear xA0 xB0 xK0 xI0 xJ0
 clear HC HD
 have a23 := bl_cell A0.out 23 (.int .u8 (c.op : Int)) rfl
 have a22 := bl_cell A0.out 22 (.bool c.nt) rfl
 have a24 := bl_cell A0.out 24 (.string c.tx) rfl
 have a38 := bl_cell A0.out 38 (.string c.y) rfl
 have a39 := bl_cell A0.out 39 (.string c.z) rfl
 have a35 := bl_cell A0.out 35 (.bool c.g) rfl
 have a36 := bl_cell A0.out 36 (.bool c.s) rfl
 have a37 := bl_cell A0.out 37 (.int .i64 c.nth) rfl
 have b23 := bl_cell B0.out 23 (.int .u8 (d.op : Int)) rfl
 have b22 := bl_cell B0.out 22 (.bool d.nt) rfl
 have b24 := bl_cell B0.out 24 (.string d.tx) rfl
 have b38 := bl_cell B0.out 38 (.string d.y) rfl
 have b39 := bl_cell B0.out 39 (.string d.z) rfl
 have b35 := bl_cell B0.out 35 (.bool d.g) rfl
 have b36 := bl_cell B0.out 36 (.bool d.s) rfl
 have b37 := bl_cell B0.out 37 (.int .i64 d.nth) rfl
 have k1 := g1.out
 cases e1
 ·
  have E2 : Hid (E = false) := by show _ = _; rw [← HE.out]; simp only [Bool.false_and]
  go_wp2_with fail
  go_ret
  exact ⟨by rw [E2.out]; rfl, K0.out⟩
 have k2 := g2.out
 cases e2
 ·
  have E2 : Hid (E = false) := by show _ = _; rw [← HE.out]; simp only [Bool.and_false, Bool.false_and]
  go_wp2_with fail
  go_ret
  exact ⟨by rw [E2.out]; rfl, K0.out⟩
 have k3 := g3.out
 cases e3
 ·
  have E2 : Hid (E = false) := by show _ = _; rw [← HE.out]; simp only [Bool.and_false, Bool.false_and]
  go_wp2_with fail
  go_ret
  exact ⟨by rw [E2.out]; rfl, K0.out⟩
 have k4 := g4.out
 cases e4
 ·
  have E2 : Hid (E = false) := by show _ = _; rw [← HE.out]; simp only [Bool.and_false, Bool.false_and]
  go_wp2_with fail
  go_ret
  exact ⟨by rw [E2.out]; rfl, K0.out⟩
 have k5 := g5.out
 cases e5
 ·
  have E2 : Hid (E = false) := by show _ = _; rw [← HE.out]; simp only [Bool.and_false, Bool.false_and]
  go_wp2_with fail
  go_ret
  exact ⟨by rw [E2.out]; rfl, K0.out⟩
 have k6 := g6.out
 cases e6
 ·
  have E2 : Hid (E = false) := by show _ = _; rw [← HE.out]; simp only [Bool.and_false, Bool.false_and]
  go_wp2_with fail
  go_ret
  exact ⟨by rw [E2.out]; rfl, K0.out⟩
 have k7 := g7.out
 cases e7
 ·
  have E2 : Hid (E = false) := by show _ = _; rw [← HE.out]; simp only [Bool.and_false, Bool.false_and]
  go_wp2_with fail
  go_ret
  exact ⟨by rw [E2.out]; rfl, K0.out⟩
 have k8 := g8.out
 cases e8
 ·
  have E2 : Hid (E = false) := by show _ = _; rw [← HE.out]; simp only [Bool.and_false, Bool.false_and]
  go_wp2_with fail
  go_ret
  exact ⟨by rw [E2.out]; rfl, K0.out⟩
 have a0 := bl_cell A0.out 0 (.int .i64 c.a.k) rfl
 have a1 := bl_cell A0.out 1 (.int .i64 c.a.ln) rfl
 have a2 := bl_cell A0.out 2 (.int .i64 c.a.r.k) rfl
 have a3 := bl_cell A0.out 3 (.int .i64 c.a.r.mn) rfl
 have a4 := bl_cell A0.out 4 (.int .i64 c.a.r.mx) rfl
 have a5 := bl_cell A0.out 5 (.int .i64 c.a.r.m) rfl
 have a6 := bl_cell A0.out 6 (.int .u64 (c.a.r.t.a : Int)) rfl
 have a7 := bl_cell A0.out 7 (.int .u64 (c.a.r.t.b : Int)) rfl
 have a8 := bl_cell A0.out 8 (.int .u64 (c.a.r.t.c : Int)) rfl
 have a9 := bl_cell A0.out 9 (.int .u64 (c.a.r.t.d : Int)) rfl
 have a10 := bl_cell A0.out 10 (.slice c.a.r.ad c.a.r.l c.a.r.c) rfl
 have a11 := bl_cell A0.out 11 (.int .i64 c.b.k) rfl
 have a12 := bl_cell A0.out 12 (.int .i64 c.b.ln) rfl
 have a13 := bl_cell A0.out 13 (.int .i64 c.b.r.k) rfl
 have a14 := bl_cell A0.out 14 (.int .i64 c.b.r.mn) rfl
 have a15 := bl_cell A0.out 15 (.int .i64 c.b.r.mx) rfl
 have a16 := bl_cell A0.out 16 (.int .i64 c.b.r.m) rfl
 have a17 := bl_cell A0.out 17 (.int .u64 (c.b.r.t.a : Int)) rfl
 have a18 := bl_cell A0.out 18 (.int .u64 (c.b.r.t.b : Int)) rfl
 have a19 := bl_cell A0.out 19 (.int .u64 (c.b.r.t.c : Int)) rfl
 have a20 := bl_cell A0.out 20 (.int .u64 (c.b.r.t.d : Int)) rfl
 have a21 := bl_cell A0.out 21 (.slice c.b.r.ad c.b.r.l c.b.r.c) rfl
 have a25 := bl_cell A0.out 25 (.int .i64 c.r.k) rfl
 have a26 := bl_cell A0.out 26 (.int .i64 c.r.mn) rfl
 have a27 := bl_cell A0.out 27 (.int .i64 c.r.mx) rfl
 have a28 := bl_cell A0.out 28 (.int .i64 c.r.m) rfl
 have a29 := bl_cell A0.out 29 (.int .u64 (c.r.t.a : Int)) rfl
 have a30 := bl_cell A0.out 30 (.int .u64 (c.r.t.b : Int)) rfl
 have a31 := bl_cell A0.out 31 (.int .u64 (c.r.t.c : Int)) rfl
 have a32 := bl_cell A0.out 32 (.int .u64 (c.r.t.d : Int)) rfl
 have a33 := bl_cell A0.out 33 (.slice c.r.ad c.r.l c.r.c) rfl
 have a34 := bl_cell A0.out 34 (.slice c.pa c.pl c.pc) rfl
 have b0 := bl_cell B0.out 0 (.int .i64 d.a.k) rfl
 have b1 := bl_cell B0.out 1 (.int .i64 d.a.ln) rfl
 have b2 := bl_cell B0.out 2 (.int .i64 d.a.r.k) rfl
 have b3 := bl_cell B0.out 3 (.int .i64 d.a.r.mn) rfl
 have b4 := bl_cell B0.out 4 (.int .i64 d.a.r.mx) rfl
 have b5 := bl_cell B0.out 5 (.int .i64 d.a.r.m) rfl
 have b6 := bl_cell B0.out 6 (.int .u64 (d.a.r.t.a : Int)) rfl
 have b7 := bl_cell B0.out 7 (.int .u64 (d.a.r.t.b : Int)) rfl
 have b8 := bl_cell B0.out 8 (.int .u64 (d.a.r.t.c : Int)) rfl
 have b9 := bl_cell B0.out 9 (.int .u64 (d.a.r.t.d : Int)) rfl
 have b10 := bl_cell B0.out 10 (.slice d.a.r.ad d.a.r.l d.a.r.c) rfl
 have b11 := bl_cell B0.out 11 (.int .i64 d.b.k) rfl
 have b12 := bl_cell B0.out 12 (.int .i64 d.b.ln) rfl
 have b13 := bl_cell B0.out 13 (.int .i64 d.b.r.k) rfl
 have b14 := bl_cell B0.out 14 (.int .i64 d.b.r.mn) rfl
 have b15 := bl_cell B0.out 15 (.int .i64 d.b.r.mx) rfl
 have b16 := bl_cell B0.out 16 (.int .i64 d.b.r.m) rfl
 have b17 := bl_cell B0.out 17 (.int .u64 (d.b.r.t.a : Int)) rfl
 have b18 := bl_cell B0.out 18 (.int .u64 (d.b.r.t.b : Int)) rfl
 have b19 := bl_cell B0.out 19 (.int .u64 (d.b.r.t.c : Int)) rfl
 have b20 := bl_cell B0.out 20 (.int .u64 (d.b.r.t.d : Int)) rfl
 have b21 := bl_cell B0.out 21 (.slice d.b.r.ad d.b.r.l d.b.r.c) rfl
 have b25 := bl_cell B0.out 25 (.int .i64 d.r.k) rfl
 have b26 := bl_cell B0.out 26 (.int .i64 d.r.mn) rfl
 have b27 := bl_cell B0.out 27 (.int .i64 d.r.mx) rfl
 have b28 := bl_cell B0.out 28 (.int .i64 d.r.m) rfl
 have b29 := bl_cell B0.out 29 (.int .u64 (d.r.t.a : Int)) rfl
 have b30 := bl_cell B0.out 30 (.int .u64 (d.r.t.b : Int)) rfl
 have b31 := bl_cell B0.out 31 (.int .u64 (d.r.t.c : Int)) rfl
 have b32 := bl_cell B0.out 32 (.int .u64 (d.r.t.d : Int)) rfl
 have b33 := bl_cell B0.out 33 (.slice d.r.ad d.r.l d.r.c) rfl
 have b34 := bl_cell B0.out 34 (.slice d.pa d.pl d.pc) rfl
 go_wp2_with fail
 clear a0 b0 a1 b1 a2 b2 a3 b3 a4 b4 a5 b5 a6 b6 a7 b7 a8 b8 a9 b9 a10 b10 a11 b11 a12 b12 a13 b13 a14 b14 a15 b15 a16 b16 a17 b17 a18 b18 a19 b19 a20 b20 a21 b21 a22 b22 a23 b23 a24 b24 a25 b25 a26 b26 a27 b27 a28 b28 a29 b29 a30 b30 a31 b31 a32 b32 a33 b33 a34 b34 a35 b35 a36 b36 a37 b37 a38 b38 a39 b39
 refine (C9.out _ I0.out.a J0.out.a).mono ?_
 rintro e V1 ⟨rfl, k1⟩
 have A1 := hid (bl_kp A0.out k1)
 have B1 := hid (bl_kp B0.out k1)
 have I1 := hid (I0.out.kp k1)
 have J1 := hid (J0.out.kp k1)
 have K1 := hid (K0.out.trans k1)
 clear k1
 cases e9
 ·
  have E2 : Hid (E = false) := by show _ = _; rw [← HE.out]; simp only [Bool.and_false, Bool.false_and]
  go_wp2_with fail
  go_ret
  exact ⟨by rw [E2.out]; rfl, K1.out⟩
 have a11 := bl_cell A1.out 11 (.int .i64 c.b.k) rfl
 have a12 := bl_cell A1.out 12 (.int .i64 c.b.ln) rfl
 have a13 := bl_cell A1.out 13 (.int .i64 c.b.r.k) rfl
 have a14 := bl_cell A1.out 14 (.int .i64 c.b.r.mn) rfl
 have a15 := bl_cell A1.out 15 (.int .i64 c.b.r.mx) rfl
 have a16 := bl_cell A1.out 16 (.int .i64 c.b.r.m) rfl
 have a17 := bl_cell A1.out 17 (.int .u64 (c.b.r.t.a : Int)) rfl
 have a18 := bl_cell A1.out 18 (.int .u64 (c.b.r.t.b : Int)) rfl
 have a19 := bl_cell A1.out 19 (.int .u64 (c.b.r.t.c : Int)) rfl
 have a20 := bl_cell A1.out 20 (.int .u64 (c.b.r.t.d : Int)) rfl
 have a21 := bl_cell A1.out 21 (.slice c.b.r.ad c.b.r.l c.b.r.c) rfl
 have b11 := bl_cell B1.out 11 (.int .i64 d.b.k) rfl
 have b12 := bl_cell B1.out 12 (.int .i64 d.b.ln) rfl
 have b13 := bl_cell B1.out 13 (.int .i64 d.b.r.k) rfl
 have b14 := bl_cell B1.out 14 (.int .i64 d.b.r.mn) rfl
 have b15 := bl_cell B1.out 15 (.int .i64 d.b.r.mx) rfl
 have b16 := bl_cell B1.out 16 (.int .i64 d.b.r.m) rfl
 have b17 := bl_cell B1.out 17 (.int .u64 (d.b.r.t.a : Int)) rfl
 have b18 := bl_cell B1.out 18 (.int .u64 (d.b.r.t.b : Int)) rfl
 have b19 := bl_cell B1.out 19 (.int .u64 (d.b.r.t.c : Int)) rfl
 have b20 := bl_cell B1.out 20 (.int .u64 (d.b.r.t.d : Int)) rfl
 have b21 := bl_cell B1.out 21 (.slice d.b.r.ad d.b.r.l d.b.r.c) rfl
 go_wp2_with fail
 clear a11 b11 a12 b12 a13 b13 a14 b14 a15 b15 a16 b16 a17 b17 a18 b18 a19 b19 a20 b20 a21 b21
 refine (C10.out _ I1.out.b J1.out.b).mono ?_
 rintro e V2 ⟨rfl, k1⟩
 have A2 := hid (bl_kp A1.out k1)
 have B2 := hid (bl_kp B1.out k1)
 have I2 := hid (I1.out.kp k1)
 have J2 := hid (J1.out.kp k1)
 have K2 := hid (K1.out.trans k1)
 clear k1
 cases e10
 ·
  have E2 : Hid (E = false) := by show _ = _; rw [← HE.out]; simp only [Bool.and_false, Bool.false_and]
  go_wp2_with fail
  go_ret
  exact ⟨by rw [E2.out]; rfl, K2.out⟩
 have a25 := bl_cell A2.out 25 (.int .i64 c.r.k) rfl
 have a26 := bl_cell A2.out 26 (.int .i64 c.r.mn) rfl
 have a27 := bl_cell A2.out 27 (.int .i64 c.r.mx) rfl
 have a28 := bl_cell A2.out 28 (.int .i64 c.r.m) rfl
 have a29 := bl_cell A2.out 29 (.int .u64 (c.r.t.a : Int)) rfl
 have a30 := bl_cell A2.out 30 (.int .u64 (c.r.t.b : Int)) rfl
 have a31 := bl_cell A2.out 31 (.int .u64 (c.r.t.c : Int)) rfl
 have a32 := bl_cell A2.out 32 (.int .u64 (c.r.t.d : Int)) rfl
 have a33 := bl_cell A2.out 33 (.slice c.r.ad c.r.l c.r.c) rfl
 have b25 := bl_cell B2.out 25 (.int .i64 d.r.k) rfl
 have b26 := bl_cell B2.out 26 (.int .i64 d.r.mn) rfl
 have b27 := bl_cell B2.out 27 (.int .i64 d.r.mx) rfl
 have b28 := bl_cell B2.out 28 (.int .i64 d.r.m) rfl
 have b29 := bl_cell B2.out 29 (.int .u64 (d.r.t.a : Int)) rfl
 have b30 := bl_cell B2.out 30 (.int .u64 (d.r.t.b : Int)) rfl
 have b31 := bl_cell B2.out 31 (.int .u64 (d.r.t.c : Int)) rfl
 have b32 := bl_cell B2.out 32 (.int .u64 (d.r.t.d : Int)) rfl
 have b33 := bl_cell B2.out 33 (.slice d.r.ad d.r.l d.r.c) rfl
 go_wp2_with fail
 clear a25 b25 a26 b26 a27 b27 a28 b28 a29 b29 a30 b30 a31 b31 a32 b32 a33 b33
 refine (C11.out _ I2.out.r J2.out.r).mono ?_
 rintro e V3 ⟨rfl, k1⟩
 have A3 := hid (bl_kp A2.out k1)
 have B3 := hid (bl_kp B2.out k1)
 have I3 := hid (I2.out.kp k1)
 have J3 := hid (J2.out.kp k1)
 have K3 := hid (K2.out.trans k1)
 clear k1
 cases e11
 ·
  have E2 : Hid (E = false) := by show _ = _; rw [← HE.out]; simp only [Bool.and_false, Bool.false_and]
  go_wp2_with fail
  go_ret
  exact ⟨by rw [E2.out]; rfl, K3.out⟩
 have a34 := bl_cell A3.out 34 (.slice c.pa c.pl c.pc) rfl
 have b34 := bl_cell B3.out 34 (.slice d.pa d.pl d.pc) rfl
 go_wp2_with fail
 clear a34 b34
 refine (C12.out _ I3.out.p J3.out.p).mono ?_
 rintro e V4 ⟨rfl, k1⟩
 have A4 := hid (bl_kp A3.out k1)
 have B4 := hid (bl_kp B3.out k1)
 have I4 := hid (I3.out.kp k1)
 have J4 := hid (J3.out.kp k1)
 have K4 := hid (K3.out.trans k1)
 clear k1
 have E2 : Hid (E = e12) := by show _ = _; rw [← HE.out]; rfl
 go_wp2_with fail
 go_ret
 exact ⟨by rw [E2.out]; rfl, K4.out⟩
end Go.Proofs.YtigdmebijbaofaaGreatDoor
