/-
  Texts of this claim: CmD.
-/
import Derived.Test.YtigdmebijbaofaaGreatDoorReadDM4
import Derived.Test.YtigdmebijbaofaaGreatDoorReadDM21
/-! ### CmD -/
namespace Go.Proofs.YtigdmebijbaofaaGreatDoor
set_option maxHeartbeats 2000000
set_option maxRecDepth 100000
open Go.RowKit
theorem grp_le_nds : ∀ T : Rx, grp T ≤ nds T
 | .mk k mn mx m s kids => by
  unfold grp nds
  have := grps_le kids
  split <;> omega
where grps_le : ∀ l : List Rx, grps l ≤ ndss l
 | [] => Nat.le_refl _
 | r :: l => by
  unfold grps ndss
  have := grp_le_nds r
  have := grps_le l
  omega
theorem grp_right (ere : Bool) (T : Rx) (h : right ere T = true) : grp T ≤ 1000000 := by
 have h1 := nds_right ere T h
 have h2 := grp_le_nds T
 omega
theorem wrt_right {ere : Bool} {T : Rx} (h : wrtR ere T = true) : right ere T = true := by
 unfold wrtR printT at h
 cases hr : right ere T
 ·
  rw [hr] at h; simp at h
 ·
  rfl
theorem placed_any (c : Cv) (A B R : Rx) (P : List Pc) (ere : Bool) (hO : COk c A B R P) (w : World) (hc : CIs w c A B R P) : Calls Tryz.prog 54 #[c.v, .bool ere] w fun e w' => e = .returned (.bool (placedR c A B ere)) ∧ Kp w w' := by
 obtain ⟨E, hE⟩ : ∃ E, placedR c A B ere = E := ⟨_, rfl⟩
 rw [hE]
 obtain ⟨p, hp⟩ : ∃ p, adR c.a.k c.a.ln A ere = p := ⟨_, rfl⟩
 obtain ⟨q, hq⟩ : ∃ p, adR c.b.k c.b.ln B ere = p := ⟨_, rfl⟩
 obtain ⟨n, hn⟩ : ∃ n, addrsN c.op = n := ⟨_, rfl⟩
 obtain ⟨x, hx⟩ : ∃ x, decide (c.a.k = 0) = x := ⟨_, rfl⟩
 obtain ⟨y, hy⟩ : ∃ x, decide (c.b.k = 0) = x := ⟨_, rfl⟩
 have hnn : n = 0 ∨ n = 1 ∨ n = 2 := by rw [← hn]; unfold addrsN; split <;> (try split) <;> omega
 have C1 : Hid (∀ w, c.a.r.is w A → Calls Tryz.prog 75 #[c.a.v, .bool ere] w fun e w' => e = .returned (.bool p) ∧ Kp w w') := fun w h => by rw [← hp]; exact addrRight_any c.a A ere hO.a w h
 have C2 : Hid (∀ w, c.b.r.is w B → Calls Tryz.prog 75 #[c.b.v, .bool ere] w fun e w' => e = .returned (.bool q) ∧ Kp w w') := fun w h => by rw [← hq]; exact addrRight_any c.b B ere hO.b w h
 have C3 : Hid (∀ w, Calls Tryz.prog 101 #[.int .u8 (c.op : Int)] w fun e w' => e = .returned (.int .i64 (n : Int)) ∧ w' = w) := fun w => by rw [← hn]; exact addrs_any c.op w
 have HE : Hid ((p && q && (if n = 0 then x && y && !c.nt else if n = 1 then y else !x || y)) = E) := by show _ = _; rw [← hE, ← hp, ← hq, ← hn, ← hx, ← hy]; rfl
 have gx : Hid ((c.a.k == 0) = x) := by show _ = _; rw [← hx]; by_cases h : c.a.k = 0 <;> simp [h]
 have gy : Hid ((c.b.k == 0) = y) := by show _ = _; rw [← hy]; by_cases h : c.b.k = 0 <;> simp [h]
 have gz : Hid ((c.a.k != 0) = !x) := by show _ = _; rw [bne, gx.out]
 have HC := hid hc
 clear hE hp hq hn hx hy hc
 go_enter Tryz.func54, Tryz.ntmps54
 go_upto_region 1 with fail
 refine opq (fun W0 => W0.heap[w.heap.size]? = some c.o ∧ Kp w W0 ∧ CIs W0 c A B R P) ⟨by (first | exact last_at _ _ _ (by simp) | (refine bl_alloc ?_ _; first | exact last_at _ _ _ (by simp) | (refine bl_alloc ?_ _; first | exact last_at _ _ _ (by simp) | (refine bl_alloc ?_ _; exact last_at _ _ _ (by simp))))), by exact kpt, by exact HC.out.kp kpt⟩ ?_
 rintro W0 ⟨xA0, xK0, xI0⟩
 have A0 := hidT xA0
 have K0 := hidT xK0
 have I0 := hidT xI0
 clear xA0 xK0 xI0
 clear HC
 have a0 := bl_cell A0.out 0 (.int .i64 c.a.k) rfl
 have a1 := bl_cell A0.out 1 (.int .i64 c.a.ln) rfl
 have a2 := bl_cell A0.out 2 (.int .i64 c.a.r.k) rfl
 have a3 := bl_cell A0.out 3 (.int .i64 c.a.r.mn) rfl
 have a4 := bl_cell A0.out 4 (.int .i64 c.a.r.mx) rfl
 have a5 := bl_cell A0.out 5 (.int .i64 c.a.r.m) rfl
 have a6 := bl_cell A0.out 6 (.int .u64 (c.a.r.t.a : Int)) rfl
 have a7 := bl_cell A0.out 7 (.int .u64 (c.a.r.t.b : Int)) rfl
 have a8 := bl_cell A0.out 8 (.int .u64 (c.a.r.t.c : Int)) rfl
 have a9 := bl_cell A0.out 9 (.int .u64 (c.a.r.t.d : Int)) rfl
 have a10 := bl_cell A0.out 10 (.slice c.a.r.ad c.a.r.l c.a.r.c) rfl
 go_wp2_with fail
 clear a0 a1 a2 a3 a4 a5 a6 a7 a8 a9 a10
 refine (C1.out _ I0.out.a).mono ?_
 rintro e W1 ⟨rfl, k1⟩
 have A1 := hid (bl_kp A0.out k1)
 have I1 := hid (I0.out.kp k1)
 have K1 := hid (K0.out.trans k1)
 clear k1
 cases p
 ·
  have E2 : Hid (E = false) := by show _ = _; rw [← HE.out]; rfl
  go_wp2_with fail
  go_ret
  exact ⟨by rw [E2.out]; rfl, K1.out⟩
 have a11 := bl_cell A1.out 11 (.int .i64 c.b.k) rfl
 have a12 := bl_cell A1.out 12 (.int .i64 c.b.ln) rfl
 have a13 := bl_cell A1.out 13 (.int .i64 c.b.r.k) rfl
 have a14 := bl_cell A1.out 14 (.int .i64 c.b.r.mn) rfl
 have a15 := bl_cell A1.out 15 (.int .i64 c.b.r.mx) rfl
 have a16 := bl_cell A1.out 16 (.int .i64 c.b.r.m) rfl
 have a17 := bl_cell A1.out 17 (.int .u64 (c.b.r.t.a : Int)) rfl
 have a18 := bl_cell A1.out 18 (.int .u64 (c.b.r.t.b : Int)) rfl
 have a19 := bl_cell A1.out 19 (.int .u64 (c.b.r.t.c : Int)) rfl
 have a20 := bl_cell A1.out 20 (.int .u64 (c.b.r.t.d : Int)) rfl
 have a21 := bl_cell A1.out 21 (.slice c.b.r.ad c.b.r.l c.b.r.c) rfl
 go_wp2_with fail
 clear a11 a12 a13 a14 a15 a16 a17 a18 a19 a20 a21
 refine (C2.out _ I1.out.b).mono ?_
 rintro e W2 ⟨rfl, k1⟩
 have A2 := hid (bl_kp A1.out k1)
 have I2 := hid (I1.out.kp k1)
 have K2 := hid (K1.out.trans k1)
 clear k1
 cases q
 ·
  have E2 : Hid (E = false) := by show _ = _; rw [← HE.out]; rfl
  go_wp2_with fail
  go_ret
  exact ⟨by rw [E2.out]; rfl, K2.out⟩
 have a0 := bl_cell A2.out 0 (.int .i64 c.a.k) rfl
 have a11 := bl_cell A2.out 11 (.int .i64 c.b.k) rfl
 have a22 := bl_cell A2.out 22 (.bool c.nt) rfl
 have a23 := bl_cell A2.out 23 (.int .u8 (c.op : Int)) rfl
 go_wp2_with fail
 refine (C3.out _).mono ?_
 rintro e w' ⟨rfl, rfl⟩
 obtain ⟨z, hz⟩ : ∃ z, c.nt = z := ⟨_, rfl⟩
 rw [hz] at a22 HE
 clear hz
 have hx := gx.out
 have hy := gy.out
 have hz := gz.out
 rcases hnn with rfl | rfl | rfl
 ·
  cases x
  ·
   have E2 : Hid (E = false) := by show _ = _; rw [← HE.out]; rfl
   go_wp2_with fail
   go_ret
   exact ⟨by rw [E2.out]; rfl, K2.out⟩
  ·
   cases y
   ·
    have E2 : Hid (E = false) := by show _ = _; rw [← HE.out]; rfl
    go_wp2_with fail
    go_ret
    exact ⟨by rw [E2.out]; rfl, K2.out⟩
   ·
    have E2 : Hid (E = !z) := by show _ = _; rw [← HE.out]; rfl
    go_wp2_with fail
    go_ret
    exact ⟨by rw [E2.out]; rfl, K2.out⟩
 ·
  have E2 : Hid (E = y) := by show _ = _; rw [← HE.out]; rfl
  go_wp2_with fail
  go_ret
  exact ⟨by rw [E2.out]; rfl, K2.out⟩
 ·
  cases x
  ·
   have E2 : Hid (E = true) := by show _ = _; rw [← HE.out]; rfl
   go_wp2_with fail
   go_ret
   exact ⟨by rw [E2.out]; rfl, K2.out⟩
  ·
   have E2 : Hid (E = y) := by show _ = _; rw [← HE.out]; rfl
   go_wp2_with fail
   go_ret
   exact ⟨by rw [E2.out]; rfl, K2.out⟩
theorem substRight_any (c : Cv) (A B R : Rx) (P : List Pc) (ere : Bool) (hO : COk c A B R P) (w : World) (hc : CIs w c A B R P) : Calls Tryz.prog 103 #[c.v, .bool ere] w fun e w' => e = .returned (.bool (substR c R P ere)) ∧ Kp w w' := by
 obtain ⟨E, hE⟩ : ∃ E, substR c R P ere = E := ⟨_, rfl⟩
 rw [hE]
 obtain ⟨p, hp⟩ : ∃ p, wrtR ere R = p := ⟨_, rfl⟩
 obtain ⟨t, ht⟩ : ∃ p, tplR P (grp R) = p := ⟨_, rfl⟩
 obtain ⟨u, hu⟩ : ∃ p, decide (0 ≤ c.nth) = p := ⟨_, rfl⟩
 obtain ⟨v, hv⟩ : ∃ p, decide (c.nth ≤ 99) = p := ⟨_, rfl⟩
 obtain ⟨l, hl⟩ : ∃ p, labO c.tx = p := ⟨_, rfl⟩
 have HE : Hid ((p && t && u && v && l) = E) := by show _ = _; rw [← hE, ← hp, ← ht, ← hu, ← hv, ← hl]; rfl
 have C1 : Hid (∀ w, c.r.is w R → Calls Tryz.prog 110 #[c.r.v, .bool ere] w fun e w' => e = .returned (.bool p) ∧ Kp w w') := fun w h => by rw [← hp]; exact wrtR_any R ere hO.r c.r w h
 have hG : p = true → grp R ≤ 1000000 := fun h => grp_right ere R (by rw [h] at hp; exact wrt_right hp)
 have C3 : Hid (∀ w, PcAt w P c.pa c.pl c.pc → Calls Tryz.prog 139 #[.slice c.pa c.pl c.pc, .int .i64 ((grp R : Nat) : Int)] w fun e w' => e = .returned (.bool t) ∧ Kp w w') := fun w h => by rw [← ht]; exact tplRight_any P _ _ _ _ w h hO.p
 have C4 : Hid (∀ w, Calls Tryz.prog 102 #[.string c.tx] w fun e w' => e = .returned (.bool l) ∧ Kp w w') := fun w => by rw [← hl]; exact labelOrNone_any c.tx w hO.tx
 have HC := hid hc
 obtain ⟨G, hGG⟩ : ∃ G, grp R = G := ⟨_, rfl⟩
 have C2 : Hid (p = true → ∀ w, c.r.is w R → Calls Tryz.prog 140 #[c.r.v] w fun e w' => e = .returned (.int .i64 ((G : Nat) : Int)) ∧ Kp w w') := fun h w hi => by rw [← hGG]; exact (Groups_any R (hG h) (slim_of_ok R hO.r)).all _ _ w hi.is
 rw [hGG] at C3
 clear hE hp ht hl hc hG hGG
 go_enter Tryz.func103, Tryz.ntmps103
 go_upto_region 1 with fail
 refine opq (fun W0 => W0.heap[w.heap.size]? = some c.o ∧ Kp w W0 ∧ CIs W0 c A B R P) ⟨by (first | exact last_at _ _ _ (by simp) | (refine bl_alloc ?_ _; first | exact last_at _ _ _ (by simp) | (refine bl_alloc ?_ _; first | exact last_at _ _ _ (by simp) | (refine bl_alloc ?_ _; exact last_at _ _ _ (by simp))))), by exact kpt, by exact HC.out.kp kpt⟩ ?_
 rintro W0 ⟨xA0, xK0, xI0⟩
 have A0 := hidT xA0
 have K0 := hidT xK0
 have I0 := hidT xI0
 clear xA0 xK0 xI0
 clear HC
 cases p
 ·
  clear C2
  have Q0 : Kp W0 W0.drew := (Kp.refl _).drew
  have MK : Hid (∀ W, Kp W0 W → W.cell? ⟨w.heap.size, 24, none⟩ = some (.string c.tx) ∧ W.cell? ⟨w.heap.size, 25, none⟩ = some (.int .i64 c.r.k) ∧ W.cell? ⟨w.heap.size, 26, none⟩ = some (.int .i64 c.r.mn) ∧ W.cell? ⟨w.heap.size, 27, none⟩ = some (.int .i64 c.r.mx) ∧ W.cell? ⟨w.heap.size, 28, none⟩ = some (.int .i64 c.r.m) ∧ W.cell? ⟨w.heap.size, 29, none⟩ = some (.int .u64 (c.r.t.a : Int)) ∧ W.cell? ⟨w.heap.size, 30, none⟩ = some (.int .u64 (c.r.t.b : Int)) ∧ W.cell? ⟨w.heap.size, 31, none⟩ = some (.int .u64 (c.r.t.c : Int)) ∧ W.cell? ⟨w.heap.size, 32, none⟩ = some (.int .u64 (c.r.t.d : Int)) ∧ W.cell? ⟨w.heap.size, 33, none⟩ = some (.slice c.r.ad c.r.l c.r.c) ∧ W.cell? ⟨w.heap.size, 34, none⟩ = some (.slice c.pa c.pl c.pc) ∧ W.cell? ⟨w.heap.size, 37, none⟩ = some (.int .i64 c.nth) ∧ Hid (Kp W0 W)) := fun W k => ⟨bl_cell (bl_kp A0.out k) 24 _ rfl, bl_cell (bl_kp A0.out k) 25 _ rfl, bl_cell (bl_kp A0.out k) 26 _ rfl, bl_cell (bl_kp A0.out k) 27 _ rfl, bl_cell (bl_kp A0.out k) 28 _ rfl, bl_cell (bl_kp A0.out k) 29 _ rfl, bl_cell (bl_kp A0.out k) 30 _ rfl, bl_cell (bl_kp A0.out k) 31 _ rfl, bl_cell (bl_kp A0.out k) 32 _ rfl, bl_cell (bl_kp A0.out k) 33 _ rfl, bl_cell (bl_kp A0.out k) 34 _ rfl, bl_cell (bl_kp A0.out k) 37 _ rfl, k⟩
  refine wp_region_noPanic ?_
  refine hdrew MK Q0 (fun hH => ?_)
  have KQ := Q0
  refine tk 0 (some 5) (.fieldAddr 37 (.tmp 2) 5) 0 (v := ?v0a1) rfl ?h0a1 hH ?_
  case h0a1 => intro _ _; go_simp; try with_reducible rfl
  try simp only [ps]
  refine tk 1 (some 6) (.load 27 (.tmp 5)) 27 (v := ?v1a2) rfl ?h1a2 hH ?_
  case h1a2 => intro _ _; go_simp; try with_reducible rfl
  try simp only [ps]
  refine tk 2 (some 7) (.move (.tmp 1)) 4 (v := ?v2a3) rfl ?h2a3 hH ?_
  case h2a3 => intro _ _; go_simp; try with_reducible rfl
  try simp only [ps]
  refine wpAnyH_ready (rs := [3]) (by kernel_rfl) (by simp) ?_
  refine AllReadyH.cons (o := { dst := some 8, op := .call { callee := .value (.func 110), args := #[.tmp 6, .tmp 7], argTypes := #[27, 4] }, type := 4, pos := "right.go:101", after := _, guard := none }) rfl (fun K hKq => ?_) AllReadyH.nil
  go_simp
  refine (C1.out _ (I0.out.kp KQ).r).mono ?_
  rintro e y1 ⟨rfl, kq⟩
  refine hKq.out _ _ (MK.out _ (KQ.trans kq)) (fun hN => ?_)
  clear kq
  clear hKq K hH KQ
  have hH := hN
  clear hN
  have KQ := hH.2.2.2.2.2.2.2.2.2.2.2.2.out
  try simp only [ps]
  refine tk 4 (some 9) (.move (.tmp 8)) 4 (v := ?v4a4) rfl ?h4a4 hH ?_
  case h4a4 => intro _ _; go_simp; try with_reducible rfl
  try simp only [ps]
  refine tn 5 (some 10) (.fieldAddr 37 (.tmp 2) 6) 0 rfl hH ?_
  try simp only [ps]
  refine tn 6 (some 11) (.load 35 (.tmp 10)) 35 rfl hH ?_
  try simp only [ps]
  refine tn 7 (some 12) (.fieldAddr 37 (.tmp 2) 5) 0 rfl hH ?_
  try simp only [ps]
  refine tn 8 (some 13) (.load 27 (.tmp 12)) 27 rfl hH ?_
  try simp only [ps]
  refine tn 9 (some 14) (.call { callee := .value (.func 140), args := #[.tmp 13], argTypes := #[27] }) 3 rfl hH ?_
  try simp only [ps]
  refine tn 10 (some 15) (.call { callee := .value (.func 139), args := #[.tmp 11, .tmp 14], argTypes := #[35, 3] }) 4 rfl hH ?_
  try simp only [ps]
  refine tk 11 (some 16) (.pick (.tmp 9) (.tmp 15) (.const (.bool false))) 4 (v := ?v11a11) rfl ?h11a11 hH ?_
  case h11a11 => intro _ _; go_simp; try with_reducible rfl
  try simp only [ps]
  refine tk 12 (some 17) (.move (.tmp 16)) 4 (v := ?v12a12) rfl ?h12a12 hH ?_
  case h12a12 => intro _ _; go_simp; try with_reducible rfl
  try simp only [ps]
  refine tn 13 (some 18) (.fieldAddr 37 (.tmp 2) 9) 0 rfl hH ?_
  try simp only [ps]
  refine tn 14 (some 19) (.load 3 (.tmp 18)) 3 rfl hH ?_
  try simp only [ps]
  refine tn 15 (some 20) (.binOp .leq 3 (.const (.int .i64 0)) (.tmp 19) 3) 4 rfl hH ?_
  try simp only [ps]
  refine tk 16 (some 21) (.pick (.tmp 17) (.tmp 20) (.const (.bool false))) 4 (v := ?v16a16) rfl ?h16a16 hH ?_
  case h16a16 => intro _ _; go_simp; try with_reducible rfl
  try simp only [ps]
  refine tk 17 (some 22) (.move (.tmp 21)) 4 (v := ?v17a17) rfl ?h17a17 hH ?_
  case h17a17 => intro _ _; go_simp; try with_reducible rfl
  try simp only [ps]
  refine tn 18 (some 23) (.fieldAddr 37 (.tmp 2) 9) 0 rfl hH ?_
  try simp only [ps]
  refine tn 19 (some 24) (.load 3 (.tmp 23)) 3 rfl hH ?_
  try simp only [ps]
  refine tn 20 (some 25) (.binOp .leq 3 (.tmp 24) (.const (.int .i64 99)) 3) 4 rfl hH ?_
  try simp only [ps]
  refine tk 21 (some 26) (.pick (.tmp 22) (.tmp 25) (.const (.bool false))) 4 (v := ?v21a21) rfl ?h21a21 hH ?_
  case h21a21 => intro _ _; go_simp; try with_reducible rfl
  try simp only [ps]
  refine tk 22 (some 27) (.move (.tmp 26)) 4 (v := ?v22a22) rfl ?h22a22 hH ?_
  case h22a22 => intro _ _; go_simp; try with_reducible rfl
  try simp only [ps]
  refine tn 23 (some 28) (.fieldAddr 37 (.tmp 2) 4) 0 rfl hH ?_
  try simp only [ps]
  refine tn 24 (some 29) (.load 9 (.tmp 28)) 9 rfl hH ?_
  try simp only [ps]
  refine tn 25 (some 30) (.call { callee := .value (.func 102), args := #[.tmp 29], argTypes := #[9] }) 4 rfl hH ?_
  try simp only [ps]
  refine tk 26 (some 31) (.pick (.tmp 27) (.tmp 30) (.const (.bool false))) 4 (v := ?v26a26) rfl ?h26a26 hH ?_
  case h26a26 => intro _ _; go_simp; try with_reducible rfl
  try simp only [ps]
  refine tk 27 (some 4) (.assign (.tmp 31)) 4 (v := ?v27a27) rfl ?h27a27 hH ?_
  case h27a27 => intro _ _; go_simp; try with_reducible rfl
  try simp only [ps]
  refine wpAnyH_done (by kernel_rfl) ?_ _
  refine NoPanic.normal ?_
  have E2 : Hid (E = false) := by show _ = _; rw [← HE.out]; simp only [Bool.false_and]
  go_wp2_with fail
  go_ret
  exact ⟨by rw [E2.out]; rfl, K0.out.trans KQ⟩
 replace C2 := hid (C2.out rfl)
 cases t
 ·
  have Q0 : Kp W0 W0.drew := (Kp.refl _).drew
  have MK : Hid (∀ W, Kp W0 W → W.cell? ⟨w.heap.size, 24, none⟩ = some (.string c.tx) ∧ W.cell? ⟨w.heap.size, 25, none⟩ = some (.int .i64 c.r.k) ∧ W.cell? ⟨w.heap.size, 26, none⟩ = some (.int .i64 c.r.mn) ∧ W.cell? ⟨w.heap.size, 27, none⟩ = some (.int .i64 c.r.mx) ∧ W.cell? ⟨w.heap.size, 28, none⟩ = some (.int .i64 c.r.m) ∧ W.cell? ⟨w.heap.size, 29, none⟩ = some (.int .u64 (c.r.t.a : Int)) ∧ W.cell? ⟨w.heap.size, 30, none⟩ = some (.int .u64 (c.r.t.b : Int)) ∧ W.cell? ⟨w.heap.size, 31, none⟩ = some (.int .u64 (c.r.t.c : Int)) ∧ W.cell? ⟨w.heap.size, 32, none⟩ = some (.int .u64 (c.r.t.d : Int)) ∧ W.cell? ⟨w.heap.size, 33, none⟩ = some (.slice c.r.ad c.r.l c.r.c) ∧ W.cell? ⟨w.heap.size, 34, none⟩ = some (.slice c.pa c.pl c.pc) ∧ W.cell? ⟨w.heap.size, 37, none⟩ = some (.int .i64 c.nth) ∧ Hid (Kp W0 W)) := fun W k => ⟨bl_cell (bl_kp A0.out k) 24 _ rfl, bl_cell (bl_kp A0.out k) 25 _ rfl, bl_cell (bl_kp A0.out k) 26 _ rfl, bl_cell (bl_kp A0.out k) 27 _ rfl, bl_cell (bl_kp A0.out k) 28 _ rfl, bl_cell (bl_kp A0.out k) 29 _ rfl, bl_cell (bl_kp A0.out k) 30 _ rfl, bl_cell (bl_kp A0.out k) 31 _ rfl, bl_cell (bl_kp A0.out k) 32 _ rfl, bl_cell (bl_kp A0.out k) 33 _ rfl, bl_cell (bl_kp A0.out k) 34 _ rfl, bl_cell (bl_kp A0.out k) 37 _ rfl, k⟩
  refine wp_region_noPanic ?_
  refine hdrew MK Q0 (fun hH => ?_)
  have KQ := Q0
  refine tk 0 (some 5) (.fieldAddr 37 (.tmp 2) 5) 0 (v := ?v0b1) rfl ?h0b1 hH ?_
  case h0b1 => intro _ _; go_simp; try with_reducible rfl
  try simp only [ps]
  refine tk 1 (some 6) (.load 27 (.tmp 5)) 27 (v := ?v1b2) rfl ?h1b2 hH ?_
  case h1b2 => intro _ _; go_simp; try with_reducible rfl
  try simp only [ps]
  refine tk 2 (some 7) (.move (.tmp 1)) 4 (v := ?v2b3) rfl ?h2b3 hH ?_
  case h2b3 => intro _ _; go_simp; try with_reducible rfl
  try simp only [ps]
  refine wpAnyH_ready (rs := [3]) (by kernel_rfl) (by simp) ?_
  refine AllReadyH.cons (o := { dst := some 8, op := .call { callee := .value (.func 110), args := #[.tmp 6, .tmp 7], argTypes := #[27, 4] }, type := 4, pos := "right.go:101", after := _, guard := none }) rfl (fun K hKq => ?_) AllReadyH.nil
  go_simp
  refine (C1.out _ (I0.out.kp KQ).r).mono ?_
  rintro e y1 ⟨rfl, kq⟩
  refine hKq.out _ _ (MK.out _ (KQ.trans kq)) (fun hN => ?_)
  clear kq
  clear hKq K hH KQ
  have hH := hN
  clear hN
  have KQ := hH.2.2.2.2.2.2.2.2.2.2.2.2.out
  try simp only [ps]
  refine tk 4 (some 9) (.move (.tmp 8)) 4 (v := ?v4b4) rfl ?h4b4 hH ?_
  case h4b4 => intro _ _; go_simp; try with_reducible rfl
  try simp only [ps]
  refine tk 5 (some 10) (.fieldAddr 37 (.tmp 2) 6) 0 (v := ?v5b5) rfl ?h5b5 hH ?_
  case h5b5 => intro _ _; go_simp; try with_reducible rfl
  try simp only [ps]
  refine tk 6 (some 11) (.load 35 (.tmp 10)) 35 (v := ?v6b6) rfl ?h6b6 hH ?_
  case h6b6 => intro _ _; go_simp; try with_reducible rfl
  try simp only [ps]
  refine tk 7 (some 12) (.fieldAddr 37 (.tmp 2) 5) 0 (v := ?v7b7) rfl ?h7b7 hH ?_
  case h7b7 => intro _ _; go_simp; try with_reducible rfl
  try simp only [ps]
  refine tk 8 (some 13) (.load 27 (.tmp 12)) 27 (v := ?v8b8) rfl ?h8b8 hH ?_
  case h8b8 => intro _ _; go_simp; try with_reducible rfl
  try simp only [ps]
  refine wpAnyH_ready (rs := [9]) (by kernel_rfl) (by simp) ?_
  refine AllReadyH.cons (o := { dst := some 14, op := .call { callee := .value (.func 140), args := #[.tmp 13], argTypes := #[27] }, type := 3, pos := "right.go:101", after := _, guard := some (4, true) }) rfl (fun K hKq => ?_) AllReadyH.nil
  go_simp
  refine (C2.out _ (I0.out.kp KQ).r).mono ?_
  rintro e y2 ⟨rfl, kq⟩
  refine hKq.out _ _ (MK.out _ (KQ.trans kq)) (fun hN => ?_)
  clear kq
  clear hKq K hH KQ
  have hH := hN
  clear hN
  have KQ := hH.2.2.2.2.2.2.2.2.2.2.2.2.out
  try simp only [ps]
  refine wpAnyH_ready (rs := [10]) (by kernel_rfl) (by simp) ?_
  refine AllReadyH.cons (o := { dst := some 15, op := .call { callee := .value (.func 139), args := #[.tmp 11, .tmp 14], argTypes := #[35, 3] }, type := 4, pos := "right.go:101", after := _, guard := some (4, true) }) rfl (fun K hKq => ?_) AllReadyH.nil
  go_simp
  refine (C3.out _ (I0.out.kp KQ).p).mono ?_
  rintro e y3 ⟨rfl, kq⟩
  refine hKq.out _ _ (MK.out _ (KQ.trans kq)) (fun hN => ?_)
  clear kq
  clear hKq K hH KQ
  have hH := hN
  clear hN
  have KQ := hH.2.2.2.2.2.2.2.2.2.2.2.2.out
  try simp only [ps]
  refine tk 11 (some 16) (.pick (.tmp 9) (.tmp 15) (.const (.bool false))) 4 (v := ?v11b9) rfl ?h11b9 hH ?_
  case h11b9 => intro _ _; go_simp; try with_reducible rfl
  try simp only [ps]
  refine tk 12 (some 17) (.move (.tmp 16)) 4 (v := ?v12b10) rfl ?h12b10 hH ?_
  case h12b10 => intro _ _; go_simp; try with_reducible rfl
  try simp only [ps]
  refine tn 13 (some 18) (.fieldAddr 37 (.tmp 2) 9) 0 rfl hH ?_
  try simp only [ps]
  refine tn 14 (some 19) (.load 3 (.tmp 18)) 3 rfl hH ?_
  try simp only [ps]
  refine tn 15 (some 20) (.binOp .leq 3 (.const (.int .i64 0)) (.tmp 19) 3) 4 rfl hH ?_
  try simp only [ps]
  refine tk 16 (some 21) (.pick (.tmp 17) (.tmp 20) (.const (.bool false))) 4 (v := ?v16b14) rfl ?h16b14 hH ?_
  case h16b14 => intro _ _; go_simp; try with_reducible rfl
  try simp only [ps]
  refine tk 17 (some 22) (.move (.tmp 21)) 4 (v := ?v17b15) rfl ?h17b15 hH ?_
  case h17b15 => intro _ _; go_simp; try with_reducible rfl
  try simp only [ps]
  refine tn 18 (some 23) (.fieldAddr 37 (.tmp 2) 9) 0 rfl hH ?_
  try simp only [ps]
  refine tn 19 (some 24) (.load 3 (.tmp 23)) 3 rfl hH ?_
  try simp only [ps]
  refine tn 20 (some 25) (.binOp .leq 3 (.tmp 24) (.const (.int .i64 99)) 3) 4 rfl hH ?_
  try simp only [ps]
  refine tk 21 (some 26) (.pick (.tmp 22) (.tmp 25) (.const (.bool false))) 4 (v := ?v21b19) rfl ?h21b19 hH ?_
  case h21b19 => intro _ _; go_simp; try with_reducible rfl
  try simp only [ps]
  refine tk 22 (some 27) (.move (.tmp 26)) 4 (v := ?v22b20) rfl ?h22b20 hH ?_
  case h22b20 => intro _ _; go_simp; try with_reducible rfl
  try simp only [ps]
  refine tn 23 (some 28) (.fieldAddr 37 (.tmp 2) 4) 0 rfl hH ?_
  try simp only [ps]
  refine tn 24 (some 29) (.load 9 (.tmp 28)) 9 rfl hH ?_
  try simp only [ps]
  refine tn 25 (some 30) (.call { callee := .value (.func 102), args := #[.tmp 29], argTypes := #[9] }) 4 rfl hH ?_
  try simp only [ps]
  refine tk 26 (some 31) (.pick (.tmp 27) (.tmp 30) (.const (.bool false))) 4 (v := ?v26b24) rfl ?h26b24 hH ?_
  case h26b24 => intro _ _; go_simp; try with_reducible rfl
  try simp only [ps]
  refine tk 27 (some 4) (.assign (.tmp 31)) 4 (v := ?v27b25) rfl ?h27b25 hH ?_
  case h27b25 => intro _ _; go_simp; try with_reducible rfl
  try simp only [ps]
  refine wpAnyH_done (by kernel_rfl) ?_ _
  refine NoPanic.normal ?_
  have E2 : Hid (E = false) := by show _ = _; rw [← HE.out]; simp only [Bool.and_false, Bool.false_and]
  go_wp2_with fail
  go_ret
  exact ⟨by rw [E2.out]; rfl, K0.out.trans KQ⟩
 cases u
 ·
  have gu : ¬ (0 : Int) ≤ c.nth := of_decide_eq_false hu
  have Q0 : Kp W0 W0.drew := (Kp.refl _).drew
  have MK : Hid (∀ W, Kp W0 W → W.cell? ⟨w.heap.size, 24, none⟩ = some (.string c.tx) ∧ W.cell? ⟨w.heap.size, 25, none⟩ = some (.int .i64 c.r.k) ∧ W.cell? ⟨w.heap.size, 26, none⟩ = some (.int .i64 c.r.mn) ∧ W.cell? ⟨w.heap.size, 27, none⟩ = some (.int .i64 c.r.mx) ∧ W.cell? ⟨w.heap.size, 28, none⟩ = some (.int .i64 c.r.m) ∧ W.cell? ⟨w.heap.size, 29, none⟩ = some (.int .u64 (c.r.t.a : Int)) ∧ W.cell? ⟨w.heap.size, 30, none⟩ = some (.int .u64 (c.r.t.b : Int)) ∧ W.cell? ⟨w.heap.size, 31, none⟩ = some (.int .u64 (c.r.t.c : Int)) ∧ W.cell? ⟨w.heap.size, 32, none⟩ = some (.int .u64 (c.r.t.d : Int)) ∧ W.cell? ⟨w.heap.size, 33, none⟩ = some (.slice c.r.ad c.r.l c.r.c) ∧ W.cell? ⟨w.heap.size, 34, none⟩ = some (.slice c.pa c.pl c.pc) ∧ W.cell? ⟨w.heap.size, 37, none⟩ = some (.int .i64 c.nth) ∧ Hid (Kp W0 W)) := fun W k => ⟨bl_cell (bl_kp A0.out k) 24 _ rfl, bl_cell (bl_kp A0.out k) 25 _ rfl, bl_cell (bl_kp A0.out k) 26 _ rfl, bl_cell (bl_kp A0.out k) 27 _ rfl, bl_cell (bl_kp A0.out k) 28 _ rfl, bl_cell (bl_kp A0.out k) 29 _ rfl, bl_cell (bl_kp A0.out k) 30 _ rfl, bl_cell (bl_kp A0.out k) 31 _ rfl, bl_cell (bl_kp A0.out k) 32 _ rfl, bl_cell (bl_kp A0.out k) 33 _ rfl, bl_cell (bl_kp A0.out k) 34 _ rfl, bl_cell (bl_kp A0.out k) 37 _ rfl, k⟩
  refine wp_region_noPanic ?_
  refine hdrew MK Q0 (fun hH => ?_)
  have KQ := Q0
  refine tk 0 (some 5) (.fieldAddr 37 (.tmp 2) 5) 0 (v := ?v0c1) rfl ?h0c1 hH ?_
  case h0c1 => intro _ _; go_simp; try with_reducible rfl
  try simp only [ps]
  refine tk 1 (some 6) (.load 27 (.tmp 5)) 27 (v := ?v1c2) rfl ?h1c2 hH ?_
  case h1c2 => intro _ _; go_simp; try with_reducible rfl
  try simp only [ps]
  refine tk 2 (some 7) (.move (.tmp 1)) 4 (v := ?v2c3) rfl ?h2c3 hH ?_
  case h2c3 => intro _ _; go_simp; try with_reducible rfl
  try simp only [ps]
  refine wpAnyH_ready (rs := [3]) (by kernel_rfl) (by simp) ?_
  refine AllReadyH.cons (o := { dst := some 8, op := .call { callee := .value (.func 110), args := #[.tmp 6, .tmp 7], argTypes := #[27, 4] }, type := 4, pos := "right.go:101", after := _, guard := none }) rfl (fun K hKq => ?_) AllReadyH.nil
  go_simp
  refine (C1.out _ (I0.out.kp KQ).r).mono ?_
  rintro e y1 ⟨rfl, kq⟩
  refine hKq.out _ _ (MK.out _ (KQ.trans kq)) (fun hN => ?_)
  clear kq
  clear hKq K hH KQ
  have hH := hN
  clear hN
  have KQ := hH.2.2.2.2.2.2.2.2.2.2.2.2.out
  try simp only [ps]
  refine tk 4 (some 9) (.move (.tmp 8)) 4 (v := ?v4c4) rfl ?h4c4 hH ?_
  case h4c4 => intro _ _; go_simp; try with_reducible rfl
  try simp only [ps]
  refine tk 5 (some 10) (.fieldAddr 37 (.tmp 2) 6) 0 (v := ?v5c5) rfl ?h5c5 hH ?_
  case h5c5 => intro _ _; go_simp; try with_reducible rfl
  try simp only [ps]
  refine tk 6 (some 11) (.load 35 (.tmp 10)) 35 (v := ?v6c6) rfl ?h6c6 hH ?_
  case h6c6 => intro _ _; go_simp; try with_reducible rfl
  try simp only [ps]
  refine tk 7 (some 12) (.fieldAddr 37 (.tmp 2) 5) 0 (v := ?v7c7) rfl ?h7c7 hH ?_
  case h7c7 => intro _ _; go_simp; try with_reducible rfl
  try simp only [ps]
  refine tk 8 (some 13) (.load 27 (.tmp 12)) 27 (v := ?v8c8) rfl ?h8c8 hH ?_
  case h8c8 => intro _ _; go_simp; try with_reducible rfl
  try simp only [ps]
  refine wpAnyH_ready (rs := [9]) (by kernel_rfl) (by simp) ?_
  refine AllReadyH.cons (o := { dst := some 14, op := .call { callee := .value (.func 140), args := #[.tmp 13], argTypes := #[27] }, type := 3, pos := "right.go:101", after := _, guard := some (4, true) }) rfl (fun K hKq => ?_) AllReadyH.nil
  go_simp
  refine (C2.out _ (I0.out.kp KQ).r).mono ?_
  rintro e y2 ⟨rfl, kq⟩
  refine hKq.out _ _ (MK.out _ (KQ.trans kq)) (fun hN => ?_)
  clear kq
  clear hKq K hH KQ
  have hH := hN
  clear hN
  have KQ := hH.2.2.2.2.2.2.2.2.2.2.2.2.out
  try simp only [ps]
  refine wpAnyH_ready (rs := [10]) (by kernel_rfl) (by simp) ?_
  refine AllReadyH.cons (o := { dst := some 15, op := .call { callee := .value (.func 139), args := #[.tmp 11, .tmp 14], argTypes := #[35, 3] }, type := 4, pos := "right.go:101", after := _, guard := some (4, true) }) rfl (fun K hKq => ?_) AllReadyH.nil
  go_simp
  refine (C3.out _ (I0.out.kp KQ).p).mono ?_
  rintro e y3 ⟨rfl, kq⟩
  refine hKq.out _ _ (MK.out _ (KQ.trans kq)) (fun hN => ?_)
  clear kq
  clear hKq K hH KQ
  have hH := hN
  clear hN
  have KQ := hH.2.2.2.2.2.2.2.2.2.2.2.2.out
  try simp only [ps]
  refine tk 11 (some 16) (.pick (.tmp 9) (.tmp 15) (.const (.bool false))) 4 (v := ?v11c9) rfl ?h11c9 hH ?_
  case h11c9 => intro _ _; go_simp; try with_reducible rfl
  try simp only [ps]
  refine tk 12 (some 17) (.move (.tmp 16)) 4 (v := ?v12c10) rfl ?h12c10 hH ?_
  case h12c10 => intro _ _; go_simp; try with_reducible rfl
  try simp only [ps]
  refine tk 13 (some 18) (.fieldAddr 37 (.tmp 2) 9) 0 (v := ?v13c11) rfl ?h13c11 hH ?_
  case h13c11 => intro _ _; go_simp; try with_reducible rfl
  try simp only [ps]
  refine tk 14 (some 19) (.load 3 (.tmp 18)) 3 (v := ?v14c12) rfl ?h14c12 hH ?_
  case h14c12 => intro _ _; go_simp; try with_reducible rfl
  try simp only [ps]
  refine tk 15 (some 20) (.binOp .leq 3 (.const (.int .i64 0)) (.tmp 19) 3) 4 (v := ?v15c13) rfl ?h15c13 hH ?_
  case h15c13 => intro _ _; go_simp; try with_reducible rfl
  try simp only [ps]
  refine tk 16 (some 21) (.pick (.tmp 17) (.tmp 20) (.const (.bool false))) 4 (v := ?v16c14) rfl ?h16c14 hH ?_
  case h16c14 => intro _ _; go_simp; try with_reducible rfl
  try simp only [ps]
  refine tk 17 (some 22) (.move (.tmp 21)) 4 (v := ?v17c15) rfl ?h17c15 hH ?_
  case h17c15 => intro _ _; go_simp; try with_reducible rfl
  try simp only [ps]
  refine tn 18 (some 23) (.fieldAddr 37 (.tmp 2) 9) 0 rfl hH ?_
  try simp only [ps]
  refine tn 19 (some 24) (.load 3 (.tmp 23)) 3 rfl hH ?_
  try simp only [ps]
  refine tn 20 (some 25) (.binOp .leq 3 (.tmp 24) (.const (.int .i64 99)) 3) 4 rfl hH ?_
  try simp only [ps]
  refine tk 21 (some 26) (.pick (.tmp 22) (.tmp 25) (.const (.bool false))) 4 (v := ?v21c19) rfl ?h21c19 hH ?_
  case h21c19 => intro _ _; go_simp; try with_reducible rfl
  try simp only [ps]
  refine tk 22 (some 27) (.move (.tmp 26)) 4 (v := ?v22c20) rfl ?h22c20 hH ?_
  case h22c20 => intro _ _; go_simp; try with_reducible rfl
  try simp only [ps]
  refine tn 23 (some 28) (.fieldAddr 37 (.tmp 2) 4) 0 rfl hH ?_
  try simp only [ps]
  refine tn 24 (some 29) (.load 9 (.tmp 28)) 9 rfl hH ?_
  try simp only [ps]
  refine tn 25 (some 30) (.call { callee := .value (.func 102), args := #[.tmp 29], argTypes := #[9] }) 4 rfl hH ?_
  try simp only [ps]
  refine tk 26 (some 31) (.pick (.tmp 27) (.tmp 30) (.const (.bool false))) 4 (v := ?v26c24) rfl ?h26c24 hH ?_
  case h26c24 => intro _ _; go_simp; try with_reducible rfl
  try simp only [ps]
  refine tk 27 (some 4) (.assign (.tmp 31)) 4 (v := ?v27c25) rfl ?h27c25 hH ?_
  case h27c25 => intro _ _; go_simp; try with_reducible rfl
  try simp only [ps]
  refine wpAnyH_done (by kernel_rfl) ?_ _
  refine NoPanic.normal ?_
  have E2 : Hid (E = false) := by show _ = _; rw [← HE.out]; simp only [Bool.and_false, Bool.false_and, Bool.and_true]
  go_wp2_with fail
  go_ret
  exact ⟨by rw [E2.out]; rfl, K0.out.trans KQ⟩
 have gu : (0 : Int) ≤ c.nth := of_decide_eq_true hu
 cases v
 ·
  have gv : ¬ c.nth ≤ 99 := of_decide_eq_false hv
  have Q0 : Kp W0 W0.drew := (Kp.refl _).drew
  have MK : Hid (∀ W, Kp W0 W → W.cell? ⟨w.heap.size, 24, none⟩ = some (.string c.tx) ∧ W.cell? ⟨w.heap.size, 25, none⟩ = some (.int .i64 c.r.k) ∧ W.cell? ⟨w.heap.size, 26, none⟩ = some (.int .i64 c.r.mn) ∧ W.cell? ⟨w.heap.size, 27, none⟩ = some (.int .i64 c.r.mx) ∧ W.cell? ⟨w.heap.size, 28, none⟩ = some (.int .i64 c.r.m) ∧ W.cell? ⟨w.heap.size, 29, none⟩ = some (.int .u64 (c.r.t.a : Int)) ∧ W.cell? ⟨w.heap.size, 30, none⟩ = some (.int .u64 (c.r.t.b : Int)) ∧ W.cell? ⟨w.heap.size, 31, none⟩ = some (.int .u64 (c.r.t.c : Int)) ∧ W.cell? ⟨w.heap.size, 32, none⟩ = some (.int .u64 (c.r.t.d : Int)) ∧ W.cell? ⟨w.heap.size, 33, none⟩ = some (.slice c.r.ad c.r.l c.r.c) ∧ W.cell? ⟨w.heap.size, 34, none⟩ = some (.slice c.pa c.pl c.pc) ∧ W.cell? ⟨w.heap.size, 37, none⟩ = some (.int .i64 c.nth) ∧ Hid (Kp W0 W)) := fun W k => ⟨bl_cell (bl_kp A0.out k) 24 _ rfl, bl_cell (bl_kp A0.out k) 25 _ rfl, bl_cell (bl_kp A0.out k) 26 _ rfl, bl_cell (bl_kp A0.out k) 27 _ rfl, bl_cell (bl_kp A0.out k) 28 _ rfl, bl_cell (bl_kp A0.out k) 29 _ rfl, bl_cell (bl_kp A0.out k) 30 _ rfl, bl_cell (bl_kp A0.out k) 31 _ rfl, bl_cell (bl_kp A0.out k) 32 _ rfl, bl_cell (bl_kp A0.out k) 33 _ rfl, bl_cell (bl_kp A0.out k) 34 _ rfl, bl_cell (bl_kp A0.out k) 37 _ rfl, k⟩
  refine wp_region_noPanic ?_
  refine hdrew MK Q0 (fun hH => ?_)
  have KQ := Q0
  refine tk 0 (some 5) (.fieldAddr 37 (.tmp 2) 5) 0 (v := ?v0d1) rfl ?h0d1 hH ?_
  case h0d1 => intro _ _; go_simp; try with_reducible rfl
  try simp only [ps]
  refine tk 1 (some 6) (.load 27 (.tmp 5)) 27 (v := ?v1d2) rfl ?h1d2 hH ?_
  case h1d2 => intro _ _; go_simp; try with_reducible rfl
  try simp only [ps]
  refine tk 2 (some 7) (.move (.tmp 1)) 4 (v := ?v2d3) rfl ?h2d3 hH ?_
  case h2d3 => intro _ _; go_simp; try with_reducible rfl
  try simp only [ps]
  refine wpAnyH_ready (rs := [3]) (by kernel_rfl) (by simp) ?_
  refine AllReadyH.cons (o := { dst := some 8, op := .call { callee := .value (.func 110), args := #[.tmp 6, .tmp 7], argTypes := #[27, 4] }, type := 4, pos := "right.go:101", after := _, guard := none }) rfl (fun K hKq => ?_) AllReadyH.nil
  go_simp
  refine (C1.out _ (I0.out.kp KQ).r).mono ?_
  rintro e y1 ⟨rfl, kq⟩
  refine hKq.out _ _ (MK.out _ (KQ.trans kq)) (fun hN => ?_)
  clear kq
  clear hKq K hH KQ
  have hH := hN
  clear hN
  have KQ := hH.2.2.2.2.2.2.2.2.2.2.2.2.out
  try simp only [ps]
  refine tk 4 (some 9) (.move (.tmp 8)) 4 (v := ?v4d4) rfl ?h4d4 hH ?_
  case h4d4 => intro _ _; go_simp; try with_reducible rfl
  try simp only [ps]
  refine tk 5 (some 10) (.fieldAddr 37 (.tmp 2) 6) 0 (v := ?v5d5) rfl ?h5d5 hH ?_
  case h5d5 => intro _ _; go_simp; try with_reducible rfl
  try simp only [ps]
  refine tk 6 (some 11) (.load 35 (.tmp 10)) 35 (v := ?v6d6) rfl ?h6d6 hH ?_
  case h6d6 => intro _ _; go_simp; try with_reducible rfl
  try simp only [ps]
  refine tk 7 (some 12) (.fieldAddr 37 (.tmp 2) 5) 0 (v := ?v7d7) rfl ?h7d7 hH ?_
  case h7d7 => intro _ _; go_simp; try with_reducible rfl
  try simp only [ps]
  refine tk 8 (some 13) (.load 27 (.tmp 12)) 27 (v := ?v8d8) rfl ?h8d8 hH ?_
  case h8d8 => intro _ _; go_simp; try with_reducible rfl
  try simp only [ps]
  refine wpAnyH_ready (rs := [9]) (by kernel_rfl) (by simp) ?_
  refine AllReadyH.cons (o := { dst := some 14, op := .call { callee := .value (.func 140), args := #[.tmp 13], argTypes := #[27] }, type := 3, pos := "right.go:101", after := _, guard := some (4, true) }) rfl (fun K hKq => ?_) AllReadyH.nil
  go_simp
  refine (C2.out _ (I0.out.kp KQ).r).mono ?_
  rintro e y2 ⟨rfl, kq⟩
  refine hKq.out _ _ (MK.out _ (KQ.trans kq)) (fun hN => ?_)
  clear kq
  clear hKq K hH KQ
  have hH := hN
  clear hN
  have KQ := hH.2.2.2.2.2.2.2.2.2.2.2.2.out
  try simp only [ps]
  refine wpAnyH_ready (rs := [10]) (by kernel_rfl) (by simp) ?_
  refine AllReadyH.cons (o := { dst := some 15, op := .call { callee := .value (.func 139), args := #[.tmp 11, .tmp 14], argTypes := #[35, 3] }, type := 4, pos := "right.go:101", after := _, guard := some (4, true) }) rfl (fun K hKq => ?_) AllReadyH.nil
  go_simp
  refine (C3.out _ (I0.out.kp KQ).p).mono ?_
  rintro e y3 ⟨rfl, kq⟩
  refine hKq.out _ _ (MK.out _ (KQ.trans kq)) (fun hN => ?_)
  clear kq
  clear hKq K hH KQ
  have hH := hN
  clear hN
  have KQ := hH.2.2.2.2.2.2.2.2.2.2.2.2.out
  try simp only [ps]
  refine tk 11 (some 16) (.pick (.tmp 9) (.tmp 15) (.const (.bool false))) 4 (v := ?v11d9) rfl ?h11d9 hH ?_
  case h11d9 => intro _ _; go_simp; try with_reducible rfl
  try simp only [ps]
  refine tk 12 (some 17) (.move (.tmp 16)) 4 (v := ?v12d10) rfl ?h12d10 hH ?_
  case h12d10 => intro _ _; go_simp; try with_reducible rfl
  try simp only [ps]
  refine tk 13 (some 18) (.fieldAddr 37 (.tmp 2) 9) 0 (v := ?v13d11) rfl ?h13d11 hH ?_
  case h13d11 => intro _ _; go_simp; try with_reducible rfl
  try simp only [ps]
  refine tk 14 (some 19) (.load 3 (.tmp 18)) 3 (v := ?v14d12) rfl ?h14d12 hH ?_
  case h14d12 => intro _ _; go_simp; try with_reducible rfl
  try simp only [ps]
  refine tk 15 (some 20) (.binOp .leq 3 (.const (.int .i64 0)) (.tmp 19) 3) 4 (v := ?v15d13) rfl ?h15d13 hH ?_
  case h15d13 => intro _ _; go_simp; try with_reducible rfl
  try simp only [ps]
  refine tk 16 (some 21) (.pick (.tmp 17) (.tmp 20) (.const (.bool false))) 4 (v := ?v16d14) rfl ?h16d14 hH ?_
  case h16d14 => intro _ _; go_simp; try with_reducible rfl
  try simp only [ps]
  refine tk 17 (some 22) (.move (.tmp 21)) 4 (v := ?v17d15) rfl ?h17d15 hH ?_
  case h17d15 => intro _ _; go_simp; try with_reducible rfl
  try simp only [ps]
  refine tk 18 (some 23) (.fieldAddr 37 (.tmp 2) 9) 0 (v := ?v18d16) rfl ?h18d16 hH ?_
  case h18d16 => intro _ _; go_simp; try with_reducible rfl
  try simp only [ps]
  refine tk 19 (some 24) (.load 3 (.tmp 23)) 3 (v := ?v19d17) rfl ?h19d17 hH ?_
  case h19d17 => intro _ _; go_simp; try with_reducible rfl
  try simp only [ps]
  refine tk 20 (some 25) (.binOp .leq 3 (.tmp 24) (.const (.int .i64 99)) 3) 4 (v := ?v20d18) rfl ?h20d18 hH ?_
  case h20d18 => intro _ _; go_simp; try with_reducible rfl
  try simp only [ps]
  refine tk 21 (some 26) (.pick (.tmp 22) (.tmp 25) (.const (.bool false))) 4 (v := ?v21d19) rfl ?h21d19 hH ?_
  case h21d19 => intro _ _; go_simp; try with_reducible rfl
  try simp only [ps]
  refine tk 22 (some 27) (.move (.tmp 26)) 4 (v := ?v22d20) rfl ?h22d20 hH ?_
  case h22d20 => intro _ _; go_simp; try with_reducible rfl
  try simp only [ps]
  refine tn 23 (some 28) (.fieldAddr 37 (.tmp 2) 4) 0 rfl hH ?_
  try simp only [ps]
  refine tn 24 (some 29) (.load 9 (.tmp 28)) 9 rfl hH ?_
  try simp only [ps]
  refine tn 25 (some 30) (.call { callee := .value (.func 102), args := #[.tmp 29], argTypes := #[9] }) 4 rfl hH ?_
  try simp only [ps]
  refine tk 26 (some 31) (.pick (.tmp 27) (.tmp 30) (.const (.bool false))) 4 (v := ?v26d24) rfl ?h26d24 hH ?_
  case h26d24 => intro _ _; go_simp; try with_reducible rfl
  try simp only [ps]
  refine tk 27 (some 4) (.assign (.tmp 31)) 4 (v := ?v27d25) rfl ?h27d25 hH ?_
  case h27d25 => intro _ _; go_simp; try with_reducible rfl
  try simp only [ps]
  refine wpAnyH_done (by kernel_rfl) ?_ _
  refine NoPanic.normal ?_
  have E2 : Hid (E = false) := by show _ = _; rw [← HE.out]; simp only [Bool.and_false, Bool.false_and, Bool.and_true]
  go_wp2_with fail
  go_ret
  exact ⟨by rw [E2.out]; rfl, K0.out.trans KQ⟩
 have gv : c.nth ≤ 99 := of_decide_eq_true hv
 have Q0 : Kp W0 W0.drew := (Kp.refl _).drew
 have MK : Hid (∀ W, Kp W0 W → W.cell? ⟨w.heap.size, 24, none⟩ = some (.string c.tx) ∧ W.cell? ⟨w.heap.size, 25, none⟩ = some (.int .i64 c.r.k) ∧ W.cell? ⟨w.heap.size, 26, none⟩ = some (.int .i64 c.r.mn) ∧ W.cell? ⟨w.heap.size, 27, none⟩ = some (.int .i64 c.r.mx) ∧ W.cell? ⟨w.heap.size, 28, none⟩ = some (.int .i64 c.r.m) ∧ W.cell? ⟨w.heap.size, 29, none⟩ = some (.int .u64 (c.r.t.a : Int)) ∧ W.cell? ⟨w.heap.size, 30, none⟩ = some (.int .u64 (c.r.t.b : Int)) ∧ W.cell? ⟨w.heap.size, 31, none⟩ = some (.int .u64 (c.r.t.c : Int)) ∧ W.cell? ⟨w.heap.size, 32, none⟩ = some (.int .u64 (c.r.t.d : Int)) ∧ W.cell? ⟨w.heap.size, 33, none⟩ = some (.slice c.r.ad c.r.l c.r.c) ∧ W.cell? ⟨w.heap.size, 34, none⟩ = some (.slice c.pa c.pl c.pc) ∧ W.cell? ⟨w.heap.size, 37, none⟩ = some (.int .i64 c.nth) ∧ Hid (Kp W0 W)) := fun W k => ⟨bl_cell (bl_kp A0.out k) 24 _ rfl, bl_cell (bl_kp A0.out k) 25 _ rfl, bl_cell (bl_kp A0.out k) 26 _ rfl, bl_cell (bl_kp A0.out k) 27 _ rfl, bl_cell (bl_kp A0.out k) 28 _ rfl, bl_cell (bl_kp A0.out k) 29 _ rfl, bl_cell (bl_kp A0.out k) 30 _ rfl, bl_cell (bl_kp A0.out k) 31 _ rfl, bl_cell (bl_kp A0.out k) 32 _ rfl, bl_cell (bl_kp A0.out k) 33 _ rfl, bl_cell (bl_kp A0.out k) 34 _ rfl, bl_cell (bl_kp A0.out k) 37 _ rfl, k⟩
 refine wp_region_noPanic ?_
 refine hdrew MK Q0 (fun hH => ?_)
 have KQ := Q0
 refine tk 0 (some 5) (.fieldAddr 37 (.tmp 2) 5) 0 (v := ?v0e1) rfl ?h0e1 hH ?_
 case h0e1 => intro _ _; go_simp; try with_reducible rfl
 try simp only [ps]
 refine tk 1 (some 6) (.load 27 (.tmp 5)) 27 (v := ?v1e2) rfl ?h1e2 hH ?_
 case h1e2 => intro _ _; go_simp; try with_reducible rfl
 try simp only [ps]
 refine tk 2 (some 7) (.move (.tmp 1)) 4 (v := ?v2e3) rfl ?h2e3 hH ?_
 case h2e3 => intro _ _; go_simp; try with_reducible rfl
 try simp only [ps]
 refine wpAnyH_ready (rs := [3]) (by kernel_rfl) (by simp) ?_
 refine AllReadyH.cons (o := { dst := some 8, op := .call { callee := .value (.func 110), args := #[.tmp 6, .tmp 7], argTypes := #[27, 4] }, type := 4, pos := "right.go:101", after := _, guard := none }) rfl (fun K hKq => ?_) AllReadyH.nil
 go_simp
 refine (C1.out _ (I0.out.kp KQ).r).mono ?_
 rintro e y1 ⟨rfl, kq⟩
 refine hKq.out _ _ (MK.out _ (KQ.trans kq)) (fun hN => ?_)
 clear kq
 clear hKq K hH KQ
 have hH := hN
 clear hN
 have KQ := hH.2.2.2.2.2.2.2.2.2.2.2.2.out
 try simp only [ps]
 refine tk 4 (some 9) (.move (.tmp 8)) 4 (v := ?v4e4) rfl ?h4e4 hH ?_
 case h4e4 => intro _ _; go_simp; try with_reducible rfl
 try simp only [ps]
 refine tk 5 (some 10) (.fieldAddr 37 (.tmp 2) 6) 0 (v := ?v5e5) rfl ?h5e5 hH ?_
 case h5e5 => intro _ _; go_simp; try with_reducible rfl
 try simp only [ps]
 refine tk 6 (some 11) (.load 35 (.tmp 10)) 35 (v := ?v6e6) rfl ?h6e6 hH ?_
 case h6e6 => intro _ _; go_simp; try with_reducible rfl
 try simp only [ps]
 refine tk 7 (some 12) (.fieldAddr 37 (.tmp 2) 5) 0 (v := ?v7e7) rfl ?h7e7 hH ?_
 case h7e7 => intro _ _; go_simp; try with_reducible rfl
 try simp only [ps]
 refine tk 8 (some 13) (.load 27 (.tmp 12)) 27 (v := ?v8e8) rfl ?h8e8 hH ?_
 case h8e8 => intro _ _; go_simp; try with_reducible rfl
 try simp only [ps]
 refine wpAnyH_ready (rs := [9]) (by kernel_rfl) (by simp) ?_
 refine AllReadyH.cons (o := { dst := some 14, op := .call { callee := .value (.func 140), args := #[.tmp 13], argTypes := #[27] }, type := 3, pos := "right.go:101", after := _, guard := some (4, true) }) rfl (fun K hKq => ?_) AllReadyH.nil
 go_simp
 refine (C2.out _ (I0.out.kp KQ).r).mono ?_
 rintro e y2 ⟨rfl, kq⟩
 refine hKq.out _ _ (MK.out _ (KQ.trans kq)) (fun hN => ?_)
 clear kq
 clear hKq K hH KQ
 have hH := hN
 clear hN
 have KQ := hH.2.2.2.2.2.2.2.2.2.2.2.2.out
 try simp only [ps]
 refine wpAnyH_ready (rs := [10]) (by kernel_rfl) (by simp) ?_
 refine AllReadyH.cons (o := { dst := some 15, op := .call { callee := .value (.func 139), args := #[.tmp 11, .tmp 14], argTypes := #[35, 3] }, type := 4, pos := "right.go:101", after := _, guard := some (4, true) }) rfl (fun K hKq => ?_) AllReadyH.nil
 go_simp
 refine (C3.out _ (I0.out.kp KQ).p).mono ?_
 rintro e y3 ⟨rfl, kq⟩
 refine hKq.out _ _ (MK.out _ (KQ.trans kq)) (fun hN => ?_)
 clear kq
 clear hKq K hH KQ
 have hH := hN
 clear hN
 have KQ := hH.2.2.2.2.2.2.2.2.2.2.2.2.out
 try simp only [ps]
 refine tk 11 (some 16) (.pick (.tmp 9) (.tmp 15) (.const (.bool false))) 4 (v := ?v11e9) rfl ?h11e9 hH ?_
 case h11e9 => intro _ _; go_simp; try with_reducible rfl
 try simp only [ps]
 refine tk 12 (some 17) (.move (.tmp 16)) 4 (v := ?v12e10) rfl ?h12e10 hH ?_
 case h12e10 => intro _ _; go_simp; try with_reducible rfl
 try simp only [ps]
 refine tk 13 (some 18) (.fieldAddr 37 (.tmp 2) 9) 0 (v := ?v13e11) rfl ?h13e11 hH ?_
 case h13e11 => intro _ _; go_simp; try with_reducible rfl
 try simp only [ps]
 refine tk 14 (some 19) (.load 3 (.tmp 18)) 3 (v := ?v14e12) rfl ?h14e12 hH ?_
 case h14e12 => intro _ _; go_simp; try with_reducible rfl
 try simp only [ps]
 refine tk 15 (some 20) (.binOp .leq 3 (.const (.int .i64 0)) (.tmp 19) 3) 4 (v := ?v15e13) rfl ?h15e13 hH ?_
 case h15e13 => intro _ _; go_simp; try with_reducible rfl
 try simp only [ps]
 refine tk 16 (some 21) (.pick (.tmp 17) (.tmp 20) (.const (.bool false))) 4 (v := ?v16e14) rfl ?h16e14 hH ?_
 case h16e14 => intro _ _; go_simp; try with_reducible rfl
 try simp only [ps]
 refine tk 17 (some 22) (.move (.tmp 21)) 4 (v := ?v17e15) rfl ?h17e15 hH ?_
 case h17e15 => intro _ _; go_simp; try with_reducible rfl
 try simp only [ps]
 refine tk 18 (some 23) (.fieldAddr 37 (.tmp 2) 9) 0 (v := ?v18e16) rfl ?h18e16 hH ?_
 case h18e16 => intro _ _; go_simp; try with_reducible rfl
 try simp only [ps]
 refine tk 19 (some 24) (.load 3 (.tmp 23)) 3 (v := ?v19e17) rfl ?h19e17 hH ?_
 case h19e17 => intro _ _; go_simp; try with_reducible rfl
 try simp only [ps]
 refine tk 20 (some 25) (.binOp .leq 3 (.tmp 24) (.const (.int .i64 99)) 3) 4 (v := ?v20e18) rfl ?h20e18 hH ?_
 case h20e18 => intro _ _; go_simp; try with_reducible rfl
 try simp only [ps]
 refine tk 21 (some 26) (.pick (.tmp 22) (.tmp 25) (.const (.bool false))) 4 (v := ?v21e19) rfl ?h21e19 hH ?_
 case h21e19 => intro _ _; go_simp; try with_reducible rfl
 try simp only [ps]
 refine tk 22 (some 27) (.move (.tmp 26)) 4 (v := ?v22e20) rfl ?h22e20 hH ?_
 case h22e20 => intro _ _; go_simp; try with_reducible rfl
 try simp only [ps]
 refine tk 23 (some 28) (.fieldAddr 37 (.tmp 2) 4) 0 (v := ?v23e21) rfl ?h23e21 hH ?_
 case h23e21 => intro _ _; go_simp; try with_reducible rfl
 try simp only [ps]
 refine tk 24 (some 29) (.load 9 (.tmp 28)) 9 (v := ?v24e22) rfl ?h24e22 hH ?_
 case h24e22 => intro _ _; go_simp; try with_reducible rfl
 try simp only [ps]
 refine wpAnyH_ready (rs := [25]) (by kernel_rfl) (by simp) ?_
 refine AllReadyH.cons (o := { dst := some 30, op := .call { callee := .value (.func 102), args := #[.tmp 29], argTypes := #[9] }, type := 4, pos := "right.go:102", after := _, guard := some (22, true) }) rfl (fun K hKq => ?_) AllReadyH.nil
 go_simp
 refine (C4.out _).mono ?_
 rintro e y4 ⟨rfl, kq⟩
 refine hKq.out _ _ (MK.out _ (KQ.trans kq)) (fun hN => ?_)
 clear kq
 clear hKq K hH KQ
 have hH := hN
 clear hN
 have KQ := hH.2.2.2.2.2.2.2.2.2.2.2.2.out
 try simp only [ps]
 refine tk 26 (some 31) (.pick (.tmp 27) (.tmp 30) (.const (.bool false))) 4 (v := ?v26e23) rfl ?h26e23 hH ?_
 case h26e23 => intro _ _; go_simp; try with_reducible rfl
 try simp only [ps]
 refine tk 27 (some 4) (.assign (.tmp 31)) 4 (v := ?v27e24) rfl ?h27e24 hH ?_
 case h27e24 => intro _ _; go_simp; try with_reducible rfl
 try simp only [ps]
 refine wpAnyH_done (by kernel_rfl) ?_ _
 refine NoPanic.normal ?_
 have E2 : Hid (E = l) := by show _ = _; rw [← HE.out]; simp only [Bool.true_and, Bool.and_true]
 go_wp2_with fail
 go_ret
 exact ⟨by rw [E2.out]; rfl, K0.out.trans KQ⟩
end Go.Proofs.YtigdmebijbaofaaGreatDoor
