/-
  Texts of this claim: CmD.
-/
import Derived.Test.YtommgdgilcemdaaGreatDoorCmdLM25

/-! ### CmD -/

namespace Go.Proofs.YtommgdgilcemdaaGreatDoor
open Go.RowKit

theorem grp_le_nds : ∀ T : Rx, grp T ≤ nds T
 | .mk k mn mx m s kids => by
  unfold grp nds
  have := grps_le kids
  split <;> omega
where grps_le : ∀ l : List Rx, grps l ≤ ndss l
 | [] => Nat.le_refl _
 | r :: l => by
  unfold grps ndss
  have := grp_le_nds r
  have := grps_le l
  omega
theorem grp_right (ere : Bool) (T : Rx) (h : right ere T = true) : grp T ≤ 1000000 := by
 have h1 := nds_right ere T h
 have h2 := grp_le_nds T
 omega
theorem wrt_right {ere : Bool} {T : Rx} (h : wrtR ere T = true) : right ere T = true := by
 unfold wrtR printT at h
 cases hr : right ere T
 ·
  rw [hr] at h; simp at h
 ·
  rfl

set_option maxHeartbeats 2000000 in
set_option maxRecDepth 100000 in
theorem placed_any (c : Cv) (A B R : Rx) (P : List Pc) (ere : Bool) (hO : COk c A B R P) (w : World) (hc : CIs w c A B R P) : Calls Tryz.prog 29 #[c.v, .bool ere] w fun e w' => e = .returned (.bool (placedR c A B ere)) ∧ Kp w w' := by
 obtain ⟨E, hE⟩ : ∃ E, placedR c A B ere = E := ⟨_, rfl⟩
 rw [hE]
 obtain ⟨p, hp⟩ : ∃ p, adR c.a.k c.a.ln A ere = p := ⟨_, rfl⟩
 obtain ⟨q, hq⟩ : ∃ p, adR c.b.k c.b.ln B ere = p := ⟨_, rfl⟩
 obtain ⟨n, hn⟩ : ∃ n, addrsN c.op = n := ⟨_, rfl⟩
 obtain ⟨x, hx⟩ : ∃ x, decide (c.a.k = 0) = x := ⟨_, rfl⟩
 obtain ⟨y, hy⟩ : ∃ x, decide (c.b.k = 0) = x := ⟨_, rfl⟩
 have hnn : n = 0 ∨ n = 1 ∨ n = 2 := by rw [← hn]; unfold addrsN; split <;> (try split) <;> omega
 have C1 : Hid (∀ w, c.a.r.is w A → Calls Tryz.prog 50 #[c.a.v, .bool ere] w fun e w' => e = .returned (.bool p) ∧ Kp w w') := fun w h => by rw [← hp]; exact addrRight_any c.a A ere hO.a w h
 have C2 : Hid (∀ w, c.b.r.is w B → Calls Tryz.prog 50 #[c.b.v, .bool ere] w fun e w' => e = .returned (.bool q) ∧ Kp w w') := fun w h => by rw [← hq]; exact addrRight_any c.b B ere hO.b w h
 have C3 : Hid (∀ w, Calls Tryz.prog 65 #[.int .u8 (c.op : Int)] w fun e w' => e = .returned (.int .i64 (n : Int)) ∧ w' = w) := fun w => by rw [← hn]; exact addrs_any c.op w
 have HE : Hid ((p && q && (if n = 0 then x && y && !c.nt else if n = 1 then y else !x || y)) = E) := by show _ = _; rw [← hE, ← hp, ← hq, ← hn, ← hx, ← hy]; rfl
 have gx : Hid ((c.a.k == 0) = x) := by show _ = _; rw [← hx]; by_cases h : c.a.k = 0 <;> simp [h]
 have gy : Hid ((c.b.k == 0) = y) := by show _ = _; rw [← hy]; by_cases h : c.b.k = 0 <;> simp [h]
 have gz : Hid ((c.a.k != 0) = !x) := by show _ = _; rw [bne, gx.out]
 have HC := hid hc
 clear hE hp hq hn hx hy hc
 go_enter Tryz.func29, Tryz.ntmps29
 go_upto_region 1 with fail
 refine opq (fun W0 => W0.heap[w.heap.size]? = some c.o ∧ Kp w W0 ∧ CIs W0 c A B R P) ⟨by (first | exact last_at _ _ _ (by simp) | (refine bl_alloc ?_ _; first | exact last_at _ _ _ (by simp) | (refine bl_alloc ?_ _; first | exact last_at _ _ _ (by simp) | (refine bl_alloc ?_ _; exact last_at _ _ _ (by simp))))), by exact (by repeat (first | exact Kp.refl _ | refine Kp.alloc ?_ _ | refine Kp.drew ?_ | refine Kp.drewN _ ?_)), by exact HC.out.kp (by repeat (first | exact Kp.refl _ | refine Kp.alloc ?_ _ | refine Kp.drew ?_ | refine Kp.drewN _ ?_))⟩ ?_
 rintro W0 ⟨xA0, xK0, xI0⟩
 have A0 : Hid (W0.heap[w.heap.size]? = some c.o) := xA0
 have K0 : Hid (Kp w W0) := xK0
 have I0 : Hid (CIs W0 c A B R P) := xI0
 clear xA0 xK0 xI0
 clear HC
 have a0 := bl_cell A0.out 0 (.int .i64 c.a.k) rfl
 have a1 := bl_cell A0.out 1 (.int .i64 c.a.ln) rfl
 have a2 := bl_cell A0.out 2 (.int .i64 c.a.r.k) rfl
 have a3 := bl_cell A0.out 3 (.int .i64 c.a.r.mn) rfl
 have a4 := bl_cell A0.out 4 (.int .i64 c.a.r.mx) rfl
 have a5 := bl_cell A0.out 5 (.int .i64 c.a.r.m) rfl
 have a6 := bl_cell A0.out 6 (.int .u64 (c.a.r.t.a : Int)) rfl
 have a7 := bl_cell A0.out 7 (.int .u64 (c.a.r.t.b : Int)) rfl
 have a8 := bl_cell A0.out 8 (.int .u64 (c.a.r.t.c : Int)) rfl
 have a9 := bl_cell A0.out 9 (.int .u64 (c.a.r.t.d : Int)) rfl
 have a10 := bl_cell A0.out 10 (.slice c.a.r.ad c.a.r.l c.a.r.c) rfl
 go_wp2_with fail
 clear a0 a1 a2 a3 a4 a5 a6 a7 a8 a9 a10
 refine (C1.out _ I0.out.a).mono ?_
 rintro e W1 ⟨rfl, k1⟩
 have A1 := hid (bl_kp A0.out k1)
 have I1 := hid (I0.out.kp k1)
 have K1 := hid (K0.out.trans k1)
 clear k1
 cases p
 ·
  have E2 : Hid (E = false) := by show _ = _; rw [← HE.out]; rfl
  go_wp2_with fail
  go_ret
  exact ⟨by rw [E2.out]; rfl, K1.out⟩
 have a11 := bl_cell A1.out 11 (.int .i64 c.b.k) rfl
 have a12 := bl_cell A1.out 12 (.int .i64 c.b.ln) rfl
 have a13 := bl_cell A1.out 13 (.int .i64 c.b.r.k) rfl
 have a14 := bl_cell A1.out 14 (.int .i64 c.b.r.mn) rfl
 have a15 := bl_cell A1.out 15 (.int .i64 c.b.r.mx) rfl
 have a16 := bl_cell A1.out 16 (.int .i64 c.b.r.m) rfl
 have a17 := bl_cell A1.out 17 (.int .u64 (c.b.r.t.a : Int)) rfl
 have a18 := bl_cell A1.out 18 (.int .u64 (c.b.r.t.b : Int)) rfl
 have a19 := bl_cell A1.out 19 (.int .u64 (c.b.r.t.c : Int)) rfl
 have a20 := bl_cell A1.out 20 (.int .u64 (c.b.r.t.d : Int)) rfl
 have a21 := bl_cell A1.out 21 (.slice c.b.r.ad c.b.r.l c.b.r.c) rfl
 go_wp2_with fail
 clear a11 a12 a13 a14 a15 a16 a17 a18 a19 a20 a21
 refine (C2.out _ I1.out.b).mono ?_
 rintro e W2 ⟨rfl, k1⟩
 have A2 := hid (bl_kp A1.out k1)
 have I2 := hid (I1.out.kp k1)
 have K2 := hid (K1.out.trans k1)
 clear k1
 cases q
 ·
  have E2 : Hid (E = false) := by show _ = _; rw [← HE.out]; rfl
  go_wp2_with fail
  go_ret
  exact ⟨by rw [E2.out]; rfl, K2.out⟩
 have a0 := bl_cell A2.out 0 (.int .i64 c.a.k) rfl
 have a11 := bl_cell A2.out 11 (.int .i64 c.b.k) rfl
 have a22 := bl_cell A2.out 22 (.bool c.nt) rfl
 have a23 := bl_cell A2.out 23 (.int .u8 (c.op : Int)) rfl
 go_wp2_with fail
 refine (C3.out _).mono ?_
 rintro e w' ⟨rfl, rfl⟩
 obtain ⟨z, hz⟩ : ∃ z, c.nt = z := ⟨_, rfl⟩
 rw [hz] at a22 HE
 clear hz
 have hx := gx.out
 have hy := gy.out
 have hz := gz.out
 rcases hnn with rfl | rfl | rfl
 ·
  cases x
  ·
   have E2 : Hid (E = false) := by show _ = _; rw [← HE.out]; rfl
   go_wp2_with fail
   go_ret
   exact ⟨by rw [E2.out]; rfl, K2.out⟩
  ·
   cases y
   ·
    have E2 : Hid (E = false) := by show _ = _; rw [← HE.out]; rfl
    go_wp2_with fail
    go_ret
    exact ⟨by rw [E2.out]; rfl, K2.out⟩
   ·
    have E2 : Hid (E = !z) := by show _ = _; rw [← HE.out]; rfl
    go_wp2_with fail
    go_ret
    exact ⟨by rw [E2.out]; rfl, K2.out⟩
 ·
  have E2 : Hid (E = y) := by show _ = _; rw [← HE.out]; rfl
  go_wp2_with fail
  go_ret
  exact ⟨by rw [E2.out]; rfl, K2.out⟩
 ·
  cases x
  ·
   have E2 : Hid (E = true) := by show _ = _; rw [← HE.out]; rfl
   go_wp2_with fail
   go_ret
   exact ⟨by rw [E2.out]; rfl, K2.out⟩
  ·
   have E2 : Hid (E = y) := by show _ = _; rw [← HE.out]; rfl
   go_wp2_with fail
   go_ret
   exact ⟨by rw [E2.out]; rfl, K2.out⟩

set_option maxHeartbeats 2000000 in
set_option maxRecDepth 100000 in
theorem substRight_any (c : Cv) (A B R : Rx) (P : List Pc) (ere : Bool) (hO : COk c A B R P) (w : World) (hc : CIs w c A B R P) : Calls Tryz.prog 67 #[c.v, .bool ere] w fun e w' => e = .returned (.bool (substR c R P ere)) ∧ Kp w w' := by
 obtain ⟨E, hE⟩ : ∃ E, substR c R P ere = E := ⟨_, rfl⟩
 rw [hE]
 obtain ⟨p, hp⟩ : ∃ p, wrtR ere R = p := ⟨_, rfl⟩
 obtain ⟨t, ht⟩ : ∃ p, tplR P (grp R) = p := ⟨_, rfl⟩
 obtain ⟨u, hu⟩ : ∃ p, decide (0 ≤ c.nth) = p := ⟨_, rfl⟩
 obtain ⟨v, hv⟩ : ∃ p, decide (c.nth ≤ 99) = p := ⟨_, rfl⟩
 obtain ⟨l, hl⟩ : ∃ p, labO c.tx = p := ⟨_, rfl⟩
 have HE : Hid ((p && t && u && v && l) = E) := by show _ = _; rw [← hE, ← hp, ← ht, ← hu, ← hv, ← hl]; rfl
 have C1 : Hid (∀ w, c.r.is w R → Calls Tryz.prog 74 #[c.r.v, .bool ere] w fun e w' => e = .returned (.bool p) ∧ Kp w w') := fun w h => by rw [← hp]; exact wrtR_any R ere hO.r c.r w h
 have hG : p = true → grp R ≤ 1000000 := fun h => grp_right ere R (by rw [h] at hp; exact wrt_right hp)
 have C3 : Hid (∀ w, PcAt w P c.pa c.pl c.pc → Calls Tryz.prog 92 #[.slice c.pa c.pl c.pc, .int .i64 ((grp R : Nat) : Int)] w fun e w' => e = .returned (.bool t) ∧ Kp w w') := fun w h => by rw [← ht]; exact tplRight_any P _ _ _ _ w h hO.p
 have C4 : Hid (∀ w, Calls Tryz.prog 66 #[.string c.tx] w fun e w' => e = .returned (.bool l) ∧ Kp w w') := fun w => by rw [← hl]; exact labelOrNone_any c.tx w hO.tx
 have HC := hid hc
 obtain ⟨G, hGG⟩ : ∃ G, grp R = G := ⟨_, rfl⟩
 have C2 : Hid (p = true → ∀ w, c.r.is w R → Calls Tryz.prog 93 #[c.r.v] w fun e w' => e = .returned (.int .i64 ((G : Nat) : Int)) ∧ Kp w w') := fun h w hi => by rw [← hGG]; exact (Groups_any R (hG h) (slim_of_ok R hO.r)).all _ _ w hi.is
 rw [hGG] at C3
 clear hE hp ht hl hc hG hGG
 go_enter Tryz.func67, Tryz.ntmps67
 go_upto_region 1 with fail
 refine opq (fun W0 => W0.heap[w.heap.size]? = some c.o ∧ Kp w W0 ∧ CIs W0 c A B R P) ⟨by (first | exact last_at _ _ _ (by simp) | (refine bl_alloc ?_ _; first | exact last_at _ _ _ (by simp) | (refine bl_alloc ?_ _; first | exact last_at _ _ _ (by simp) | (refine bl_alloc ?_ _; exact last_at _ _ _ (by simp))))), by exact (by repeat (first | exact Kp.refl _ | refine Kp.alloc ?_ _ | refine Kp.drew ?_ | refine Kp.drewN _ ?_)), by exact HC.out.kp (by repeat (first | exact Kp.refl _ | refine Kp.alloc ?_ _ | refine Kp.drew ?_ | refine Kp.drewN _ ?_))⟩ ?_
 rintro W0 ⟨xA0, xK0, xI0⟩
 have A0 : Hid (W0.heap[w.heap.size]? = some c.o) := xA0
 have K0 : Hid (Kp w W0) := xK0
 have I0 : Hid (CIs W0 c A B R P) := xI0
 clear xA0 xK0 xI0
 clear HC
 cases p
 ·
  clear C2
  have Q0 : Kp W0 W0.drew := (Kp.refl _).drew
  have MK : Hid (∀ W, Kp W0 W → W.cell? ⟨w.heap.size, 24, none⟩ = some (.string c.tx) ∧ W.cell? ⟨w.heap.size, 25, none⟩ = some (.int .i64 c.r.k) ∧ W.cell? ⟨w.heap.size, 26, none⟩ = some (.int .i64 c.r.mn) ∧ W.cell? ⟨w.heap.size, 27, none⟩ = some (.int .i64 c.r.mx) ∧ W.cell? ⟨w.heap.size, 28, none⟩ = some (.int .i64 c.r.m) ∧ W.cell? ⟨w.heap.size, 29, none⟩ = some (.int .u64 (c.r.t.a : Int)) ∧ W.cell? ⟨w.heap.size, 30, none⟩ = some (.int .u64 (c.r.t.b : Int)) ∧ W.cell? ⟨w.heap.size, 31, none⟩ = some (.int .u64 (c.r.t.c : Int)) ∧ W.cell? ⟨w.heap.size, 32, none⟩ = some (.int .u64 (c.r.t.d : Int)) ∧ W.cell? ⟨w.heap.size, 33, none⟩ = some (.slice c.r.ad c.r.l c.r.c) ∧ W.cell? ⟨w.heap.size, 34, none⟩ = some (.slice c.pa c.pl c.pc) ∧ W.cell? ⟨w.heap.size, 37, none⟩ = some (.int .i64 c.nth) ∧ Hid (Kp W0 W)) := fun W k => ⟨bl_cell (bl_kp A0.out k) 24 _ rfl, bl_cell (bl_kp A0.out k) 25 _ rfl, bl_cell (bl_kp A0.out k) 26 _ rfl, bl_cell (bl_kp A0.out k) 27 _ rfl, bl_cell (bl_kp A0.out k) 28 _ rfl, bl_cell (bl_kp A0.out k) 29 _ rfl, bl_cell (bl_kp A0.out k) 30 _ rfl, bl_cell (bl_kp A0.out k) 31 _ rfl, bl_cell (bl_kp A0.out k) 32 _ rfl, bl_cell (bl_kp A0.out k) 33 _ rfl, bl_cell (bl_kp A0.out k) 34 _ rfl, bl_cell (bl_kp A0.out k) 37 _ rfl, k⟩
  refine wp_region_noPanic ?_
  refine wp_region_held_drew (S := (fun W => W.cell? ⟨w.heap.size, 24, none⟩ = some (.string c.tx) ∧ W.cell? ⟨w.heap.size, 25, none⟩ = some (.int .i64 c.r.k) ∧ W.cell? ⟨w.heap.size, 26, none⟩ = some (.int .i64 c.r.mn) ∧ W.cell? ⟨w.heap.size, 27, none⟩ = some (.int .i64 c.r.mx) ∧ W.cell? ⟨w.heap.size, 28, none⟩ = some (.int .i64 c.r.m) ∧ W.cell? ⟨w.heap.size, 29, none⟩ = some (.int .u64 (c.r.t.a : Int)) ∧ W.cell? ⟨w.heap.size, 30, none⟩ = some (.int .u64 (c.r.t.b : Int)) ∧ W.cell? ⟨w.heap.size, 31, none⟩ = some (.int .u64 (c.r.t.c : Int)) ∧ W.cell? ⟨w.heap.size, 32, none⟩ = some (.int .u64 (c.r.t.d : Int)) ∧ W.cell? ⟨w.heap.size, 33, none⟩ = some (.slice c.r.ad c.r.l c.r.c) ∧ W.cell? ⟨w.heap.size, 34, none⟩ = some (.slice c.pa c.pl c.pc) ∧ W.cell? ⟨w.heap.size, 37, none⟩ = some (.int .i64 c.nth) ∧ Hid (Kp W0 W))) (by kernel_rfl) ?_ (fun hH => ?_)
  ·
   exact MK.out _ Q0
  have KQ := Q0
  refine wpAnyH_take (i := 0) (oi := { dst := some 5, op := Op.fieldAddr 37 (Operand.tmp 2) 5, type := 0, pos := "right.go:101", after := #[], guard := none }) (v := ?v0a1) rfl (by kernel_rfl) (by kernel_rfl) (by kernel_rfl) (fun _ _ _ h => h) (Or.inl ⟨by rfl, ?hy0a1⟩) hH ?r0a1
  case hy0a1 => (intro W hSw; (try dsimp only at hSw); go_simp; try (with_reducible rfl))
  try simp only [Act.put, List.setIfInBounds_toArray, List.set_cons_zero, List.set_cons_succ]
  refine wpAnyH_take (i := 1) (oi := { dst := some 6, op := Op.load 27 (Operand.tmp 5), type := 27, pos := "right.go:101", after := #[{ on := 0, ground := Ground.data }], guard := none }) (v := ?v1a2) rfl (by kernel_rfl) (by kernel_rfl) (by kernel_rfl) (fun _ _ _ h => h) (Or.inl ⟨by rfl, ?hy1a2⟩) hH ?r1a2
  case hy1a2 => (intro W hSw; (try dsimp only at hSw); go_simp; try (with_reducible rfl))
  try simp only [Act.put, List.setIfInBounds_toArray, List.set_cons_zero, List.set_cons_succ]
  refine wpAnyH_take (i := 2) (oi := { dst := some 7, op := Op.move (Operand.tmp 1), type := 4, pos := "right.go:101", after := #[], guard := none }) (v := ?v2a3) rfl (by kernel_rfl) (by kernel_rfl) (by kernel_rfl) (fun _ _ _ h => h) (Or.inl ⟨by rfl, ?hy2a3⟩) hH ?r2a3
  case hy2a3 => (intro W hSw; (try dsimp only at hSw); go_simp; try (with_reducible rfl))
  try simp only [Act.put, List.setIfInBounds_toArray, List.set_cons_zero, List.set_cons_succ]
  refine wpAnyH_ready (rs := [3]) (by kernel_rfl) (by simp) ?_
  refine AllReadyH.cons (o := { dst := some 8, op := Op.call { callee := Callee.value (Operand.func 74), args := #[Operand.tmp 6, Operand.tmp 7], argTypes := #[27, 4] }, type := 4, pos := "right.go:101", after := #[{ on := 1, ground := Ground.data }, { on := 2, ground := Ground.data }], guard := none }) rfl (fun K hKq => ?_) AllReadyH.nil
  go_simp
  refine (C1.out _ (I0.out.kp KQ).r).mono ?_
  rintro e y1 ⟨rfl, kq⟩
  refine hKq.out _ _ (MK.out _ (KQ.trans kq)) (fun hN => ?_)
  clear kq
  clear hKq K hH KQ
  have hH := hN
  clear hN
  have KQ := hH.2.2.2.2.2.2.2.2.2.2.2.2.out
  try simp only [Act.put, List.setIfInBounds_toArray, List.set_cons_zero, List.set_cons_succ]
  refine wpAnyH_take (i := 4) (oi := { dst := some 9, op := Op.move (Operand.tmp 8), type := 4, pos := "right.go:101", after := #[{ on := 3, ground := Ground.data }, { on := 3, ground := Ground.chain }], guard := none }) (v := ?v4a4) rfl (by kernel_rfl) (by kernel_rfl) (by kernel_rfl) (fun _ _ _ h => h) (Or.inl ⟨by rfl, ?hy4a4⟩) hH ?r4a4
  case hy4a4 => (intro W hSw; (try dsimp only at hSw); go_simp; try (with_reducible rfl))
  try simp only [Act.put, List.setIfInBounds_toArray, List.set_cons_zero, List.set_cons_succ]
  refine wpAnyH_take (i := 5) (oi := { dst := some 10, op := Op.fieldAddr 37 (Operand.tmp 2) 6, type := 0, pos := "right.go:101", after := #[{ on := 4, ground := Ground.guard }], guard := some (4, true) }) (v := undef) rfl (by kernel_rfl) (by kernel_rfl) (by kernel_rfl) (fun _ _ _ h => h) (Or.inr ⟨by rfl, rfl⟩) hH ?r5a5
  try simp only [Act.put, List.setIfInBounds_toArray, List.set_cons_zero, List.set_cons_succ]
  refine wpAnyH_take (i := 6) (oi := { dst := some 11, op := Op.load 35 (Operand.tmp 10), type := 35, pos := "right.go:101", after := #[{ on := 5, ground := Ground.data }, { on := 4, ground := Ground.guard }], guard := some (4, true) }) (v := undef) rfl (by kernel_rfl) (by kernel_rfl) (by kernel_rfl) (fun _ _ _ h => h) (Or.inr ⟨by rfl, rfl⟩) hH ?r6a6
  try simp only [Act.put, List.setIfInBounds_toArray, List.set_cons_zero, List.set_cons_succ]
  refine wpAnyH_take (i := 7) (oi := { dst := some 12, op := Op.fieldAddr 37 (Operand.tmp 2) 5, type := 0, pos := "right.go:101", after := #[{ on := 4, ground := Ground.guard }], guard := some (4, true) }) (v := undef) rfl (by kernel_rfl) (by kernel_rfl) (by kernel_rfl) (fun _ _ _ h => h) (Or.inr ⟨by rfl, rfl⟩) hH ?r7a7
  try simp only [Act.put, List.setIfInBounds_toArray, List.set_cons_zero, List.set_cons_succ]
  refine wpAnyH_take (i := 8) (oi := { dst := some 13, op := Op.load 27 (Operand.tmp 12), type := 27, pos := "right.go:101", after := #[{ on := 7, ground := Ground.data }, { on := 4, ground := Ground.guard }], guard := some (4, true) }) (v := undef) rfl (by kernel_rfl) (by kernel_rfl) (by kernel_rfl) (fun _ _ _ h => h) (Or.inr ⟨by rfl, rfl⟩) hH ?r8a8
  try simp only [Act.put, List.setIfInBounds_toArray, List.set_cons_zero, List.set_cons_succ]
  refine wpAnyH_take (i := 9) (oi := { dst := some 14, op := Op.call { callee := Callee.value (Operand.func 93), args := #[Operand.tmp 13], argTypes := #[27] }, type := 3, pos := "right.go:101", after := #[{ on := 8, ground := Ground.data }, { on := 4, ground := Ground.chain }, { on := 4, ground := Ground.guard }], guard := some (4, true) }) (v := undef) rfl (by kernel_rfl) (by kernel_rfl) (by kernel_rfl) (fun _ _ _ h => h) (Or.inr ⟨by rfl, rfl⟩) hH ?r9a9
  try simp only [Act.put, List.setIfInBounds_toArray, List.set_cons_zero, List.set_cons_succ]
  refine wpAnyH_take (i := 10) (oi := { dst := some 15, op := Op.call { callee := Callee.value (Operand.func 92), args := #[Operand.tmp 11, Operand.tmp 14], argTypes := #[35, 3] }, type := 4, pos := "right.go:101", after := #[{ on := 6, ground := Ground.data }, { on := 9, ground := Ground.data }, { on := 9, ground := Ground.chain }, { on := 4, ground := Ground.guard }], guard := some (4, true) }) (v := undef) rfl (by kernel_rfl) (by kernel_rfl) (by kernel_rfl) (fun _ _ _ h => h) (Or.inr ⟨by rfl, rfl⟩) hH ?r10a10
  try simp only [Act.put, List.setIfInBounds_toArray, List.set_cons_zero, List.set_cons_succ]
  refine wpAnyH_take (i := 11) (oi := { dst := some 16, op := Op.pick (Operand.tmp 9) (Operand.tmp 15) (Operand.const (Value.bool false)), type := 4, pos := "right.go:101", after := #[{ on := 4, ground := Ground.data }, { on := 10, ground := Ground.data }], guard := none }) (v := ?v11a11) rfl (by kernel_rfl) (by kernel_rfl) (by kernel_rfl) (fun _ _ _ h => h) (Or.inl ⟨by rfl, ?hy11a11⟩) hH ?r11a11
  case hy11a11 => (intro W hSw; (try dsimp only at hSw); go_simp; try (with_reducible rfl))
  try simp only [Act.put, List.setIfInBounds_toArray, List.set_cons_zero, List.set_cons_succ]
  refine wpAnyH_take (i := 12) (oi := { dst := some 17, op := Op.move (Operand.tmp 16), type := 4, pos := "right.go:101", after := #[{ on := 11, ground := Ground.data }, { on := 10, ground := Ground.chain }], guard := none }) (v := ?v12a12) rfl (by kernel_rfl) (by kernel_rfl) (by kernel_rfl) (fun _ _ _ h => h) (Or.inl ⟨by rfl, ?hy12a12⟩) hH ?r12a12
  case hy12a12 => (intro W hSw; (try dsimp only at hSw); go_simp; try (with_reducible rfl))
  try simp only [Act.put, List.setIfInBounds_toArray, List.set_cons_zero, List.set_cons_succ]
  refine wpAnyH_take (i := 13) (oi := { dst := some 18, op := Op.fieldAddr 37 (Operand.tmp 2) 9, type := 0, pos := "right.go:101", after := #[{ on := 12, ground := Ground.guard }], guard := some (12, true) }) (v := undef) rfl (by kernel_rfl) (by kernel_rfl) (by kernel_rfl) (fun _ _ _ h => h) (Or.inr ⟨by rfl, rfl⟩) hH ?r13a13
  try simp only [Act.put, List.setIfInBounds_toArray, List.set_cons_zero, List.set_cons_succ]
  refine wpAnyH_take (i := 14) (oi := { dst := some 19, op := Op.load 3 (Operand.tmp 18), type := 3, pos := "right.go:101", after := #[{ on := 13, ground := Ground.data }, { on := 12, ground := Ground.guard }], guard := some (12, true) }) (v := undef) rfl (by kernel_rfl) (by kernel_rfl) (by kernel_rfl) (fun _ _ _ h => h) (Or.inr ⟨by rfl, rfl⟩) hH ?r14a14
  try simp only [Act.put, List.setIfInBounds_toArray, List.set_cons_zero, List.set_cons_succ]
  refine wpAnyH_take (i := 15) (oi := { dst := some 20, op := Op.binOp BinOp.leq 3 (Operand.const (Value.int IntKind.i64 0)) (Operand.tmp 19) 3, type := 4, pos := "right.go:101", after := #[{ on := 14, ground := Ground.data }, { on := 12, ground := Ground.guard }], guard := some (12, true) }) (v := undef) rfl (by kernel_rfl) (by kernel_rfl) (by kernel_rfl) (fun _ _ _ h => h) (Or.inr ⟨by rfl, rfl⟩) hH ?r15a15
  try simp only [Act.put, List.setIfInBounds_toArray, List.set_cons_zero, List.set_cons_succ]
  refine wpAnyH_take (i := 16) (oi := { dst := some 21, op := Op.pick (Operand.tmp 17) (Operand.tmp 20) (Operand.const (Value.bool false)), type := 4, pos := "right.go:101", after := #[{ on := 12, ground := Ground.data }, { on := 15, ground := Ground.data }], guard := none }) (v := ?v16a16) rfl (by kernel_rfl) (by kernel_rfl) (by kernel_rfl) (fun _ _ _ h => h) (Or.inl ⟨by rfl, ?hy16a16⟩) hH ?r16a16
  case hy16a16 => (intro W hSw; (try dsimp only at hSw); go_simp; try (with_reducible rfl))
  try simp only [Act.put, List.setIfInBounds_toArray, List.set_cons_zero, List.set_cons_succ]
  refine wpAnyH_take (i := 17) (oi := { dst := some 22, op := Op.move (Operand.tmp 21), type := 4, pos := "right.go:101", after := #[{ on := 16, ground := Ground.data }, { on := 12, ground := Ground.chain }], guard := none }) (v := ?v17a17) rfl (by kernel_rfl) (by kernel_rfl) (by kernel_rfl) (fun _ _ _ h => h) (Or.inl ⟨by rfl, ?hy17a17⟩) hH ?r17a17
  case hy17a17 => (intro W hSw; (try dsimp only at hSw); go_simp; try (with_reducible rfl))
  try simp only [Act.put, List.setIfInBounds_toArray, List.set_cons_zero, List.set_cons_succ]
  refine wpAnyH_take (i := 18) (oi := { dst := some 23, op := Op.fieldAddr 37 (Operand.tmp 2) 9, type := 0, pos := "right.go:101", after := #[{ on := 17, ground := Ground.guard }], guard := some (17, true) }) (v := undef) rfl (by kernel_rfl) (by kernel_rfl) (by kernel_rfl) (fun _ _ _ h => h) (Or.inr ⟨by rfl, rfl⟩) hH ?r18a18
  try simp only [Act.put, List.setIfInBounds_toArray, List.set_cons_zero, List.set_cons_succ]
  refine wpAnyH_take (i := 19) (oi := { dst := some 24, op := Op.load 3 (Operand.tmp 23), type := 3, pos := "right.go:101", after := #[{ on := 18, ground := Ground.data }, { on := 17, ground := Ground.guard }], guard := some (17, true) }) (v := undef) rfl (by kernel_rfl) (by kernel_rfl) (by kernel_rfl) (fun _ _ _ h => h) (Or.inr ⟨by rfl, rfl⟩) hH ?r19a19
  try simp only [Act.put, List.setIfInBounds_toArray, List.set_cons_zero, List.set_cons_succ]
  refine wpAnyH_take (i := 20) (oi := { dst := some 25, op := Op.binOp BinOp.leq 3 (Operand.tmp 24) (Operand.const (Value.int IntKind.i64 99)) 3, type := 4, pos := "right.go:101", after := #[{ on := 19, ground := Ground.data }, { on := 17, ground := Ground.guard }], guard := some (17, true) }) (v := undef) rfl (by kernel_rfl) (by kernel_rfl) (by kernel_rfl) (fun _ _ _ h => h) (Or.inr ⟨by rfl, rfl⟩) hH ?r20a20
  try simp only [Act.put, List.setIfInBounds_toArray, List.set_cons_zero, List.set_cons_succ]
  refine wpAnyH_take (i := 21) (oi := { dst := some 26, op := Op.pick (Operand.tmp 22) (Operand.tmp 25) (Operand.const (Value.bool false)), type := 4, pos := "right.go:101", after := #[{ on := 17, ground := Ground.data }, { on := 20, ground := Ground.data }], guard := none }) (v := ?v21a21) rfl (by kernel_rfl) (by kernel_rfl) (by kernel_rfl) (fun _ _ _ h => h) (Or.inl ⟨by rfl, ?hy21a21⟩) hH ?r21a21
  case hy21a21 => (intro W hSw; (try dsimp only at hSw); go_simp; try (with_reducible rfl))
  try simp only [Act.put, List.setIfInBounds_toArray, List.set_cons_zero, List.set_cons_succ]
  refine wpAnyH_take (i := 22) (oi := { dst := some 27, op := Op.move (Operand.tmp 26), type := 4, pos := "right.go:101", after := #[{ on := 21, ground := Ground.data }, { on := 17, ground := Ground.chain }], guard := none }) (v := ?v22a22) rfl (by kernel_rfl) (by kernel_rfl) (by kernel_rfl) (fun _ _ _ h => h) (Or.inl ⟨by rfl, ?hy22a22⟩) hH ?r22a22
  case hy22a22 => (intro W hSw; (try dsimp only at hSw); go_simp; try (with_reducible rfl))
  try simp only [Act.put, List.setIfInBounds_toArray, List.set_cons_zero, List.set_cons_succ]
  refine wpAnyH_take (i := 23) (oi := { dst := some 28, op := Op.fieldAddr 37 (Operand.tmp 2) 4, type := 0, pos := "right.go:101", after := #[{ on := 22, ground := Ground.guard }], guard := some (22, true) }) (v := undef) rfl (by kernel_rfl) (by kernel_rfl) (by kernel_rfl) (fun _ _ _ h => h) (Or.inr ⟨by rfl, rfl⟩) hH ?r23a23
  try simp only [Act.put, List.setIfInBounds_toArray, List.set_cons_zero, List.set_cons_succ]
  refine wpAnyH_take (i := 24) (oi := { dst := some 29, op := Op.load 9 (Operand.tmp 28), type := 9, pos := "right.go:101", after := #[{ on := 23, ground := Ground.data }, { on := 22, ground := Ground.guard }], guard := some (22, true) }) (v := undef) rfl (by kernel_rfl) (by kernel_rfl) (by kernel_rfl) (fun _ _ _ h => h) (Or.inr ⟨by rfl, rfl⟩) hH ?r24a24
  try simp only [Act.put, List.setIfInBounds_toArray, List.set_cons_zero, List.set_cons_succ]
  refine wpAnyH_take (i := 25) (oi := { dst := some 30, op := Op.call { callee := Callee.value (Operand.func 66), args := #[Operand.tmp 29], argTypes := #[9] }, type := 4, pos := "right.go:102", after := #[{ on := 24, ground := Ground.data }, { on := 22, ground := Ground.chain }, { on := 22, ground := Ground.guard }], guard := some (22, true) }) (v := undef) rfl (by kernel_rfl) (by kernel_rfl) (by kernel_rfl) (fun _ _ _ h => h) (Or.inr ⟨by rfl, rfl⟩) hH ?r25a25
  try simp only [Act.put, List.setIfInBounds_toArray, List.set_cons_zero, List.set_cons_succ]
  refine wpAnyH_take (i := 26) (oi := { dst := some 31, op := Op.pick (Operand.tmp 27) (Operand.tmp 30) (Operand.const (Value.bool false)), type := 4, pos := "right.go:101", after := #[{ on := 22, ground := Ground.data }, { on := 25, ground := Ground.data }], guard := none }) (v := ?v26a26) rfl (by kernel_rfl) (by kernel_rfl) (by kernel_rfl) (fun _ _ _ h => h) (Or.inl ⟨by rfl, ?hy26a26⟩) hH ?r26a26
  case hy26a26 => (intro W hSw; (try dsimp only at hSw); go_simp; try (with_reducible rfl))
  try simp only [Act.put, List.setIfInBounds_toArray, List.set_cons_zero, List.set_cons_succ]
  refine wpAnyH_take (i := 27) (oi := { dst := some 4, op := Op.assign (Operand.tmp 31), type := 4, pos := "right.go:101", after := #[{ on := 26, ground := Ground.data }, { on := 25, ground := Ground.chain }, { on := 0, ground := Ground.phase }, { on := 1, ground := Ground.phase }, { on := 2, ground := Ground.phase }, { on := 3, ground := Ground.phase }, { on := 4, ground := Ground.phase }, { on := 5, ground := Ground.phase }, { on := 6, ground := Ground.phase }, { on := 7, ground := Ground.phase }, { on := 8, ground := Ground.phase }, { on := 9, ground := Ground.phase }, { on := 10, ground := Ground.phase }, { on := 11, ground := Ground.phase }, { on := 12, ground := Ground.phase }, { on := 13, ground := Ground.phase }, { on := 14, ground := Ground.phase }, { on := 15, ground := Ground.phase }, { on := 16, ground := Ground.phase }, { on := 17, ground := Ground.phase }, { on := 18, ground := Ground.phase }, { on := 19, ground := Ground.phase }, { on := 20, ground := Ground.phase }, { on := 21, ground := Ground.phase }, { on := 22, ground := Ground.phase }, { on := 23, ground := Ground.phase }, { on := 24, ground := Ground.phase }, { on := 25, ground := Ground.phase }, { on := 26, ground := Ground.phase }], guard := none }) (v := ?v27a27) rfl (by kernel_rfl) (by kernel_rfl) (by kernel_rfl) (fun _ _ _ h => h) (Or.inl ⟨by rfl, ?hy27a27⟩) hH ?r27a27
  case hy27a27 => (intro W hSw; (try dsimp only at hSw); go_simp; try (with_reducible rfl))
  try simp only [Act.put, List.setIfInBounds_toArray, List.set_cons_zero, List.set_cons_succ]
  refine wpAnyH_done (by kernel_rfl) ?_ _
  refine NoPanic.normal ?_
  have E2 : Hid (E = false) := by show _ = _; rw [← HE.out]; simp only [Bool.false_and]
  go_wp2_with fail
  go_ret
  exact ⟨by rw [E2.out]; rfl, K0.out.trans KQ⟩
 replace C2 := hid (C2.out rfl)
 cases t
 ·
  have Q0 : Kp W0 W0.drew := (Kp.refl _).drew
  have MK : Hid (∀ W, Kp W0 W → W.cell? ⟨w.heap.size, 24, none⟩ = some (.string c.tx) ∧ W.cell? ⟨w.heap.size, 25, none⟩ = some (.int .i64 c.r.k) ∧ W.cell? ⟨w.heap.size, 26, none⟩ = some (.int .i64 c.r.mn) ∧ W.cell? ⟨w.heap.size, 27, none⟩ = some (.int .i64 c.r.mx) ∧ W.cell? ⟨w.heap.size, 28, none⟩ = some (.int .i64 c.r.m) ∧ W.cell? ⟨w.heap.size, 29, none⟩ = some (.int .u64 (c.r.t.a : Int)) ∧ W.cell? ⟨w.heap.size, 30, none⟩ = some (.int .u64 (c.r.t.b : Int)) ∧ W.cell? ⟨w.heap.size, 31, none⟩ = some (.int .u64 (c.r.t.c : Int)) ∧ W.cell? ⟨w.heap.size, 32, none⟩ = some (.int .u64 (c.r.t.d : Int)) ∧ W.cell? ⟨w.heap.size, 33, none⟩ = some (.slice c.r.ad c.r.l c.r.c) ∧ W.cell? ⟨w.heap.size, 34, none⟩ = some (.slice c.pa c.pl c.pc) ∧ W.cell? ⟨w.heap.size, 37, none⟩ = some (.int .i64 c.nth) ∧ Hid (Kp W0 W)) := fun W k => ⟨bl_cell (bl_kp A0.out k) 24 _ rfl, bl_cell (bl_kp A0.out k) 25 _ rfl, bl_cell (bl_kp A0.out k) 26 _ rfl, bl_cell (bl_kp A0.out k) 27 _ rfl, bl_cell (bl_kp A0.out k) 28 _ rfl, bl_cell (bl_kp A0.out k) 29 _ rfl, bl_cell (bl_kp A0.out k) 30 _ rfl, bl_cell (bl_kp A0.out k) 31 _ rfl, bl_cell (bl_kp A0.out k) 32 _ rfl, bl_cell (bl_kp A0.out k) 33 _ rfl, bl_cell (bl_kp A0.out k) 34 _ rfl, bl_cell (bl_kp A0.out k) 37 _ rfl, k⟩
  refine wp_region_noPanic ?_
  refine wp_region_held_drew (S := (fun W => W.cell? ⟨w.heap.size, 24, none⟩ = some (.string c.tx) ∧ W.cell? ⟨w.heap.size, 25, none⟩ = some (.int .i64 c.r.k) ∧ W.cell? ⟨w.heap.size, 26, none⟩ = some (.int .i64 c.r.mn) ∧ W.cell? ⟨w.heap.size, 27, none⟩ = some (.int .i64 c.r.mx) ∧ W.cell? ⟨w.heap.size, 28, none⟩ = some (.int .i64 c.r.m) ∧ W.cell? ⟨w.heap.size, 29, none⟩ = some (.int .u64 (c.r.t.a : Int)) ∧ W.cell? ⟨w.heap.size, 30, none⟩ = some (.int .u64 (c.r.t.b : Int)) ∧ W.cell? ⟨w.heap.size, 31, none⟩ = some (.int .u64 (c.r.t.c : Int)) ∧ W.cell? ⟨w.heap.size, 32, none⟩ = some (.int .u64 (c.r.t.d : Int)) ∧ W.cell? ⟨w.heap.size, 33, none⟩ = some (.slice c.r.ad c.r.l c.r.c) ∧ W.cell? ⟨w.heap.size, 34, none⟩ = some (.slice c.pa c.pl c.pc) ∧ W.cell? ⟨w.heap.size, 37, none⟩ = some (.int .i64 c.nth) ∧ Hid (Kp W0 W))) (by kernel_rfl) ?_ (fun hH => ?_)
  ·
   exact MK.out _ Q0
  have KQ := Q0
  refine wpAnyH_take (i := 0) (oi := { dst := some 5, op := Op.fieldAddr 37 (Operand.tmp 2) 5, type := 0, pos := "right.go:101", after := #[], guard := none }) (v := ?v0b1) rfl (by kernel_rfl) (by kernel_rfl) (by kernel_rfl) (fun _ _ _ h => h) (Or.inl ⟨by rfl, ?hy0b1⟩) hH ?r0b1
  case hy0b1 => (intro W hSw; (try dsimp only at hSw); go_simp; try (with_reducible rfl))
  try simp only [Act.put, List.setIfInBounds_toArray, List.set_cons_zero, List.set_cons_succ]
  refine wpAnyH_take (i := 1) (oi := { dst := some 6, op := Op.load 27 (Operand.tmp 5), type := 27, pos := "right.go:101", after := #[{ on := 0, ground := Ground.data }], guard := none }) (v := ?v1b2) rfl (by kernel_rfl) (by kernel_rfl) (by kernel_rfl) (fun _ _ _ h => h) (Or.inl ⟨by rfl, ?hy1b2⟩) hH ?r1b2
  case hy1b2 => (intro W hSw; (try dsimp only at hSw); go_simp; try (with_reducible rfl))
  try simp only [Act.put, List.setIfInBounds_toArray, List.set_cons_zero, List.set_cons_succ]
  refine wpAnyH_take (i := 2) (oi := { dst := some 7, op := Op.move (Operand.tmp 1), type := 4, pos := "right.go:101", after := #[], guard := none }) (v := ?v2b3) rfl (by kernel_rfl) (by kernel_rfl) (by kernel_rfl) (fun _ _ _ h => h) (Or.inl ⟨by rfl, ?hy2b3⟩) hH ?r2b3
  case hy2b3 => (intro W hSw; (try dsimp only at hSw); go_simp; try (with_reducible rfl))
  try simp only [Act.put, List.setIfInBounds_toArray, List.set_cons_zero, List.set_cons_succ]
  refine wpAnyH_ready (rs := [3]) (by kernel_rfl) (by simp) ?_
  refine AllReadyH.cons (o := { dst := some 8, op := Op.call { callee := Callee.value (Operand.func 74), args := #[Operand.tmp 6, Operand.tmp 7], argTypes := #[27, 4] }, type := 4, pos := "right.go:101", after := #[{ on := 1, ground := Ground.data }, { on := 2, ground := Ground.data }], guard := none }) rfl (fun K hKq => ?_) AllReadyH.nil
  go_simp
  refine (C1.out _ (I0.out.kp KQ).r).mono ?_
  rintro e y1 ⟨rfl, kq⟩
  refine hKq.out _ _ (MK.out _ (KQ.trans kq)) (fun hN => ?_)
  clear kq
  clear hKq K hH KQ
  have hH := hN
  clear hN
  have KQ := hH.2.2.2.2.2.2.2.2.2.2.2.2.out
  try simp only [Act.put, List.setIfInBounds_toArray, List.set_cons_zero, List.set_cons_succ]
  refine wpAnyH_take (i := 4) (oi := { dst := some 9, op := Op.move (Operand.tmp 8), type := 4, pos := "right.go:101", after := #[{ on := 3, ground := Ground.data }, { on := 3, ground := Ground.chain }], guard := none }) (v := ?v4b4) rfl (by kernel_rfl) (by kernel_rfl) (by kernel_rfl) (fun _ _ _ h => h) (Or.inl ⟨by rfl, ?hy4b4⟩) hH ?r4b4
  case hy4b4 => (intro W hSw; (try dsimp only at hSw); go_simp; try (with_reducible rfl))
  try simp only [Act.put, List.setIfInBounds_toArray, List.set_cons_zero, List.set_cons_succ]
  refine wpAnyH_take (i := 5) (oi := { dst := some 10, op := Op.fieldAddr 37 (Operand.tmp 2) 6, type := 0, pos := "right.go:101", after := #[{ on := 4, ground := Ground.guard }], guard := some (4, true) }) (v := ?v5b5) rfl (by kernel_rfl) (by kernel_rfl) (by kernel_rfl) (fun _ _ _ h => h) (Or.inl ⟨by rfl, ?hy5b5⟩) hH ?r5b5
  case hy5b5 => (intro W hSw; (try dsimp only at hSw); go_simp; try (with_reducible rfl))
  try simp only [Act.put, List.setIfInBounds_toArray, List.set_cons_zero, List.set_cons_succ]
  refine wpAnyH_take (i := 6) (oi := { dst := some 11, op := Op.load 35 (Operand.tmp 10), type := 35, pos := "right.go:101", after := #[{ on := 5, ground := Ground.data }, { on := 4, ground := Ground.guard }], guard := some (4, true) }) (v := ?v6b6) rfl (by kernel_rfl) (by kernel_rfl) (by kernel_rfl) (fun _ _ _ h => h) (Or.inl ⟨by rfl, ?hy6b6⟩) hH ?r6b6
  case hy6b6 => (intro W hSw; (try dsimp only at hSw); go_simp; try (with_reducible rfl))
  try simp only [Act.put, List.setIfInBounds_toArray, List.set_cons_zero, List.set_cons_succ]
  refine wpAnyH_take (i := 7) (oi := { dst := some 12, op := Op.fieldAddr 37 (Operand.tmp 2) 5, type := 0, pos := "right.go:101", after := #[{ on := 4, ground := Ground.guard }], guard := some (4, true) }) (v := ?v7b7) rfl (by kernel_rfl) (by kernel_rfl) (by kernel_rfl) (fun _ _ _ h => h) (Or.inl ⟨by rfl, ?hy7b7⟩) hH ?r7b7
  case hy7b7 => (intro W hSw; (try dsimp only at hSw); go_simp; try (with_reducible rfl))
  try simp only [Act.put, List.setIfInBounds_toArray, List.set_cons_zero, List.set_cons_succ]
  refine wpAnyH_take (i := 8) (oi := { dst := some 13, op := Op.load 27 (Operand.tmp 12), type := 27, pos := "right.go:101", after := #[{ on := 7, ground := Ground.data }, { on := 4, ground := Ground.guard }], guard := some (4, true) }) (v := ?v8b8) rfl (by kernel_rfl) (by kernel_rfl) (by kernel_rfl) (fun _ _ _ h => h) (Or.inl ⟨by rfl, ?hy8b8⟩) hH ?r8b8
  case hy8b8 => (intro W hSw; (try dsimp only at hSw); go_simp; try (with_reducible rfl))
  try simp only [Act.put, List.setIfInBounds_toArray, List.set_cons_zero, List.set_cons_succ]
  refine wpAnyH_ready (rs := [9]) (by kernel_rfl) (by simp) ?_
  refine AllReadyH.cons (o := { dst := some 14, op := Op.call { callee := Callee.value (Operand.func 93), args := #[Operand.tmp 13], argTypes := #[27] }, type := 3, pos := "right.go:101", after := #[{ on := 8, ground := Ground.data }, { on := 4, ground := Ground.chain }, { on := 4, ground := Ground.guard }], guard := some (4, true) }) rfl (fun K hKq => ?_) AllReadyH.nil
  go_simp
  refine (C2.out _ (I0.out.kp KQ).r).mono ?_
  rintro e y2 ⟨rfl, kq⟩
  refine hKq.out _ _ (MK.out _ (KQ.trans kq)) (fun hN => ?_)
  clear kq
  clear hKq K hH KQ
  have hH := hN
  clear hN
  have KQ := hH.2.2.2.2.2.2.2.2.2.2.2.2.out
  try simp only [Act.put, List.setIfInBounds_toArray, List.set_cons_zero, List.set_cons_succ]
  refine wpAnyH_ready (rs := [10]) (by kernel_rfl) (by simp) ?_
  refine AllReadyH.cons (o := { dst := some 15, op := Op.call { callee := Callee.value (Operand.func 92), args := #[Operand.tmp 11, Operand.tmp 14], argTypes := #[35, 3] }, type := 4, pos := "right.go:101", after := #[{ on := 6, ground := Ground.data }, { on := 9, ground := Ground.data }, { on := 9, ground := Ground.chain }, { on := 4, ground := Ground.guard }], guard := some (4, true) }) rfl (fun K hKq => ?_) AllReadyH.nil
  go_simp
  refine (C3.out _ (I0.out.kp KQ).p).mono ?_
  rintro e y3 ⟨rfl, kq⟩
  refine hKq.out _ _ (MK.out _ (KQ.trans kq)) (fun hN => ?_)
  clear kq
  clear hKq K hH KQ
  have hH := hN
  clear hN
  have KQ := hH.2.2.2.2.2.2.2.2.2.2.2.2.out
  try simp only [Act.put, List.setIfInBounds_toArray, List.set_cons_zero, List.set_cons_succ]
  refine wpAnyH_take (i := 11) (oi := { dst := some 16, op := Op.pick (Operand.tmp 9) (Operand.tmp 15) (Operand.const (Value.bool false)), type := 4, pos := "right.go:101", after := #[{ on := 4, ground := Ground.data }, { on := 10, ground := Ground.data }], guard := none }) (v := ?v11b9) rfl (by kernel_rfl) (by kernel_rfl) (by kernel_rfl) (fun _ _ _ h => h) (Or.inl ⟨by rfl, ?hy11b9⟩) hH ?r11b9
  case hy11b9 => (intro W hSw; (try dsimp only at hSw); go_simp; try (with_reducible rfl))
  try simp only [Act.put, List.setIfInBounds_toArray, List.set_cons_zero, List.set_cons_succ]
  refine wpAnyH_take (i := 12) (oi := { dst := some 17, op := Op.move (Operand.tmp 16), type := 4, pos := "right.go:101", after := #[{ on := 11, ground := Ground.data }, { on := 10, ground := Ground.chain }], guard := none }) (v := ?v12b10) rfl (by kernel_rfl) (by kernel_rfl) (by kernel_rfl) (fun _ _ _ h => h) (Or.inl ⟨by rfl, ?hy12b10⟩) hH ?r12b10
  case hy12b10 => (intro W hSw; (try dsimp only at hSw); go_simp; try (with_reducible rfl))
  try simp only [Act.put, List.setIfInBounds_toArray, List.set_cons_zero, List.set_cons_succ]
  refine wpAnyH_take (i := 13) (oi := { dst := some 18, op := Op.fieldAddr 37 (Operand.tmp 2) 9, type := 0, pos := "right.go:101", after := #[{ on := 12, ground := Ground.guard }], guard := some (12, true) }) (v := undef) rfl (by kernel_rfl) (by kernel_rfl) (by kernel_rfl) (fun _ _ _ h => h) (Or.inr ⟨by rfl, rfl⟩) hH ?r13b11
  try simp only [Act.put, List.setIfInBounds_toArray, List.set_cons_zero, List.set_cons_succ]
  refine wpAnyH_take (i := 14) (oi := { dst := some 19, op := Op.load 3 (Operand.tmp 18), type := 3, pos := "right.go:101", after := #[{ on := 13, ground := Ground.data }, { on := 12, ground := Ground.guard }], guard := some (12, true) }) (v := undef) rfl (by kernel_rfl) (by kernel_rfl) (by kernel_rfl) (fun _ _ _ h => h) (Or.inr ⟨by rfl, rfl⟩) hH ?r14b12
  try simp only [Act.put, List.setIfInBounds_toArray, List.set_cons_zero, List.set_cons_succ]
  refine wpAnyH_take (i := 15) (oi := { dst := some 20, op := Op.binOp BinOp.leq 3 (Operand.const (Value.int IntKind.i64 0)) (Operand.tmp 19) 3, type := 4, pos := "right.go:101", after := #[{ on := 14, ground := Ground.data }, { on := 12, ground := Ground.guard }], guard := some (12, true) }) (v := undef) rfl (by kernel_rfl) (by kernel_rfl) (by kernel_rfl) (fun _ _ _ h => h) (Or.inr ⟨by rfl, rfl⟩) hH ?r15b13
  try simp only [Act.put, List.setIfInBounds_toArray, List.set_cons_zero, List.set_cons_succ]
  refine wpAnyH_take (i := 16) (oi := { dst := some 21, op := Op.pick (Operand.tmp 17) (Operand.tmp 20) (Operand.const (Value.bool false)), type := 4, pos := "right.go:101", after := #[{ on := 12, ground := Ground.data }, { on := 15, ground := Ground.data }], guard := none }) (v := ?v16b14) rfl (by kernel_rfl) (by kernel_rfl) (by kernel_rfl) (fun _ _ _ h => h) (Or.inl ⟨by rfl, ?hy16b14⟩) hH ?r16b14
  case hy16b14 => (intro W hSw; (try dsimp only at hSw); go_simp; try (with_reducible rfl))
  try simp only [Act.put, List.setIfInBounds_toArray, List.set_cons_zero, List.set_cons_succ]
  refine wpAnyH_take (i := 17) (oi := { dst := some 22, op := Op.move (Operand.tmp 21), type := 4, pos := "right.go:101", after := #[{ on := 16, ground := Ground.data }, { on := 12, ground := Ground.chain }], guard := none }) (v := ?v17b15) rfl (by kernel_rfl) (by kernel_rfl) (by kernel_rfl) (fun _ _ _ h => h) (Or.inl ⟨by rfl, ?hy17b15⟩) hH ?r17b15
  case hy17b15 => (intro W hSw; (try dsimp only at hSw); go_simp; try (with_reducible rfl))
  try simp only [Act.put, List.setIfInBounds_toArray, List.set_cons_zero, List.set_cons_succ]
  refine wpAnyH_take (i := 18) (oi := { dst := some 23, op := Op.fieldAddr 37 (Operand.tmp 2) 9, type := 0, pos := "right.go:101", after := #[{ on := 17, ground := Ground.guard }], guard := some (17, true) }) (v := undef) rfl (by kernel_rfl) (by kernel_rfl) (by kernel_rfl) (fun _ _ _ h => h) (Or.inr ⟨by rfl, rfl⟩) hH ?r18b16
  try simp only [Act.put, List.setIfInBounds_toArray, List.set_cons_zero, List.set_cons_succ]
  refine wpAnyH_take (i := 19) (oi := { dst := some 24, op := Op.load 3 (Operand.tmp 23), type := 3, pos := "right.go:101", after := #[{ on := 18, ground := Ground.data }, { on := 17, ground := Ground.guard }], guard := some (17, true) }) (v := undef) rfl (by kernel_rfl) (by kernel_rfl) (by kernel_rfl) (fun _ _ _ h => h) (Or.inr ⟨by rfl, rfl⟩) hH ?r19b17
  try simp only [Act.put, List.setIfInBounds_toArray, List.set_cons_zero, List.set_cons_succ]
  refine wpAnyH_take (i := 20) (oi := { dst := some 25, op := Op.binOp BinOp.leq 3 (Operand.tmp 24) (Operand.const (Value.int IntKind.i64 99)) 3, type := 4, pos := "right.go:101", after := #[{ on := 19, ground := Ground.data }, { on := 17, ground := Ground.guard }], guard := some (17, true) }) (v := undef) rfl (by kernel_rfl) (by kernel_rfl) (by kernel_rfl) (fun _ _ _ h => h) (Or.inr ⟨by rfl, rfl⟩) hH ?r20b18
  try simp only [Act.put, List.setIfInBounds_toArray, List.set_cons_zero, List.set_cons_succ]
  refine wpAnyH_take (i := 21) (oi := { dst := some 26, op := Op.pick (Operand.tmp 22) (Operand.tmp 25) (Operand.const (Value.bool false)), type := 4, pos := "right.go:101", after := #[{ on := 17, ground := Ground.data }, { on := 20, ground := Ground.data }], guard := none }) (v := ?v21b19) rfl (by kernel_rfl) (by kernel_rfl) (by kernel_rfl) (fun _ _ _ h => h) (Or.inl ⟨by rfl, ?hy21b19⟩) hH ?r21b19
  case hy21b19 => (intro W hSw; (try dsimp only at hSw); go_simp; try (with_reducible rfl))
  try simp only [Act.put, List.setIfInBounds_toArray, List.set_cons_zero, List.set_cons_succ]
  refine wpAnyH_take (i := 22) (oi := { dst := some 27, op := Op.move (Operand.tmp 26), type := 4, pos := "right.go:101", after := #[{ on := 21, ground := Ground.data }, { on := 17, ground := Ground.chain }], guard := none }) (v := ?v22b20) rfl (by kernel_rfl) (by kernel_rfl) (by kernel_rfl) (fun _ _ _ h => h) (Or.inl ⟨by rfl, ?hy22b20⟩) hH ?r22b20
  case hy22b20 => (intro W hSw; (try dsimp only at hSw); go_simp; try (with_reducible rfl))
  try simp only [Act.put, List.setIfInBounds_toArray, List.set_cons_zero, List.set_cons_succ]
  refine wpAnyH_take (i := 23) (oi := { dst := some 28, op := Op.fieldAddr 37 (Operand.tmp 2) 4, type := 0, pos := "right.go:101", after := #[{ on := 22, ground := Ground.guard }], guard := some (22, true) }) (v := undef) rfl (by kernel_rfl) (by kernel_rfl) (by kernel_rfl) (fun _ _ _ h => h) (Or.inr ⟨by rfl, rfl⟩) hH ?r23b21
  try simp only [Act.put, List.setIfInBounds_toArray, List.set_cons_zero, List.set_cons_succ]
  refine wpAnyH_take (i := 24) (oi := { dst := some 29, op := Op.load 9 (Operand.tmp 28), type := 9, pos := "right.go:101", after := #[{ on := 23, ground := Ground.data }, { on := 22, ground := Ground.guard }], guard := some (22, true) }) (v := undef) rfl (by kernel_rfl) (by kernel_rfl) (by kernel_rfl) (fun _ _ _ h => h) (Or.inr ⟨by rfl, rfl⟩) hH ?r24b22
  try simp only [Act.put, List.setIfInBounds_toArray, List.set_cons_zero, List.set_cons_succ]
  refine wpAnyH_take (i := 25) (oi := { dst := some 30, op := Op.call { callee := Callee.value (Operand.func 66), args := #[Operand.tmp 29], argTypes := #[9] }, type := 4, pos := "right.go:102", after := #[{ on := 24, ground := Ground.data }, { on := 22, ground := Ground.chain }, { on := 22, ground := Ground.guard }], guard := some (22, true) }) (v := undef) rfl (by kernel_rfl) (by kernel_rfl) (by kernel_rfl) (fun _ _ _ h => h) (Or.inr ⟨by rfl, rfl⟩) hH ?r25b23
  try simp only [Act.put, List.setIfInBounds_toArray, List.set_cons_zero, List.set_cons_succ]
  refine wpAnyH_take (i := 26) (oi := { dst := some 31, op := Op.pick (Operand.tmp 27) (Operand.tmp 30) (Operand.const (Value.bool false)), type := 4, pos := "right.go:101", after := #[{ on := 22, ground := Ground.data }, { on := 25, ground := Ground.data }], guard := none }) (v := ?v26b24) rfl (by kernel_rfl) (by kernel_rfl) (by kernel_rfl) (fun _ _ _ h => h) (Or.inl ⟨by rfl, ?hy26b24⟩) hH ?r26b24
  case hy26b24 => (intro W hSw; (try dsimp only at hSw); go_simp; try (with_reducible rfl))
  try simp only [Act.put, List.setIfInBounds_toArray, List.set_cons_zero, List.set_cons_succ]
  refine wpAnyH_take (i := 27) (oi := { dst := some 4, op := Op.assign (Operand.tmp 31), type := 4, pos := "right.go:101", after := #[{ on := 26, ground := Ground.data }, { on := 25, ground := Ground.chain }, { on := 0, ground := Ground.phase }, { on := 1, ground := Ground.phase }, { on := 2, ground := Ground.phase }, { on := 3, ground := Ground.phase }, { on := 4, ground := Ground.phase }, { on := 5, ground := Ground.phase }, { on := 6, ground := Ground.phase }, { on := 7, ground := Ground.phase }, { on := 8, ground := Ground.phase }, { on := 9, ground := Ground.phase }, { on := 10, ground := Ground.phase }, { on := 11, ground := Ground.phase }, { on := 12, ground := Ground.phase }, { on := 13, ground := Ground.phase }, { on := 14, ground := Ground.phase }, { on := 15, ground := Ground.phase }, { on := 16, ground := Ground.phase }, { on := 17, ground := Ground.phase }, { on := 18, ground := Ground.phase }, { on := 19, ground := Ground.phase }, { on := 20, ground := Ground.phase }, { on := 21, ground := Ground.phase }, { on := 22, ground := Ground.phase }, { on := 23, ground := Ground.phase }, { on := 24, ground := Ground.phase }, { on := 25, ground := Ground.phase }, { on := 26, ground := Ground.phase }], guard := none }) (v := ?v27b25) rfl (by kernel_rfl) (by kernel_rfl) (by kernel_rfl) (fun _ _ _ h => h) (Or.inl ⟨by rfl, ?hy27b25⟩) hH ?r27b25
  case hy27b25 => (intro W hSw; (try dsimp only at hSw); go_simp; try (with_reducible rfl))
  try simp only [Act.put, List.setIfInBounds_toArray, List.set_cons_zero, List.set_cons_succ]
  refine wpAnyH_done (by kernel_rfl) ?_ _
  refine NoPanic.normal ?_
  have E2 : Hid (E = false) := by show _ = _; rw [← HE.out]; simp only [Bool.and_false, Bool.false_and]
  go_wp2_with fail
  go_ret
  exact ⟨by rw [E2.out]; rfl, K0.out.trans KQ⟩
 cases u
 ·
  have gu : ¬ (0 : Int) ≤ c.nth := of_decide_eq_false hu
  have Q0 : Kp W0 W0.drew := (Kp.refl _).drew
  have MK : Hid (∀ W, Kp W0 W → W.cell? ⟨w.heap.size, 24, none⟩ = some (.string c.tx) ∧ W.cell? ⟨w.heap.size, 25, none⟩ = some (.int .i64 c.r.k) ∧ W.cell? ⟨w.heap.size, 26, none⟩ = some (.int .i64 c.r.mn) ∧ W.cell? ⟨w.heap.size, 27, none⟩ = some (.int .i64 c.r.mx) ∧ W.cell? ⟨w.heap.size, 28, none⟩ = some (.int .i64 c.r.m) ∧ W.cell? ⟨w.heap.size, 29, none⟩ = some (.int .u64 (c.r.t.a : Int)) ∧ W.cell? ⟨w.heap.size, 30, none⟩ = some (.int .u64 (c.r.t.b : Int)) ∧ W.cell? ⟨w.heap.size, 31, none⟩ = some (.int .u64 (c.r.t.c : Int)) ∧ W.cell? ⟨w.heap.size, 32, none⟩ = some (.int .u64 (c.r.t.d : Int)) ∧ W.cell? ⟨w.heap.size, 33, none⟩ = some (.slice c.r.ad c.r.l c.r.c) ∧ W.cell? ⟨w.heap.size, 34, none⟩ = some (.slice c.pa c.pl c.pc) ∧ W.cell? ⟨w.heap.size, 37, none⟩ = some (.int .i64 c.nth) ∧ Hid (Kp W0 W)) := fun W k => ⟨bl_cell (bl_kp A0.out k) 24 _ rfl, bl_cell (bl_kp A0.out k) 25 _ rfl, bl_cell (bl_kp A0.out k) 26 _ rfl, bl_cell (bl_kp A0.out k) 27 _ rfl, bl_cell (bl_kp A0.out k) 28 _ rfl, bl_cell (bl_kp A0.out k) 29 _ rfl, bl_cell (bl_kp A0.out k) 30 _ rfl, bl_cell (bl_kp A0.out k) 31 _ rfl, bl_cell (bl_kp A0.out k) 32 _ rfl, bl_cell (bl_kp A0.out k) 33 _ rfl, bl_cell (bl_kp A0.out k) 34 _ rfl, bl_cell (bl_kp A0.out k) 37 _ rfl, k⟩
  refine wp_region_noPanic ?_
  refine wp_region_held_drew (S := (fun W => W.cell? ⟨w.heap.size, 24, none⟩ = some (.string c.tx) ∧ W.cell? ⟨w.heap.size, 25, none⟩ = some (.int .i64 c.r.k) ∧ W.cell? ⟨w.heap.size, 26, none⟩ = some (.int .i64 c.r.mn) ∧ W.cell? ⟨w.heap.size, 27, none⟩ = some (.int .i64 c.r.mx) ∧ W.cell? ⟨w.heap.size, 28, none⟩ = some (.int .i64 c.r.m) ∧ W.cell? ⟨w.heap.size, 29, none⟩ = some (.int .u64 (c.r.t.a : Int)) ∧ W.cell? ⟨w.heap.size, 30, none⟩ = some (.int .u64 (c.r.t.b : Int)) ∧ W.cell? ⟨w.heap.size, 31, none⟩ = some (.int .u64 (c.r.t.c : Int)) ∧ W.cell? ⟨w.heap.size, 32, none⟩ = some (.int .u64 (c.r.t.d : Int)) ∧ W.cell? ⟨w.heap.size, 33, none⟩ = some (.slice c.r.ad c.r.l c.r.c) ∧ W.cell? ⟨w.heap.size, 34, none⟩ = some (.slice c.pa c.pl c.pc) ∧ W.cell? ⟨w.heap.size, 37, none⟩ = some (.int .i64 c.nth) ∧ Hid (Kp W0 W))) (by kernel_rfl) ?_ (fun hH => ?_)
  ·
   exact MK.out _ Q0
  have KQ := Q0
  refine wpAnyH_take (i := 0) (oi := { dst := some 5, op := Op.fieldAddr 37 (Operand.tmp 2) 5, type := 0, pos := "right.go:101", after := #[], guard := none }) (v := ?v0c1) rfl (by kernel_rfl) (by kernel_rfl) (by kernel_rfl) (fun _ _ _ h => h) (Or.inl ⟨by rfl, ?hy0c1⟩) hH ?r0c1
  case hy0c1 => (intro W hSw; (try dsimp only at hSw); go_simp; try (with_reducible rfl))
  try simp only [Act.put, List.setIfInBounds_toArray, List.set_cons_zero, List.set_cons_succ]
  refine wpAnyH_take (i := 1) (oi := { dst := some 6, op := Op.load 27 (Operand.tmp 5), type := 27, pos := "right.go:101", after := #[{ on := 0, ground := Ground.data }], guard := none }) (v := ?v1c2) rfl (by kernel_rfl) (by kernel_rfl) (by kernel_rfl) (fun _ _ _ h => h) (Or.inl ⟨by rfl, ?hy1c2⟩) hH ?r1c2
  case hy1c2 => (intro W hSw; (try dsimp only at hSw); go_simp; try (with_reducible rfl))
  try simp only [Act.put, List.setIfInBounds_toArray, List.set_cons_zero, List.set_cons_succ]
  refine wpAnyH_take (i := 2) (oi := { dst := some 7, op := Op.move (Operand.tmp 1), type := 4, pos := "right.go:101", after := #[], guard := none }) (v := ?v2c3) rfl (by kernel_rfl) (by kernel_rfl) (by kernel_rfl) (fun _ _ _ h => h) (Or.inl ⟨by rfl, ?hy2c3⟩) hH ?r2c3
  case hy2c3 => (intro W hSw; (try dsimp only at hSw); go_simp; try (with_reducible rfl))
  try simp only [Act.put, List.setIfInBounds_toArray, List.set_cons_zero, List.set_cons_succ]
  refine wpAnyH_ready (rs := [3]) (by kernel_rfl) (by simp) ?_
  refine AllReadyH.cons (o := { dst := some 8, op := Op.call { callee := Callee.value (Operand.func 74), args := #[Operand.tmp 6, Operand.tmp 7], argTypes := #[27, 4] }, type := 4, pos := "right.go:101", after := #[{ on := 1, ground := Ground.data }, { on := 2, ground := Ground.data }], guard := none }) rfl (fun K hKq => ?_) AllReadyH.nil
  go_simp
  refine (C1.out _ (I0.out.kp KQ).r).mono ?_
  rintro e y1 ⟨rfl, kq⟩
  refine hKq.out _ _ (MK.out _ (KQ.trans kq)) (fun hN => ?_)
  clear kq
  clear hKq K hH KQ
  have hH := hN
  clear hN
  have KQ := hH.2.2.2.2.2.2.2.2.2.2.2.2.out
  try simp only [Act.put, List.setIfInBounds_toArray, List.set_cons_zero, List.set_cons_succ]
  refine wpAnyH_take (i := 4) (oi := { dst := some 9, op := Op.move (Operand.tmp 8), type := 4, pos := "right.go:101", after := #[{ on := 3, ground := Ground.data }, { on := 3, ground := Ground.chain }], guard := none }) (v := ?v4c4) rfl (by kernel_rfl) (by kernel_rfl) (by kernel_rfl) (fun _ _ _ h => h) (Or.inl ⟨by rfl, ?hy4c4⟩) hH ?r4c4
  case hy4c4 => (intro W hSw; (try dsimp only at hSw); go_simp; try (with_reducible rfl))
  try simp only [Act.put, List.setIfInBounds_toArray, List.set_cons_zero, List.set_cons_succ]
  refine wpAnyH_take (i := 5) (oi := { dst := some 10, op := Op.fieldAddr 37 (Operand.tmp 2) 6, type := 0, pos := "right.go:101", after := #[{ on := 4, ground := Ground.guard }], guard := some (4, true) }) (v := ?v5c5) rfl (by kernel_rfl) (by kernel_rfl) (by kernel_rfl) (fun _ _ _ h => h) (Or.inl ⟨by rfl, ?hy5c5⟩) hH ?r5c5
  case hy5c5 => (intro W hSw; (try dsimp only at hSw); go_simp; try (with_reducible rfl))
  try simp only [Act.put, List.setIfInBounds_toArray, List.set_cons_zero, List.set_cons_succ]
  refine wpAnyH_take (i := 6) (oi := { dst := some 11, op := Op.load 35 (Operand.tmp 10), type := 35, pos := "right.go:101", after := #[{ on := 5, ground := Ground.data }, { on := 4, ground := Ground.guard }], guard := some (4, true) }) (v := ?v6c6) rfl (by kernel_rfl) (by kernel_rfl) (by kernel_rfl) (fun _ _ _ h => h) (Or.inl ⟨by rfl, ?hy6c6⟩) hH ?r6c6
  case hy6c6 => (intro W hSw; (try dsimp only at hSw); go_simp; try (with_reducible rfl))
  try simp only [Act.put, List.setIfInBounds_toArray, List.set_cons_zero, List.set_cons_succ]
  refine wpAnyH_take (i := 7) (oi := { dst := some 12, op := Op.fieldAddr 37 (Operand.tmp 2) 5, type := 0, pos := "right.go:101", after := #[{ on := 4, ground := Ground.guard }], guard := some (4, true) }) (v := ?v7c7) rfl (by kernel_rfl) (by kernel_rfl) (by kernel_rfl) (fun _ _ _ h => h) (Or.inl ⟨by rfl, ?hy7c7⟩) hH ?r7c7
  case hy7c7 => (intro W hSw; (try dsimp only at hSw); go_simp; try (with_reducible rfl))
  try simp only [Act.put, List.setIfInBounds_toArray, List.set_cons_zero, List.set_cons_succ]
  refine wpAnyH_take (i := 8) (oi := { dst := some 13, op := Op.load 27 (Operand.tmp 12), type := 27, pos := "right.go:101", after := #[{ on := 7, ground := Ground.data }, { on := 4, ground := Ground.guard }], guard := some (4, true) }) (v := ?v8c8) rfl (by kernel_rfl) (by kernel_rfl) (by kernel_rfl) (fun _ _ _ h => h) (Or.inl ⟨by rfl, ?hy8c8⟩) hH ?r8c8
  case hy8c8 => (intro W hSw; (try dsimp only at hSw); go_simp; try (with_reducible rfl))
  try simp only [Act.put, List.setIfInBounds_toArray, List.set_cons_zero, List.set_cons_succ]
  refine wpAnyH_ready (rs := [9]) (by kernel_rfl) (by simp) ?_
  refine AllReadyH.cons (o := { dst := some 14, op := Op.call { callee := Callee.value (Operand.func 93), args := #[Operand.tmp 13], argTypes := #[27] }, type := 3, pos := "right.go:101", after := #[{ on := 8, ground := Ground.data }, { on := 4, ground := Ground.chain }, { on := 4, ground := Ground.guard }], guard := some (4, true) }) rfl (fun K hKq => ?_) AllReadyH.nil
  go_simp
  refine (C2.out _ (I0.out.kp KQ).r).mono ?_
  rintro e y2 ⟨rfl, kq⟩
  refine hKq.out _ _ (MK.out _ (KQ.trans kq)) (fun hN => ?_)
  clear kq
  clear hKq K hH KQ
  have hH := hN
  clear hN
  have KQ := hH.2.2.2.2.2.2.2.2.2.2.2.2.out
  try simp only [Act.put, List.setIfInBounds_toArray, List.set_cons_zero, List.set_cons_succ]
  refine wpAnyH_ready (rs := [10]) (by kernel_rfl) (by simp) ?_
  refine AllReadyH.cons (o := { dst := some 15, op := Op.call { callee := Callee.value (Operand.func 92), args := #[Operand.tmp 11, Operand.tmp 14], argTypes := #[35, 3] }, type := 4, pos := "right.go:101", after := #[{ on := 6, ground := Ground.data }, { on := 9, ground := Ground.data }, { on := 9, ground := Ground.chain }, { on := 4, ground := Ground.guard }], guard := some (4, true) }) rfl (fun K hKq => ?_) AllReadyH.nil
  go_simp
  refine (C3.out _ (I0.out.kp KQ).p).mono ?_
  rintro e y3 ⟨rfl, kq⟩
  refine hKq.out _ _ (MK.out _ (KQ.trans kq)) (fun hN => ?_)
  clear kq
  clear hKq K hH KQ
  have hH := hN
  clear hN
  have KQ := hH.2.2.2.2.2.2.2.2.2.2.2.2.out
  try simp only [Act.put, List.setIfInBounds_toArray, List.set_cons_zero, List.set_cons_succ]
  refine wpAnyH_take (i := 11) (oi := { dst := some 16, op := Op.pick (Operand.tmp 9) (Operand.tmp 15) (Operand.const (Value.bool false)), type := 4, pos := "right.go:101", after := #[{ on := 4, ground := Ground.data }, { on := 10, ground := Ground.data }], guard := none }) (v := ?v11c9) rfl (by kernel_rfl) (by kernel_rfl) (by kernel_rfl) (fun _ _ _ h => h) (Or.inl ⟨by rfl, ?hy11c9⟩) hH ?r11c9
  case hy11c9 => (intro W hSw; (try dsimp only at hSw); go_simp; try (with_reducible rfl))
  try simp only [Act.put, List.setIfInBounds_toArray, List.set_cons_zero, List.set_cons_succ]
  refine wpAnyH_take (i := 12) (oi := { dst := some 17, op := Op.move (Operand.tmp 16), type := 4, pos := "right.go:101", after := #[{ on := 11, ground := Ground.data }, { on := 10, ground := Ground.chain }], guard := none }) (v := ?v12c10) rfl (by kernel_rfl) (by kernel_rfl) (by kernel_rfl) (fun _ _ _ h => h) (Or.inl ⟨by rfl, ?hy12c10⟩) hH ?r12c10
  case hy12c10 => (intro W hSw; (try dsimp only at hSw); go_simp; try (with_reducible rfl))
  try simp only [Act.put, List.setIfInBounds_toArray, List.set_cons_zero, List.set_cons_succ]
  refine wpAnyH_take (i := 13) (oi := { dst := some 18, op := Op.fieldAddr 37 (Operand.tmp 2) 9, type := 0, pos := "right.go:101", after := #[{ on := 12, ground := Ground.guard }], guard := some (12, true) }) (v := ?v13c11) rfl (by kernel_rfl) (by kernel_rfl) (by kernel_rfl) (fun _ _ _ h => h) (Or.inl ⟨by rfl, ?hy13c11⟩) hH ?r13c11
  case hy13c11 => (intro W hSw; (try dsimp only at hSw); go_simp; try (with_reducible rfl))
  try simp only [Act.put, List.setIfInBounds_toArray, List.set_cons_zero, List.set_cons_succ]
  refine wpAnyH_take (i := 14) (oi := { dst := some 19, op := Op.load 3 (Operand.tmp 18), type := 3, pos := "right.go:101", after := #[{ on := 13, ground := Ground.data }, { on := 12, ground := Ground.guard }], guard := some (12, true) }) (v := ?v14c12) rfl (by kernel_rfl) (by kernel_rfl) (by kernel_rfl) (fun _ _ _ h => h) (Or.inl ⟨by rfl, ?hy14c12⟩) hH ?r14c12
  case hy14c12 => (intro W hSw; (try dsimp only at hSw); go_simp; try (with_reducible rfl))
  try simp only [Act.put, List.setIfInBounds_toArray, List.set_cons_zero, List.set_cons_succ]
  refine wpAnyH_take (i := 15) (oi := { dst := some 20, op := Op.binOp BinOp.leq 3 (Operand.const (Value.int IntKind.i64 0)) (Operand.tmp 19) 3, type := 4, pos := "right.go:101", after := #[{ on := 14, ground := Ground.data }, { on := 12, ground := Ground.guard }], guard := some (12, true) }) (v := ?v15c13) rfl (by kernel_rfl) (by kernel_rfl) (by kernel_rfl) (fun _ _ _ h => h) (Or.inl ⟨by rfl, ?hy15c13⟩) hH ?r15c13
  case hy15c13 => (intro W hSw; (try dsimp only at hSw); go_simp; try (with_reducible rfl))
  try simp only [Act.put, List.setIfInBounds_toArray, List.set_cons_zero, List.set_cons_succ]
  refine wpAnyH_take (i := 16) (oi := { dst := some 21, op := Op.pick (Operand.tmp 17) (Operand.tmp 20) (Operand.const (Value.bool false)), type := 4, pos := "right.go:101", after := #[{ on := 12, ground := Ground.data }, { on := 15, ground := Ground.data }], guard := none }) (v := ?v16c14) rfl (by kernel_rfl) (by kernel_rfl) (by kernel_rfl) (fun _ _ _ h => h) (Or.inl ⟨by rfl, ?hy16c14⟩) hH ?r16c14
  case hy16c14 => (intro W hSw; (try dsimp only at hSw); go_simp; try (with_reducible rfl))
  try simp only [Act.put, List.setIfInBounds_toArray, List.set_cons_zero, List.set_cons_succ]
  refine wpAnyH_take (i := 17) (oi := { dst := some 22, op := Op.move (Operand.tmp 21), type := 4, pos := "right.go:101", after := #[{ on := 16, ground := Ground.data }, { on := 12, ground := Ground.chain }], guard := none }) (v := ?v17c15) rfl (by kernel_rfl) (by kernel_rfl) (by kernel_rfl) (fun _ _ _ h => h) (Or.inl ⟨by rfl, ?hy17c15⟩) hH ?r17c15
  case hy17c15 => (intro W hSw; (try dsimp only at hSw); go_simp; try (with_reducible rfl))
  try simp only [Act.put, List.setIfInBounds_toArray, List.set_cons_zero, List.set_cons_succ]
  refine wpAnyH_take (i := 18) (oi := { dst := some 23, op := Op.fieldAddr 37 (Operand.tmp 2) 9, type := 0, pos := "right.go:101", after := #[{ on := 17, ground := Ground.guard }], guard := some (17, true) }) (v := undef) rfl (by kernel_rfl) (by kernel_rfl) (by kernel_rfl) (fun _ _ _ h => h) (Or.inr ⟨by rfl, rfl⟩) hH ?r18c16
  try simp only [Act.put, List.setIfInBounds_toArray, List.set_cons_zero, List.set_cons_succ]
  refine wpAnyH_take (i := 19) (oi := { dst := some 24, op := Op.load 3 (Operand.tmp 23), type := 3, pos := "right.go:101", after := #[{ on := 18, ground := Ground.data }, { on := 17, ground := Ground.guard }], guard := some (17, true) }) (v := undef) rfl (by kernel_rfl) (by kernel_rfl) (by kernel_rfl) (fun _ _ _ h => h) (Or.inr ⟨by rfl, rfl⟩) hH ?r19c17
  try simp only [Act.put, List.setIfInBounds_toArray, List.set_cons_zero, List.set_cons_succ]
  refine wpAnyH_take (i := 20) (oi := { dst := some 25, op := Op.binOp BinOp.leq 3 (Operand.tmp 24) (Operand.const (Value.int IntKind.i64 99)) 3, type := 4, pos := "right.go:101", after := #[{ on := 19, ground := Ground.data }, { on := 17, ground := Ground.guard }], guard := some (17, true) }) (v := undef) rfl (by kernel_rfl) (by kernel_rfl) (by kernel_rfl) (fun _ _ _ h => h) (Or.inr ⟨by rfl, rfl⟩) hH ?r20c18
  try simp only [Act.put, List.setIfInBounds_toArray, List.set_cons_zero, List.set_cons_succ]
  refine wpAnyH_take (i := 21) (oi := { dst := some 26, op := Op.pick (Operand.tmp 22) (Operand.tmp 25) (Operand.const (Value.bool false)), type := 4, pos := "right.go:101", after := #[{ on := 17, ground := Ground.data }, { on := 20, ground := Ground.data }], guard := none }) (v := ?v21c19) rfl (by kernel_rfl) (by kernel_rfl) (by kernel_rfl) (fun _ _ _ h => h) (Or.inl ⟨by rfl, ?hy21c19⟩) hH ?r21c19
  case hy21c19 => (intro W hSw; (try dsimp only at hSw); go_simp; try (with_reducible rfl))
  try simp only [Act.put, List.setIfInBounds_toArray, List.set_cons_zero, List.set_cons_succ]
  refine wpAnyH_take (i := 22) (oi := { dst := some 27, op := Op.move (Operand.tmp 26), type := 4, pos := "right.go:101", after := #[{ on := 21, ground := Ground.data }, { on := 17, ground := Ground.chain }], guard := none }) (v := ?v22c20) rfl (by kernel_rfl) (by kernel_rfl) (by kernel_rfl) (fun _ _ _ h => h) (Or.inl ⟨by rfl, ?hy22c20⟩) hH ?r22c20
  case hy22c20 => (intro W hSw; (try dsimp only at hSw); go_simp; try (with_reducible rfl))
  try simp only [Act.put, List.setIfInBounds_toArray, List.set_cons_zero, List.set_cons_succ]
  refine wpAnyH_take (i := 23) (oi := { dst := some 28, op := Op.fieldAddr 37 (Operand.tmp 2) 4, type := 0, pos := "right.go:101", after := #[{ on := 22, ground := Ground.guard }], guard := some (22, true) }) (v := undef) rfl (by kernel_rfl) (by kernel_rfl) (by kernel_rfl) (fun _ _ _ h => h) (Or.inr ⟨by rfl, rfl⟩) hH ?r23c21
  try simp only [Act.put, List.setIfInBounds_toArray, List.set_cons_zero, List.set_cons_succ]
  refine wpAnyH_take (i := 24) (oi := { dst := some 29, op := Op.load 9 (Operand.tmp 28), type := 9, pos := "right.go:101", after := #[{ on := 23, ground := Ground.data }, { on := 22, ground := Ground.guard }], guard := some (22, true) }) (v := undef) rfl (by kernel_rfl) (by kernel_rfl) (by kernel_rfl) (fun _ _ _ h => h) (Or.inr ⟨by rfl, rfl⟩) hH ?r24c22
  try simp only [Act.put, List.setIfInBounds_toArray, List.set_cons_zero, List.set_cons_succ]
  refine wpAnyH_take (i := 25) (oi := { dst := some 30, op := Op.call { callee := Callee.value (Operand.func 66), args := #[Operand.tmp 29], argTypes := #[9] }, type := 4, pos := "right.go:102", after := #[{ on := 24, ground := Ground.data }, { on := 22, ground := Ground.chain }, { on := 22, ground := Ground.guard }], guard := some (22, true) }) (v := undef) rfl (by kernel_rfl) (by kernel_rfl) (by kernel_rfl) (fun _ _ _ h => h) (Or.inr ⟨by rfl, rfl⟩) hH ?r25c23
  try simp only [Act.put, List.setIfInBounds_toArray, List.set_cons_zero, List.set_cons_succ]
  refine wpAnyH_take (i := 26) (oi := { dst := some 31, op := Op.pick (Operand.tmp 27) (Operand.tmp 30) (Operand.const (Value.bool false)), type := 4, pos := "right.go:101", after := #[{ on := 22, ground := Ground.data }, { on := 25, ground := Ground.data }], guard := none }) (v := ?v26c24) rfl (by kernel_rfl) (by kernel_rfl) (by kernel_rfl) (fun _ _ _ h => h) (Or.inl ⟨by rfl, ?hy26c24⟩) hH ?r26c24
  case hy26c24 => (intro W hSw; (try dsimp only at hSw); go_simp; try (with_reducible rfl))
  try simp only [Act.put, List.setIfInBounds_toArray, List.set_cons_zero, List.set_cons_succ]
  refine wpAnyH_take (i := 27) (oi := { dst := some 4, op := Op.assign (Operand.tmp 31), type := 4, pos := "right.go:101", after := #[{ on := 26, ground := Ground.data }, { on := 25, ground := Ground.chain }, { on := 0, ground := Ground.phase }, { on := 1, ground := Ground.phase }, { on := 2, ground := Ground.phase }, { on := 3, ground := Ground.phase }, { on := 4, ground := Ground.phase }, { on := 5, ground := Ground.phase }, { on := 6, ground := Ground.phase }, { on := 7, ground := Ground.phase }, { on := 8, ground := Ground.phase }, { on := 9, ground := Ground.phase }, { on := 10, ground := Ground.phase }, { on := 11, ground := Ground.phase }, { on := 12, ground := Ground.phase }, { on := 13, ground := Ground.phase }, { on := 14, ground := Ground.phase }, { on := 15, ground := Ground.phase }, { on := 16, ground := Ground.phase }, { on := 17, ground := Ground.phase }, { on := 18, ground := Ground.phase }, { on := 19, ground := Ground.phase }, { on := 20, ground := Ground.phase }, { on := 21, ground := Ground.phase }, { on := 22, ground := Ground.phase }, { on := 23, ground := Ground.phase }, { on := 24, ground := Ground.phase }, { on := 25, ground := Ground.phase }, { on := 26, ground := Ground.phase }], guard := none }) (v := ?v27c25) rfl (by kernel_rfl) (by kernel_rfl) (by kernel_rfl) (fun _ _ _ h => h) (Or.inl ⟨by rfl, ?hy27c25⟩) hH ?r27c25
  case hy27c25 => (intro W hSw; (try dsimp only at hSw); go_simp; try (with_reducible rfl))
  try simp only [Act.put, List.setIfInBounds_toArray, List.set_cons_zero, List.set_cons_succ]
  refine wpAnyH_done (by kernel_rfl) ?_ _
  refine NoPanic.normal ?_
  have E2 : Hid (E = false) := by show _ = _; rw [← HE.out]; simp only [Bool.and_false, Bool.false_and, Bool.and_true]
  go_wp2_with fail
  go_ret
  exact ⟨by rw [E2.out]; rfl, K0.out.trans KQ⟩
 have gu : (0 : Int) ≤ c.nth := of_decide_eq_true hu
 cases v
 ·
  have gv : ¬ c.nth ≤ 99 := of_decide_eq_false hv
  have Q0 : Kp W0 W0.drew := (Kp.refl _).drew
  have MK : Hid (∀ W, Kp W0 W → W.cell? ⟨w.heap.size, 24, none⟩ = some (.string c.tx) ∧ W.cell? ⟨w.heap.size, 25, none⟩ = some (.int .i64 c.r.k) ∧ W.cell? ⟨w.heap.size, 26, none⟩ = some (.int .i64 c.r.mn) ∧ W.cell? ⟨w.heap.size, 27, none⟩ = some (.int .i64 c.r.mx) ∧ W.cell? ⟨w.heap.size, 28, none⟩ = some (.int .i64 c.r.m) ∧ W.cell? ⟨w.heap.size, 29, none⟩ = some (.int .u64 (c.r.t.a : Int)) ∧ W.cell? ⟨w.heap.size, 30, none⟩ = some (.int .u64 (c.r.t.b : Int)) ∧ W.cell? ⟨w.heap.size, 31, none⟩ = some (.int .u64 (c.r.t.c : Int)) ∧ W.cell? ⟨w.heap.size, 32, none⟩ = some (.int .u64 (c.r.t.d : Int)) ∧ W.cell? ⟨w.heap.size, 33, none⟩ = some (.slice c.r.ad c.r.l c.r.c) ∧ W.cell? ⟨w.heap.size, 34, none⟩ = some (.slice c.pa c.pl c.pc) ∧ W.cell? ⟨w.heap.size, 37, none⟩ = some (.int .i64 c.nth) ∧ Hid (Kp W0 W)) := fun W k => ⟨bl_cell (bl_kp A0.out k) 24 _ rfl, bl_cell (bl_kp A0.out k) 25 _ rfl, bl_cell (bl_kp A0.out k) 26 _ rfl, bl_cell (bl_kp A0.out k) 27 _ rfl, bl_cell (bl_kp A0.out k) 28 _ rfl, bl_cell (bl_kp A0.out k) 29 _ rfl, bl_cell (bl_kp A0.out k) 30 _ rfl, bl_cell (bl_kp A0.out k) 31 _ rfl, bl_cell (bl_kp A0.out k) 32 _ rfl, bl_cell (bl_kp A0.out k) 33 _ rfl, bl_cell (bl_kp A0.out k) 34 _ rfl, bl_cell (bl_kp A0.out k) 37 _ rfl, k⟩
  refine wp_region_noPanic ?_
  refine wp_region_held_drew (S := (fun W => W.cell? ⟨w.heap.size, 24, none⟩ = some (.string c.tx) ∧ W.cell? ⟨w.heap.size, 25, none⟩ = some (.int .i64 c.r.k) ∧ W.cell? ⟨w.heap.size, 26, none⟩ = some (.int .i64 c.r.mn) ∧ W.cell? ⟨w.heap.size, 27, none⟩ = some (.int .i64 c.r.mx) ∧ W.cell? ⟨w.heap.size, 28, none⟩ = some (.int .i64 c.r.m) ∧ W.cell? ⟨w.heap.size, 29, none⟩ = some (.int .u64 (c.r.t.a : Int)) ∧ W.cell? ⟨w.heap.size, 30, none⟩ = some (.int .u64 (c.r.t.b : Int)) ∧ W.cell? ⟨w.heap.size, 31, none⟩ = some (.int .u64 (c.r.t.c : Int)) ∧ W.cell? ⟨w.heap.size, 32, none⟩ = some (.int .u64 (c.r.t.d : Int)) ∧ W.cell? ⟨w.heap.size, 33, none⟩ = some (.slice c.r.ad c.r.l c.r.c) ∧ W.cell? ⟨w.heap.size, 34, none⟩ = some (.slice c.pa c.pl c.pc) ∧ W.cell? ⟨w.heap.size, 37, none⟩ = some (.int .i64 c.nth) ∧ Hid (Kp W0 W))) (by kernel_rfl) ?_ (fun hH => ?_)
  ·
   exact MK.out _ Q0
  have KQ := Q0
  refine wpAnyH_take (i := 0) (oi := { dst := some 5, op := Op.fieldAddr 37 (Operand.tmp 2) 5, type := 0, pos := "right.go:101", after := #[], guard := none }) (v := ?v0d1) rfl (by kernel_rfl) (by kernel_rfl) (by kernel_rfl) (fun _ _ _ h => h) (Or.inl ⟨by rfl, ?hy0d1⟩) hH ?r0d1
  case hy0d1 => (intro W hSw; (try dsimp only at hSw); go_simp; try (with_reducible rfl))
  try simp only [Act.put, List.setIfInBounds_toArray, List.set_cons_zero, List.set_cons_succ]
  refine wpAnyH_take (i := 1) (oi := { dst := some 6, op := Op.load 27 (Operand.tmp 5), type := 27, pos := "right.go:101", after := #[{ on := 0, ground := Ground.data }], guard := none }) (v := ?v1d2) rfl (by kernel_rfl) (by kernel_rfl) (by kernel_rfl) (fun _ _ _ h => h) (Or.inl ⟨by rfl, ?hy1d2⟩) hH ?r1d2
  case hy1d2 => (intro W hSw; (try dsimp only at hSw); go_simp; try (with_reducible rfl))
  try simp only [Act.put, List.setIfInBounds_toArray, List.set_cons_zero, List.set_cons_succ]
  refine wpAnyH_take (i := 2) (oi := { dst := some 7, op := Op.move (Operand.tmp 1), type := 4, pos := "right.go:101", after := #[], guard := none }) (v := ?v2d3) rfl (by kernel_rfl) (by kernel_rfl) (by kernel_rfl) (fun _ _ _ h => h) (Or.inl ⟨by rfl, ?hy2d3⟩) hH ?r2d3
  case hy2d3 => (intro W hSw; (try dsimp only at hSw); go_simp; try (with_reducible rfl))
  try simp only [Act.put, List.setIfInBounds_toArray, List.set_cons_zero, List.set_cons_succ]
  refine wpAnyH_ready (rs := [3]) (by kernel_rfl) (by simp) ?_
  refine AllReadyH.cons (o := { dst := some 8, op := Op.call { callee := Callee.value (Operand.func 74), args := #[Operand.tmp 6, Operand.tmp 7], argTypes := #[27, 4] }, type := 4, pos := "right.go:101", after := #[{ on := 1, ground := Ground.data }, { on := 2, ground := Ground.data }], guard := none }) rfl (fun K hKq => ?_) AllReadyH.nil
  go_simp
  refine (C1.out _ (I0.out.kp KQ).r).mono ?_
  rintro e y1 ⟨rfl, kq⟩
  refine hKq.out _ _ (MK.out _ (KQ.trans kq)) (fun hN => ?_)
  clear kq
  clear hKq K hH KQ
  have hH := hN
  clear hN
  have KQ := hH.2.2.2.2.2.2.2.2.2.2.2.2.out
  try simp only [Act.put, List.setIfInBounds_toArray, List.set_cons_zero, List.set_cons_succ]
  refine wpAnyH_take (i := 4) (oi := { dst := some 9, op := Op.move (Operand.tmp 8), type := 4, pos := "right.go:101", after := #[{ on := 3, ground := Ground.data }, { on := 3, ground := Ground.chain }], guard := none }) (v := ?v4d4) rfl (by kernel_rfl) (by kernel_rfl) (by kernel_rfl) (fun _ _ _ h => h) (Or.inl ⟨by rfl, ?hy4d4⟩) hH ?r4d4
  case hy4d4 => (intro W hSw; (try dsimp only at hSw); go_simp; try (with_reducible rfl))
  try simp only [Act.put, List.setIfInBounds_toArray, List.set_cons_zero, List.set_cons_succ]
  refine wpAnyH_take (i := 5) (oi := { dst := some 10, op := Op.fieldAddr 37 (Operand.tmp 2) 6, type := 0, pos := "right.go:101", after := #[{ on := 4, ground := Ground.guard }], guard := some (4, true) }) (v := ?v5d5) rfl (by kernel_rfl) (by kernel_rfl) (by kernel_rfl) (fun _ _ _ h => h) (Or.inl ⟨by rfl, ?hy5d5⟩) hH ?r5d5
  case hy5d5 => (intro W hSw; (try dsimp only at hSw); go_simp; try (with_reducible rfl))
  try simp only [Act.put, List.setIfInBounds_toArray, List.set_cons_zero, List.set_cons_succ]
  refine wpAnyH_take (i := 6) (oi := { dst := some 11, op := Op.load 35 (Operand.tmp 10), type := 35, pos := "right.go:101", after := #[{ on := 5, ground := Ground.data }, { on := 4, ground := Ground.guard }], guard := some (4, true) }) (v := ?v6d6) rfl (by kernel_rfl) (by kernel_rfl) (by kernel_rfl) (fun _ _ _ h => h) (Or.inl ⟨by rfl, ?hy6d6⟩) hH ?r6d6
  case hy6d6 => (intro W hSw; (try dsimp only at hSw); go_simp; try (with_reducible rfl))
  try simp only [Act.put, List.setIfInBounds_toArray, List.set_cons_zero, List.set_cons_succ]
  refine wpAnyH_take (i := 7) (oi := { dst := some 12, op := Op.fieldAddr 37 (Operand.tmp 2) 5, type := 0, pos := "right.go:101", after := #[{ on := 4, ground := Ground.guard }], guard := some (4, true) }) (v := ?v7d7) rfl (by kernel_rfl) (by kernel_rfl) (by kernel_rfl) (fun _ _ _ h => h) (Or.inl ⟨by rfl, ?hy7d7⟩) hH ?r7d7
  case hy7d7 => (intro W hSw; (try dsimp only at hSw); go_simp; try (with_reducible rfl))
  try simp only [Act.put, List.setIfInBounds_toArray, List.set_cons_zero, List.set_cons_succ]
  refine wpAnyH_take (i := 8) (oi := { dst := some 13, op := Op.load 27 (Operand.tmp 12), type := 27, pos := "right.go:101", after := #[{ on := 7, ground := Ground.data }, { on := 4, ground := Ground.guard }], guard := some (4, true) }) (v := ?v8d8) rfl (by kernel_rfl) (by kernel_rfl) (by kernel_rfl) (fun _ _ _ h => h) (Or.inl ⟨by rfl, ?hy8d8⟩) hH ?r8d8
  case hy8d8 => (intro W hSw; (try dsimp only at hSw); go_simp; try (with_reducible rfl))
  try simp only [Act.put, List.setIfInBounds_toArray, List.set_cons_zero, List.set_cons_succ]
  refine wpAnyH_ready (rs := [9]) (by kernel_rfl) (by simp) ?_
  refine AllReadyH.cons (o := { dst := some 14, op := Op.call { callee := Callee.value (Operand.func 93), args := #[Operand.tmp 13], argTypes := #[27] }, type := 3, pos := "right.go:101", after := #[{ on := 8, ground := Ground.data }, { on := 4, ground := Ground.chain }, { on := 4, ground := Ground.guard }], guard := some (4, true) }) rfl (fun K hKq => ?_) AllReadyH.nil
  go_simp
  refine (C2.out _ (I0.out.kp KQ).r).mono ?_
  rintro e y2 ⟨rfl, kq⟩
  refine hKq.out _ _ (MK.out _ (KQ.trans kq)) (fun hN => ?_)
  clear kq
  clear hKq K hH KQ
  have hH := hN
  clear hN
  have KQ := hH.2.2.2.2.2.2.2.2.2.2.2.2.out
  try simp only [Act.put, List.setIfInBounds_toArray, List.set_cons_zero, List.set_cons_succ]
  refine wpAnyH_ready (rs := [10]) (by kernel_rfl) (by simp) ?_
  refine AllReadyH.cons (o := { dst := some 15, op := Op.call { callee := Callee.value (Operand.func 92), args := #[Operand.tmp 11, Operand.tmp 14], argTypes := #[35, 3] }, type := 4, pos := "right.go:101", after := #[{ on := 6, ground := Ground.data }, { on := 9, ground := Ground.data }, { on := 9, ground := Ground.chain }, { on := 4, ground := Ground.guard }], guard := some (4, true) }) rfl (fun K hKq => ?_) AllReadyH.nil
  go_simp
  refine (C3.out _ (I0.out.kp KQ).p).mono ?_
  rintro e y3 ⟨rfl, kq⟩
  refine hKq.out _ _ (MK.out _ (KQ.trans kq)) (fun hN => ?_)
  clear kq
  clear hKq K hH KQ
  have hH := hN
  clear hN
  have KQ := hH.2.2.2.2.2.2.2.2.2.2.2.2.out
  try simp only [Act.put, List.setIfInBounds_toArray, List.set_cons_zero, List.set_cons_succ]
  refine wpAnyH_take (i := 11) (oi := { dst := some 16, op := Op.pick (Operand.tmp 9) (Operand.tmp 15) (Operand.const (Value.bool false)), type := 4, pos := "right.go:101", after := #[{ on := 4, ground := Ground.data }, { on := 10, ground := Ground.data }], guard := none }) (v := ?v11d9) rfl (by kernel_rfl) (by kernel_rfl) (by kernel_rfl) (fun _ _ _ h => h) (Or.inl ⟨by rfl, ?hy11d9⟩) hH ?r11d9
  case hy11d9 => (intro W hSw; (try dsimp only at hSw); go_simp; try (with_reducible rfl))
  try simp only [Act.put, List.setIfInBounds_toArray, List.set_cons_zero, List.set_cons_succ]
  refine wpAnyH_take (i := 12) (oi := { dst := some 17, op := Op.move (Operand.tmp 16), type := 4, pos := "right.go:101", after := #[{ on := 11, ground := Ground.data }, { on := 10, ground := Ground.chain }], guard := none }) (v := ?v12d10) rfl (by kernel_rfl) (by kernel_rfl) (by kernel_rfl) (fun _ _ _ h => h) (Or.inl ⟨by rfl, ?hy12d10⟩) hH ?r12d10
  case hy12d10 => (intro W hSw; (try dsimp only at hSw); go_simp; try (with_reducible rfl))
  try simp only [Act.put, List.setIfInBounds_toArray, List.set_cons_zero, List.set_cons_succ]
  refine wpAnyH_take (i := 13) (oi := { dst := some 18, op := Op.fieldAddr 37 (Operand.tmp 2) 9, type := 0, pos := "right.go:101", after := #[{ on := 12, ground := Ground.guard }], guard := some (12, true) }) (v := ?v13d11) rfl (by kernel_rfl) (by kernel_rfl) (by kernel_rfl) (fun _ _ _ h => h) (Or.inl ⟨by rfl, ?hy13d11⟩) hH ?r13d11
  case hy13d11 => (intro W hSw; (try dsimp only at hSw); go_simp; try (with_reducible rfl))
  try simp only [Act.put, List.setIfInBounds_toArray, List.set_cons_zero, List.set_cons_succ]
  refine wpAnyH_take (i := 14) (oi := { dst := some 19, op := Op.load 3 (Operand.tmp 18), type := 3, pos := "right.go:101", after := #[{ on := 13, ground := Ground.data }, { on := 12, ground := Ground.guard }], guard := some (12, true) }) (v := ?v14d12) rfl (by kernel_rfl) (by kernel_rfl) (by kernel_rfl) (fun _ _ _ h => h) (Or.inl ⟨by rfl, ?hy14d12⟩) hH ?r14d12
  case hy14d12 => (intro W hSw; (try dsimp only at hSw); go_simp; try (with_reducible rfl))
  try simp only [Act.put, List.setIfInBounds_toArray, List.set_cons_zero, List.set_cons_succ]
  refine wpAnyH_take (i := 15) (oi := { dst := some 20, op := Op.binOp BinOp.leq 3 (Operand.const (Value.int IntKind.i64 0)) (Operand.tmp 19) 3, type := 4, pos := "right.go:101", after := #[{ on := 14, ground := Ground.data }, { on := 12, ground := Ground.guard }], guard := some (12, true) }) (v := ?v15d13) rfl (by kernel_rfl) (by kernel_rfl) (by kernel_rfl) (fun _ _ _ h => h) (Or.inl ⟨by rfl, ?hy15d13⟩) hH ?r15d13
  case hy15d13 => (intro W hSw; (try dsimp only at hSw); go_simp; try (with_reducible rfl))
  try simp only [Act.put, List.setIfInBounds_toArray, List.set_cons_zero, List.set_cons_succ]
  refine wpAnyH_take (i := 16) (oi := { dst := some 21, op := Op.pick (Operand.tmp 17) (Operand.tmp 20) (Operand.const (Value.bool false)), type := 4, pos := "right.go:101", after := #[{ on := 12, ground := Ground.data }, { on := 15, ground := Ground.data }], guard := none }) (v := ?v16d14) rfl (by kernel_rfl) (by kernel_rfl) (by kernel_rfl) (fun _ _ _ h => h) (Or.inl ⟨by rfl, ?hy16d14⟩) hH ?r16d14
  case hy16d14 => (intro W hSw; (try dsimp only at hSw); go_simp; try (with_reducible rfl))
  try simp only [Act.put, List.setIfInBounds_toArray, List.set_cons_zero, List.set_cons_succ]
  refine wpAnyH_take (i := 17) (oi := { dst := some 22, op := Op.move (Operand.tmp 21), type := 4, pos := "right.go:101", after := #[{ on := 16, ground := Ground.data }, { on := 12, ground := Ground.chain }], guard := none }) (v := ?v17d15) rfl (by kernel_rfl) (by kernel_rfl) (by kernel_rfl) (fun _ _ _ h => h) (Or.inl ⟨by rfl, ?hy17d15⟩) hH ?r17d15
  case hy17d15 => (intro W hSw; (try dsimp only at hSw); go_simp; try (with_reducible rfl))
  try simp only [Act.put, List.setIfInBounds_toArray, List.set_cons_zero, List.set_cons_succ]
  refine wpAnyH_take (i := 18) (oi := { dst := some 23, op := Op.fieldAddr 37 (Operand.tmp 2) 9, type := 0, pos := "right.go:101", after := #[{ on := 17, ground := Ground.guard }], guard := some (17, true) }) (v := ?v18d16) rfl (by kernel_rfl) (by kernel_rfl) (by kernel_rfl) (fun _ _ _ h => h) (Or.inl ⟨by rfl, ?hy18d16⟩) hH ?r18d16
  case hy18d16 => (intro W hSw; (try dsimp only at hSw); go_simp; try (with_reducible rfl))
  try simp only [Act.put, List.setIfInBounds_toArray, List.set_cons_zero, List.set_cons_succ]
  refine wpAnyH_take (i := 19) (oi := { dst := some 24, op := Op.load 3 (Operand.tmp 23), type := 3, pos := "right.go:101", after := #[{ on := 18, ground := Ground.data }, { on := 17, ground := Ground.guard }], guard := some (17, true) }) (v := ?v19d17) rfl (by kernel_rfl) (by kernel_rfl) (by kernel_rfl) (fun _ _ _ h => h) (Or.inl ⟨by rfl, ?hy19d17⟩) hH ?r19d17
  case hy19d17 => (intro W hSw; (try dsimp only at hSw); go_simp; try (with_reducible rfl))
  try simp only [Act.put, List.setIfInBounds_toArray, List.set_cons_zero, List.set_cons_succ]
  refine wpAnyH_take (i := 20) (oi := { dst := some 25, op := Op.binOp BinOp.leq 3 (Operand.tmp 24) (Operand.const (Value.int IntKind.i64 99)) 3, type := 4, pos := "right.go:101", after := #[{ on := 19, ground := Ground.data }, { on := 17, ground := Ground.guard }], guard := some (17, true) }) (v := ?v20d18) rfl (by kernel_rfl) (by kernel_rfl) (by kernel_rfl) (fun _ _ _ h => h) (Or.inl ⟨by rfl, ?hy20d18⟩) hH ?r20d18
  case hy20d18 => (intro W hSw; (try dsimp only at hSw); go_simp; try (with_reducible rfl))
  try simp only [Act.put, List.setIfInBounds_toArray, List.set_cons_zero, List.set_cons_succ]
  refine wpAnyH_take (i := 21) (oi := { dst := some 26, op := Op.pick (Operand.tmp 22) (Operand.tmp 25) (Operand.const (Value.bool false)), type := 4, pos := "right.go:101", after := #[{ on := 17, ground := Ground.data }, { on := 20, ground := Ground.data }], guard := none }) (v := ?v21d19) rfl (by kernel_rfl) (by kernel_rfl) (by kernel_rfl) (fun _ _ _ h => h) (Or.inl ⟨by rfl, ?hy21d19⟩) hH ?r21d19
  case hy21d19 => (intro W hSw; (try dsimp only at hSw); go_simp; try (with_reducible rfl))
  try simp only [Act.put, List.setIfInBounds_toArray, List.set_cons_zero, List.set_cons_succ]
  refine wpAnyH_take (i := 22) (oi := { dst := some 27, op := Op.move (Operand.tmp 26), type := 4, pos := "right.go:101", after := #[{ on := 21, ground := Ground.data }, { on := 17, ground := Ground.chain }], guard := none }) (v := ?v22d20) rfl (by kernel_rfl) (by kernel_rfl) (by kernel_rfl) (fun _ _ _ h => h) (Or.inl ⟨by rfl, ?hy22d20⟩) hH ?r22d20
  case hy22d20 => (intro W hSw; (try dsimp only at hSw); go_simp; try (with_reducible rfl))
  try simp only [Act.put, List.setIfInBounds_toArray, List.set_cons_zero, List.set_cons_succ]
  refine wpAnyH_take (i := 23) (oi := { dst := some 28, op := Op.fieldAddr 37 (Operand.tmp 2) 4, type := 0, pos := "right.go:101", after := #[{ on := 22, ground := Ground.guard }], guard := some (22, true) }) (v := undef) rfl (by kernel_rfl) (by kernel_rfl) (by kernel_rfl) (fun _ _ _ h => h) (Or.inr ⟨by rfl, rfl⟩) hH ?r23d21
  try simp only [Act.put, List.setIfInBounds_toArray, List.set_cons_zero, List.set_cons_succ]
  refine wpAnyH_take (i := 24) (oi := { dst := some 29, op := Op.load 9 (Operand.tmp 28), type := 9, pos := "right.go:101", after := #[{ on := 23, ground := Ground.data }, { on := 22, ground := Ground.guard }], guard := some (22, true) }) (v := undef) rfl (by kernel_rfl) (by kernel_rfl) (by kernel_rfl) (fun _ _ _ h => h) (Or.inr ⟨by rfl, rfl⟩) hH ?r24d22
  try simp only [Act.put, List.setIfInBounds_toArray, List.set_cons_zero, List.set_cons_succ]
  refine wpAnyH_take (i := 25) (oi := { dst := some 30, op := Op.call { callee := Callee.value (Operand.func 66), args := #[Operand.tmp 29], argTypes := #[9] }, type := 4, pos := "right.go:102", after := #[{ on := 24, ground := Ground.data }, { on := 22, ground := Ground.chain }, { on := 22, ground := Ground.guard }], guard := some (22, true) }) (v := undef) rfl (by kernel_rfl) (by kernel_rfl) (by kernel_rfl) (fun _ _ _ h => h) (Or.inr ⟨by rfl, rfl⟩) hH ?r25d23
  try simp only [Act.put, List.setIfInBounds_toArray, List.set_cons_zero, List.set_cons_succ]
  refine wpAnyH_take (i := 26) (oi := { dst := some 31, op := Op.pick (Operand.tmp 27) (Operand.tmp 30) (Operand.const (Value.bool false)), type := 4, pos := "right.go:101", after := #[{ on := 22, ground := Ground.data }, { on := 25, ground := Ground.data }], guard := none }) (v := ?v26d24) rfl (by kernel_rfl) (by kernel_rfl) (by kernel_rfl) (fun _ _ _ h => h) (Or.inl ⟨by rfl, ?hy26d24⟩) hH ?r26d24
  case hy26d24 => (intro W hSw; (try dsimp only at hSw); go_simp; try (with_reducible rfl))
  try simp only [Act.put, List.setIfInBounds_toArray, List.set_cons_zero, List.set_cons_succ]
  refine wpAnyH_take (i := 27) (oi := { dst := some 4, op := Op.assign (Operand.tmp 31), type := 4, pos := "right.go:101", after := #[{ on := 26, ground := Ground.data }, { on := 25, ground := Ground.chain }, { on := 0, ground := Ground.phase }, { on := 1, ground := Ground.phase }, { on := 2, ground := Ground.phase }, { on := 3, ground := Ground.phase }, { on := 4, ground := Ground.phase }, { on := 5, ground := Ground.phase }, { on := 6, ground := Ground.phase }, { on := 7, ground := Ground.phase }, { on := 8, ground := Ground.phase }, { on := 9, ground := Ground.phase }, { on := 10, ground := Ground.phase }, { on := 11, ground := Ground.phase }, { on := 12, ground := Ground.phase }, { on := 13, ground := Ground.phase }, { on := 14, ground := Ground.phase }, { on := 15, ground := Ground.phase }, { on := 16, ground := Ground.phase }, { on := 17, ground := Ground.phase }, { on := 18, ground := Ground.phase }, { on := 19, ground := Ground.phase }, { on := 20, ground := Ground.phase }, { on := 21, ground := Ground.phase }, { on := 22, ground := Ground.phase }, { on := 23, ground := Ground.phase }, { on := 24, ground := Ground.phase }, { on := 25, ground := Ground.phase }, { on := 26, ground := Ground.phase }], guard := none }) (v := ?v27d25) rfl (by kernel_rfl) (by kernel_rfl) (by kernel_rfl) (fun _ _ _ h => h) (Or.inl ⟨by rfl, ?hy27d25⟩) hH ?r27d25
  case hy27d25 => (intro W hSw; (try dsimp only at hSw); go_simp; try (with_reducible rfl))
  try simp only [Act.put, List.setIfInBounds_toArray, List.set_cons_zero, List.set_cons_succ]
  refine wpAnyH_done (by kernel_rfl) ?_ _
  refine NoPanic.normal ?_
  have E2 : Hid (E = false) := by show _ = _; rw [← HE.out]; simp only [Bool.and_false, Bool.false_and, Bool.and_true]
  go_wp2_with fail
  go_ret
  exact ⟨by rw [E2.out]; rfl, K0.out.trans KQ⟩
 have gv : c.nth ≤ 99 := of_decide_eq_true hv
 have Q0 : Kp W0 W0.drew := (Kp.refl _).drew
 have MK : Hid (∀ W, Kp W0 W → W.cell? ⟨w.heap.size, 24, none⟩ = some (.string c.tx) ∧ W.cell? ⟨w.heap.size, 25, none⟩ = some (.int .i64 c.r.k) ∧ W.cell? ⟨w.heap.size, 26, none⟩ = some (.int .i64 c.r.mn) ∧ W.cell? ⟨w.heap.size, 27, none⟩ = some (.int .i64 c.r.mx) ∧ W.cell? ⟨w.heap.size, 28, none⟩ = some (.int .i64 c.r.m) ∧ W.cell? ⟨w.heap.size, 29, none⟩ = some (.int .u64 (c.r.t.a : Int)) ∧ W.cell? ⟨w.heap.size, 30, none⟩ = some (.int .u64 (c.r.t.b : Int)) ∧ W.cell? ⟨w.heap.size, 31, none⟩ = some (.int .u64 (c.r.t.c : Int)) ∧ W.cell? ⟨w.heap.size, 32, none⟩ = some (.int .u64 (c.r.t.d : Int)) ∧ W.cell? ⟨w.heap.size, 33, none⟩ = some (.slice c.r.ad c.r.l c.r.c) ∧ W.cell? ⟨w.heap.size, 34, none⟩ = some (.slice c.pa c.pl c.pc) ∧ W.cell? ⟨w.heap.size, 37, none⟩ = some (.int .i64 c.nth) ∧ Hid (Kp W0 W)) := fun W k => ⟨bl_cell (bl_kp A0.out k) 24 _ rfl, bl_cell (bl_kp A0.out k) 25 _ rfl, bl_cell (bl_kp A0.out k) 26 _ rfl, bl_cell (bl_kp A0.out k) 27 _ rfl, bl_cell (bl_kp A0.out k) 28 _ rfl, bl_cell (bl_kp A0.out k) 29 _ rfl, bl_cell (bl_kp A0.out k) 30 _ rfl, bl_cell (bl_kp A0.out k) 31 _ rfl, bl_cell (bl_kp A0.out k) 32 _ rfl, bl_cell (bl_kp A0.out k) 33 _ rfl, bl_cell (bl_kp A0.out k) 34 _ rfl, bl_cell (bl_kp A0.out k) 37 _ rfl, k⟩
 refine wp_region_noPanic ?_
 refine wp_region_held_drew (S := (fun W => W.cell? ⟨w.heap.size, 24, none⟩ = some (.string c.tx) ∧ W.cell? ⟨w.heap.size, 25, none⟩ = some (.int .i64 c.r.k) ∧ W.cell? ⟨w.heap.size, 26, none⟩ = some (.int .i64 c.r.mn) ∧ W.cell? ⟨w.heap.size, 27, none⟩ = some (.int .i64 c.r.mx) ∧ W.cell? ⟨w.heap.size, 28, none⟩ = some (.int .i64 c.r.m) ∧ W.cell? ⟨w.heap.size, 29, none⟩ = some (.int .u64 (c.r.t.a : Int)) ∧ W.cell? ⟨w.heap.size, 30, none⟩ = some (.int .u64 (c.r.t.b : Int)) ∧ W.cell? ⟨w.heap.size, 31, none⟩ = some (.int .u64 (c.r.t.c : Int)) ∧ W.cell? ⟨w.heap.size, 32, none⟩ = some (.int .u64 (c.r.t.d : Int)) ∧ W.cell? ⟨w.heap.size, 33, none⟩ = some (.slice c.r.ad c.r.l c.r.c) ∧ W.cell? ⟨w.heap.size, 34, none⟩ = some (.slice c.pa c.pl c.pc) ∧ W.cell? ⟨w.heap.size, 37, none⟩ = some (.int .i64 c.nth) ∧ Hid (Kp W0 W))) (by kernel_rfl) ?_ (fun hH => ?_)
 ·
  exact MK.out _ Q0
 have KQ := Q0
 refine wpAnyH_take (i := 0) (oi := { dst := some 5, op := Op.fieldAddr 37 (Operand.tmp 2) 5, type := 0, pos := "right.go:101", after := #[], guard := none }) (v := ?v0e1) rfl (by kernel_rfl) (by kernel_rfl) (by kernel_rfl) (fun _ _ _ h => h) (Or.inl ⟨by rfl, ?hy0e1⟩) hH ?r0e1
 case hy0e1 => (intro W hSw; (try dsimp only at hSw); go_simp; try (with_reducible rfl))
 try simp only [Act.put, List.setIfInBounds_toArray, List.set_cons_zero, List.set_cons_succ]
 refine wpAnyH_take (i := 1) (oi := { dst := some 6, op := Op.load 27 (Operand.tmp 5), type := 27, pos := "right.go:101", after := #[{ on := 0, ground := Ground.data }], guard := none }) (v := ?v1e2) rfl (by kernel_rfl) (by kernel_rfl) (by kernel_rfl) (fun _ _ _ h => h) (Or.inl ⟨by rfl, ?hy1e2⟩) hH ?r1e2
 case hy1e2 => (intro W hSw; (try dsimp only at hSw); go_simp; try (with_reducible rfl))
 try simp only [Act.put, List.setIfInBounds_toArray, List.set_cons_zero, List.set_cons_succ]
 refine wpAnyH_take (i := 2) (oi := { dst := some 7, op := Op.move (Operand.tmp 1), type := 4, pos := "right.go:101", after := #[], guard := none }) (v := ?v2e3) rfl (by kernel_rfl) (by kernel_rfl) (by kernel_rfl) (fun _ _ _ h => h) (Or.inl ⟨by rfl, ?hy2e3⟩) hH ?r2e3
 case hy2e3 => (intro W hSw; (try dsimp only at hSw); go_simp; try (with_reducible rfl))
 try simp only [Act.put, List.setIfInBounds_toArray, List.set_cons_zero, List.set_cons_succ]
 refine wpAnyH_ready (rs := [3]) (by kernel_rfl) (by simp) ?_
 refine AllReadyH.cons (o := { dst := some 8, op := Op.call { callee := Callee.value (Operand.func 74), args := #[Operand.tmp 6, Operand.tmp 7], argTypes := #[27, 4] }, type := 4, pos := "right.go:101", after := #[{ on := 1, ground := Ground.data }, { on := 2, ground := Ground.data }], guard := none }) rfl (fun K hKq => ?_) AllReadyH.nil
 go_simp
 refine (C1.out _ (I0.out.kp KQ).r).mono ?_
 rintro e y1 ⟨rfl, kq⟩
 refine hKq.out _ _ (MK.out _ (KQ.trans kq)) (fun hN => ?_)
 clear kq
 clear hKq K hH KQ
 have hH := hN
 clear hN
 have KQ := hH.2.2.2.2.2.2.2.2.2.2.2.2.out
 try simp only [Act.put, List.setIfInBounds_toArray, List.set_cons_zero, List.set_cons_succ]
 refine wpAnyH_take (i := 4) (oi := { dst := some 9, op := Op.move (Operand.tmp 8), type := 4, pos := "right.go:101", after := #[{ on := 3, ground := Ground.data }, { on := 3, ground := Ground.chain }], guard := none }) (v := ?v4e4) rfl (by kernel_rfl) (by kernel_rfl) (by kernel_rfl) (fun _ _ _ h => h) (Or.inl ⟨by rfl, ?hy4e4⟩) hH ?r4e4
 case hy4e4 => (intro W hSw; (try dsimp only at hSw); go_simp; try (with_reducible rfl))
 try simp only [Act.put, List.setIfInBounds_toArray, List.set_cons_zero, List.set_cons_succ]
 refine wpAnyH_take (i := 5) (oi := { dst := some 10, op := Op.fieldAddr 37 (Operand.tmp 2) 6, type := 0, pos := "right.go:101", after := #[{ on := 4, ground := Ground.guard }], guard := some (4, true) }) (v := ?v5e5) rfl (by kernel_rfl) (by kernel_rfl) (by kernel_rfl) (fun _ _ _ h => h) (Or.inl ⟨by rfl, ?hy5e5⟩) hH ?r5e5
 case hy5e5 => (intro W hSw; (try dsimp only at hSw); go_simp; try (with_reducible rfl))
 try simp only [Act.put, List.setIfInBounds_toArray, List.set_cons_zero, List.set_cons_succ]
 refine wpAnyH_take (i := 6) (oi := { dst := some 11, op := Op.load 35 (Operand.tmp 10), type := 35, pos := "right.go:101", after := #[{ on := 5, ground := Ground.data }, { on := 4, ground := Ground.guard }], guard := some (4, true) }) (v := ?v6e6) rfl (by kernel_rfl) (by kernel_rfl) (by kernel_rfl) (fun _ _ _ h => h) (Or.inl ⟨by rfl, ?hy6e6⟩) hH ?r6e6
 case hy6e6 => (intro W hSw; (try dsimp only at hSw); go_simp; try (with_reducible rfl))
 try simp only [Act.put, List.setIfInBounds_toArray, List.set_cons_zero, List.set_cons_succ]
 refine wpAnyH_take (i := 7) (oi := { dst := some 12, op := Op.fieldAddr 37 (Operand.tmp 2) 5, type := 0, pos := "right.go:101", after := #[{ on := 4, ground := Ground.guard }], guard := some (4, true) }) (v := ?v7e7) rfl (by kernel_rfl) (by kernel_rfl) (by kernel_rfl) (fun _ _ _ h => h) (Or.inl ⟨by rfl, ?hy7e7⟩) hH ?r7e7
 case hy7e7 => (intro W hSw; (try dsimp only at hSw); go_simp; try (with_reducible rfl))
 try simp only [Act.put, List.setIfInBounds_toArray, List.set_cons_zero, List.set_cons_succ]
 refine wpAnyH_take (i := 8) (oi := { dst := some 13, op := Op.load 27 (Operand.tmp 12), type := 27, pos := "right.go:101", after := #[{ on := 7, ground := Ground.data }, { on := 4, ground := Ground.guard }], guard := some (4, true) }) (v := ?v8e8) rfl (by kernel_rfl) (by kernel_rfl) (by kernel_rfl) (fun _ _ _ h => h) (Or.inl ⟨by rfl, ?hy8e8⟩) hH ?r8e8
 case hy8e8 => (intro W hSw; (try dsimp only at hSw); go_simp; try (with_reducible rfl))
 try simp only [Act.put, List.setIfInBounds_toArray, List.set_cons_zero, List.set_cons_succ]
 refine wpAnyH_ready (rs := [9]) (by kernel_rfl) (by simp) ?_
 refine AllReadyH.cons (o := { dst := some 14, op := Op.call { callee := Callee.value (Operand.func 93), args := #[Operand.tmp 13], argTypes := #[27] }, type := 3, pos := "right.go:101", after := #[{ on := 8, ground := Ground.data }, { on := 4, ground := Ground.chain }, { on := 4, ground := Ground.guard }], guard := some (4, true) }) rfl (fun K hKq => ?_) AllReadyH.nil
 go_simp
 refine (C2.out _ (I0.out.kp KQ).r).mono ?_
 rintro e y2 ⟨rfl, kq⟩
 refine hKq.out _ _ (MK.out _ (KQ.trans kq)) (fun hN => ?_)
 clear kq
 clear hKq K hH KQ
 have hH := hN
 clear hN
 have KQ := hH.2.2.2.2.2.2.2.2.2.2.2.2.out
 try simp only [Act.put, List.setIfInBounds_toArray, List.set_cons_zero, List.set_cons_succ]
 refine wpAnyH_ready (rs := [10]) (by kernel_rfl) (by simp) ?_
 refine AllReadyH.cons (o := { dst := some 15, op := Op.call { callee := Callee.value (Operand.func 92), args := #[Operand.tmp 11, Operand.tmp 14], argTypes := #[35, 3] }, type := 4, pos := "right.go:101", after := #[{ on := 6, ground := Ground.data }, { on := 9, ground := Ground.data }, { on := 9, ground := Ground.chain }, { on := 4, ground := Ground.guard }], guard := some (4, true) }) rfl (fun K hKq => ?_) AllReadyH.nil
 go_simp
 refine (C3.out _ (I0.out.kp KQ).p).mono ?_
 rintro e y3 ⟨rfl, kq⟩
 refine hKq.out _ _ (MK.out _ (KQ.trans kq)) (fun hN => ?_)
 clear kq
 clear hKq K hH KQ
 have hH := hN
 clear hN
 have KQ := hH.2.2.2.2.2.2.2.2.2.2.2.2.out
 try simp only [Act.put, List.setIfInBounds_toArray, List.set_cons_zero, List.set_cons_succ]
 refine wpAnyH_take (i := 11) (oi := { dst := some 16, op := Op.pick (Operand.tmp 9) (Operand.tmp 15) (Operand.const (Value.bool false)), type := 4, pos := "right.go:101", after := #[{ on := 4, ground := Ground.data }, { on := 10, ground := Ground.data }], guard := none }) (v := ?v11e9) rfl (by kernel_rfl) (by kernel_rfl) (by kernel_rfl) (fun _ _ _ h => h) (Or.inl ⟨by rfl, ?hy11e9⟩) hH ?r11e9
 case hy11e9 => (intro W hSw; (try dsimp only at hSw); go_simp; try (with_reducible rfl))
 try simp only [Act.put, List.setIfInBounds_toArray, List.set_cons_zero, List.set_cons_succ]
 refine wpAnyH_take (i := 12) (oi := { dst := some 17, op := Op.move (Operand.tmp 16), type := 4, pos := "right.go:101", after := #[{ on := 11, ground := Ground.data }, { on := 10, ground := Ground.chain }], guard := none }) (v := ?v12e10) rfl (by kernel_rfl) (by kernel_rfl) (by kernel_rfl) (fun _ _ _ h => h) (Or.inl ⟨by rfl, ?hy12e10⟩) hH ?r12e10
 case hy12e10 => (intro W hSw; (try dsimp only at hSw); go_simp; try (with_reducible rfl))
 try simp only [Act.put, List.setIfInBounds_toArray, List.set_cons_zero, List.set_cons_succ]
 refine wpAnyH_take (i := 13) (oi := { dst := some 18, op := Op.fieldAddr 37 (Operand.tmp 2) 9, type := 0, pos := "right.go:101", after := #[{ on := 12, ground := Ground.guard }], guard := some (12, true) }) (v := ?v13e11) rfl (by kernel_rfl) (by kernel_rfl) (by kernel_rfl) (fun _ _ _ h => h) (Or.inl ⟨by rfl, ?hy13e11⟩) hH ?r13e11
 case hy13e11 => (intro W hSw; (try dsimp only at hSw); go_simp; try (with_reducible rfl))
 try simp only [Act.put, List.setIfInBounds_toArray, List.set_cons_zero, List.set_cons_succ]
 refine wpAnyH_take (i := 14) (oi := { dst := some 19, op := Op.load 3 (Operand.tmp 18), type := 3, pos := "right.go:101", after := #[{ on := 13, ground := Ground.data }, { on := 12, ground := Ground.guard }], guard := some (12, true) }) (v := ?v14e12) rfl (by kernel_rfl) (by kernel_rfl) (by kernel_rfl) (fun _ _ _ h => h) (Or.inl ⟨by rfl, ?hy14e12⟩) hH ?r14e12
 case hy14e12 => (intro W hSw; (try dsimp only at hSw); go_simp; try (with_reducible rfl))
 try simp only [Act.put, List.setIfInBounds_toArray, List.set_cons_zero, List.set_cons_succ]
 refine wpAnyH_take (i := 15) (oi := { dst := some 20, op := Op.binOp BinOp.leq 3 (Operand.const (Value.int IntKind.i64 0)) (Operand.tmp 19) 3, type := 4, pos := "right.go:101", after := #[{ on := 14, ground := Ground.data }, { on := 12, ground := Ground.guard }], guard := some (12, true) }) (v := ?v15e13) rfl (by kernel_rfl) (by kernel_rfl) (by kernel_rfl) (fun _ _ _ h => h) (Or.inl ⟨by rfl, ?hy15e13⟩) hH ?r15e13
 case hy15e13 => (intro W hSw; (try dsimp only at hSw); go_simp; try (with_reducible rfl))
 try simp only [Act.put, List.setIfInBounds_toArray, List.set_cons_zero, List.set_cons_succ]
 refine wpAnyH_take (i := 16) (oi := { dst := some 21, op := Op.pick (Operand.tmp 17) (Operand.tmp 20) (Operand.const (Value.bool false)), type := 4, pos := "right.go:101", after := #[{ on := 12, ground := Ground.data }, { on := 15, ground := Ground.data }], guard := none }) (v := ?v16e14) rfl (by kernel_rfl) (by kernel_rfl) (by kernel_rfl) (fun _ _ _ h => h) (Or.inl ⟨by rfl, ?hy16e14⟩) hH ?r16e14
 case hy16e14 => (intro W hSw; (try dsimp only at hSw); go_simp; try (with_reducible rfl))
 try simp only [Act.put, List.setIfInBounds_toArray, List.set_cons_zero, List.set_cons_succ]
 refine wpAnyH_take (i := 17) (oi := { dst := some 22, op := Op.move (Operand.tmp 21), type := 4, pos := "right.go:101", after := #[{ on := 16, ground := Ground.data }, { on := 12, ground := Ground.chain }], guard := none }) (v := ?v17e15) rfl (by kernel_rfl) (by kernel_rfl) (by kernel_rfl) (fun _ _ _ h => h) (Or.inl ⟨by rfl, ?hy17e15⟩) hH ?r17e15
 case hy17e15 => (intro W hSw; (try dsimp only at hSw); go_simp; try (with_reducible rfl))
 try simp only [Act.put, List.setIfInBounds_toArray, List.set_cons_zero, List.set_cons_succ]
 refine wpAnyH_take (i := 18) (oi := { dst := some 23, op := Op.fieldAddr 37 (Operand.tmp 2) 9, type := 0, pos := "right.go:101", after := #[{ on := 17, ground := Ground.guard }], guard := some (17, true) }) (v := ?v18e16) rfl (by kernel_rfl) (by kernel_rfl) (by kernel_rfl) (fun _ _ _ h => h) (Or.inl ⟨by rfl, ?hy18e16⟩) hH ?r18e16
 case hy18e16 => (intro W hSw; (try dsimp only at hSw); go_simp; try (with_reducible rfl))
 try simp only [Act.put, List.setIfInBounds_toArray, List.set_cons_zero, List.set_cons_succ]
 refine wpAnyH_take (i := 19) (oi := { dst := some 24, op := Op.load 3 (Operand.tmp 23), type := 3, pos := "right.go:101", after := #[{ on := 18, ground := Ground.data }, { on := 17, ground := Ground.guard }], guard := some (17, true) }) (v := ?v19e17) rfl (by kernel_rfl) (by kernel_rfl) (by kernel_rfl) (fun _ _ _ h => h) (Or.inl ⟨by rfl, ?hy19e17⟩) hH ?r19e17
 case hy19e17 => (intro W hSw; (try dsimp only at hSw); go_simp; try (with_reducible rfl))
 try simp only [Act.put, List.setIfInBounds_toArray, List.set_cons_zero, List.set_cons_succ]
 refine wpAnyH_take (i := 20) (oi := { dst := some 25, op := Op.binOp BinOp.leq 3 (Operand.tmp 24) (Operand.const (Value.int IntKind.i64 99)) 3, type := 4, pos := "right.go:101", after := #[{ on := 19, ground := Ground.data }, { on := 17, ground := Ground.guard }], guard := some (17, true) }) (v := ?v20e18) rfl (by kernel_rfl) (by kernel_rfl) (by kernel_rfl) (fun _ _ _ h => h) (Or.inl ⟨by rfl, ?hy20e18⟩) hH ?r20e18
 case hy20e18 => (intro W hSw; (try dsimp only at hSw); go_simp; try (with_reducible rfl))
 try simp only [Act.put, List.setIfInBounds_toArray, List.set_cons_zero, List.set_cons_succ]
 refine wpAnyH_take (i := 21) (oi := { dst := some 26, op := Op.pick (Operand.tmp 22) (Operand.tmp 25) (Operand.const (Value.bool false)), type := 4, pos := "right.go:101", after := #[{ on := 17, ground := Ground.data }, { on := 20, ground := Ground.data }], guard := none }) (v := ?v21e19) rfl (by kernel_rfl) (by kernel_rfl) (by kernel_rfl) (fun _ _ _ h => h) (Or.inl ⟨by rfl, ?hy21e19⟩) hH ?r21e19
 case hy21e19 => (intro W hSw; (try dsimp only at hSw); go_simp; try (with_reducible rfl))
 try simp only [Act.put, List.setIfInBounds_toArray, List.set_cons_zero, List.set_cons_succ]
 refine wpAnyH_take (i := 22) (oi := { dst := some 27, op := Op.move (Operand.tmp 26), type := 4, pos := "right.go:101", after := #[{ on := 21, ground := Ground.data }, { on := 17, ground := Ground.chain }], guard := none }) (v := ?v22e20) rfl (by kernel_rfl) (by kernel_rfl) (by kernel_rfl) (fun _ _ _ h => h) (Or.inl ⟨by rfl, ?hy22e20⟩) hH ?r22e20
 case hy22e20 => (intro W hSw; (try dsimp only at hSw); go_simp; try (with_reducible rfl))
 try simp only [Act.put, List.setIfInBounds_toArray, List.set_cons_zero, List.set_cons_succ]
 refine wpAnyH_take (i := 23) (oi := { dst := some 28, op := Op.fieldAddr 37 (Operand.tmp 2) 4, type := 0, pos := "right.go:101", after := #[{ on := 22, ground := Ground.guard }], guard := some (22, true) }) (v := ?v23e21) rfl (by kernel_rfl) (by kernel_rfl) (by kernel_rfl) (fun _ _ _ h => h) (Or.inl ⟨by rfl, ?hy23e21⟩) hH ?r23e21
 case hy23e21 => (intro W hSw; (try dsimp only at hSw); go_simp; try (with_reducible rfl))
 try simp only [Act.put, List.setIfInBounds_toArray, List.set_cons_zero, List.set_cons_succ]
 refine wpAnyH_take (i := 24) (oi := { dst := some 29, op := Op.load 9 (Operand.tmp 28), type := 9, pos := "right.go:101", after := #[{ on := 23, ground := Ground.data }, { on := 22, ground := Ground.guard }], guard := some (22, true) }) (v := ?v24e22) rfl (by kernel_rfl) (by kernel_rfl) (by kernel_rfl) (fun _ _ _ h => h) (Or.inl ⟨by rfl, ?hy24e22⟩) hH ?r24e22
 case hy24e22 => (intro W hSw; (try dsimp only at hSw); go_simp; try (with_reducible rfl))
 try simp only [Act.put, List.setIfInBounds_toArray, List.set_cons_zero, List.set_cons_succ]
 refine wpAnyH_ready (rs := [25]) (by kernel_rfl) (by simp) ?_
 refine AllReadyH.cons (o := { dst := some 30, op := Op.call { callee := Callee.value (Operand.func 66), args := #[Operand.tmp 29], argTypes := #[9] }, type := 4, pos := "right.go:102", after := #[{ on := 24, ground := Ground.data }, { on := 22, ground := Ground.chain }, { on := 22, ground := Ground.guard }], guard := some (22, true) }) rfl (fun K hKq => ?_) AllReadyH.nil
 go_simp
 refine (C4.out _).mono ?_
 rintro e y4 ⟨rfl, kq⟩
 refine hKq.out _ _ (MK.out _ (KQ.trans kq)) (fun hN => ?_)
 clear kq
 clear hKq K hH KQ
 have hH := hN
 clear hN
 have KQ := hH.2.2.2.2.2.2.2.2.2.2.2.2.out
 try simp only [Act.put, List.setIfInBounds_toArray, List.set_cons_zero, List.set_cons_succ]
 refine wpAnyH_take (i := 26) (oi := { dst := some 31, op := Op.pick (Operand.tmp 27) (Operand.tmp 30) (Operand.const (Value.bool false)), type := 4, pos := "right.go:101", after := #[{ on := 22, ground := Ground.data }, { on := 25, ground := Ground.data }], guard := none }) (v := ?v26e23) rfl (by kernel_rfl) (by kernel_rfl) (by kernel_rfl) (fun _ _ _ h => h) (Or.inl ⟨by rfl, ?hy26e23⟩) hH ?r26e23
 case hy26e23 => (intro W hSw; (try dsimp only at hSw); go_simp; try (with_reducible rfl))
 try simp only [Act.put, List.setIfInBounds_toArray, List.set_cons_zero, List.set_cons_succ]
 refine wpAnyH_take (i := 27) (oi := { dst := some 4, op := Op.assign (Operand.tmp 31), type := 4, pos := "right.go:101", after := #[{ on := 26, ground := Ground.data }, { on := 25, ground := Ground.chain }, { on := 0, ground := Ground.phase }, { on := 1, ground := Ground.phase }, { on := 2, ground := Ground.phase }, { on := 3, ground := Ground.phase }, { on := 4, ground := Ground.phase }, { on := 5, ground := Ground.phase }, { on := 6, ground := Ground.phase }, { on := 7, ground := Ground.phase }, { on := 8, ground := Ground.phase }, { on := 9, ground := Ground.phase }, { on := 10, ground := Ground.phase }, { on := 11, ground := Ground.phase }, { on := 12, ground := Ground.phase }, { on := 13, ground := Ground.phase }, { on := 14, ground := Ground.phase }, { on := 15, ground := Ground.phase }, { on := 16, ground := Ground.phase }, { on := 17, ground := Ground.phase }, { on := 18, ground := Ground.phase }, { on := 19, ground := Ground.phase }, { on := 20, ground := Ground.phase }, { on := 21, ground := Ground.phase }, { on := 22, ground := Ground.phase }, { on := 23, ground := Ground.phase }, { on := 24, ground := Ground.phase }, { on := 25, ground := Ground.phase }, { on := 26, ground := Ground.phase }], guard := none }) (v := ?v27e24) rfl (by kernel_rfl) (by kernel_rfl) (by kernel_rfl) (fun _ _ _ h => h) (Or.inl ⟨by rfl, ?hy27e24⟩) hH ?r27e24
 case hy27e24 => (intro W hSw; (try dsimp only at hSw); go_simp; try (with_reducible rfl))
 try simp only [Act.put, List.setIfInBounds_toArray, List.set_cons_zero, List.set_cons_succ]
 refine wpAnyH_done (by kernel_rfl) ?_ _
 refine NoPanic.normal ?_
 have E2 : Hid (E = l) := by show _ = _; rw [← HE.out]; simp only [Bool.true_and, Bool.and_true]
 go_wp2_with fail
 go_ret
 exact ⟨by rw [E2.out]; rfl, K0.out.trans KQ⟩

end Go.Proofs.YtommgdgilcemdaaGreatDoor
