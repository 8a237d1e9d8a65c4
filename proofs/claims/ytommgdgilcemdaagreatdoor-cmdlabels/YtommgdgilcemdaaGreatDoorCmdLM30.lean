/-
  Texts of this claim: CmH.
-/
import Derived.Test.YtommgdgilcemdaaGreatDoorCmdLM28
import Derived.Test.YtommgdgilcemdaaGreatDoorCmdLM29

/-! ### CmH -/

namespace Go.Proofs.YtommgdgilcemdaaGreatDoor
open Go.RowKit

theorem kp_last {a b : World} (_ : Kp a b) (o : Obj) : (b.alloc o).heap[b.heap.size]? = some o := last_of b o
theorem placeT_len (c : Cv) (A B R : Rx) (P : List Pc) (ere : Bool) (hO : COk c A B R P) : (placeT c A B ere).length ≤ 300000 := by
 unfold placeT
 have h1 := adT_len c.a.k c.a.ln A ere hO.a
 have h2 := adT_len c.b.k c.b.ln B ere hO.b
 simp only [List.length_append]
 split <;> split <;> simp <;> omega
theorem restT_len (c : Cv) (A B R : Rx) (P : List Pc) (ere : Bool) (hO : COk c A B R P) (hA : askedR c R P ere = true) : (restT c R P ere).length ≤ 900000000 := by
 have e : c.tx.data.toList.length = c.tx.size := Array.length_toList
 have e1 : c.y.data.toList.length = c.y.size := Array.length_toList
 have e2 : c.z.data.toList.length = c.z.size := Array.length_toList
 have o := hO.tx
 have o1 := hO.y
 have o2 := hO.z
 have t1 := tableT_len c.y.data.toList
 have t2 := tableT_len c.z.data.toList
 have t3 := linesT_len c.tx.data.toList
 have t4 : (nameT c.tx.data.toList).length ≤ 1000001 := by unfold nameT; split <;> simp <;> omega
 unfold restT
 unfold askedR at hA
 split at hA
 ·
  rename_i h; rw [h]; simp
 ·
  rename_i h; rw [h]; show ([92, 10] ++ linesT c.tx.data.toList).length ≤ _; simp; omega
 ·
  rename_i h; rw [h]; show (nameT c.tx.data.toList).length ≤ _; omega
 ·
  rename_i h; rw [h]; show (nameT c.tx.data.toList).length ≤ _; omega
 ·
  rename_i h
  rw [h]
  unfold substR at hA
  simp only [Bool.and_eq_true, decide_eq_true_eq] at hA
  obtain ⟨⟨⟨⟨s1, s2⟩, s3⟩, s4⟩, s5⟩ := hA
  have x1 := print_size ere R hO.r
  rw [bs_size] at x1
  have x2 := tplT_len P (few_of_tpl P _ hO.p s2)
  have x3 := flagsT_len c hO.tx s3 s4
  have := hO.p
  simp; omega
 ·
  rename_i h; rw [h]; simp; omega
 ·
  cases hA

set_option maxHeartbeats 2000000 in
set_option maxRecDepth 100000 in
theorem rightC_any (c : Cv) (A B R : Rx) (P : List Pc) (ere : Bool) (hO : COk c A B R P) (w : World) (hc : CIs w c A B R P) : Calls Tryz.prog 11 #[c.v, .bool ere] w fun e w' => e = .returned (.bool (rightC c A B R P ere)) ∧ Kp w w' := by
 obtain ⟨E, hE⟩ : ∃ E, rightC c A B R P ere = E := ⟨_, rfl⟩
 rw [hE]
 obtain ⟨p, hp⟩ : ∃ p, placedR c A B ere = p := ⟨_, rfl⟩
 obtain ⟨l, hl⟩ : ∃ p, leanR c R P = p := ⟨_, rfl⟩
 obtain ⟨a, ha⟩ : ∃ p, askedR c R P ere = p := ⟨_, rfl⟩
 have HE : Hid ((p && l && a) = E) := by show _ = _; rw [← hE, ← hp, ← hl, ← ha]; rfl
 have C1 : Hid (∀ w, CIs w c A B R P → Calls Tryz.prog 29 #[c.v, .bool ere] w fun e w' => e = .returned (.bool p) ∧ Kp w w') := fun w h => by rw [← hp]; exact placed_any c A B R P ere hO w h
 have C2 : Hid (∀ w, CIs w c A B R P → Calls Tryz.prog 30 #[c.v] w fun e w' => e = .returned (.bool l) ∧ Kp w w') := fun w h => by rw [← hl]; exact cleanC_any c A B R P hO w h
 have C3 : Hid (∀ w, CIs w c A B R P → Calls Tryz.prog 31 #[c.v, .bool ere] w fun e w' => e = .returned (.bool a) ∧ Kp w w') := fun w h => by rw [← ha]; exact asked_any c A B R P ere hO w h
 have HC := hid hc
 clear hE hp hl ha hc
 go_enter Tryz.func11, Tryz.ntmps11
 go_upto_region 1 with fail
 refine opq (fun W0 => W0.heap[w.heap.size]? = some c.o ∧ Kp w W0 ∧ CIs W0 c A B R P) ⟨by (first | exact last_at _ _ _ (by simp) | (refine bl_alloc ?_ _; first | exact last_at _ _ _ (by simp) | (refine bl_alloc ?_ _; first | exact last_at _ _ _ (by simp) | (refine bl_alloc ?_ _; exact last_at _ _ _ (by simp))))), by exact (by repeat (first | exact Kp.refl _ | refine Kp.alloc ?_ _ | refine Kp.drew ?_ | refine Kp.drewN _ ?_)), by exact HC.out.kp (by repeat (first | exact Kp.refl _ | refine Kp.alloc ?_ _ | refine Kp.drew ?_ | refine Kp.drewN _ ?_))⟩ ?_
 rintro W0 ⟨xA0, xK0, xI0⟩
 have A0 : Hid (W0.heap[w.heap.size]? = some c.o) := xA0
 have K0 : Hid (Kp w W0) := xK0
 have I0 : Hid (CIs W0 c A B R P) := xI0
 clear xA0 xK0 xI0
 clear HC
 go_wp2_with (refine wpList_load_cv rfl rfl c A0.out (by rfl) ?_; simp only [Act.put, List.setIfInBounds_toArray, List.set_cons_zero, List.set_cons_succ])
 refine (C1.out _ I0.out).mono ?_
 rintro e W1 ⟨rfl, k1⟩
 have A1 := hid (bl_kp A0.out k1)
 have I1 := hid (I0.out.kp k1)
 have K1 := hid (K0.out.trans k1)
 clear k1
 cases p
 ·
  have E2 : Hid (E = false) := by show _ = _; rw [← HE.out]; rfl
  go_wp2_with fail
  go_ret
  exact ⟨by rw [E2.out]; rfl, K1.out⟩
 go_wp2_with (refine wpList_load_cv rfl rfl c A1.out (by rfl) ?_; simp only [Act.put, List.setIfInBounds_toArray, List.set_cons_zero, List.set_cons_succ])
 refine (C2.out _ I1.out).mono ?_
 rintro e W2 ⟨rfl, k1⟩
 have A2 := hid (bl_kp A1.out k1)
 have I2 := hid (I1.out.kp k1)
 have K2 := hid (K1.out.trans k1)
 clear k1
 cases l
 ·
  have E2 : Hid (E = false) := by show _ = _; rw [← HE.out]; rfl
  go_wp2_with fail
  go_ret
  exact ⟨by rw [E2.out]; rfl, K2.out⟩
 go_wp2_with (refine wpList_load_cv rfl rfl c A2.out (by rfl) ?_; simp only [Act.put, List.setIfInBounds_toArray, List.set_cons_zero, List.set_cons_succ])
 refine (C3.out _ I2.out).mono ?_
 rintro e W3 ⟨rfl, k1⟩
 have K3 := hid (K2.out.trans k1)
 clear k1
 have E2 : Hid (E = a) := by show _ = _; rw [← HE.out]; rfl
 go_wp2_with fail
 go_ret
 exact ⟨by rw [E2.out]; rfl, K3.out⟩

theorem conv_at (w : World) (B b : Nat) (hb : b < 256) (hc : w.cell? ⟨B, 0, none⟩ = some (.int .u8 (b : Int))) : (convert 59 9 (.slice (some ⟨B, 0, none⟩) 1 1)).run Tryz.prog w = .ok (.string (bs [UInt8.ofNat b])) w := by
 refine run_convert_bytes_back w 59 9 5 ⟨B, 0, none⟩ 1 [UInt8.ofNat b] Tryz.underlying59 Tryz.underlying5 Tryz.underlying9 ?_
 intro j hj
 have h0 : j = 0 := by simp at hj; exact hj
 subst h0
 refine hc.trans ?_
 show some _ = some _
 simp
 omega
set_option maxHeartbeats 4000000 in
set_option maxRecDepth 100000 in
theorem print2_any (c : Cv) (A B R : Rx) (P : List Pc) (ere : Bool) (hO : COk c A B R P) (w : World) (hc : CIs w c A B R P) (hT : Tb w) : Calls Tryz.prog 10 #[c.v, .bool ere] w fun e w' => e = .returned (.string (bs (cmdT c A B R P ere))) ∧ Kp w w' := by
 obtain ⟨E, hE⟩ : ∃ E, bs (cmdT c A B R P ere) = E := ⟨_, rfl⟩
 rw [hE]
 obtain ⟨p, hp⟩ : ∃ p, rightC c A B R P ere = p := ⟨_, rfl⟩
 have C1 : Hid (∀ w, CIs w c A B R P → Calls Tryz.prog 11 #[c.v, .bool ere] w fun e w' => e = .returned (.bool p) ∧ Kp w w') := fun w h => by rw [← hp]; exact rightC_any c A B R P ere hO w h
 have hop := hO.op
 have HC := hid hc
 have HT := hid hT
 have HP := hid hp
 have HE := hid hE
 clear hE hp hc hT
 go_enter Tryz.func10, Tryz.ntmps10
 go_upto_region 1 with fail
 refine opq (fun W0 => W0.heap[w.heap.size]? = some c.o ∧ Kp w W0 ∧ CIs W0 c A B R P) ⟨by (first | exact last_at _ _ _ (by simp) | (refine bl_alloc ?_ _; first | exact last_at _ _ _ (by simp) | (refine bl_alloc ?_ _; first | exact last_at _ _ _ (by simp) | (refine bl_alloc ?_ _; exact last_at _ _ _ (by simp))))), by exact (by repeat (first | exact Kp.refl _ | refine Kp.alloc ?_ _ | refine Kp.drew ?_ | refine Kp.drewN _ ?_)), by exact HC.out.kp (by repeat (first | exact Kp.refl _ | refine Kp.alloc ?_ _ | refine Kp.drew ?_ | refine Kp.drewN _ ?_))⟩ ?_
 rintro W0 ⟨xA0, xK0, xI0⟩
 have A0 : Hid (W0.heap[w.heap.size]? = some c.o) := xA0
 have K0 : Hid (Kp w W0) := xK0
 have I0 : Hid (CIs W0 c A B R P) := xI0
 clear xA0 xK0 xI0
 have T0 := hid (HT.out.kp K0.out)
 clear HC HT
 go_wp2_with (refine wpList_load_cv rfl rfl c A0.out (by rfl) ?_; simp only [Act.put, List.setIfInBounds_toArray, List.set_cons_zero, List.set_cons_succ])
 refine (C1.out _ I0.out).mono ?_
 rintro e W1 ⟨rfl, k1⟩
 have A1 := hid (bl_kp A0.out k1)
 have I1 := hid (I0.out.kp k1)
 have T1 := hid (T0.out.kp k1)
 have K1 := hid (K0.out.trans k1)
 clear k1
 cases p
 ·
  have E2 : Hid (E = bs []) := by show _ = _; rw [← HE.out]; unfold cmdT; rw [HP.out]; rfl
  go_wp2_with fail
  go_ret
  exact ⟨by rw [E2.out]; rfl, K1.out⟩
 have hask : askedR c R P ere = true := by have := HP.out; unfold rightC at this; simp only [Bool.and_eq_true] at this; exact this.2
 obtain ⟨X, hX⟩ : ∃ X, bs (placeT c A B ere) = X := ⟨_, rfl⟩
 obtain ⟨Y, hY⟩ : ∃ X, bs (restT c R P ere) = X := ⟨_, rfl⟩
 obtain ⟨D, hD⟩ : ∃ X, bs [UInt8.ofNat c.op] = X := ⟨_, rfl⟩
 have hx : X.size ≤ 300000 := by rw [← hX, bs_size]; exact placeT_len c A B R P ere hO
 have hy : Y.size ≤ 900000000 := by rw [← hY, bs_size]; exact restT_len c A B R P ere hO hask
 have hd : D.size ≤ 1 := by rw [← hD, bs_size]; exact Nat.le_refl 1
 have Q1 : Hid (∀ w, CIs w c A B R P → Tb w → Calls Tryz.prog 27 #[c.v, .bool ere] w fun e w' => e = .returned (.string X) ∧ Kp w w') := fun w h t => by rw [← hX]; exact place_any c A B R P ere hO w h t
 have Q2 : Hid (∀ w, CIs w c A B R P → Calls Tryz.prog 28 #[c.v, .bool ere] w fun e w' => e = .returned (.string Y) ∧ Kp w w') := fun w h => by rw [← hY]; exact rest_any c A B R P ere hO hask w h
 have E2 : Hid (E = X ++ D ++ Y) := by show _ = _; rw [← HE.out, ← hX, ← hY, ← hD, bs_app, bs_app]; unfold cmdT; rw [HP.out]; rfl
 have HD := hid hD
 clear hX hY hD HE HP hask
 go_upto_region 3 with fail
 have Q0 : Kp W1 W1.drew := (Kp.refl _).drew
 have MK : Hid (∀ W, Kp W1 W → W.cell? ⟨w.heap.size, 23, none⟩ = some (.int .u8 (c.op : Int)) ∧ Hid (Kp W1 W)) := fun W k => ⟨bl_cell (bl_kp A1.out k) 23 _ rfl, k⟩
 refine wp_region_noPanic ?_
 refine wp_region_held_drew (S := (fun W => W.cell? ⟨w.heap.size, 23, none⟩ = some (.int .u8 (c.op : Int)) ∧ Hid (Kp W1 W))) (by kernel_rfl) ?_ (fun hH => ?_)
 ·
  exact MK.out _ Q0
 have KQ := Q0
 refine wpAnyH_take (i := 0) (oi := { dst := some 9, op := Op.load 37 (Operand.tmp 2), type := 37, pos := "print.go:17", after := #[], guard := none }) (v := Cv.v c) rfl (by kernel_rfl) (by kernel_rfl) (by kernel_rfl) (fun _ _ _ h => h) (yields_cv (by rfl) rfl rfl c (fun W hSw => bl_kp A1.out hSw.2.out)) hH ?r0p2
 try simp only [Act.put, List.setIfInBounds_toArray, List.set_cons_zero, List.set_cons_succ]
 refine wpAnyH_take (i := 1) (oi := { dst := some 10, op := Op.move (Operand.tmp 1), type := 4, pos := "print.go:17", after := #[], guard := none }) (v := ?v1p3) rfl (by kernel_rfl) (by kernel_rfl) (by kernel_rfl) (fun _ _ _ h => h) (Or.inl ⟨by rfl, ?hy1p3⟩) hH ?r1p3
 case hy1p3 => (intro W hSw; (try dsimp only at hSw); go_simp; try (with_reducible rfl))
 try simp only [Act.put, List.setIfInBounds_toArray, List.set_cons_zero, List.set_cons_succ]
 refine wpAnyH_take (i := 3) (oi := { dst := some 12, op := Op.fieldAddr 37 (Operand.tmp 2) 3, type := 0, pos := "print.go:17", after := #[], guard := none }) (v := ?v3p4) rfl (by kernel_rfl) (by kernel_rfl) (by kernel_rfl) (fun _ _ _ h => h) (Or.inl ⟨by rfl, ?hy3p4⟩) hH ?r3p4
 case hy3p4 => (intro W hSw; (try dsimp only at hSw); go_simp; try (with_reducible rfl))
 try simp only [Act.put, List.setIfInBounds_toArray, List.set_cons_zero, List.set_cons_succ]
 refine wpAnyH_take (i := 4) (oi := { dst := some 13, op := Op.load 5 (Operand.tmp 12), type := 5, pos := "print.go:17", after := #[{ on := 3, ground := Ground.data }], guard := none }) (v := ?v4p5) rfl (by kernel_rfl) (by kernel_rfl) (by kernel_rfl) (fun _ _ _ h => h) (Or.inl ⟨by rfl, ?hy4p5⟩) hH ?r4p5
 case hy4p5 => (intro W hSw; (try dsimp only at hSw); go_simp; try (with_reducible rfl))
 try simp only [Act.put, List.setIfInBounds_toArray, List.set_cons_zero, List.set_cons_succ]
 refine wpAnyH_take (i := 8) (oi := { dst := some 17, op := Op.load 37 (Operand.tmp 2), type := 37, pos := "print.go:17", after := #[], guard := none }) (v := Cv.v c) rfl (by kernel_rfl) (by kernel_rfl) (by kernel_rfl) (fun _ _ _ h => h) (yields_cv (by rfl) rfl rfl c (fun W hSw => bl_kp A1.out hSw.2.out)) hH ?r8p7
 try simp only [Act.put, List.setIfInBounds_toArray, List.set_cons_zero, List.set_cons_succ]
 refine wpAnyH_take (i := 9) (oi := { dst := some 18, op := Op.move (Operand.tmp 1), type := 4, pos := "print.go:17", after := #[], guard := none }) (v := ?v9p8) rfl (by kernel_rfl) (by kernel_rfl) (by kernel_rfl) (fun _ _ _ h => h) (Or.inl ⟨by rfl, ?hy9p8⟩) hH ?r9p8
 case hy9p8 => (intro W hSw; (try dsimp only at hSw); go_simp; try (with_reducible rfl))
 try simp only [Act.put, List.setIfInBounds_toArray, List.set_cons_zero, List.set_cons_succ]
 refine wpAnyH_ready (rs := [2, 5]) (by kernel_rfl) (by simp) ?_
 refine AllReadyH.cons (o := { dst := some 11, op := Op.call { callee := Callee.value (Operand.func 27), args := #[Operand.tmp 9, Operand.tmp 10], argTypes := #[37, 4] }, type := 9, pos := "print.go:17", after := #[{ on := 0, ground := Ground.data }, { on := 1, ground := Ground.data }], guard := none }) rfl (fun K hKq => ?_) ?_
 ·
  go_simp
  refine (Q1.out _ (I1.out.kp KQ) (T1.out.kp KQ)).mono ?_
  rintro e y1 ⟨rfl, kq⟩
  try have CB := hid (bl_kp CB.out kq)
  refine hKq.out _ _ (MK.out _ (KQ.trans kq)) (fun hN => ?_)
  clear kq
  clear hKq K hH KQ
  have hH := hN
  clear hN
  have KQ := hH.2.out
  try simp only [Act.put, List.setIfInBounds_toArray, List.set_cons_zero, List.set_cons_succ]
  refine wpAnyH_ready (rs := [5, 10]) (by kernel_rfl) (by simp) ?_
  refine AllReadyH.cons (o := { dst := some 14, op := Op.buildSlice 59 1 #[(0, Operand.tmp 13)], type := 59, pos := "print.go:17", after := #[{ on := 4, ground := Ground.data }], guard := none }) rfl (fun K hKq => ?_) ?_
  ·
   have cb0 := kp_last KQ (Obj.cells #[.int .u8 (c.op : Int)] 5)
   try rw [show (World.drew W1).heap.size = W1.heap.size from rfl] at cb0
   have CB := hid cb0
   clear cb0
   go_simp
   refine hKq.out _ _ (MK.out _ (by first | exact KQ.alloc _ | exact ((Kp.refl _).alloc _).drew)) (fun hN => ?_)
   clear hKq K hH KQ
   have hH := hN
   clear hN
   have KQ := hH.2.out
   try simp only [Act.put, List.setIfInBounds_toArray, List.set_cons_zero, List.set_cons_succ]
   refine wpAnyH_ready (rs := [6, 10]) (by kernel_rfl) (by simp) ?_
   refine AllReadyH.cons (o := { dst := some 15, op := Op.convert 59 9 (Operand.tmp 14), type := 9, pos := "print.go:17", after := #[{ on := 5, ground := Ground.data }], guard := none }) rfl (fun K hKq => ?_) ?_
   ·
    first
    | (have cv := conv_at _ _ c.op hop (bl_cell CB.out 0 _ rfl); rw [HD.out] at cv; go_simp; refine hKq.out _ _ (MK.out _ KQ) (fun hN => ?_))
    | (have cv := conv_at (W1.alloc (Obj.cells #[.int .u8 (c.op : Int)] 5)).drew W1.heap.size c.op hop (bl_cell (last_drew _ _) 0 _ rfl); rw [HD.out] at cv; go_simp; refine hKq.out _ _ (MK.out _ KQ) (fun hN => ?_))
    clear hKq K hH KQ
    have hH := hN
    clear hN
    have KQ := hH.2.out
    try simp only [Act.put, List.setIfInBounds_toArray, List.set_cons_zero, List.set_cons_succ]
    refine wpAnyH_take (i := 7) (oi := { dst := some 16, op := Op.binOp BinOp.add 9 (Operand.tmp 11) (Operand.tmp 15) 9, type := 9, pos := "print.go:17", after := #[{ on := 2, ground := Ground.data }, { on := 6, ground := Ground.data }], guard := none }) (v := ?v7p9) rfl (by kernel_rfl) (by kernel_rfl) (by kernel_rfl) (fun _ _ _ h => h) (Or.inl ⟨by rfl, ?hy7p9⟩) hH ?r7p9
    case hy7p9 => (intro W hSw; (try dsimp only at hSw); go_simp; (try rw [if_neg (by omega)]); try (with_reducible rfl))
    try simp only [Act.put, List.setIfInBounds_toArray, List.set_cons_zero, List.set_cons_succ]
    refine wpAnyH_ready (rs := [10]) (by kernel_rfl) (by simp) ?_
    refine AllReadyH.cons (o := { dst := some 19, op := Op.call { callee := Callee.value (Operand.func 28), args := #[Operand.tmp 17, Operand.tmp 18], argTypes := #[37, 4] }, type := 9, pos := "print.go:17", after := #[{ on := 8, ground := Ground.data }, { on := 9, ground := Ground.data }, { on := 2, ground := Ground.chain }], guard := none }) rfl (fun K hKq => ?_) AllReadyH.nil
    go_simp
    refine (Q2.out _ (I1.out.kp KQ)).mono ?_
    rintro e y4 ⟨rfl, kq⟩
    try have CB := hid (bl_kp CB.out kq)
    refine hKq.out _ _ (MK.out _ (KQ.trans kq)) (fun hN => ?_)
    clear kq
    clear hKq K hH KQ
    have hH := hN
    clear hN
    have KQ := hH.2.out
    try simp only [Act.put, List.setIfInBounds_toArray, List.set_cons_zero, List.set_cons_succ]
    refine wpAnyH_take (i := 11) (oi := { dst := some 20, op := Op.binOp BinOp.add 9 (Operand.tmp 16) (Operand.tmp 19) 9, type := 9, pos := "print.go:17", after := #[{ on := 7, ground := Ground.data }, { on := 10, ground := Ground.data }], guard := none }) (v := ?v11p10) rfl (by kernel_rfl) (by kernel_rfl) (by kernel_rfl) (fun _ _ _ h => h) (Or.inl ⟨by rfl, ?hy11p10⟩) hH ?r11p10
    case hy11p10 => (intro W hSw; (try dsimp only at hSw); go_simp; (try rw [if_neg (by omega)]); try (with_reducible rfl))
    try simp only [Act.put, List.setIfInBounds_toArray, List.set_cons_zero, List.set_cons_succ]
    refine wpAnyH_take (i := 12) (oi := { dst := some 4, op := Op.assign (Operand.tmp 20), type := 9, pos := "print.go:17", after := #[{ on := 11, ground := Ground.data }, { on := 10, ground := Ground.chain }, { on := 0, ground := Ground.phase }, { on := 1, ground := Ground.phase }, { on := 2, ground := Ground.phase }, { on := 3, ground := Ground.phase }, { on := 4, ground := Ground.phase }, { on := 5, ground := Ground.phase }, { on := 6, ground := Ground.phase }, { on := 7, ground := Ground.phase }, { on := 8, ground := Ground.phase }, { on := 9, ground := Ground.phase }, { on := 10, ground := Ground.phase }, { on := 11, ground := Ground.phase }], guard := none }) (v := ?v12p11) rfl (by kernel_rfl) (by kernel_rfl) (by kernel_rfl) (fun _ _ _ h => h) (Or.inl ⟨by rfl, ?hy12p11⟩) hH ?r12p11
    case hy12p11 => (intro W hSw; (try dsimp only at hSw); go_simp; try (with_reducible rfl))
    try simp only [Act.put, List.setIfInBounds_toArray, List.set_cons_zero, List.set_cons_succ]
    refine wpAnyH_done (by kernel_rfl) ?_ _
    refine NoPanic.normal ?_
    go_wp2_with fail
    go_ret
    exact ⟨by rw [E2.out]; rfl, K1.out.trans KQ⟩
   refine AllReadyH.cons (o := { dst := some 19, op := Op.call { callee := Callee.value (Operand.func 28), args := #[Operand.tmp 17, Operand.tmp 18], argTypes := #[37, 4] }, type := 9, pos := "print.go:17", after := #[{ on := 8, ground := Ground.data }, { on := 9, ground := Ground.data }, { on := 2, ground := Ground.chain }], guard := none }) rfl (fun K hKq => ?_) ?_
   ·
    go_simp
    refine (Q2.out _ (I1.out.kp KQ)).mono ?_
    rintro e y3 ⟨rfl, kq⟩
    try have CB := hid (bl_kp CB.out kq)
    refine hKq.out _ _ (MK.out _ (KQ.trans kq)) (fun hN => ?_)
    clear kq
    clear hKq K hH KQ
    have hH := hN
    clear hN
    have KQ := hH.2.out
    try simp only [Act.put, List.setIfInBounds_toArray, List.set_cons_zero, List.set_cons_succ]
    refine wpAnyH_ready (rs := [6]) (by kernel_rfl) (by simp) ?_
    refine AllReadyH.cons (o := { dst := some 15, op := Op.convert 59 9 (Operand.tmp 14), type := 9, pos := "print.go:17", after := #[{ on := 5, ground := Ground.data }], guard := none }) rfl (fun K hKq => ?_) AllReadyH.nil
    first
    | (have cv := conv_at _ _ c.op hop (bl_cell CB.out 0 _ rfl); rw [HD.out] at cv; go_simp; refine hKq.out _ _ (MK.out _ KQ) (fun hN => ?_))
    | (have cv := conv_at (W1.alloc (Obj.cells #[.int .u8 (c.op : Int)] 5)).drew W1.heap.size c.op hop (bl_cell (last_drew _ _) 0 _ rfl); rw [HD.out] at cv; go_simp; refine hKq.out _ _ (MK.out _ KQ) (fun hN => ?_))
    clear hKq K hH KQ
    have hH := hN
    clear hN
    have KQ := hH.2.out
    try simp only [Act.put, List.setIfInBounds_toArray, List.set_cons_zero, List.set_cons_succ]
    refine wpAnyH_take (i := 7) (oi := { dst := some 16, op := Op.binOp BinOp.add 9 (Operand.tmp 11) (Operand.tmp 15) 9, type := 9, pos := "print.go:17", after := #[{ on := 2, ground := Ground.data }, { on := 6, ground := Ground.data }], guard := none }) (v := ?v7p12) rfl (by kernel_rfl) (by kernel_rfl) (by kernel_rfl) (fun _ _ _ h => h) (Or.inl ⟨by rfl, ?hy7p12⟩) hH ?r7p12
    case hy7p12 => (intro W hSw; (try dsimp only at hSw); go_simp; (try rw [if_neg (by omega)]); try (with_reducible rfl))
    try simp only [Act.put, List.setIfInBounds_toArray, List.set_cons_zero, List.set_cons_succ]
    refine wpAnyH_take (i := 11) (oi := { dst := some 20, op := Op.binOp BinOp.add 9 (Operand.tmp 16) (Operand.tmp 19) 9, type := 9, pos := "print.go:17", after := #[{ on := 7, ground := Ground.data }, { on := 10, ground := Ground.data }], guard := none }) (v := ?v11p13) rfl (by kernel_rfl) (by kernel_rfl) (by kernel_rfl) (fun _ _ _ h => h) (Or.inl ⟨by rfl, ?hy11p13⟩) hH ?r11p13
    case hy11p13 => (intro W hSw; (try dsimp only at hSw); go_simp; (try rw [if_neg (by omega)]); try (with_reducible rfl))
    try simp only [Act.put, List.setIfInBounds_toArray, List.set_cons_zero, List.set_cons_succ]
    refine wpAnyH_take (i := 12) (oi := { dst := some 4, op := Op.assign (Operand.tmp 20), type := 9, pos := "print.go:17", after := #[{ on := 11, ground := Ground.data }, { on := 10, ground := Ground.chain }, { on := 0, ground := Ground.phase }, { on := 1, ground := Ground.phase }, { on := 2, ground := Ground.phase }, { on := 3, ground := Ground.phase }, { on := 4, ground := Ground.phase }, { on := 5, ground := Ground.phase }, { on := 6, ground := Ground.phase }, { on := 7, ground := Ground.phase }, { on := 8, ground := Ground.phase }, { on := 9, ground := Ground.phase }, { on := 10, ground := Ground.phase }, { on := 11, ground := Ground.phase }], guard := none }) (v := ?v12p14) rfl (by kernel_rfl) (by kernel_rfl) (by kernel_rfl) (fun _ _ _ h => h) (Or.inl ⟨by rfl, ?hy12p14⟩) hH ?r12p14
    case hy12p14 => (intro W hSw; (try dsimp only at hSw); go_simp; try (with_reducible rfl))
    try simp only [Act.put, List.setIfInBounds_toArray, List.set_cons_zero, List.set_cons_succ]
    refine wpAnyH_done (by kernel_rfl) ?_ _
    refine NoPanic.normal ?_
    go_wp2_with fail
    go_ret
    exact ⟨by rw [E2.out]; rfl, K1.out.trans KQ⟩
   exact AllReadyH.nil
  refine AllReadyH.cons (o := { dst := some 19, op := Op.call { callee := Callee.value (Operand.func 28), args := #[Operand.tmp 17, Operand.tmp 18], argTypes := #[37, 4] }, type := 9, pos := "print.go:17", after := #[{ on := 8, ground := Ground.data }, { on := 9, ground := Ground.data }, { on := 2, ground := Ground.chain }], guard := none }) rfl (fun K hKq => ?_) ?_
  ·
   go_simp
   refine (Q2.out _ (I1.out.kp KQ)).mono ?_
   rintro e y2 ⟨rfl, kq⟩
   try have CB := hid (bl_kp CB.out kq)
   refine hKq.out _ _ (MK.out _ (KQ.trans kq)) (fun hN => ?_)
   clear kq
   clear hKq K hH KQ
   have hH := hN
   clear hN
   have KQ := hH.2.out
   try simp only [Act.put, List.setIfInBounds_toArray, List.set_cons_zero, List.set_cons_succ]
   refine wpAnyH_ready (rs := [5]) (by kernel_rfl) (by simp) ?_
   refine AllReadyH.cons (o := { dst := some 14, op := Op.buildSlice 59 1 #[(0, Operand.tmp 13)], type := 59, pos := "print.go:17", after := #[{ on := 4, ground := Ground.data }], guard := none }) rfl (fun K hKq => ?_) AllReadyH.nil
   have cb0 := kp_last KQ (Obj.cells #[.int .u8 (c.op : Int)] 5)
   try rw [show (World.drew W1).heap.size = W1.heap.size from rfl] at cb0
   have CB := hid cb0
   clear cb0
   go_simp
   refine hKq.out _ _ (MK.out _ (by first | exact KQ.alloc _ | exact ((Kp.refl _).alloc _).drew)) (fun hN => ?_)
   clear hKq K hH KQ
   have hH := hN
   clear hN
   have KQ := hH.2.out
   try simp only [Act.put, List.setIfInBounds_toArray, List.set_cons_zero, List.set_cons_succ]
   refine wpAnyH_ready (rs := [6]) (by kernel_rfl) (by simp) ?_
   refine AllReadyH.cons (o := { dst := some 15, op := Op.convert 59 9 (Operand.tmp 14), type := 9, pos := "print.go:17", after := #[{ on := 5, ground := Ground.data }], guard := none }) rfl (fun K hKq => ?_) AllReadyH.nil
   first
   | (have cv := conv_at _ _ c.op hop (bl_cell CB.out 0 _ rfl); rw [HD.out] at cv; go_simp; refine hKq.out _ _ (MK.out _ KQ) (fun hN => ?_))
   | (have cv := conv_at (W1.alloc (Obj.cells #[.int .u8 (c.op : Int)] 5)).drew W1.heap.size c.op hop (bl_cell (last_drew _ _) 0 _ rfl); rw [HD.out] at cv; go_simp; refine hKq.out _ _ (MK.out _ KQ) (fun hN => ?_))
   clear hKq K hH KQ
   have hH := hN
   clear hN
   have KQ := hH.2.out
   try simp only [Act.put, List.setIfInBounds_toArray, List.set_cons_zero, List.set_cons_succ]
   refine wpAnyH_take (i := 7) (oi := { dst := some 16, op := Op.binOp BinOp.add 9 (Operand.tmp 11) (Operand.tmp 15) 9, type := 9, pos := "print.go:17", after := #[{ on := 2, ground := Ground.data }, { on := 6, ground := Ground.data }], guard := none }) (v := ?v7p15) rfl (by kernel_rfl) (by kernel_rfl) (by kernel_rfl) (fun _ _ _ h => h) (Or.inl ⟨by rfl, ?hy7p15⟩) hH ?r7p15
   case hy7p15 => (intro W hSw; (try dsimp only at hSw); go_simp; (try rw [if_neg (by omega)]); try (with_reducible rfl))
   try simp only [Act.put, List.setIfInBounds_toArray, List.set_cons_zero, List.set_cons_succ]
   refine wpAnyH_take (i := 11) (oi := { dst := some 20, op := Op.binOp BinOp.add 9 (Operand.tmp 16) (Operand.tmp 19) 9, type := 9, pos := "print.go:17", after := #[{ on := 7, ground := Ground.data }, { on := 10, ground := Ground.data }], guard := none }) (v := ?v11p16) rfl (by kernel_rfl) (by kernel_rfl) (by kernel_rfl) (fun _ _ _ h => h) (Or.inl ⟨by rfl, ?hy11p16⟩) hH ?r11p16
   case hy11p16 => (intro W hSw; (try dsimp only at hSw); go_simp; (try rw [if_neg (by omega)]); try (with_reducible rfl))
   try simp only [Act.put, List.setIfInBounds_toArray, List.set_cons_zero, List.set_cons_succ]
   refine wpAnyH_take (i := 12) (oi := { dst := some 4, op := Op.assign (Operand.tmp 20), type := 9, pos := "print.go:17", after := #[{ on := 11, ground := Ground.data }, { on := 10, ground := Ground.chain }, { on := 0, ground := Ground.phase }, { on := 1, ground := Ground.phase }, { on := 2, ground := Ground.phase }, { on := 3, ground := Ground.phase }, { on := 4, ground := Ground.phase }, { on := 5, ground := Ground.phase }, { on := 6, ground := Ground.phase }, { on := 7, ground := Ground.phase }, { on := 8, ground := Ground.phase }, { on := 9, ground := Ground.phase }, { on := 10, ground := Ground.phase }, { on := 11, ground := Ground.phase }], guard := none }) (v := ?v12p17) rfl (by kernel_rfl) (by kernel_rfl) (by kernel_rfl) (fun _ _ _ h => h) (Or.inl ⟨by rfl, ?hy12p17⟩) hH ?r12p17
   case hy12p17 => (intro W hSw; (try dsimp only at hSw); go_simp; try (with_reducible rfl))
   try simp only [Act.put, List.setIfInBounds_toArray, List.set_cons_zero, List.set_cons_succ]
   refine wpAnyH_done (by kernel_rfl) ?_ _
   refine NoPanic.normal ?_
   go_wp2_with fail
   go_ret
   exact ⟨by rw [E2.out]; rfl, K1.out.trans KQ⟩
  exact AllReadyH.nil
 refine AllReadyH.cons (o := { dst := some 14, op := Op.buildSlice 59 1 #[(0, Operand.tmp 13)], type := 59, pos := "print.go:17", after := #[{ on := 4, ground := Ground.data }], guard := none }) rfl (fun K hKq => ?_) ?_
 ·
  have cb0 := kp_last KQ (Obj.cells #[.int .u8 (c.op : Int)] 5)
  try rw [show (World.drew W1).heap.size = W1.heap.size from rfl] at cb0
  have CB := hid cb0
  clear cb0
  go_simp
  refine hKq.out _ _ (MK.out _ (by first | exact KQ.alloc _ | exact ((Kp.refl _).alloc _).drew)) (fun hN => ?_)
  clear hKq K hH KQ
  have hH := hN
  clear hN
  have KQ := hH.2.out
  try simp only [Act.put, List.setIfInBounds_toArray, List.set_cons_zero, List.set_cons_succ]
  refine wpAnyH_ready (rs := [2, 6]) (by kernel_rfl) (by simp) ?_
  refine AllReadyH.cons (o := { dst := some 11, op := Op.call { callee := Callee.value (Operand.func 27), args := #[Operand.tmp 9, Operand.tmp 10], argTypes := #[37, 4] }, type := 9, pos := "print.go:17", after := #[{ on := 0, ground := Ground.data }, { on := 1, ground := Ground.data }], guard := none }) rfl (fun K hKq => ?_) ?_
  ·
   go_simp
   refine (Q1.out _ (I1.out.kp KQ) (T1.out.kp KQ)).mono ?_
   rintro e y2 ⟨rfl, kq⟩
   try have CB := hid (bl_kp CB.out kq)
   refine hKq.out _ _ (MK.out _ (KQ.trans kq)) (fun hN => ?_)
   clear kq
   clear hKq K hH KQ
   have hH := hN
   clear hN
   have KQ := hH.2.out
   try simp only [Act.put, List.setIfInBounds_toArray, List.set_cons_zero, List.set_cons_succ]
   refine wpAnyH_ready (rs := [6, 10]) (by kernel_rfl) (by simp) ?_
   refine AllReadyH.cons (o := { dst := some 15, op := Op.convert 59 9 (Operand.tmp 14), type := 9, pos := "print.go:17", after := #[{ on := 5, ground := Ground.data }], guard := none }) rfl (fun K hKq => ?_) ?_
   ·
    first
    | (have cv := conv_at _ _ c.op hop (bl_cell CB.out 0 _ rfl); rw [HD.out] at cv; go_simp; refine hKq.out _ _ (MK.out _ KQ) (fun hN => ?_))
    | (have cv := conv_at (W1.alloc (Obj.cells #[.int .u8 (c.op : Int)] 5)).drew W1.heap.size c.op hop (bl_cell (last_drew _ _) 0 _ rfl); rw [HD.out] at cv; go_simp; refine hKq.out _ _ (MK.out _ KQ) (fun hN => ?_))
    clear hKq K hH KQ
    have hH := hN
    clear hN
    have KQ := hH.2.out
    try simp only [Act.put, List.setIfInBounds_toArray, List.set_cons_zero, List.set_cons_succ]
    refine wpAnyH_take (i := 7) (oi := { dst := some 16, op := Op.binOp BinOp.add 9 (Operand.tmp 11) (Operand.tmp 15) 9, type := 9, pos := "print.go:17", after := #[{ on := 2, ground := Ground.data }, { on := 6, ground := Ground.data }], guard := none }) (v := ?v7p18) rfl (by kernel_rfl) (by kernel_rfl) (by kernel_rfl) (fun _ _ _ h => h) (Or.inl ⟨by rfl, ?hy7p18⟩) hH ?r7p18
    case hy7p18 => (intro W hSw; (try dsimp only at hSw); go_simp; (try rw [if_neg (by omega)]); try (with_reducible rfl))
    try simp only [Act.put, List.setIfInBounds_toArray, List.set_cons_zero, List.set_cons_succ]
    refine wpAnyH_ready (rs := [10]) (by kernel_rfl) (by simp) ?_
    refine AllReadyH.cons (o := { dst := some 19, op := Op.call { callee := Callee.value (Operand.func 28), args := #[Operand.tmp 17, Operand.tmp 18], argTypes := #[37, 4] }, type := 9, pos := "print.go:17", after := #[{ on := 8, ground := Ground.data }, { on := 9, ground := Ground.data }, { on := 2, ground := Ground.chain }], guard := none }) rfl (fun K hKq => ?_) AllReadyH.nil
    go_simp
    refine (Q2.out _ (I1.out.kp KQ)).mono ?_
    rintro e y4 ⟨rfl, kq⟩
    try have CB := hid (bl_kp CB.out kq)
    refine hKq.out _ _ (MK.out _ (KQ.trans kq)) (fun hN => ?_)
    clear kq
    clear hKq K hH KQ
    have hH := hN
    clear hN
    have KQ := hH.2.out
    try simp only [Act.put, List.setIfInBounds_toArray, List.set_cons_zero, List.set_cons_succ]
    refine wpAnyH_take (i := 11) (oi := { dst := some 20, op := Op.binOp BinOp.add 9 (Operand.tmp 16) (Operand.tmp 19) 9, type := 9, pos := "print.go:17", after := #[{ on := 7, ground := Ground.data }, { on := 10, ground := Ground.data }], guard := none }) (v := ?v11p19) rfl (by kernel_rfl) (by kernel_rfl) (by kernel_rfl) (fun _ _ _ h => h) (Or.inl ⟨by rfl, ?hy11p19⟩) hH ?r11p19
    case hy11p19 => (intro W hSw; (try dsimp only at hSw); go_simp; (try rw [if_neg (by omega)]); try (with_reducible rfl))
    try simp only [Act.put, List.setIfInBounds_toArray, List.set_cons_zero, List.set_cons_succ]
    refine wpAnyH_take (i := 12) (oi := { dst := some 4, op := Op.assign (Operand.tmp 20), type := 9, pos := "print.go:17", after := #[{ on := 11, ground := Ground.data }, { on := 10, ground := Ground.chain }, { on := 0, ground := Ground.phase }, { on := 1, ground := Ground.phase }, { on := 2, ground := Ground.phase }, { on := 3, ground := Ground.phase }, { on := 4, ground := Ground.phase }, { on := 5, ground := Ground.phase }, { on := 6, ground := Ground.phase }, { on := 7, ground := Ground.phase }, { on := 8, ground := Ground.phase }, { on := 9, ground := Ground.phase }, { on := 10, ground := Ground.phase }, { on := 11, ground := Ground.phase }], guard := none }) (v := ?v12p20) rfl (by kernel_rfl) (by kernel_rfl) (by kernel_rfl) (fun _ _ _ h => h) (Or.inl ⟨by rfl, ?hy12p20⟩) hH ?r12p20
    case hy12p20 => (intro W hSw; (try dsimp only at hSw); go_simp; try (with_reducible rfl))
    try simp only [Act.put, List.setIfInBounds_toArray, List.set_cons_zero, List.set_cons_succ]
    refine wpAnyH_done (by kernel_rfl) ?_ _
    refine NoPanic.normal ?_
    go_wp2_with fail
    go_ret
    exact ⟨by rw [E2.out]; rfl, K1.out.trans KQ⟩
   refine AllReadyH.cons (o := { dst := some 19, op := Op.call { callee := Callee.value (Operand.func 28), args := #[Operand.tmp 17, Operand.tmp 18], argTypes := #[37, 4] }, type := 9, pos := "print.go:17", after := #[{ on := 8, ground := Ground.data }, { on := 9, ground := Ground.data }, { on := 2, ground := Ground.chain }], guard := none }) rfl (fun K hKq => ?_) ?_
   ·
    go_simp
    refine (Q2.out _ (I1.out.kp KQ)).mono ?_
    rintro e y3 ⟨rfl, kq⟩
    try have CB := hid (bl_kp CB.out kq)
    refine hKq.out _ _ (MK.out _ (KQ.trans kq)) (fun hN => ?_)
    clear kq
    clear hKq K hH KQ
    have hH := hN
    clear hN
    have KQ := hH.2.out
    try simp only [Act.put, List.setIfInBounds_toArray, List.set_cons_zero, List.set_cons_succ]
    refine wpAnyH_ready (rs := [6]) (by kernel_rfl) (by simp) ?_
    refine AllReadyH.cons (o := { dst := some 15, op := Op.convert 59 9 (Operand.tmp 14), type := 9, pos := "print.go:17", after := #[{ on := 5, ground := Ground.data }], guard := none }) rfl (fun K hKq => ?_) AllReadyH.nil
    first
    | (have cv := conv_at _ _ c.op hop (bl_cell CB.out 0 _ rfl); rw [HD.out] at cv; go_simp; refine hKq.out _ _ (MK.out _ KQ) (fun hN => ?_))
    | (have cv := conv_at (W1.alloc (Obj.cells #[.int .u8 (c.op : Int)] 5)).drew W1.heap.size c.op hop (bl_cell (last_drew _ _) 0 _ rfl); rw [HD.out] at cv; go_simp; refine hKq.out _ _ (MK.out _ KQ) (fun hN => ?_))
    clear hKq K hH KQ
    have hH := hN
    clear hN
    have KQ := hH.2.out
    try simp only [Act.put, List.setIfInBounds_toArray, List.set_cons_zero, List.set_cons_succ]
    refine wpAnyH_take (i := 7) (oi := { dst := some 16, op := Op.binOp BinOp.add 9 (Operand.tmp 11) (Operand.tmp 15) 9, type := 9, pos := "print.go:17", after := #[{ on := 2, ground := Ground.data }, { on := 6, ground := Ground.data }], guard := none }) (v := ?v7p21) rfl (by kernel_rfl) (by kernel_rfl) (by kernel_rfl) (fun _ _ _ h => h) (Or.inl ⟨by rfl, ?hy7p21⟩) hH ?r7p21
    case hy7p21 => (intro W hSw; (try dsimp only at hSw); go_simp; (try rw [if_neg (by omega)]); try (with_reducible rfl))
    try simp only [Act.put, List.setIfInBounds_toArray, List.set_cons_zero, List.set_cons_succ]
    refine wpAnyH_take (i := 11) (oi := { dst := some 20, op := Op.binOp BinOp.add 9 (Operand.tmp 16) (Operand.tmp 19) 9, type := 9, pos := "print.go:17", after := #[{ on := 7, ground := Ground.data }, { on := 10, ground := Ground.data }], guard := none }) (v := ?v11p22) rfl (by kernel_rfl) (by kernel_rfl) (by kernel_rfl) (fun _ _ _ h => h) (Or.inl ⟨by rfl, ?hy11p22⟩) hH ?r11p22
    case hy11p22 => (intro W hSw; (try dsimp only at hSw); go_simp; (try rw [if_neg (by omega)]); try (with_reducible rfl))
    try simp only [Act.put, List.setIfInBounds_toArray, List.set_cons_zero, List.set_cons_succ]
    refine wpAnyH_take (i := 12) (oi := { dst := some 4, op := Op.assign (Operand.tmp 20), type := 9, pos := "print.go:17", after := #[{ on := 11, ground := Ground.data }, { on := 10, ground := Ground.chain }, { on := 0, ground := Ground.phase }, { on := 1, ground := Ground.phase }, { on := 2, ground := Ground.phase }, { on := 3, ground := Ground.phase }, { on := 4, ground := Ground.phase }, { on := 5, ground := Ground.phase }, { on := 6, ground := Ground.phase }, { on := 7, ground := Ground.phase }, { on := 8, ground := Ground.phase }, { on := 9, ground := Ground.phase }, { on := 10, ground := Ground.phase }, { on := 11, ground := Ground.phase }], guard := none }) (v := ?v12p23) rfl (by kernel_rfl) (by kernel_rfl) (by kernel_rfl) (fun _ _ _ h => h) (Or.inl ⟨by rfl, ?hy12p23⟩) hH ?r12p23
    case hy12p23 => (intro W hSw; (try dsimp only at hSw); go_simp; try (with_reducible rfl))
    try simp only [Act.put, List.setIfInBounds_toArray, List.set_cons_zero, List.set_cons_succ]
    refine wpAnyH_done (by kernel_rfl) ?_ _
    refine NoPanic.normal ?_
    go_wp2_with fail
    go_ret
    exact ⟨by rw [E2.out]; rfl, K1.out.trans KQ⟩
   exact AllReadyH.nil
  refine AllReadyH.cons (o := { dst := some 15, op := Op.convert 59 9 (Operand.tmp 14), type := 9, pos := "print.go:17", after := #[{ on := 5, ground := Ground.data }], guard := none }) rfl (fun K hKq => ?_) ?_
  ·
   first
   | (have cv := conv_at _ _ c.op hop (bl_cell CB.out 0 _ rfl); rw [HD.out] at cv; go_simp; refine hKq.out _ _ (MK.out _ KQ) (fun hN => ?_))
   | (have cv := conv_at (W1.alloc (Obj.cells #[.int .u8 (c.op : Int)] 5)).drew W1.heap.size c.op hop (bl_cell (last_drew _ _) 0 _ rfl); rw [HD.out] at cv; go_simp; refine hKq.out _ _ (MK.out _ KQ) (fun hN => ?_))
   clear hKq K hH KQ
   have hH := hN
   clear hN
   have KQ := hH.2.out
   try simp only [Act.put, List.setIfInBounds_toArray, List.set_cons_zero, List.set_cons_succ]
   refine wpAnyH_ready (rs := [2]) (by kernel_rfl) (by simp) ?_
   refine AllReadyH.cons (o := { dst := some 11, op := Op.call { callee := Callee.value (Operand.func 27), args := #[Operand.tmp 9, Operand.tmp 10], argTypes := #[37, 4] }, type := 9, pos := "print.go:17", after := #[{ on := 0, ground := Ground.data }, { on := 1, ground := Ground.data }], guard := none }) rfl (fun K hKq => ?_) AllReadyH.nil
   go_simp
   refine (Q1.out _ (I1.out.kp KQ) (T1.out.kp KQ)).mono ?_
   rintro e y3 ⟨rfl, kq⟩
   try have CB := hid (bl_kp CB.out kq)
   refine hKq.out _ _ (MK.out _ (KQ.trans kq)) (fun hN => ?_)
   clear kq
   clear hKq K hH KQ
   have hH := hN
   clear hN
   have KQ := hH.2.out
   try simp only [Act.put, List.setIfInBounds_toArray, List.set_cons_zero, List.set_cons_succ]
   refine wpAnyH_take (i := 7) (oi := { dst := some 16, op := Op.binOp BinOp.add 9 (Operand.tmp 11) (Operand.tmp 15) 9, type := 9, pos := "print.go:17", after := #[{ on := 2, ground := Ground.data }, { on := 6, ground := Ground.data }], guard := none }) (v := ?v7p24) rfl (by kernel_rfl) (by kernel_rfl) (by kernel_rfl) (fun _ _ _ h => h) (Or.inl ⟨by rfl, ?hy7p24⟩) hH ?r7p24
   case hy7p24 => (intro W hSw; (try dsimp only at hSw); go_simp; (try rw [if_neg (by omega)]); try (with_reducible rfl))
   try simp only [Act.put, List.setIfInBounds_toArray, List.set_cons_zero, List.set_cons_succ]
   refine wpAnyH_ready (rs := [10]) (by kernel_rfl) (by simp) ?_
   refine AllReadyH.cons (o := { dst := some 19, op := Op.call { callee := Callee.value (Operand.func 28), args := #[Operand.tmp 17, Operand.tmp 18], argTypes := #[37, 4] }, type := 9, pos := "print.go:17", after := #[{ on := 8, ground := Ground.data }, { on := 9, ground := Ground.data }, { on := 2, ground := Ground.chain }], guard := none }) rfl (fun K hKq => ?_) AllReadyH.nil
   go_simp
   refine (Q2.out _ (I1.out.kp KQ)).mono ?_
   rintro e y4 ⟨rfl, kq⟩
   try have CB := hid (bl_kp CB.out kq)
   refine hKq.out _ _ (MK.out _ (KQ.trans kq)) (fun hN => ?_)
   clear kq
   clear hKq K hH KQ
   have hH := hN
   clear hN
   have KQ := hH.2.out
   try simp only [Act.put, List.setIfInBounds_toArray, List.set_cons_zero, List.set_cons_succ]
   refine wpAnyH_take (i := 11) (oi := { dst := some 20, op := Op.binOp BinOp.add 9 (Operand.tmp 16) (Operand.tmp 19) 9, type := 9, pos := "print.go:17", after := #[{ on := 7, ground := Ground.data }, { on := 10, ground := Ground.data }], guard := none }) (v := ?v11p25) rfl (by kernel_rfl) (by kernel_rfl) (by kernel_rfl) (fun _ _ _ h => h) (Or.inl ⟨by rfl, ?hy11p25⟩) hH ?r11p25
   case hy11p25 => (intro W hSw; (try dsimp only at hSw); go_simp; (try rw [if_neg (by omega)]); try (with_reducible rfl))
   try simp only [Act.put, List.setIfInBounds_toArray, List.set_cons_zero, List.set_cons_succ]
   refine wpAnyH_take (i := 12) (oi := { dst := some 4, op := Op.assign (Operand.tmp 20), type := 9, pos := "print.go:17", after := #[{ on := 11, ground := Ground.data }, { on := 10, ground := Ground.chain }, { on := 0, ground := Ground.phase }, { on := 1, ground := Ground.phase }, { on := 2, ground := Ground.phase }, { on := 3, ground := Ground.phase }, { on := 4, ground := Ground.phase }, { on := 5, ground := Ground.phase }, { on := 6, ground := Ground.phase }, { on := 7, ground := Ground.phase }, { on := 8, ground := Ground.phase }, { on := 9, ground := Ground.phase }, { on := 10, ground := Ground.phase }, { on := 11, ground := Ground.phase }], guard := none }) (v := ?v12p26) rfl (by kernel_rfl) (by kernel_rfl) (by kernel_rfl) (fun _ _ _ h => h) (Or.inl ⟨by rfl, ?hy12p26⟩) hH ?r12p26
   case hy12p26 => (intro W hSw; (try dsimp only at hSw); go_simp; try (with_reducible rfl))
   try simp only [Act.put, List.setIfInBounds_toArray, List.set_cons_zero, List.set_cons_succ]
   refine wpAnyH_done (by kernel_rfl) ?_ _
   refine NoPanic.normal ?_
   go_wp2_with fail
   go_ret
   exact ⟨by rw [E2.out]; rfl, K1.out.trans KQ⟩
  exact AllReadyH.nil
 exact AllReadyH.nil
end Go.Proofs.YtommgdgilcemdaaGreatDoor
