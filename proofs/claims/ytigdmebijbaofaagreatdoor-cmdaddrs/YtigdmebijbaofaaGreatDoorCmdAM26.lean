/-
  Texts of this claim: CmH, CmI, Within2, CmJ.
-/
import Derived.Test.YtigdmebijbaofaaGreatDoorCmdAM4
import Derived.Test.YtigdmebijbaofaaGreatDoorCmdAM24
import Derived.Test.YtigdmebijbaofaaGreatDoorCmdAM25
import Derived.Test.YtigdmebijbaofaaGreatDoorCmdAM17

/-! ### CmH -/

namespace Go.Proofs.YtigdmebijbaofaaGreatDoor
set_option maxHeartbeats 2000000
set_option maxRecDepth 100000
open Go.RowKit

theorem kp_last {a b : World} (_ : Kp a b) (o : Obj) : (b.alloc o).heap[b.heap.size]? = some o := last_of b o
theorem placeT_len (c : Cv) (A B R : Rx) (P : List Pc) (ere : Bool) (hO : COk c A B R P) : (placeT c A B ere).length ≤ 300000 := by
 unfold placeT
 have h1 := adT_len c.a.k c.a.ln A ere hO.a
 have h2 := adT_len c.b.k c.b.ln B ere hO.b
 simp only [List.length_append]
 split <;> split <;> simp <;> omega
theorem restT_len (c : Cv) (A B R : Rx) (P : List Pc) (ere : Bool) (hO : COk c A B R P) (hA : askedR c R P ere = true) : (restT c R P ere).length ≤ 900000000 := by
 have e : c.tx.data.toList.length = c.tx.size := Array.length_toList
 have e1 : c.y.data.toList.length = c.y.size := Array.length_toList
 have e2 : c.z.data.toList.length = c.z.size := Array.length_toList
 have o := hO.tx
 have o1 := hO.y
 have o2 := hO.z
 have t1 := tableT_len c.y.data.toList
 have t2 := tableT_len c.z.data.toList
 have t3 := linesT_len c.tx.data.toList
 have t4 : (nameT c.tx.data.toList).length ≤ 1000001 := by unfold nameT; split <;> simp <;> omega
 unfold restT
 unfold askedR at hA
 split at hA
 ·
  rename_i h; rw [h]; simp
 ·
  rename_i h; rw [h]; show ([92, 10] ++ linesT c.tx.data.toList).length ≤ _; simp; omega
 ·
  rename_i h; rw [h]; show (nameT c.tx.data.toList).length ≤ _; omega
 ·
  rename_i h; rw [h]; show (nameT c.tx.data.toList).length ≤ _; omega
 ·
  rename_i h
  rw [h]
  unfold substR at hA
  simp only [Bool.and_eq_true, decide_eq_true_eq] at hA
  obtain ⟨⟨⟨⟨s1, s2⟩, s3⟩, s4⟩, s5⟩ := hA
  have x1 := print_size ere R hO.r
  rw [bs_size] at x1
  have x2 := tplT_len P (few_of_tpl P _ hO.p s2)
  have x3 := flagsT_len c hO.tx s3 s4
  have := hO.p
  simp; omega
 ·
  rename_i h; rw [h]; simp; omega
 ·
  cases hA

theorem rightC_any (c : Cv) (A B R : Rx) (P : List Pc) (ere : Bool) (hO : COk c A B R P) (w : World) (hc : CIs w c A B R P) : Calls Tryz.prog 23 #[c.v, .bool ere] w fun e w' => e = .returned (.bool (rightC c A B R P ere)) ∧ Kp w w' := by
 obtain ⟨E, hE⟩ : ∃ E, rightC c A B R P ere = E := ⟨_, rfl⟩
 rw [hE]
 obtain ⟨p, hp⟩ : ∃ p, placedR c A B ere = p := ⟨_, rfl⟩
 obtain ⟨l, hl⟩ : ∃ p, leanR c R P = p := ⟨_, rfl⟩
 obtain ⟨a, ha⟩ : ∃ p, askedR c R P ere = p := ⟨_, rfl⟩
 have HE : Hid ((p && l && a) = E) := by show _ = _; rw [← hE, ← hp, ← hl, ← ha]; rfl
 have C1 : Hid (∀ w, CIs w c A B R P → Calls Tryz.prog 54 #[c.v, .bool ere] w fun e w' => e = .returned (.bool p) ∧ Kp w w') := fun w h => by rw [← hp]; exact placed_any c A B R P ere hO w h
 have C2 : Hid (∀ w, CIs w c A B R P → Calls Tryz.prog 55 #[c.v] w fun e w' => e = .returned (.bool l) ∧ Kp w w') := fun w h => by rw [← hl]; exact cleanC_any c A B R P hO w h
 have C3 : Hid (∀ w, CIs w c A B R P → Calls Tryz.prog 56 #[c.v, .bool ere] w fun e w' => e = .returned (.bool a) ∧ Kp w w') := fun w h => by rw [← ha]; exact asked_any c A B R P ere hO w h
 have HC := hid hc
 clear hE hp hl ha hc
 go_enter Tryz.func23, Tryz.ntmps23
 go_upto_region 1 with fail
 refine opq (fun W0 => W0.heap[w.heap.size]? = some c.o ∧ Kp w W0 ∧ CIs W0 c A B R P) ⟨by (first | exact last_at _ _ _ (by simp) | (refine bl_alloc ?_ _; first | exact last_at _ _ _ (by simp) | (refine bl_alloc ?_ _; first | exact last_at _ _ _ (by simp) | (refine bl_alloc ?_ _; exact last_at _ _ _ (by simp))))), by exact kpt, by exact HC.out.kp kpt⟩ ?_
 rintro W0 ⟨xA0, xK0, xI0⟩
 have A0 := hidT xA0
 have K0 := hidT xK0
 have I0 := hidT xI0
 clear xA0 xK0 xI0
 clear HC
 go_wp2_with (refine wpList_load_cv rfl rfl c A0.out (by rfl) ?_; simp only [Act.put, List.setIfInBounds_toArray, List.set_cons_zero, List.set_cons_succ])
 refine (C1.out _ I0.out).mono ?_
 rintro e W1 ⟨rfl, k1⟩
 have A1 := hid (bl_kp A0.out k1)
 have I1 := hid (I0.out.kp k1)
 have K1 := hid (K0.out.trans k1)
 clear k1
 cases p
 ·
  have E2 : Hid (E = false) := by show _ = _; rw [← HE.out]; rfl
  go_wp2_with fail
  go_ret
  exact ⟨by rw [E2.out]; rfl, K1.out⟩
 go_wp2_with (refine wpList_load_cv rfl rfl c A1.out (by rfl) ?_; simp only [Act.put, List.setIfInBounds_toArray, List.set_cons_zero, List.set_cons_succ])
 refine (C2.out _ I1.out).mono ?_
 rintro e W2 ⟨rfl, k1⟩
 have A2 := hid (bl_kp A1.out k1)
 have I2 := hid (I1.out.kp k1)
 have K2 := hid (K1.out.trans k1)
 clear k1
 cases l
 ·
  have E2 : Hid (E = false) := by show _ = _; rw [← HE.out]; rfl
  go_wp2_with fail
  go_ret
  exact ⟨by rw [E2.out]; rfl, K2.out⟩
 go_wp2_with (refine wpList_load_cv rfl rfl c A2.out (by rfl) ?_; simp only [Act.put, List.setIfInBounds_toArray, List.set_cons_zero, List.set_cons_succ])
 refine (C3.out _ I2.out).mono ?_
 rintro e W3 ⟨rfl, k1⟩
 have K3 := hid (K2.out.trans k1)
 clear k1
 have E2 : Hid (E = a) := by show _ = _; rw [← HE.out]; rfl
 go_wp2_with fail
 go_ret
 exact ⟨by rw [E2.out]; rfl, K3.out⟩

theorem conv_at (w : World) (B b : Nat) (hb : b < 256) (hc : w.cell? ⟨B, 0, none⟩ = some (.int .u8 (b : Int))) : (convert 59 9 (.slice (some ⟨B, 0, none⟩) 1 1)).run Tryz.prog w = .ok (.string (bs [UInt8.ofNat b])) w := by
 refine run_convert_bytes_back w 59 9 5 ⟨B, 0, none⟩ 1 [UInt8.ofNat b] Tryz.underlying59 Tryz.underlying5 Tryz.underlying9 ?_
 intro j hj
 have h0 : j = 0 := by simp at hj; exact hj
 subst h0
 refine hc.trans ?_
 show some _ = some _
 simp
 omega
set_option maxHeartbeats 4000000 in
theorem print2_any (c : Cv) (A B R : Rx) (P : List Pc) (ere : Bool) (hO : COk c A B R P) (w : World) (hc : CIs w c A B R P) (hT : Tb w) : Calls Tryz.prog 22 #[c.v, .bool ere] w fun e w' => e = .returned (.string (bs (cmdT c A B R P ere))) ∧ Kp w w' := by
 obtain ⟨E, hE⟩ : ∃ E, bs (cmdT c A B R P ere) = E := ⟨_, rfl⟩
 rw [hE]
 obtain ⟨p, hp⟩ : ∃ p, rightC c A B R P ere = p := ⟨_, rfl⟩
 have C1 : Hid (∀ w, CIs w c A B R P → Calls Tryz.prog 23 #[c.v, .bool ere] w fun e w' => e = .returned (.bool p) ∧ Kp w w') := fun w h => by rw [← hp]; exact rightC_any c A B R P ere hO w h
 have hop := hO.op
 have HC := hid hc
 have HT := hid hT
 have HP := hid hp
 have HE := hid hE
 clear hE hp hc hT
 go_enter Tryz.func22, Tryz.ntmps22
 go_upto_region 1 with fail
 refine opq (fun W0 => W0.heap[w.heap.size]? = some c.o ∧ Kp w W0 ∧ CIs W0 c A B R P) ⟨by (first | exact last_at _ _ _ (by simp) | (refine bl_alloc ?_ _; first | exact last_at _ _ _ (by simp) | (refine bl_alloc ?_ _; first | exact last_at _ _ _ (by simp) | (refine bl_alloc ?_ _; exact last_at _ _ _ (by simp))))), by exact kpt, by exact HC.out.kp kpt⟩ ?_
 rintro W0 ⟨xA0, xK0, xI0⟩
 have A0 := hidT xA0
 have K0 := hidT xK0
 have I0 := hidT xI0
 clear xA0 xK0 xI0
 have T0 := hid (HT.out.kp K0.out)
 clear HC HT
 go_wp2_with (refine wpList_load_cv rfl rfl c A0.out (by rfl) ?_; simp only [Act.put, List.setIfInBounds_toArray, List.set_cons_zero, List.set_cons_succ])
 refine (C1.out _ I0.out).mono ?_
 rintro e W1 ⟨rfl, k1⟩
 have A1 := hid (bl_kp A0.out k1)
 have I1 := hid (I0.out.kp k1)
 have T1 := hid (T0.out.kp k1)
 have K1 := hid (K0.out.trans k1)
 clear k1
 cases p
 ·
  have E2 : Hid (E = bs []) := by show _ = _; rw [← HE.out]; unfold cmdT; rw [HP.out]; rfl
  go_wp2_with fail
  go_ret
  exact ⟨by rw [E2.out]; rfl, K1.out⟩
 have hask : askedR c R P ere = true := by have := HP.out; unfold rightC at this; simp only [Bool.and_eq_true] at this; exact this.2
 obtain ⟨X, hX⟩ : ∃ X, bs (placeT c A B ere) = X := ⟨_, rfl⟩
 obtain ⟨Y, hY⟩ : ∃ X, bs (restT c R P ere) = X := ⟨_, rfl⟩
 obtain ⟨D, hD⟩ : ∃ X, bs [UInt8.ofNat c.op] = X := ⟨_, rfl⟩
 have hx : X.size ≤ 300000 := by rw [← hX, bs_size]; exact placeT_len c A B R P ere hO
 have hy : Y.size ≤ 900000000 := by rw [← hY, bs_size]; exact restT_len c A B R P ere hO hask
 have hd : D.size ≤ 1 := by rw [← hD, bs_size]; exact Nat.le_refl 1
 have Q1 : Hid (∀ w, CIs w c A B R P → Tb w → Calls Tryz.prog 52 #[c.v, .bool ere] w fun e w' => e = .returned (.string X) ∧ Kp w w') := fun w h t => by rw [← hX]; exact place_any c A B R P ere hO w h t
 have Q2 : Hid (∀ w, CIs w c A B R P → Calls Tryz.prog 53 #[c.v, .bool ere] w fun e w' => e = .returned (.string Y) ∧ Kp w w') := fun w h => by rw [← hY]; exact rest_any c A B R P ere hO hask w h
 have E2 : Hid (E = X ++ D ++ Y) := by show _ = _; rw [← HE.out, ← hX, ← hY, ← hD, bs_app, bs_app]; unfold cmdT; rw [HP.out]; rfl
 have HD := hid hD
 clear hX hY hD HE HP hask
 go_upto_region 3 with fail
 have Q0 : Kp W1 W1.drew := (Kp.refl _).drew
 have MK : Hid (∀ W, Kp W1 W → W.cell? ⟨w.heap.size, 23, none⟩ = some (.int .u8 (c.op : Int)) ∧ Hid (Kp W1 W)) := fun W k => ⟨bl_cell (bl_kp A1.out k) 23 _ rfl, k⟩
 refine wp_region_noPanic ?_
 refine hdrew MK Q0 (fun hH => ?_)
 have KQ := Q0
 refine wpAnyH_take (i := 0) (oi := { dst := some 9, op := Op.load 37 (Operand.tmp 2), type := 37, pos := "print.go:17", after := #[], guard := none }) (v := Cv.v c) rfl (by kernel_rfl) (by kernel_rfl) (by kernel_rfl) (fun _ _ _ h => h) (yields_cv (by rfl) rfl rfl c (fun W hSw => bl_kp A1.out hSw.2.out)) hH ?r0p2
 try simp only [ps]
 refine tk 1 (some 10) (Op.move (Operand.tmp 1)) 4 (v := ?v1p3) rfl ?h1p3 hH ?_
 case h1p3 => intro _ _; go_simp; try with_reducible rfl
 try simp only [ps]
 refine tk 3 (some 12) (Op.fieldAddr 37 (Operand.tmp 2) 3) 0 (v := ?v3p4) rfl ?h3p4 hH ?_
 case h3p4 => intro _ _; go_simp; try with_reducible rfl
 try simp only [ps]
 refine tk 4 (some 13) (Op.load 5 (Operand.tmp 12)) 5 (v := ?v4p5) rfl ?h4p5 hH ?_
 case h4p5 => intro _ _; go_simp; try with_reducible rfl
 try simp only [ps]
 refine wpAnyH_take (i := 8) (oi := { dst := some 17, op := Op.load 37 (Operand.tmp 2), type := 37, pos := "print.go:17", after := #[], guard := none }) (v := Cv.v c) rfl (by kernel_rfl) (by kernel_rfl) (by kernel_rfl) (fun _ _ _ h => h) (yields_cv (by rfl) rfl rfl c (fun W hSw => bl_kp A1.out hSw.2.out)) hH ?r8p7
 try simp only [ps]
 refine tk 9 (some 18) (Op.move (Operand.tmp 1)) 4 (v := ?v9p8) rfl ?h9p8 hH ?_
 case h9p8 => intro _ _; go_simp; try with_reducible rfl
 try simp only [ps]
 refine wpAnyH_ready (rs := [2, 5]) (by kernel_rfl) (by simp) ?_
 refine AllReadyH.cons (o := { dst := some 11, op := Op.call { callee := Callee.value (Operand.func 52), args := #[Operand.tmp 9, Operand.tmp 10], argTypes := #[37, 4] }, type := 9, pos := "print.go:17", after := #[{ on := 0, ground := Ground.data }, { on := 1, ground := Ground.data }], guard := none }) rfl (fun K hKq => ?_) ?_
 ·
  go_simp
  refine (Q1.out _ (I1.out.kp KQ) (T1.out.kp KQ)).mono ?_
  rintro e y1 ⟨rfl, kq⟩
  try have CB := hid (bl_kp CB.out kq)
  refine hKq.out _ _ (MK.out _ (KQ.trans kq)) (fun hN => ?_)
  clear kq
  clear hKq K hH KQ
  have hH := hN
  clear hN
  have KQ := hH.2.out
  try simp only [ps]
  refine wpAnyH_ready (rs := [5, 10]) (by kernel_rfl) (by simp) ?_
  refine AllReadyH.cons (o := { dst := some 14, op := Op.buildSlice 59 1 #[(0, Operand.tmp 13)], type := 59, pos := "print.go:17", after := #[{ on := 4, ground := Ground.data }], guard := none }) rfl (fun K hKq => ?_) ?_
  ·
   have cb0 := kp_last KQ (Obj.cells #[.int .u8 (c.op : Int)] 5)
   try rw [show (World.drew W1).heap.size = W1.heap.size from rfl] at cb0
   have CB := hid cb0
   clear cb0
   go_simp
   refine hKq.out _ _ (MK.out _ (by first | exact KQ.alloc _ | exact ((Kp.refl _).alloc _).drew)) (fun hN => ?_)
   clear hKq K hH KQ
   have hH := hN
   clear hN
   have KQ := hH.2.out
   try simp only [ps]
   refine wpAnyH_ready (rs := [6, 10]) (by kernel_rfl) (by simp) ?_
   refine AllReadyH.cons (o := { dst := some 15, op := Op.convert 59 9 (Operand.tmp 14), type := 9, pos := "print.go:17", after := #[{ on := 5, ground := Ground.data }], guard := none }) rfl (fun K hKq => ?_) ?_
   ·
    first
    | (have cv := conv_at _ _ c.op hop (bl_cell CB.out 0 _ rfl); rw [HD.out] at cv; go_simp; refine hKq.out _ _ (MK.out _ KQ) (fun hN => ?_))
    | (have cv := conv_at (W1.alloc (Obj.cells #[.int .u8 (c.op : Int)] 5)).drew W1.heap.size c.op hop (bl_cell (last_drew _ _) 0 _ rfl); rw [HD.out] at cv; go_simp; refine hKq.out _ _ (MK.out _ KQ) (fun hN => ?_))
    clear hKq K hH KQ
    have hH := hN
    clear hN
    have KQ := hH.2.out
    try simp only [ps]
    refine tk 7 (some 16) (Op.binOp BinOp.add 9 (Operand.tmp 11) (Operand.tmp 15) 9) 9 (v := ?v7p9) rfl ?h7p9 hH ?_
    case h7p9 => (intro W hSw; (try dsimp only at hSw); go_simp; (try rw [if_neg (by omega)]); try (with_reducible rfl))
    try simp only [ps]
    refine wpAnyH_ready (rs := [10]) (by kernel_rfl) (by simp) ?_
    refine AllReadyH.cons (o := { dst := some 19, op := Op.call { callee := Callee.value (Operand.func 53), args := #[Operand.tmp 17, Operand.tmp 18], argTypes := #[37, 4] }, type := 9, pos := "print.go:17", after := #[{ on := 8, ground := Ground.data }, { on := 9, ground := Ground.data }, { on := 2, ground := Ground.chain }], guard := none }) rfl (fun K hKq => ?_) AllReadyH.nil
    go_simp
    refine (Q2.out _ (I1.out.kp KQ)).mono ?_
    rintro e y4 ⟨rfl, kq⟩
    try have CB := hid (bl_kp CB.out kq)
    refine hKq.out _ _ (MK.out _ (KQ.trans kq)) (fun hN => ?_)
    clear kq
    clear hKq K hH KQ
    have hH := hN
    clear hN
    have KQ := hH.2.out
    try simp only [ps]
    refine tk 11 (some 20) (Op.binOp BinOp.add 9 (Operand.tmp 16) (Operand.tmp 19) 9) 9 (v := ?v11p10) rfl ?h11p10 hH ?_
    case h11p10 => (intro W hSw; (try dsimp only at hSw); go_simp; (try rw [if_neg (by omega)]); try (with_reducible rfl))
    try simp only [ps]
    refine tk 12 (some 4) (Op.assign (Operand.tmp 20)) 9 (v := ?v12p11) rfl ?h12p11 hH ?_
    case h12p11 => intro _ _; go_simp; try with_reducible rfl
    try simp only [ps]
    refine wpAnyH_done (by kernel_rfl) ?_ _
    refine NoPanic.normal ?_
    go_wp2_with fail
    go_ret
    exact ⟨by rw [E2.out]; rfl, K1.out.trans KQ⟩
   refine AllReadyH.cons (o := { dst := some 19, op := Op.call { callee := Callee.value (Operand.func 53), args := #[Operand.tmp 17, Operand.tmp 18], argTypes := #[37, 4] }, type := 9, pos := "print.go:17", after := #[{ on := 8, ground := Ground.data }, { on := 9, ground := Ground.data }, { on := 2, ground := Ground.chain }], guard := none }) rfl (fun K hKq => ?_) ?_
   ·
    go_simp
    refine (Q2.out _ (I1.out.kp KQ)).mono ?_
    rintro e y3 ⟨rfl, kq⟩
    try have CB := hid (bl_kp CB.out kq)
    refine hKq.out _ _ (MK.out _ (KQ.trans kq)) (fun hN => ?_)
    clear kq
    clear hKq K hH KQ
    have hH := hN
    clear hN
    have KQ := hH.2.out
    try simp only [ps]
    refine wpAnyH_ready (rs := [6]) (by kernel_rfl) (by simp) ?_
    refine AllReadyH.cons (o := { dst := some 15, op := Op.convert 59 9 (Operand.tmp 14), type := 9, pos := "print.go:17", after := #[{ on := 5, ground := Ground.data }], guard := none }) rfl (fun K hKq => ?_) AllReadyH.nil
    first
    | (have cv := conv_at _ _ c.op hop (bl_cell CB.out 0 _ rfl); rw [HD.out] at cv; go_simp; refine hKq.out _ _ (MK.out _ KQ) (fun hN => ?_))
    | (have cv := conv_at (W1.alloc (Obj.cells #[.int .u8 (c.op : Int)] 5)).drew W1.heap.size c.op hop (bl_cell (last_drew _ _) 0 _ rfl); rw [HD.out] at cv; go_simp; refine hKq.out _ _ (MK.out _ KQ) (fun hN => ?_))
    clear hKq K hH KQ
    have hH := hN
    clear hN
    have KQ := hH.2.out
    try simp only [ps]
    refine tk 7 (some 16) (Op.binOp BinOp.add 9 (Operand.tmp 11) (Operand.tmp 15) 9) 9 (v := ?v7p12) rfl ?h7p12 hH ?_
    case h7p12 => (intro W hSw; (try dsimp only at hSw); go_simp; (try rw [if_neg (by omega)]); try (with_reducible rfl))
    try simp only [ps]
    refine tk 11 (some 20) (Op.binOp BinOp.add 9 (Operand.tmp 16) (Operand.tmp 19) 9) 9 (v := ?v11p13) rfl ?h11p13 hH ?_
    case h11p13 => (intro W hSw; (try dsimp only at hSw); go_simp; (try rw [if_neg (by omega)]); try (with_reducible rfl))
    try simp only [ps]
    refine tk 12 (some 4) (Op.assign (Operand.tmp 20)) 9 (v := ?v12p14) rfl ?h12p14 hH ?_
    case h12p14 => intro _ _; go_simp; try with_reducible rfl
    try simp only [ps]
    refine wpAnyH_done (by kernel_rfl) ?_ _
    refine NoPanic.normal ?_
    go_wp2_with fail
    go_ret
    exact ⟨by rw [E2.out]; rfl, K1.out.trans KQ⟩
   exact AllReadyH.nil
  refine AllReadyH.cons (o := { dst := some 19, op := Op.call { callee := Callee.value (Operand.func 53), args := #[Operand.tmp 17, Operand.tmp 18], argTypes := #[37, 4] }, type := 9, pos := "print.go:17", after := #[{ on := 8, ground := Ground.data }, { on := 9, ground := Ground.data }, { on := 2, ground := Ground.chain }], guard := none }) rfl (fun K hKq => ?_) ?_
  ·
   go_simp
   refine (Q2.out _ (I1.out.kp KQ)).mono ?_
   rintro e y2 ⟨rfl, kq⟩
   try have CB := hid (bl_kp CB.out kq)
   refine hKq.out _ _ (MK.out _ (KQ.trans kq)) (fun hN => ?_)
   clear kq
   clear hKq K hH KQ
   have hH := hN
   clear hN
   have KQ := hH.2.out
   try simp only [ps]
   refine wpAnyH_ready (rs := [5]) (by kernel_rfl) (by simp) ?_
   refine AllReadyH.cons (o := { dst := some 14, op := Op.buildSlice 59 1 #[(0, Operand.tmp 13)], type := 59, pos := "print.go:17", after := #[{ on := 4, ground := Ground.data }], guard := none }) rfl (fun K hKq => ?_) AllReadyH.nil
   have cb0 := kp_last KQ (Obj.cells #[.int .u8 (c.op : Int)] 5)
   try rw [show (World.drew W1).heap.size = W1.heap.size from rfl] at cb0
   have CB := hid cb0
   clear cb0
   go_simp
   refine hKq.out _ _ (MK.out _ (by first | exact KQ.alloc _ | exact ((Kp.refl _).alloc _).drew)) (fun hN => ?_)
   clear hKq K hH KQ
   have hH := hN
   clear hN
   have KQ := hH.2.out
   try simp only [ps]
   refine wpAnyH_ready (rs := [6]) (by kernel_rfl) (by simp) ?_
   refine AllReadyH.cons (o := { dst := some 15, op := Op.convert 59 9 (Operand.tmp 14), type := 9, pos := "print.go:17", after := #[{ on := 5, ground := Ground.data }], guard := none }) rfl (fun K hKq => ?_) AllReadyH.nil
   first
   | (have cv := conv_at _ _ c.op hop (bl_cell CB.out 0 _ rfl); rw [HD.out] at cv; go_simp; refine hKq.out _ _ (MK.out _ KQ) (fun hN => ?_))
   | (have cv := conv_at (W1.alloc (Obj.cells #[.int .u8 (c.op : Int)] 5)).drew W1.heap.size c.op hop (bl_cell (last_drew _ _) 0 _ rfl); rw [HD.out] at cv; go_simp; refine hKq.out _ _ (MK.out _ KQ) (fun hN => ?_))
   clear hKq K hH KQ
   have hH := hN
   clear hN
   have KQ := hH.2.out
   try simp only [ps]
   refine tk 7 (some 16) (Op.binOp BinOp.add 9 (Operand.tmp 11) (Operand.tmp 15) 9) 9 (v := ?v7p15) rfl ?h7p15 hH ?_
   case h7p15 => (intro W hSw; (try dsimp only at hSw); go_simp; (try rw [if_neg (by omega)]); try (with_reducible rfl))
   try simp only [ps]
   refine tk 11 (some 20) (Op.binOp BinOp.add 9 (Operand.tmp 16) (Operand.tmp 19) 9) 9 (v := ?v11p16) rfl ?h11p16 hH ?_
   case h11p16 => (intro W hSw; (try dsimp only at hSw); go_simp; (try rw [if_neg (by omega)]); try (with_reducible rfl))
   try simp only [ps]
   refine tk 12 (some 4) (Op.assign (Operand.tmp 20)) 9 (v := ?v12p17) rfl ?h12p17 hH ?_
   case h12p17 => intro _ _; go_simp; try with_reducible rfl
   try simp only [ps]
   refine wpAnyH_done (by kernel_rfl) ?_ _
   refine NoPanic.normal ?_
   go_wp2_with fail
   go_ret
   exact ⟨by rw [E2.out]; rfl, K1.out.trans KQ⟩
  exact AllReadyH.nil
 refine AllReadyH.cons (o := { dst := some 14, op := Op.buildSlice 59 1 #[(0, Operand.tmp 13)], type := 59, pos := "print.go:17", after := #[{ on := 4, ground := Ground.data }], guard := none }) rfl (fun K hKq => ?_) ?_
 ·
  have cb0 := kp_last KQ (Obj.cells #[.int .u8 (c.op : Int)] 5)
  try rw [show (World.drew W1).heap.size = W1.heap.size from rfl] at cb0
  have CB := hid cb0
  clear cb0
  go_simp
  refine hKq.out _ _ (MK.out _ (by first | exact KQ.alloc _ | exact ((Kp.refl _).alloc _).drew)) (fun hN => ?_)
  clear hKq K hH KQ
  have hH := hN
  clear hN
  have KQ := hH.2.out
  try simp only [ps]
  refine wpAnyH_ready (rs := [2, 6]) (by kernel_rfl) (by simp) ?_
  refine AllReadyH.cons (o := { dst := some 11, op := Op.call { callee := Callee.value (Operand.func 52), args := #[Operand.tmp 9, Operand.tmp 10], argTypes := #[37, 4] }, type := 9, pos := "print.go:17", after := #[{ on := 0, ground := Ground.data }, { on := 1, ground := Ground.data }], guard := none }) rfl (fun K hKq => ?_) ?_
  ·
   go_simp
   refine (Q1.out _ (I1.out.kp KQ) (T1.out.kp KQ)).mono ?_
   rintro e y2 ⟨rfl, kq⟩
   try have CB := hid (bl_kp CB.out kq)
   refine hKq.out _ _ (MK.out _ (KQ.trans kq)) (fun hN => ?_)
   clear kq
   clear hKq K hH KQ
   have hH := hN
   clear hN
   have KQ := hH.2.out
   try simp only [ps]
   refine wpAnyH_ready (rs := [6, 10]) (by kernel_rfl) (by simp) ?_
   refine AllReadyH.cons (o := { dst := some 15, op := Op.convert 59 9 (Operand.tmp 14), type := 9, pos := "print.go:17", after := #[{ on := 5, ground := Ground.data }], guard := none }) rfl (fun K hKq => ?_) ?_
   ·
    first
    | (have cv := conv_at _ _ c.op hop (bl_cell CB.out 0 _ rfl); rw [HD.out] at cv; go_simp; refine hKq.out _ _ (MK.out _ KQ) (fun hN => ?_))
    | (have cv := conv_at (W1.alloc (Obj.cells #[.int .u8 (c.op : Int)] 5)).drew W1.heap.size c.op hop (bl_cell (last_drew _ _) 0 _ rfl); rw [HD.out] at cv; go_simp; refine hKq.out _ _ (MK.out _ KQ) (fun hN => ?_))
    clear hKq K hH KQ
    have hH := hN
    clear hN
    have KQ := hH.2.out
    try simp only [ps]
    refine tk 7 (some 16) (Op.binOp BinOp.add 9 (Operand.tmp 11) (Operand.tmp 15) 9) 9 (v := ?v7p18) rfl ?h7p18 hH ?_
    case h7p18 => (intro W hSw; (try dsimp only at hSw); go_simp; (try rw [if_neg (by omega)]); try (with_reducible rfl))
    try simp only [ps]
    refine wpAnyH_ready (rs := [10]) (by kernel_rfl) (by simp) ?_
    refine AllReadyH.cons (o := { dst := some 19, op := Op.call { callee := Callee.value (Operand.func 53), args := #[Operand.tmp 17, Operand.tmp 18], argTypes := #[37, 4] }, type := 9, pos := "print.go:17", after := #[{ on := 8, ground := Ground.data }, { on := 9, ground := Ground.data }, { on := 2, ground := Ground.chain }], guard := none }) rfl (fun K hKq => ?_) AllReadyH.nil
    go_simp
    refine (Q2.out _ (I1.out.kp KQ)).mono ?_
    rintro e y4 ⟨rfl, kq⟩
    try have CB := hid (bl_kp CB.out kq)
    refine hKq.out _ _ (MK.out _ (KQ.trans kq)) (fun hN => ?_)
    clear kq
    clear hKq K hH KQ
    have hH := hN
    clear hN
    have KQ := hH.2.out
    try simp only [ps]
    refine tk 11 (some 20) (Op.binOp BinOp.add 9 (Operand.tmp 16) (Operand.tmp 19) 9) 9 (v := ?v11p19) rfl ?h11p19 hH ?_
    case h11p19 => (intro W hSw; (try dsimp only at hSw); go_simp; (try rw [if_neg (by omega)]); try (with_reducible rfl))
    try simp only [ps]
    refine tk 12 (some 4) (Op.assign (Operand.tmp 20)) 9 (v := ?v12p20) rfl ?h12p20 hH ?_
    case h12p20 => intro _ _; go_simp; try with_reducible rfl
    try simp only [ps]
    refine wpAnyH_done (by kernel_rfl) ?_ _
    refine NoPanic.normal ?_
    go_wp2_with fail
    go_ret
    exact ⟨by rw [E2.out]; rfl, K1.out.trans KQ⟩
   refine AllReadyH.cons (o := { dst := some 19, op := Op.call { callee := Callee.value (Operand.func 53), args := #[Operand.tmp 17, Operand.tmp 18], argTypes := #[37, 4] }, type := 9, pos := "print.go:17", after := #[{ on := 8, ground := Ground.data }, { on := 9, ground := Ground.data }, { on := 2, ground := Ground.chain }], guard := none }) rfl (fun K hKq => ?_) ?_
   ·
    go_simp
    refine (Q2.out _ (I1.out.kp KQ)).mono ?_
    rintro e y3 ⟨rfl, kq⟩
    try have CB := hid (bl_kp CB.out kq)
    refine hKq.out _ _ (MK.out _ (KQ.trans kq)) (fun hN => ?_)
    clear kq
    clear hKq K hH KQ
    have hH := hN
    clear hN
    have KQ := hH.2.out
    try simp only [ps]
    refine wpAnyH_ready (rs := [6]) (by kernel_rfl) (by simp) ?_
    refine AllReadyH.cons (o := { dst := some 15, op := Op.convert 59 9 (Operand.tmp 14), type := 9, pos := "print.go:17", after := #[{ on := 5, ground := Ground.data }], guard := none }) rfl (fun K hKq => ?_) AllReadyH.nil
    first
    | (have cv := conv_at _ _ c.op hop (bl_cell CB.out 0 _ rfl); rw [HD.out] at cv; go_simp; refine hKq.out _ _ (MK.out _ KQ) (fun hN => ?_))
    | (have cv := conv_at (W1.alloc (Obj.cells #[.int .u8 (c.op : Int)] 5)).drew W1.heap.size c.op hop (bl_cell (last_drew _ _) 0 _ rfl); rw [HD.out] at cv; go_simp; refine hKq.out _ _ (MK.out _ KQ) (fun hN => ?_))
    clear hKq K hH KQ
    have hH := hN
    clear hN
    have KQ := hH.2.out
    try simp only [ps]
    refine tk 7 (some 16) (Op.binOp BinOp.add 9 (Operand.tmp 11) (Operand.tmp 15) 9) 9 (v := ?v7p21) rfl ?h7p21 hH ?_
    case h7p21 => (intro W hSw; (try dsimp only at hSw); go_simp; (try rw [if_neg (by omega)]); try (with_reducible rfl))
    try simp only [ps]
    refine tk 11 (some 20) (Op.binOp BinOp.add 9 (Operand.tmp 16) (Operand.tmp 19) 9) 9 (v := ?v11p22) rfl ?h11p22 hH ?_
    case h11p22 => (intro W hSw; (try dsimp only at hSw); go_simp; (try rw [if_neg (by omega)]); try (with_reducible rfl))
    try simp only [ps]
    refine tk 12 (some 4) (Op.assign (Operand.tmp 20)) 9 (v := ?v12p23) rfl ?h12p23 hH ?_
    case h12p23 => intro _ _; go_simp; try with_reducible rfl
    try simp only [ps]
    refine wpAnyH_done (by kernel_rfl) ?_ _
    refine NoPanic.normal ?_
    go_wp2_with fail
    go_ret
    exact ⟨by rw [E2.out]; rfl, K1.out.trans KQ⟩
   exact AllReadyH.nil
  refine AllReadyH.cons (o := { dst := some 15, op := Op.convert 59 9 (Operand.tmp 14), type := 9, pos := "print.go:17", after := #[{ on := 5, ground := Ground.data }], guard := none }) rfl (fun K hKq => ?_) ?_
  ·
   first
   | (have cv := conv_at _ _ c.op hop (bl_cell CB.out 0 _ rfl); rw [HD.out] at cv; go_simp; refine hKq.out _ _ (MK.out _ KQ) (fun hN => ?_))
   | (have cv := conv_at (W1.alloc (Obj.cells #[.int .u8 (c.op : Int)] 5)).drew W1.heap.size c.op hop (bl_cell (last_drew _ _) 0 _ rfl); rw [HD.out] at cv; go_simp; refine hKq.out _ _ (MK.out _ KQ) (fun hN => ?_))
   clear hKq K hH KQ
   have hH := hN
   clear hN
   have KQ := hH.2.out
   try simp only [ps]
   refine wpAnyH_ready (rs := [2]) (by kernel_rfl) (by simp) ?_
   refine AllReadyH.cons (o := { dst := some 11, op := Op.call { callee := Callee.value (Operand.func 52), args := #[Operand.tmp 9, Operand.tmp 10], argTypes := #[37, 4] }, type := 9, pos := "print.go:17", after := #[{ on := 0, ground := Ground.data }, { on := 1, ground := Ground.data }], guard := none }) rfl (fun K hKq => ?_) AllReadyH.nil
   go_simp
   refine (Q1.out _ (I1.out.kp KQ) (T1.out.kp KQ)).mono ?_
   rintro e y3 ⟨rfl, kq⟩
   try have CB := hid (bl_kp CB.out kq)
   refine hKq.out _ _ (MK.out _ (KQ.trans kq)) (fun hN => ?_)
   clear kq
   clear hKq K hH KQ
   have hH := hN
   clear hN
   have KQ := hH.2.out
   try simp only [ps]
   refine tk 7 (some 16) (Op.binOp BinOp.add 9 (Operand.tmp 11) (Operand.tmp 15) 9) 9 (v := ?v7p24) rfl ?h7p24 hH ?_
   case h7p24 => (intro W hSw; (try dsimp only at hSw); go_simp; (try rw [if_neg (by omega)]); try (with_reducible rfl))
   try simp only [ps]
   refine wpAnyH_ready (rs := [10]) (by kernel_rfl) (by simp) ?_
   refine AllReadyH.cons (o := { dst := some 19, op := Op.call { callee := Callee.value (Operand.func 53), args := #[Operand.tmp 17, Operand.tmp 18], argTypes := #[37, 4] }, type := 9, pos := "print.go:17", after := #[{ on := 8, ground := Ground.data }, { on := 9, ground := Ground.data }, { on := 2, ground := Ground.chain }], guard := none }) rfl (fun K hKq => ?_) AllReadyH.nil
   go_simp
   refine (Q2.out _ (I1.out.kp KQ)).mono ?_
   rintro e y4 ⟨rfl, kq⟩
   try have CB := hid (bl_kp CB.out kq)
   refine hKq.out _ _ (MK.out _ (KQ.trans kq)) (fun hN => ?_)
   clear kq
   clear hKq K hH KQ
   have hH := hN
   clear hN
   have KQ := hH.2.out
   try simp only [ps]
   refine tk 11 (some 20) (Op.binOp BinOp.add 9 (Operand.tmp 16) (Operand.tmp 19) 9) 9 (v := ?v11p25) rfl ?h11p25 hH ?_
   case h11p25 => (intro W hSw; (try dsimp only at hSw); go_simp; (try rw [if_neg (by omega)]); try (with_reducible rfl))
   try simp only [ps]
   refine tk 12 (some 4) (Op.assign (Operand.tmp 20)) 9 (v := ?v12p26) rfl ?h12p26 hH ?_
   case h12p26 => intro _ _; go_simp; try with_reducible rfl
   try simp only [ps]
   refine wpAnyH_done (by kernel_rfl) ?_ _
   refine NoPanic.normal ?_
   go_wp2_with fail
   go_ret
   exact ⟨by rw [E2.out]; rfl, K1.out.trans KQ⟩
  exact AllReadyH.nil
 exact AllReadyH.nil
end Go.Proofs.YtigdmebijbaofaaGreatDoor

/-! ### CmI -/

namespace Go.Proofs.YtigdmebijbaofaaGreatDoor
set_option maxHeartbeats 2000000
set_option maxRecDepth 100000
open Go.RowKit

def q1 : ByteArray := ⟨#[120]⟩
def q2 : ByteArray := ⟨#[97]⟩
abbrev cA (r1 r2 : Rv) (pa : Option Addr) (pl pc : Nat) : Cv := ⟨⟨1, 1, Rv.z⟩, ⟨3, 0, r1⟩, true, 115, ⟨#[]⟩, r2, pa, pl, pc, true, true, 2, ⟨#[]⟩, ⟨#[]⟩⟩
abbrev cB (op : Nat) (nt : Bool) (tx : ByteArray) : Cv := ⟨Av.z, Av.z, nt, op, tx, Rv.z, none, 0, 0, false, false, 0, ⟨#[]⟩, ⟨#[]⟩⟩
def pB : List Pc := [⟨-1, ⟨#[98]⟩⟩]
theorem f1 : (pParse q1 false).2 = (0, 0) ∧ rxOkB (pParse q1 false).1 = true ∧ (pParse q2 false).2 = (0, 0) ∧ rxOkB (pParse q2 false).1 = true ∧
  cmdT (cA Rv.z Rv.z none 0 0) zR (pParse q1 false).1 (pParse q2 false).1 pB false = [49, 44, 47, 120, 47, 33, 115, 47, 97, 47, 98, 47, 103, 112, 50] := by decide +kernel
theorem f2 : cmdT (cB 97 false ⟨#[120]⟩) zR zR zR [] false = [97, 92, 10, 120] ∧ rightC (cB 125 true ⟨#[]⟩) zR zR zR [] false = false := by decide +kernel
theorem cmdT_cA (r1 r2 : Rv) (pa : Option Addr) (pl pc : Nat) (A B R : Rx) (P : List Pc) (ere : Bool) : cmdT (cA r1 r2 pa pl pc) A B R P ere = cmdT (cA Rv.z Rv.z none 0 0) A B R P ere := rfl
theorem pcsEq_refl : ∀ P : List Pc, pcsEq P P = true
 | [] => rfl
 | p :: P => by rw [pcsEq, pcsEq_refl P]; simp [pcEq]
theorem sameC_refl (c : Cv) (A B R : Rx) (P : List Pc) : sameC c c A B R A B R P P = true := by
 unfold sameC adEq
 simp [sameR_refl, pcsEq_refl]
theorem cA_ok (r1 r2 : Rv) (pa : Option Addr) (pl pc : Nat) {T1 T2 : Rx} (h1 : RxOk T1) (h2 : RxOk T2) : COk (cA r1 r2 pa pl pc) zR T1 T2 pB := ⟨zR_ok, h1, h2, by decide, by show (115 : Nat) < 256; omega, by show (0 : Nat) ≤ 1000000; omega, by show (0 : Nat) ≤ 1000000; omega, by show (0 : Nat) ≤ 1000000; omega⟩
theorem cB_is (op : Nat) (nt : Bool) (tx : ByteArray) (w : World) : CIs w (cB op nt tx) zR zR zR [] := ⟨zR_is w, zR_is w, zR_is w, PcAt.nil w⟩
theorem cB_ok (op : Nat) (nt : Bool) (tx : ByteArray) (ho : op < 256) (ht : tx.size ≤ 1000000) : COk (cB op nt tx) zR zR zR [] := ⟨zR_ok, zR_ok, zR_ok, by simp, ho, ht, by show (0 : Nat) ≤ 1000000; omega, by show (0 : Nat) ≤ 1000000; omega⟩

set_option maxHeartbeats 4000000 in
theorem cmdRuns_any (w : World) (h0 : ∃ m, w.cell? ⟨1, 0, none⟩ = some (.int .i64 m)) (hT : Tb w) : Calls Tryz.prog 3 #[] w fun e w' => e = .returned (.bool true) ∧ Kp w w' := by
 have Z0 := hid h0
 have TB0 := hid hT
 clear h0 hT
 obtain ⟨g1, g2, g3, g4, g5⟩ := f1
 obtain ⟨T1, n1, e1, hp1⟩ : ∃ T n e, pParse q1 false = (T, n, e) := ⟨_, _, _, rfl⟩
 obtain ⟨T2, n2, e2, hp2⟩ : ∃ T n e, pParse q2 false = (T, n, e) := ⟨_, _, _, rfl⟩
 rw [hp1] at g1 g2 g5
 rw [hp2] at g3 g4 g5
 injection g1 with g1 g1'
 injection g3 with g3 g3'
 subst g1
 subst g1'
 subst g3
 subst g3'
 have PA1 := hid (parse_at q1 false T1 0 0 (by decide) hp1)
 have PA2 := hid (parse_at q2 false T2 0 0 (by decide) hp2)
 have O1 := hid (rxOk_of _ g2)
 have O2 := hid (rxOk_of _ g4)
 have TX := hid g5
 clear hp1 hp2 g2 g4 g5
 go_enter Tryz.func3, Tryz.ntmps3
 go_wp2_with fail
 refine (PA1.out _ Z0.out).mono ?_
 rintro e w1 ⟨k1, mn1, mx1, mm1, t1, ad1, l1, c1, rfl, hd, hk⟩
 have D1 := hid hd
 have K1 := hid hk
 clear hd hk
 go_upto_region 2 with fail
 refine opq (fun W2 => W2.heap[w1.heap.size]? = some (rxo k1 mn1 mx1 mm1 t1 (.slice ad1 l1 c1)) ∧ Pd W2 T1 k1 mn1 mx1 mm1 t1 ad1 l1 c1 ∧ Kp w W2) ⟨by (first | exact last_at _ _ _ (by simp) | (refine bl_alloc ?_ _; first | exact last_at _ _ _ (by simp) | (refine bl_alloc ?_ _; first | exact last_at _ _ _ (by simp) | (refine bl_alloc ?_ _; exact last_at _ _ _ (by simp))))), by exact D1.out.kp kpt, by exact K1.out.trans kpt⟩ ?_
 rintro W2 ⟨xR2, xD2, xK2⟩
 have R2 := hidT xR2
 have D2 := hidT xD2
 have K2 := hidT xK2
 clear xR2 xD2 xK2
 clear D1 K1
 go_wp2_with fail
 refine (PA2.out _ (cell0 Z0.out K2.out)).mono ?_
 rintro e w3 ⟨k2, mn2, mx2, mm2, t2, ad2, l2, c2, rfl, hd, hk⟩
 have E3 := hid hd
 have D3 := hid (D2.out.kp hk)
 have R3 := hid (bl_kp R2.out hk)
 have K3 := hid (K2.out.trans hk)
 clear hd hk D2 R2 K2
 go_upto_region 3 with fail
 refine opq (fun W4 => W4.heap[w3.heap.size]? = some (rxo k2 mn2 mx2 mm2 t2 (.slice ad2 l2 c2)) ∧ W4.heap[w1.heap.size]? = some (rxo k1 mn1 mx1 mm1 t1 (.slice ad1 l1 c1)) ∧ Pd W4 T1 k1 mn1 mx1 mm1 t1 ad1 l1 c1 ∧ Pd W4 T2 k2 mn2 mx2 mm2 t2 ad2 l2 c2 ∧ Kp w W4) ⟨by (first | exact last_at _ _ _ (by simp) | (refine bl_alloc ?_ _; first | exact last_at _ _ _ (by simp) | (refine bl_alloc ?_ _; first | exact last_at _ _ _ (by simp) | (refine bl_alloc ?_ _; exact last_at _ _ _ (by simp))))), by exact bl_kp R3.out kpt, by exact D3.out.kp kpt, by exact E3.out.kp kpt, by exact K3.out.trans kpt⟩ ?_
 rintro W4 ⟨xQ4, xR4, xD4, xE4, xK4⟩
 have Q4 := hidT xQ4
 have R4 := hidT xR4
 have D4 := hidT xD4
 have E4 := hidT xE4
 have K4 := hidT xK4
 clear xQ4 xR4 xD4 xE4 xK4
 clear D3 E3 R3 K3
 obtain ⟨a0, a1, a2, a3, a4, a5, a6, a7, a8⟩ := cellsRv (r := ⟨k1, mn1, mx1, mm1, t1, ad1, l1, c1⟩) R4.out
 obtain ⟨b0, b1, b2, b3, b4, b5, b6, b7, b8⟩ := cellsRv (r := ⟨k2, mn2, mx2, mm2, t2, ad2, l2, c2⟩) Q4.out
 have PR1 : Hid (∀ w, CIs w (cA ⟨k1, mn1, mx1, mm1, t1, ad1, l1, c1⟩ ⟨k2, mn2, mx2, mm2, t2, ad2, l2, c2⟩ (some ⟨W4.heap.size, 0, none⟩) 1 1) zR T1 T2 pB → Tb w → Calls Tryz.prog 22 #[Cv.v (cA ⟨k1, mn1, mx1, mm1, t1, ad1, l1, c1⟩ ⟨k2, mn2, mx2, mm2, t2, ad2, l2, c2⟩ (some ⟨W4.heap.size, 0, none⟩) 1 1), .bool false] w fun e w' => e = .returned (.string ⟨#[49, 44, 47, 120, 47, 33, 115, 47, 97, 47, 98, 47, 103, 112, 50]⟩) ∧ Kp w w') := fun w h t => by
  have := print2_any (cA ⟨k1, mn1, mx1, mm1, t1, ad1, l1, c1⟩ ⟨k2, mn2, mx2, mm2, t2, ad2, l2, c2⟩ (some ⟨W4.heap.size, 0, none⟩) 1 1) zR T1 T2 pB false (cA_ok _ _ _ _ _ O1.out O2.out) w h t
  rw [cmdT_cA, TX.out] at this
  exact this
 have SM1 : Hid (∀ w, CIs w (cA ⟨k1, mn1, mx1, mm1, t1, ad1, l1, c1⟩ ⟨k2, mn2, mx2, mm2, t2, ad2, l2, c2⟩ (some ⟨W4.heap.size, 0, none⟩) 1 1) zR T1 T2 pB → Calls Tryz.prog 24 #[Cv.v (cA ⟨k1, mn1, mx1, mm1, t1, ad1, l1, c1⟩ ⟨k2, mn2, mx2, mm2, t2, ad2, l2, c2⟩ (some ⟨W4.heap.size, 0, none⟩) 1 1), Cv.v (cA ⟨k1, mn1, mx1, mm1, t1, ad1, l1, c1⟩ ⟨k2, mn2, mx2, mm2, t2, ad2, l2, c2⟩ (some ⟨W4.heap.size, 0, none⟩) 1 1)] w fun e w' => e = .returned (.bool true) ∧ Kp w w') := fun w h => by
  have := cmdSame_any (cA ⟨k1, mn1, mx1, mm1, t1, ad1, l1, c1⟩ ⟨k2, mn2, mx2, mm2, t2, ad2, l2, c2⟩ (some ⟨W4.heap.size, 0, none⟩) 1 1) (cA ⟨k1, mn1, mx1, mm1, t1, ad1, l1, c1⟩ ⟨k2, mn2, mx2, mm2, t2, ad2, l2, c2⟩ (some ⟨W4.heap.size, 0, none⟩) 1 1) zR T1 T2 zR T1 T2 pB pB (cA_ok _ _ _ _ _ O1.out O2.out) w h h
  rw [sameC_refl] at this
  exact this
 have PR2 : Hid (∀ w, Tb w → Calls Tryz.prog 22 #[Cv.v (cB 97 false ⟨#[120]⟩), .bool false] w fun e w' => e = .returned (.string ⟨#[97, 92, 10, 120]⟩) ∧ Kp w w') := fun w t => by
  have := print2_any (cB 97 false ⟨#[120]⟩) zR zR zR [] false (cB_ok 97 false ⟨#[120]⟩ (by decide) (by decide)) w (cB_is _ _ _ w) t
  rw [f2.1] at this
  exact this
 have RT3 : Hid (∀ w, Calls Tryz.prog 23 #[Cv.v (cB 125 true ⟨#[]⟩), .bool false] w fun e w' => e = .returned (.bool false) ∧ Kp w w') := fun w => by
  have := rightC_any (cB 125 true ⟨#[]⟩) zR zR zR [] false (cB_ok 125 true ⟨#[]⟩ (by decide) (by decide)) w (cB_is _ _ _ w)
  rw [f2.2] at this
  exact this
 clear TX
 go_upto_region 4 with (refine wpList_store_cv rfl rfl rfl (cA ⟨k1, mn1, mx1, mm1, t1, ad1, l1, c1⟩ ⟨k2, mn2, mx2, mm2, t2, ad2, l2, c2⟩ (some ⟨W4.heap.size, 0, none⟩) 1 1) rfl (last_at _ _ _ (by simp)) rfl ?_; intro W5 A5x A5k; simp only [Act.put])
 refine opq (fun W6 => W6.heap[(W4.heap.size + 1)]? = some (Cv.o (cA ⟨k1, mn1, mx1, mm1, t1, ad1, l1, c1⟩ ⟨k2, mn2, mx2, mm2, t2, ad2, l2, c2⟩ (some ⟨W4.heap.size, 0, none⟩) 1 1)) ∧ CIs W6 (cA ⟨k1, mn1, mx1, mm1, t1, ad1, l1, c1⟩ ⟨k2, mn2, mx2, mm2, t2, ad2, l2, c2⟩ (some ⟨W4.heap.size, 0, none⟩) 1 1) zR T1 T2 pB ∧ Kp w W6) ⟨by exact A5x, by exact ⟨zR_is _, D4.out.kp (A5k.up (((Kp.refl _).alloc _).alloc _) (by omega)), E4.out.kp (A5k.up (((Kp.refl _).alloc _).alloc _) (by omega)), ⟨rfl, Nat.le_refl _, fun _ => ⟨_, _, rfl, by have := A5k.size; simp at this; omega, fun j p hj => by match j, hj with | 0, hj => (simp [pB] at hj; subst hj; exact ⟨bl_cell (bl_ks (bl_alloc (last_of _ _) _) (by omega) A5k) 0 _ rfl, bl_cell (bl_ks (bl_alloc (last_of _ _) _) (by omega) A5k) 1 _ rfl⟩) | j + 1, hj => simp [pB] at hj⟩⟩⟩, by exact K4.out.trans (A5k.up (((Kp.refl _).alloc _).alloc _) (by omega))⟩ ?_
 rintro W6 ⟨xA6, xI6, xK6⟩
 have A6 := hidT xA6
 have I6 := hidT xI6
 have K6 := hidT xK6
 clear xA6 xI6 xK6
 have T6 := hid (TB0.out.kp K6.out)
 clear A5x A5k a0 a1 a2 a3 a4 a5 a6 a7 a8 b0 b1 b2 b3 b4 b5 b6 b7 b8 Q4 R4 D4 E4 K4
 go_wp2_with (refine wpList_load_cv rfl rfl (cA ⟨k1, mn1, mx1, mm1, t1, ad1, l1, c1⟩ ⟨k2, mn2, mx2, mm2, t2, ad2, l2, c2⟩ (some ⟨W4.heap.size, 0, none⟩) 1 1) A6.out (by rfl) ?_; simp only [Act.put, List.setIfInBounds_toArray, List.set_cons_zero, List.set_cons_succ])
 refine (PR1.out _ I6.out T6.out).mono ?_
 rintro e V1 ⟨rfl, k1⟩
 have A7 := hid (bl_kp A6.out k1)
 have I7 := hid (I6.out.kp k1)
 have T7 := hid (T6.out.kp k1)
 have K7 := hid (K6.out.trans k1)
 clear k1
 go_wp2_with fail
 refine (PR2.out _ T7.out).mono ?_
 rintro e V2 ⟨rfl, k1⟩
 have A8 := hid (bl_kp A7.out k1)
 have I8 := hid (I7.out.kp k1)
 have K8 := hid (K7.out.trans k1)
 clear k1
 go_wp2_with fail
 refine (RT3.out _).mono ?_
 rintro e V3 ⟨rfl, k1⟩
 have A9 := hid (bl_kp A8.out k1)
 have I9 := hid (I8.out.kp k1)
 have K9 := hid (K8.out.trans k1)
 clear k1
 go_wp2_with (refine wpList_load_cv rfl rfl (cA ⟨k1, mn1, mx1, mm1, t1, ad1, l1, c1⟩ ⟨k2, mn2, mx2, mm2, t2, ad2, l2, c2⟩ (some ⟨W4.heap.size, 0, none⟩) 1 1) A9.out (by rfl) ?_; simp only [Act.put, List.setIfInBounds_toArray, List.set_cons_zero, List.set_cons_succ])
 refine (SM1.out _ I9.out).mono ?_
 rintro e V4 ⟨rfl, k1⟩
 have K10 := hid (K9.out.trans k1)
 clear k1
 go_wp2_with fail
 go_ret
 exact ⟨rfl, K10.out⟩

end Go.Proofs.YtigdmebijbaofaaGreatDoor

/-! ### Within2 -/

namespace Go.Proofs.YtigdmebijbaofaaGreatDoor
open Go.RowKit

def wit (n lo hi : Int) : Int := if n.tmod (hi - lo + 1) < 0 then lo + (n.tmod (hi - lo + 1) + (hi - lo + 1)) else lo + n.tmod (hi - lo + 1)
theorem wit_le (n lo hi : Int) (h : lo ≤ hi) : lo ≤ wit n lo hi ∧ wit n lo hi ≤ hi := by
 have hm1 : -(hi - lo + 1) < n.tmod (hi - lo + 1) := by
  have h2 := Int.tmod_lt_of_pos (-n) (show 0 < hi - lo + 1 by omega)
  rw [Int.neg_tmod] at h2; omega
 have hm2 : n.tmod (hi - lo + 1) < hi - lo + 1 := Int.tmod_lt_of_pos n (by omega)
 unfold wit; split <;> omega
theorem within_any (n lo hi : Int) (w : World) (h : lo ≤ hi) (h0 : -10 ≤ lo) (h1 : hi ≤ 1000000) :
  Calls Tryz.prog 33 #[.int .i64 n, .int .i64 lo, .int .i64 hi] w fun e w' => e = .returned (.int .i64 (wit n lo hi)) ∧ w' = w := by
 have hm1 : -(hi - lo + 1) < n.tmod (hi - lo + 1) := by
  have h2 := Int.tmod_lt_of_pos (-n) (show 0 < hi - lo + 1 by omega)
  rw [Int.neg_tmod] at h2; omega
 have hm2 : n.tmod (hi - lo + 1) < hi - lo + 1 := Int.tmod_lt_of_pos n (by omega)
 have ri : ∀ {a b : Int}, a = b → Ending.returned (.int .i64 a) = .returned (.int .i64 b) := fun h => by rw [h]
 by_cases hneg : n.tmod (hi - lo + 1) < 0
 ·
  have E : Hid (wit n lo hi = lo + (n.tmod (hi - lo + 1) + (hi - lo + 1))) := by show _ = _; unfold wit; rw [if_pos hneg]
  go_enter Tryz.func33, Tryz.ntmps33
  go_wp2
  go_ret
  exact ⟨ri (by rw [E.out]; omega), rfl⟩
 ·
  have E : Hid (wit n lo hi = lo + n.tmod (hi - lo + 1)) := by show _ = _; unfold wit; rw [if_neg hneg]
  go_enter Tryz.func33, Tryz.ntmps33
  go_wp2
  go_ret
  exact ⟨ri (by rw [E.out]), rfl⟩
end Go.Proofs.YtigdmebijbaofaaGreatDoor

/-! ### CmJ -/

namespace Go.Proofs.YtigdmebijbaofaaGreatDoor
open Go.RowKit

def xs (k : Nat) : ByteArray := bs (List.replicate k 120)
end Go.Proofs.YtigdmebijbaofaaGreatDoor
