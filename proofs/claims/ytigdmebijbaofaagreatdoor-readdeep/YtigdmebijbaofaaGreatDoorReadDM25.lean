/-
  Texts of this claim: CmG, CmH, CmI, CmJ.
-/
import Derived.Test.YtigdmebijbaofaaGreatDoorReadDM4
import Derived.Test.YtigdmebijbaofaaGreatDoorReadDM24
import Derived.Test.YtigdmebijbaofaaGreatDoorReadDM21
import Derived.Test.YtigdmebijbaofaaGreatDoorReadDM20
import Derived.Test.YtigdmebijbaofaaGreatDoorReadDM19
import Derived.Test.YtigdmebijbaofaaGreatDoorReadDM8
/-! ### CmG -/
namespace Go.Proofs.YtigdmebijbaofaaGreatDoor
set_option maxHeartbeats 2000000
set_option maxRecDepth 100000
open Go.RowKit
theorem kind_top {op n : Nat} (h : kindN op = n) : n ≤ 6 := by
 rw [← h]
 unfold kindN
 repeat' split
 all_goals omega
theorem yields_cv {ops : Array Oper} {S : World → Prop} {op : Oper} {a : Act} (hw : Region.wanted op (yielded ops a.tmps) = true) {x : Operand} (ho : op.op = .load 37 x) {B : Nat} (hx : a.eval x = .pointer (some ⟨B, 0, none⟩)) (c : Cv) (hS : ∀ w, S w → w.heap[B]? = some c.o) : YieldsIf Tryz.prog ops S op c.v a :=
 yieldsIf_load_mid hw 37 x ho B 0 hx c.cs.toList _ (fun w h j v hv => by rw [Nat.zero_add]; exact bl_cell (hS w h) j v (by rw [← Array.getElem?_toList]; exact hv)) Tryz.underlying37 rfl (by kernel_rfl)
theorem tplT_len (P : List Pc) (h : PcFew P) : (tplT P).length ≤ 803 * P.length := by
 have : ∀ P : List Pc, (∀ p ∈ P, p.s.size ≤ 400) → (tplT P).length ≤ 803 * P.length := by
  intro P
  induction P with
  | nil => intro _; simp [tplT]
  | cons x P ih =>
   intro h
   have h1 := ih (fun p hp => h p (by simp [hp]))
   have h2 := pcT_size x
   have h3 := h x (by simp)
   unfold tplT at h1 ⊢
   rw [List.flatMap_cons, List.length_append, List.length_cons]
   omega
 exact this P h.all
theorem few_of_tpl (P : List Pc) (G : Int) (hl : P.length ≤ 1000000) (h : tplR P G = true) : PcFew P := by
 refine ⟨hl, ?_⟩
 have : ∀ (P : List Pc) (t : Bool), tplL t P G = true → ∀ p ∈ P, p.s.size ≤ 400 := by
  intro P
  induction P with
  | nil => intro _ _ p hp; cases hp
  | cons x P ih =>
   intro t h p hp
   rw [tplL] at h
   simp only [Bool.and_eq_true] at h
   rcases List.mem_cons.1 hp with rfl | hp
   ·
    have := h.1.1
    unfold pcR at this
    split at this
    ·
     simp only [Bool.and_eq_true, decide_eq_true_eq] at this; omega
    ·
     simp only [Bool.and_eq_true, decide_eq_true_eq] at this; omega
   ·
    exact ih _ h.2 p hp
 exact this P false h
theorem flagsT_len (c : Cv) (h : c.tx.size ≤ 1000000) (h0 : 0 ≤ c.nth) (h9 : c.nth ≤ 99) : (flagsT c).length ≤ 1000010 := by
 unfold flagsT nameT
 have e : c.tx.data.toList.length = c.tx.size := Array.length_toList
 have := dec_len c.nth.toNat (by omega)
 simp only [List.length_append]
 have a1 : (if c.g = true then [103] else ([] : List UInt8)).length ≤ 1 := by split <;> simp
 have a2 : (if c.s = true then [112] else ([] : List UInt8)).length ≤ 1 := by split <;> simp
 have a3 : (if c.nth = 0 then ([] : List UInt8) else dec c.nth.toNat).length ≤ 2 := by split; simp; exact this
 have a4 : (if c.tx.data.toList = [] then ([] : List UInt8) else [119] ++ if c.tx.data.toList = [] then [] else [32] ++ c.tx.data.toList).length ≤ 1000002 := by
  split
  ·
   simp
  ·
   simp; omega
 omega
theorem rest_any (c : Cv) (A B R : Rx) (P : List Pc) (ere : Bool) (hO : COk c A B R P) (hA : askedR c R P ere = true) (w : World) (hc : CIs w c A B R P) : Calls Tryz.prog 53 #[c.v, .bool ere] w fun e w' => e = .returned (.string (bs (restT c R P ere))) ∧ Kp w w' := by
 obtain ⟨E, hE⟩ : ∃ E, bs (restT c R P ere) = E := ⟨_, rfl⟩
 rw [hE]
 obtain ⟨n, hn⟩ : ∃ n, kindN c.op = n := ⟨_, rfl⟩
 unfold restT at hE
 unfold askedR at hA
 rw [hn] at hE hA
 have C1 : Hid (∀ w, Calls Tryz.prog 95 #[.int .u8 (c.op : Int)] w fun e w' => e = .returned (.int .i64 (n : Int)) ∧ w' = w) := fun w => by rw [← hn]; exact kind_any c.op w
 have HE := hid hE
 have HA := hid hA
 have HC := hid hc
 have hnn : n ≤ 6 := kind_top hn
 clear hE hn hc hA
 have z1 : (bs [92, 10]).size = 2 := rfl
 have z2 : (bs [47]).size = 1 := rfl
 go_enter Tryz.func53, Tryz.ntmps53
 go_upto_region 1 with fail
 refine opq (fun W0 => W0.heap[w.heap.size]? = some c.o ∧ Kp w W0 ∧ CIs W0 c A B R P) ⟨by (first | exact last_at _ _ _ (by simp) | (refine bl_alloc ?_ _; first | exact last_at _ _ _ (by simp) | (refine bl_alloc ?_ _; first | exact last_at _ _ _ (by simp) | (refine bl_alloc ?_ _; exact last_at _ _ _ (by simp))))), by exact kpt, by exact HC.out.kp kpt⟩ ?_
 rintro W0 ⟨xA0, xK0, xI0⟩
 have A0 := hidT xA0
 have K0 := hidT xK0
 have I0 := hidT xI0
 clear xA0 xK0 xI0
 clear HC
 have a23 := bl_cell A0.out 23 (.int .u8 (c.op : Int)) rfl
 go_wp2_with fail
 refine (C1.out _).mono ?_
 rintro e W0 ⟨rfl, rfl⟩
 clear a23
 by_cases h2 : n = 2
 ·
  subst h2
  as_aux_lemma =>
  obtain ⟨X, hX⟩ : ∃ X, bs (linesT c.tx.data.toList) = X := ⟨_, rfl⟩
  have hz : X.size ≤ 2000000 := by
   rw [← hX, bs_size]
   have e : c.tx.data.toList.length = c.tx.size := Array.length_toList
   have := hO.tx
   have := linesT_len c.tx.data.toList
   omega
  have CQ := hid (fun w => linesText_any c.tx w hO.tx)
  have E2 : Hid (E = bs [92, 10] ++ X) := by show _ = _; rw [← HE.out, ← hX]; first | rfl | (rw [bs_app])
  rw [hX] at CQ
  clear hX HE
  have a24 := bl_cell A0.out 24 (.string c.tx) rfl
  go_wp2_with fail
  clear a24
  refine (CQ.out _).mono ?_
  rintro e W1 k1
  obtain ⟨rfl, k1⟩ := k1
  have K1 : Hid (Kp w W1) := by first | exact K0.out.trans k1 | (rw [k1]; exact K0.out)
  clear k1
  go_wp2_with fail
  go_ret
  exact ⟨by rw [E2.out]; rfl, K1.out⟩
 by_cases h3 : n = 3
 ·
  subst h3
  as_aux_lemma =>
  obtain ⟨X, hX⟩ : ∃ X, bs (nameT c.tx.data.toList) = X := ⟨_, rfl⟩
  have hz : X.size ≤ 2000000 := by
   rw [← hX, bs_size]
   have e : c.tx.data.toList.length = c.tx.size := Array.length_toList
   have := hO.tx
   unfold nameT
   split <;> simp <;> omega
  have CQ := hid (fun w => nameText_any c.tx w hO.tx)
  have E2 : Hid (E = X) := by show _ = _; rw [← HE.out, ← hX]; first | rfl | (rw [bs_app])
  rw [hX] at CQ
  clear hX HE
  have a24 := bl_cell A0.out 24 (.string c.tx) rfl
  go_wp2_with fail
  clear a24
  refine (CQ.out _).mono ?_
  rintro e W1 k1
  obtain ⟨rfl, k1⟩ := k1
  have K1 : Hid (Kp w W1) := by first | exact K0.out.trans k1 | (rw [k1]; exact K0.out)
  clear k1
  go_wp2_with fail
  go_ret
  exact ⟨by rw [E2.out]; rfl, K1.out⟩
 by_cases h4 : n = 4
 ·
  subst h4
  as_aux_lemma =>
  obtain ⟨X, hX⟩ : ∃ X, bs (nameT c.tx.data.toList) = X := ⟨_, rfl⟩
  have hz : X.size ≤ 2000000 := by
   rw [← hX, bs_size]
   have e : c.tx.data.toList.length = c.tx.size := Array.length_toList
   have := hO.tx
   unfold nameT
   split <;> simp <;> omega
  have CQ := hid (fun w => nameText_any c.tx w hO.tx)
  have E2 : Hid (E = X) := by show _ = _; rw [← HE.out, ← hX]; first | rfl | (rw [bs_app])
  rw [hX] at CQ
  clear hX HE
  have a24 := bl_cell A0.out 24 (.string c.tx) rfl
  go_wp2_with fail
  clear a24
  refine (CQ.out _).mono ?_
  rintro e W1 k1
  obtain ⟨rfl, k1⟩ := k1
  have K1 : Hid (Kp w W1) := by first | exact K0.out.trans k1 | (rw [k1]; exact K0.out)
  clear k1
  go_wp2_with fail
  go_ret
  exact ⟨by rw [E2.out]; rfl, K1.out⟩
 by_cases h5 : n = 5
 ·
  subst h5
  as_aux_lemma =>
  have hS : substR c R P ere = true := HA.out
  have hS' := hS
  unfold substR at hS'
  simp only [Bool.and_eq_true, decide_eq_true_eq] at hS'
  obtain ⟨⟨⟨⟨s1, s2⟩, s3⟩, s4⟩, s5⟩ := hS'
  have hF := few_of_tpl P _ hO.p s2
  obtain ⟨X, hX⟩ : ∃ X, bs (printT ere R) = X := ⟨_, rfl⟩
  obtain ⟨T, hT⟩ : ∃ X, bs (tplT P) = X := ⟨_, rfl⟩
  obtain ⟨F, hF'⟩ : ∃ X, bs (flagsT c) = X := ⟨_, rfl⟩
  have x1 : X.size ≤ 1000000 := by rw [← hX]; exact print_size ere R hO.r
  have x2 : T.size ≤ 803000000 := by rw [← hT, bs_size]; have := tplT_len P hF; have := hO.p; omega
  have x3 : F.size ≤ 1000010 := by rw [← hF', bs_size]; exact flagsT_len c hO.tx s3 s4
  have Q1 := hid (talk_print R ere hO.r X hX)
  have Q2 : Hid (∀ w, PcAt w P c.pa c.pl c.pc → Calls Tryz.prog 98 #[.slice c.pa c.pl c.pc] w fun e w' => e = .returned (.string T) ∧ Kp w w') := fun w h => by rw [← hT]; exact tplP_any P _ _ _ w h hF
  have Q3 : Hid (∀ w, CIs w c A B R P → Calls Tryz.prog 99 #[c.v] w fun e w' => e = .returned (.string F) ∧ Kp w w') := fun w h => by rw [← hF']; exact flags_any c A B R P hO s3 s4 w h
  have E2 : Hid (E = bs [47] ++ X ++ bs [47] ++ T ++ bs [47] ++ F) := by show _ = _; rw [← hX, ← hT, ← hF', bs_app, bs_app, bs_app, bs_app, bs_app]; exact HE.out.symm
  clear hX hT hF' hF hS s1 s2 s3 s4 s5 HA HE
  go_upto_region 8 with fail
  have Q0 : Kp W0 W0.drew := (Kp.refl _).drew
  have MK : Hid (∀ W, Kp W0 W → W.cell? ⟨w.heap.size, 25, none⟩ = some (.int .i64 c.r.k) ∧ W.cell? ⟨w.heap.size, 26, none⟩ = some (.int .i64 c.r.mn) ∧ W.cell? ⟨w.heap.size, 27, none⟩ = some (.int .i64 c.r.mx) ∧ W.cell? ⟨w.heap.size, 28, none⟩ = some (.int .i64 c.r.m) ∧ W.cell? ⟨w.heap.size, 29, none⟩ = some (.int .u64 (c.r.t.a : Int)) ∧ W.cell? ⟨w.heap.size, 30, none⟩ = some (.int .u64 (c.r.t.b : Int)) ∧ W.cell? ⟨w.heap.size, 31, none⟩ = some (.int .u64 (c.r.t.c : Int)) ∧ W.cell? ⟨w.heap.size, 32, none⟩ = some (.int .u64 (c.r.t.d : Int)) ∧ W.cell? ⟨w.heap.size, 33, none⟩ = some (.slice c.r.ad c.r.l c.r.c) ∧ W.cell? ⟨w.heap.size, 34, none⟩ = some (.slice c.pa c.pl c.pc) ∧ Hid (Kp W0 W)) := fun W k => ⟨bl_cell (bl_kp A0.out k) 25 _ rfl, bl_cell (bl_kp A0.out k) 26 _ rfl, bl_cell (bl_kp A0.out k) 27 _ rfl, bl_cell (bl_kp A0.out k) 28 _ rfl, bl_cell (bl_kp A0.out k) 29 _ rfl, bl_cell (bl_kp A0.out k) 30 _ rfl, bl_cell (bl_kp A0.out k) 31 _ rfl, bl_cell (bl_kp A0.out k) 32 _ rfl, bl_cell (bl_kp A0.out k) 33 _ rfl, bl_cell (bl_kp A0.out k) 34 _ rfl, k⟩
  refine wp_region_noPanic ?_
  refine hdrew MK Q0 (fun hH => ?_)
  have KQ := Q0
  refine tk 0 (some 22) (.fieldAddr 37 (.tmp 2) 5) 0 (v := ?v0r1) rfl ?h0r1 hH ?_
  case h0r1 => intro _ _; go_simp; try with_reducible rfl
  try simp only [ps]
  refine tk 1 (some 23) (.load 27 (.tmp 22)) 27 (v := ?v1r2) rfl ?h1r2 hH ?_
  case h1r2 => intro _ _; go_simp; try with_reducible rfl
  try simp only [ps]
  refine tk 2 (some 24) (.move (.tmp 1)) 4 (v := ?v2r3) rfl ?h2r3 hH ?_
  case h2r3 => intro _ _; go_simp; try with_reducible rfl
  try simp only [ps]
  refine tk 6 (some 28) (.fieldAddr 37 (.tmp 2) 6) 0 (v := ?v6r4) rfl ?h6r4 hH ?_
  case h6r4 => intro _ _; go_simp; try with_reducible rfl
  try simp only [ps]
  refine tk 7 (some 29) (.load 35 (.tmp 28)) 35 (v := ?v7r5) rfl ?h7r5 hH ?_
  case h7r5 => intro _ _; go_simp; try with_reducible rfl
  try simp only [ps]
  refine wpAnyH_take (i := 11) (oi := { dst := some 33, op := .load 37 (.tmp 2), type := 37, pos := "print.go:56", after := #[], guard := none }) (v := Cv.v c) rfl (by kernel_rfl) (by kernel_rfl) (by kernel_rfl) (fun _ _ _ h => h) (yields_cv (by rfl) rfl rfl c (fun W hSw => bl_kp A0.out hSw.2.2.2.2.2.2.2.2.2.2.out)) hH ?r11r7
  try simp only [ps]
  refine wpAnyH_ready (rs := [3]) (by kernel_rfl) (by simp) ?_
  refine AllReadyH.cons (o := { dst := some 25, op := .call { callee := .value (.func 37), args := #[.tmp 23, .tmp 24], argTypes := #[27, 4] }, type := 9, pos := "print.go:56", after := _, guard := none }) rfl (fun K hKq => ?_) AllReadyH.nil
  go_simp
  refine (Q1.out _ (I0.out.kp KQ).r).mono ?_
  rintro e y1 ⟨rfl, kq⟩
  refine hKq.out _ _ (MK.out _ (KQ.trans kq)) (fun hN => ?_)
  clear kq
  clear hKq K hH KQ
  have hH := hN
  clear hN
  have KQ := hH.2.2.2.2.2.2.2.2.2.2.out
  try simp only [ps]
  refine tk 4 (some 26) (.binOp .add 9 (.const (.string { data := #[47] })) (.tmp 25) 9) 9 (v := ?v4r8) rfl ?h4r8 hH ?_
  case h4r8 => (intro W hSw; (try dsimp only at hSw); go_simp; (try rw [if_neg (by omega)]); try (with_reducible rfl))
  try simp only [ps]
  refine tk 5 (some 27) (.binOp .add 9 (.tmp 26) (.const (.string { data := #[47] })) 9) 9 (v := ?v5r9) rfl ?h5r9 hH ?_
  case h5r9 => (intro W hSw; (try dsimp only at hSw); go_simp; (try rw [if_neg (by omega)]); try (with_reducible rfl))
  try simp only [ps]
  refine wpAnyH_ready (rs := [8]) (by kernel_rfl) (by simp) ?_
  refine AllReadyH.cons (o := { dst := some 30, op := .call { callee := .value (.func 98), args := #[.tmp 29], argTypes := #[35] }, type := 9, pos := "print.go:56", after := _, guard := none }) rfl (fun K hKq => ?_) AllReadyH.nil
  go_simp
  refine (Q2.out _ (I0.out.kp KQ).p).mono ?_
  rintro e y2 ⟨rfl, kq⟩
  refine hKq.out _ _ (MK.out _ (KQ.trans kq)) (fun hN => ?_)
  clear kq
  clear hKq K hH KQ
  have hH := hN
  clear hN
  have KQ := hH.2.2.2.2.2.2.2.2.2.2.out
  try simp only [ps]
  refine tk 9 (some 31) (.binOp .add 9 (.tmp 27) (.tmp 30) 9) 9 (v := ?v9r10) rfl ?h9r10 hH ?_
  case h9r10 => (intro W hSw; (try dsimp only at hSw); go_simp; (try rw [if_neg (by omega)]); try (with_reducible rfl))
  try simp only [ps]
  refine tk 10 (some 32) (.binOp .add 9 (.tmp 31) (.const (.string { data := #[47] })) 9) 9 (v := ?v10r11) rfl ?h10r11 hH ?_
  case h10r11 => (intro W hSw; (try dsimp only at hSw); go_simp; (try rw [if_neg (by omega)]); try (with_reducible rfl))
  try simp only [ps]
  refine wpAnyH_ready (rs := [12]) (by kernel_rfl) (by simp) ?_
  refine AllReadyH.cons (o := { dst := some 34, op := .call { callee := .value (.func 99), args := #[.tmp 33], argTypes := #[37] }, type := 9, pos := "print.go:56", after := _, guard := none }) rfl (fun K hKq => ?_) AllReadyH.nil
  go_simp
  refine (Q3.out _ (I0.out.kp KQ)).mono ?_
  rintro e y3 ⟨rfl, kq⟩
  refine hKq.out _ _ (MK.out _ (KQ.trans kq)) (fun hN => ?_)
  clear kq
  clear hKq K hH KQ
  have hH := hN
  clear hN
  have KQ := hH.2.2.2.2.2.2.2.2.2.2.out
  try simp only [ps]
  refine tk 13 (some 35) (.binOp .add 9 (.tmp 32) (.tmp 34) 9) 9 (v := ?v13r12) rfl ?h13r12 hH ?_
  case h13r12 => (intro W hSw; (try dsimp only at hSw); go_simp; (try rw [if_neg (by omega)]); try (with_reducible rfl))
  try simp only [ps]
  refine tk 14 (some 4) (.assign (.tmp 35)) 9 (v := ?v14r13) rfl ?h14r13 hH ?_
  case h14r13 => intro _ _; go_simp; try with_reducible rfl
  try simp only [ps]
  refine wpAnyH_done (by kernel_rfl) ?_ _
  refine NoPanic.normal ?_
  go_wp2_with fail
  go_ret
  exact ⟨by rw [E2.out]; rfl, K0.out.trans KQ⟩
 by_cases h6 : n = 6
 ·
  subst h6
  as_aux_lemma =>
  obtain ⟨X, hX⟩ : ∃ X, bs (tableT c.y.data.toList) = X := ⟨_, rfl⟩
  obtain ⟨T, hT⟩ : ∃ X, bs (tableT c.z.data.toList) = X := ⟨_, rfl⟩
  have e1 : c.y.data.toList.length = c.y.size := Array.length_toList
  have e2 : c.z.data.toList.length = c.z.size := Array.length_toList
  have o1 := hO.y
  have o2 := hO.z
  have x1 : X.size ≤ 2000000 := by rw [← hX, bs_size]; have := tableT_len c.y.data.toList; omega
  have x2 : T.size ≤ 2000000 := by rw [← hT, bs_size]; have := tableT_len c.z.data.toList; omega
  have Q1 : Hid (∀ w, Calls Tryz.prog 100 #[.string c.y] w fun e w' => e = .returned (.string X) ∧ Kp w w') := fun w => by rw [← hX]; exact tableText_any c.y w hO.y
  have Q2 : Hid (∀ w, Calls Tryz.prog 100 #[.string c.z] w fun e w' => e = .returned (.string T) ∧ Kp w w') := fun w => by rw [← hT]; exact tableText_any c.z w hO.z
  have E2 : Hid (E = bs [47] ++ X ++ bs [47] ++ T ++ bs [47]) := by show _ = _; rw [← hX, ← hT, bs_app, bs_app, bs_app, bs_app]; exact HE.out.symm
  clear hX hT HA HE e1 e2 o1 o2
  go_upto_region 10 with fail
  have Q0 : Kp W0 W0.drew := (Kp.refl _).drew
  have MK : Hid (∀ W, Kp W0 W → W.cell? ⟨w.heap.size, 38, none⟩ = some (.string c.y) ∧ W.cell? ⟨w.heap.size, 39, none⟩ = some (.string c.z) ∧ Hid (Kp W0 W)) := fun W k => ⟨bl_cell (bl_kp A0.out k) 38 _ rfl, bl_cell (bl_kp A0.out k) 39 _ rfl, k⟩
  refine wp_region_noPanic ?_
  refine hdrew MK Q0 (fun hH => ?_)
  have KQ := Q0
  refine tk 0 (some 38) (.fieldAddr 37 (.tmp 2) 10) 0 (v := ?v0t1) rfl ?h0t1 hH ?_
  case h0t1 => intro _ _; go_simp; try with_reducible rfl
  try simp only [ps]
  refine tk 1 (some 39) (.load 9 (.tmp 38)) 9 (v := ?v1t2) rfl ?h1t2 hH ?_
  case h1t2 => intro _ _; go_simp; try with_reducible rfl
  try simp only [ps]
  refine tk 5 (some 43) (.fieldAddr 37 (.tmp 2) 11) 0 (v := ?v5t3) rfl ?h5t3 hH ?_
  case h5t3 => intro _ _; go_simp; try with_reducible rfl
  try simp only [ps]
  refine tk 6 (some 44) (.load 9 (.tmp 43)) 9 (v := ?v6t4) rfl ?h6t4 hH ?_
  case h6t4 => intro _ _; go_simp; try with_reducible rfl
  try simp only [ps]
  refine wpAnyH_ready (rs := [2]) (by kernel_rfl) (by simp) ?_
  refine AllReadyH.cons (o := { dst := some 40, op := .call { callee := .value (.func 100), args := #[.tmp 39], argTypes := #[9] }, type := 9, pos := "print.go:58", after := _, guard := none }) rfl (fun K hKq => ?_) AllReadyH.nil
  go_simp
  refine (Q1.out _).mono ?_
  rintro e y1 ⟨rfl, kq⟩
  refine hKq.out _ _ (MK.out _ (KQ.trans kq)) (fun hN => ?_)
  clear kq
  clear hKq K hH KQ
  have hH := hN
  clear hN
  have KQ := hH.2.2.out
  try simp only [ps]
  refine tk 3 (some 41) (.binOp .add 9 (.const (.string { data := #[47] })) (.tmp 40) 9) 9 (v := ?v3t5) rfl ?h3t5 hH ?_
  case h3t5 => (intro W hSw; (try dsimp only at hSw); go_simp; (try rw [if_neg (by omega)]); try (with_reducible rfl))
  try simp only [ps]
  refine tk 4 (some 42) (.binOp .add 9 (.tmp 41) (.const (.string { data := #[47] })) 9) 9 (v := ?v4t6) rfl ?h4t6 hH ?_
  case h4t6 => (intro W hSw; (try dsimp only at hSw); go_simp; (try rw [if_neg (by omega)]); try (with_reducible rfl))
  try simp only [ps]
  refine wpAnyH_ready (rs := [7]) (by kernel_rfl) (by simp) ?_
  refine AllReadyH.cons (o := { dst := some 45, op := .call { callee := .value (.func 100), args := #[.tmp 44], argTypes := #[9] }, type := 9, pos := "print.go:58", after := _, guard := none }) rfl (fun K hKq => ?_) AllReadyH.nil
  go_simp
  refine (Q2.out _).mono ?_
  rintro e y2 ⟨rfl, kq⟩
  refine hKq.out _ _ (MK.out _ (KQ.trans kq)) (fun hN => ?_)
  clear kq
  clear hKq K hH KQ
  have hH := hN
  clear hN
  have KQ := hH.2.2.out
  try simp only [ps]
  refine tk 8 (some 46) (.binOp .add 9 (.tmp 42) (.tmp 45) 9) 9 (v := ?v8t7) rfl ?h8t7 hH ?_
  case h8t7 => (intro W hSw; (try dsimp only at hSw); go_simp; (try rw [if_neg (by omega)]); try (with_reducible rfl))
  try simp only [ps]
  refine tk 9 (some 47) (.binOp .add 9 (.tmp 46) (.const (.string { data := #[47] })) 9) 9 (v := ?v9t8) rfl ?h9t8 hH ?_
  case h9t8 => (intro W hSw; (try dsimp only at hSw); go_simp; (try rw [if_neg (by omega)]); try (with_reducible rfl))
  try simp only [ps]
  refine tk 10 (some 4) (.assign (.tmp 47)) 9 (v := ?v10t9) rfl ?h10t9 hH ?_
  case h10t9 => intro _ _; go_simp; try with_reducible rfl
  try simp only [ps]
  refine wpAnyH_done (by kernel_rfl) ?_ _
  refine NoPanic.normal ?_
  go_wp2_with fail
  go_ret
  exact ⟨by rw [E2.out]; rfl, K0.out.trans KQ⟩
 have h01 : n = 0 ∨ n = 1 := by omega
 have E2 : Hid (E = bs []) := by show _ = _; rw [← HE.out]; rcases h01 with rfl | rfl <;> rfl
 have n2 : ((n : Int) == 2) = false := by simp; omega
 have n3 : ((n : Int) == 3) = false := by simp; omega
 have n4 : ((n : Int) == 4) = false := by simp; omega
 have n5 : ((n : Int) == 5) = false := by simp; omega
 have n6 : ((n : Int) == 6) = false := by simp; omega
 go_wp2_with fail
 go_ret
 exact ⟨by rw [E2.out]; rfl, K0.out⟩
theorem kp_last {a b : World} (_ : Kp a b) (o : Obj) : (b.alloc o).heap[b.heap.size]? = some o := last_of b o
theorem placeT_len (c : Cv) (A B R : Rx) (P : List Pc) (ere : Bool) (hO : COk c A B R P) : (placeT c A B ere).length ≤ 300000 := by
 unfold placeT
 have h1 := adT_len c.a.k c.a.ln A ere hO.a
 have h2 := adT_len c.b.k c.b.ln B ere hO.b
 simp only [List.length_append]
 split <;> split <;> simp <;> omega
theorem restT_len (c : Cv) (A B R : Rx) (P : List Pc) (ere : Bool) (hO : COk c A B R P) (hA : askedR c R P ere = true) : (restT c R P ere).length ≤ 900000000 := by
 have e : c.tx.data.toList.length = c.tx.size := Array.length_toList
 have e1 : c.y.data.toList.length = c.y.size := Array.length_toList
 have e2 : c.z.data.toList.length = c.z.size := Array.length_toList
 have o := hO.tx
 have o1 := hO.y
 have o2 := hO.z
 have t1 := tableT_len c.y.data.toList
 have t2 := tableT_len c.z.data.toList
 have t3 := linesT_len c.tx.data.toList
 have t4 : (nameT c.tx.data.toList).length ≤ 1000001 := by unfold nameT; split <;> simp <;> omega
 unfold restT
 unfold askedR at hA
 split at hA
 ·
  rename_i h; rw [h]; simp
 ·
  rename_i h; rw [h]; show ([92, 10] ++ linesT c.tx.data.toList).length ≤ _; simp; omega
 ·
  rename_i h; rw [h]; show (nameT c.tx.data.toList).length ≤ _; omega
 ·
  rename_i h; rw [h]; show (nameT c.tx.data.toList).length ≤ _; omega
 ·
  rename_i h
  rw [h]
  unfold substR at hA
  simp only [Bool.and_eq_true, decide_eq_true_eq] at hA
  obtain ⟨⟨⟨⟨s1, s2⟩, s3⟩, s4⟩, s5⟩ := hA
  have x1 := print_size ere R hO.r
  rw [bs_size] at x1
  have x2 := tplT_len P (few_of_tpl P _ hO.p s2)
  have x3 := flagsT_len c hO.tx s3 s4
  have := hO.p
  simp; omega
 ·
  rename_i h; rw [h]; simp; omega
 ·
  cases hA
theorem rightC_any (c : Cv) (A B R : Rx) (P : List Pc) (ere : Bool) (hO : COk c A B R P) (w : World) (hc : CIs w c A B R P) : Calls Tryz.prog 23 #[c.v, .bool ere] w fun e w' => e = .returned (.bool (rightC c A B R P ere)) ∧ Kp w w' := by
 obtain ⟨E, hE⟩ : ∃ E, rightC c A B R P ere = E := ⟨_, rfl⟩
 rw [hE]
 obtain ⟨p, hp⟩ : ∃ p, placedR c A B ere = p := ⟨_, rfl⟩
 obtain ⟨l, hl⟩ : ∃ p, leanR c R P = p := ⟨_, rfl⟩
 obtain ⟨a, ha⟩ : ∃ p, askedR c R P ere = p := ⟨_, rfl⟩
 have HE : Hid ((p && l && a) = E) := by show _ = _; rw [← hE, ← hp, ← hl, ← ha]; rfl
 have C1 : Hid (∀ w, CIs w c A B R P → Calls Tryz.prog 54 #[c.v, .bool ere] w fun e w' => e = .returned (.bool p) ∧ Kp w w') := fun w h => by rw [← hp]; exact placed_any c A B R P ere hO w h
 have C2 : Hid (∀ w, CIs w c A B R P → Calls Tryz.prog 55 #[c.v] w fun e w' => e = .returned (.bool l) ∧ Kp w w') := fun w h => by rw [← hl]; exact cleanC_any c A B R P hO w h
 have C3 : Hid (∀ w, CIs w c A B R P → Calls Tryz.prog 56 #[c.v, .bool ere] w fun e w' => e = .returned (.bool a) ∧ Kp w w') := fun w h => by rw [← ha]; exact asked_any c A B R P ere hO w h
 have HC := hid hc
 clear hE hp hl ha hc
 go_enter Tryz.func23, Tryz.ntmps23
 go_upto_region 1 with fail
 refine opq (fun W0 => W0.heap[w.heap.size]? = some c.o ∧ Kp w W0 ∧ CIs W0 c A B R P) ⟨by (first | exact last_at _ _ _ (by simp) | (refine bl_alloc ?_ _; first | exact last_at _ _ _ (by simp) | (refine bl_alloc ?_ _; first | exact last_at _ _ _ (by simp) | (refine bl_alloc ?_ _; exact last_at _ _ _ (by simp))))), by exact kpt, by exact HC.out.kp kpt⟩ ?_
 rintro W0 ⟨xA0, xK0, xI0⟩
 have A0 := hidT xA0
 have K0 := hidT xK0
 have I0 := hidT xI0
 clear xA0 xK0 xI0
 clear HC
 go_wp2_with (refine wpList_load_cv rfl rfl c A0.out (by rfl) ?_; simp only [Act.put, List.setIfInBounds_toArray, List.set_cons_zero, List.set_cons_succ])
 refine (C1.out _ I0.out).mono ?_
 rintro e W1 ⟨rfl, k1⟩
 have A1 := hid (bl_kp A0.out k1)
 have I1 := hid (I0.out.kp k1)
 have K1 := hid (K0.out.trans k1)
 clear k1
 cases p
 ·
  have E2 : Hid (E = false) := by show _ = _; rw [← HE.out]; rfl
  go_wp2_with fail
  go_ret
  exact ⟨by rw [E2.out]; rfl, K1.out⟩
 go_wp2_with (refine wpList_load_cv rfl rfl c A1.out (by rfl) ?_; simp only [Act.put, List.setIfInBounds_toArray, List.set_cons_zero, List.set_cons_succ])
 refine (C2.out _ I1.out).mono ?_
 rintro e W2 ⟨rfl, k1⟩
 have A2 := hid (bl_kp A1.out k1)
 have I2 := hid (I1.out.kp k1)
 have K2 := hid (K1.out.trans k1)
 clear k1
 cases l
 ·
  have E2 : Hid (E = false) := by show _ = _; rw [← HE.out]; rfl
  go_wp2_with fail
  go_ret
  exact ⟨by rw [E2.out]; rfl, K2.out⟩
 go_wp2_with (refine wpList_load_cv rfl rfl c A2.out (by rfl) ?_; simp only [Act.put, List.setIfInBounds_toArray, List.set_cons_zero, List.set_cons_succ])
 refine (C3.out _ I2.out).mono ?_
 rintro e W3 ⟨rfl, k1⟩
 have K3 := hid (K2.out.trans k1)
 clear k1
 have E2 : Hid (E = a) := by show _ = _; rw [← HE.out]; rfl
 go_wp2_with fail
 go_ret
 exact ⟨by rw [E2.out]; rfl, K3.out⟩
theorem conv_at (w : World) (B b : Nat) (hb : b < 256) (hc : w.cell? ⟨B, 0, none⟩ = some (.int .u8 (b : Int))) : (convert 59 9 (.slice (some ⟨B, 0, none⟩) 1 1)).run Tryz.prog w = .ok (.string (bs [UInt8.ofNat b])) w := by
 refine run_convert_bytes_back w 59 9 5 ⟨B, 0, none⟩ 1 [UInt8.ofNat b] Tryz.underlying59 Tryz.underlying5 Tryz.underlying9 ?_
 intro j hj
 have h0 : j = 0 := by simp at hj; exact hj
 subst h0
 refine hc.trans ?_
 show some _ = some _
 simp
 omega
set_option maxHeartbeats 4000000 in
theorem print2_any (c : Cv) (A B R : Rx) (P : List Pc) (ere : Bool) (hO : COk c A B R P) (w : World) (hc : CIs w c A B R P) (hT : Tb w) : Calls Tryz.prog 22 #[c.v, .bool ere] w fun e w' => e = .returned (.string (bs (cmdT c A B R P ere))) ∧ Kp w w' := by
 obtain ⟨E, hE⟩ : ∃ E, bs (cmdT c A B R P ere) = E := ⟨_, rfl⟩
 rw [hE]
 obtain ⟨p, hp⟩ : ∃ p, rightC c A B R P ere = p := ⟨_, rfl⟩
 have C1 : Hid (∀ w, CIs w c A B R P → Calls Tryz.prog 23 #[c.v, .bool ere] w fun e w' => e = .returned (.bool p) ∧ Kp w w') := fun w h => by rw [← hp]; exact rightC_any c A B R P ere hO w h
 have hop := hO.op
 have HC := hid hc
 have HT := hid hT
 have HP := hid hp
 have HE := hid hE
 clear hE hp hc hT
 go_enter Tryz.func22, Tryz.ntmps22
 go_upto_region 1 with fail
 refine opq (fun W0 => W0.heap[w.heap.size]? = some c.o ∧ Kp w W0 ∧ CIs W0 c A B R P) ⟨by (first | exact last_at _ _ _ (by simp) | (refine bl_alloc ?_ _; first | exact last_at _ _ _ (by simp) | (refine bl_alloc ?_ _; first | exact last_at _ _ _ (by simp) | (refine bl_alloc ?_ _; exact last_at _ _ _ (by simp))))), by exact kpt, by exact HC.out.kp kpt⟩ ?_
 rintro W0 ⟨xA0, xK0, xI0⟩
 have A0 := hidT xA0
 have K0 := hidT xK0
 have I0 := hidT xI0
 clear xA0 xK0 xI0
 have T0 := hid (HT.out.kp K0.out)
 clear HC HT
 go_wp2_with (refine wpList_load_cv rfl rfl c A0.out (by rfl) ?_; simp only [Act.put, List.setIfInBounds_toArray, List.set_cons_zero, List.set_cons_succ])
 refine (C1.out _ I0.out).mono ?_
 rintro e W1 ⟨rfl, k1⟩
 have A1 := hid (bl_kp A0.out k1)
 have I1 := hid (I0.out.kp k1)
 have T1 := hid (T0.out.kp k1)
 have K1 := hid (K0.out.trans k1)
 clear k1
 cases p
 ·
  have E2 : Hid (E = bs []) := by show _ = _; rw [← HE.out]; unfold cmdT; rw [HP.out]; rfl
  go_wp2_with fail
  go_ret
  exact ⟨by rw [E2.out]; rfl, K1.out⟩
 have hask : askedR c R P ere = true := by have := HP.out; unfold rightC at this; simp only [Bool.and_eq_true] at this; exact this.2
 obtain ⟨X, hX⟩ : ∃ X, bs (placeT c A B ere) = X := ⟨_, rfl⟩
 obtain ⟨Y, hY⟩ : ∃ X, bs (restT c R P ere) = X := ⟨_, rfl⟩
 obtain ⟨D, hD⟩ : ∃ X, bs [UInt8.ofNat c.op] = X := ⟨_, rfl⟩
 have hx : X.size ≤ 300000 := by rw [← hX, bs_size]; exact placeT_len c A B R P ere hO
 have hy : Y.size ≤ 900000000 := by rw [← hY, bs_size]; exact restT_len c A B R P ere hO hask
 have hd : D.size ≤ 1 := by rw [← hD, bs_size]; exact Nat.le_refl 1
 have Q1 : Hid (∀ w, CIs w c A B R P → Tb w → Calls Tryz.prog 52 #[c.v, .bool ere] w fun e w' => e = .returned (.string X) ∧ Kp w w') := fun w h t => by rw [← hX]; exact place_any c A B R P ere hO w h t
 have Q2 : Hid (∀ w, CIs w c A B R P → Calls Tryz.prog 53 #[c.v, .bool ere] w fun e w' => e = .returned (.string Y) ∧ Kp w w') := fun w h => by rw [← hY]; exact rest_any c A B R P ere hO hask w h
 have E2 : Hid (E = X ++ D ++ Y) := by show _ = _; rw [← HE.out, ← hX, ← hY, ← hD, bs_app, bs_app]; unfold cmdT; rw [HP.out]; rfl
 have HD := hid hD
 clear hX hY hD HE HP hask
 go_upto_region 3 with fail
 have Q0 : Kp W1 W1.drew := (Kp.refl _).drew
 have MK : Hid (∀ W, Kp W1 W → W.cell? ⟨w.heap.size, 23, none⟩ = some (.int .u8 (c.op : Int)) ∧ Hid (Kp W1 W)) := fun W k => ⟨bl_cell (bl_kp A1.out k) 23 _ rfl, k⟩
 refine wp_region_noPanic ?_
 refine hdrew MK Q0 (fun hH => ?_)
 have KQ := Q0
 refine wpAnyH_take (i := 0) (oi := { dst := some 9, op := .load 37 (.tmp 2), type := 37, pos := "print.go:17", after := #[], guard := none }) (v := Cv.v c) rfl (by kernel_rfl) (by kernel_rfl) (by kernel_rfl) (fun _ _ _ h => h) (yields_cv (by rfl) rfl rfl c (fun W hSw => bl_kp A1.out hSw.2.out)) hH ?r0p2
 try simp only [ps]
 refine tk 1 (some 10) (.move (.tmp 1)) 4 (v := ?v1p3) rfl ?h1p3 hH ?_
 case h1p3 => intro _ _; go_simp; try with_reducible rfl
 try simp only [ps]
 refine tk 3 (some 12) (.fieldAddr 37 (.tmp 2) 3) 0 (v := ?v3p4) rfl ?h3p4 hH ?_
 case h3p4 => intro _ _; go_simp; try with_reducible rfl
 try simp only [ps]
 refine tk 4 (some 13) (.load 5 (.tmp 12)) 5 (v := ?v4p5) rfl ?h4p5 hH ?_
 case h4p5 => intro _ _; go_simp; try with_reducible rfl
 try simp only [ps]
 refine wpAnyH_take (i := 8) (oi := { dst := some 17, op := .load 37 (.tmp 2), type := 37, pos := "print.go:17", after := #[], guard := none }) (v := Cv.v c) rfl (by kernel_rfl) (by kernel_rfl) (by kernel_rfl) (fun _ _ _ h => h) (yields_cv (by rfl) rfl rfl c (fun W hSw => bl_kp A1.out hSw.2.out)) hH ?r8p7
 try simp only [ps]
 refine tk 9 (some 18) (.move (.tmp 1)) 4 (v := ?v9p8) rfl ?h9p8 hH ?_
 case h9p8 => intro _ _; go_simp; try with_reducible rfl
 try simp only [ps]
 refine wpAnyH_ready (rs := [2, 5]) (by kernel_rfl) (by simp) ?_
 refine AllReadyH.cons (o := { dst := some 11, op := .call { callee := .value (.func 52), args := #[.tmp 9, .tmp 10], argTypes := #[37, 4] }, type := 9, pos := "print.go:17", after := _, guard := none }) rfl (fun K hKq => ?_) ?_
 ·
  go_simp
  refine (Q1.out _ (I1.out.kp KQ) (T1.out.kp KQ)).mono ?_
  rintro e y1 ⟨rfl, kq⟩
  try have CB := hid (bl_kp CB.out kq)
  refine hKq.out _ _ (MK.out _ (KQ.trans kq)) (fun hN => ?_)
  clear kq
  clear hKq K hH KQ
  have hH := hN
  clear hN
  have KQ := hH.2.out
  try simp only [ps]
  refine wpAnyH_ready (rs := [5, 10]) (by kernel_rfl) (by simp) ?_
  refine AllReadyH.cons (o := { dst := some 14, op := .buildSlice 59 1 #[(0, .tmp 13)], type := 59, pos := "print.go:17", after := _, guard := none }) rfl (fun K hKq => ?_) ?_
  ·
   have cb0 := kp_last KQ (Obj.cells #[.int .u8 (c.op : Int)] 5)
   try rw [show (World.drew W1).heap.size = W1.heap.size from rfl] at cb0
   have CB := hid cb0
   clear cb0
   go_simp
   refine hKq.out _ _ (MK.out _ (by first | exact KQ.alloc _ | exact ((Kp.refl _).alloc _).drew)) (fun hN => ?_)
   clear hKq K hH KQ
   have hH := hN
   clear hN
   have KQ := hH.2.out
   try simp only [ps]
   refine wpAnyH_ready (rs := [6, 10]) (by kernel_rfl) (by simp) ?_
   refine AllReadyH.cons (o := { dst := some 15, op := .convert 59 9 (.tmp 14), type := 9, pos := "print.go:17", after := _, guard := none }) rfl (fun K hKq => ?_) ?_
   ·
    first
    | (have cv := conv_at _ _ c.op hop (bl_cell CB.out 0 _ rfl); rw [HD.out] at cv; go_simp; refine hKq.out _ _ (MK.out _ KQ) (fun hN => ?_))
    | (have cv := conv_at (W1.alloc (Obj.cells #[.int .u8 (c.op : Int)] 5)).drew W1.heap.size c.op hop (bl_cell (last_drew _ _) 0 _ rfl); rw [HD.out] at cv; go_simp; refine hKq.out _ _ (MK.out _ KQ) (fun hN => ?_))
    clear hKq K hH KQ
    have hH := hN
    clear hN
    have KQ := hH.2.out
    try simp only [ps]
    refine tk 7 (some 16) (.binOp .add 9 (.tmp 11) (.tmp 15) 9) 9 (v := ?v7p9) rfl ?h7p9 hH ?_
    case h7p9 => (intro W hSw; (try dsimp only at hSw); go_simp; (try rw [if_neg (by omega)]); try (with_reducible rfl))
    try simp only [ps]
    refine wpAnyH_ready (rs := [10]) (by kernel_rfl) (by simp) ?_
    refine AllReadyH.cons (o := { dst := some 19, op := .call { callee := .value (.func 53), args := #[.tmp 17, .tmp 18], argTypes := #[37, 4] }, type := 9, pos := "print.go:17", after := _, guard := none }) rfl (fun K hKq => ?_) AllReadyH.nil
    go_simp
    refine (Q2.out _ (I1.out.kp KQ)).mono ?_
    rintro e y4 ⟨rfl, kq⟩
    try have CB := hid (bl_kp CB.out kq)
    refine hKq.out _ _ (MK.out _ (KQ.trans kq)) (fun hN => ?_)
    clear kq
    clear hKq K hH KQ
    have hH := hN
    clear hN
    have KQ := hH.2.out
    try simp only [ps]
    refine tk 11 (some 20) (.binOp .add 9 (.tmp 16) (.tmp 19) 9) 9 (v := ?v11p10) rfl ?h11p10 hH ?_
    case h11p10 => (intro W hSw; (try dsimp only at hSw); go_simp; (try rw [if_neg (by omega)]); try (with_reducible rfl))
    try simp only [ps]
    refine tk 12 (some 4) (.assign (.tmp 20)) 9 (v := ?v12p11) rfl ?h12p11 hH ?_
    case h12p11 => intro _ _; go_simp; try with_reducible rfl
    try simp only [ps]
    refine wpAnyH_done (by kernel_rfl) ?_ _
    refine NoPanic.normal ?_
    go_wp2_with fail
    go_ret
    exact ⟨by rw [E2.out]; rfl, K1.out.trans KQ⟩
   refine AllReadyH.cons (o := { dst := some 19, op := .call { callee := .value (.func 53), args := #[.tmp 17, .tmp 18], argTypes := #[37, 4] }, type := 9, pos := "print.go:17", after := _, guard := none }) rfl (fun K hKq => ?_) ?_
   ·
    go_simp
    refine (Q2.out _ (I1.out.kp KQ)).mono ?_
    rintro e y3 ⟨rfl, kq⟩
    try have CB := hid (bl_kp CB.out kq)
    refine hKq.out _ _ (MK.out _ (KQ.trans kq)) (fun hN => ?_)
    clear kq
    clear hKq K hH KQ
    have hH := hN
    clear hN
    have KQ := hH.2.out
    try simp only [ps]
    refine wpAnyH_ready (rs := [6]) (by kernel_rfl) (by simp) ?_
    refine AllReadyH.cons (o := { dst := some 15, op := .convert 59 9 (.tmp 14), type := 9, pos := "print.go:17", after := _, guard := none }) rfl (fun K hKq => ?_) AllReadyH.nil
    first
    | (have cv := conv_at _ _ c.op hop (bl_cell CB.out 0 _ rfl); rw [HD.out] at cv; go_simp; refine hKq.out _ _ (MK.out _ KQ) (fun hN => ?_))
    | (have cv := conv_at (W1.alloc (Obj.cells #[.int .u8 (c.op : Int)] 5)).drew W1.heap.size c.op hop (bl_cell (last_drew _ _) 0 _ rfl); rw [HD.out] at cv; go_simp; refine hKq.out _ _ (MK.out _ KQ) (fun hN => ?_))
    clear hKq K hH KQ
    have hH := hN
    clear hN
    have KQ := hH.2.out
    try simp only [ps]
    refine tk 7 (some 16) (.binOp .add 9 (.tmp 11) (.tmp 15) 9) 9 (v := ?v7p12) rfl ?h7p12 hH ?_
    case h7p12 => (intro W hSw; (try dsimp only at hSw); go_simp; (try rw [if_neg (by omega)]); try (with_reducible rfl))
    try simp only [ps]
    refine tk 11 (some 20) (.binOp .add 9 (.tmp 16) (.tmp 19) 9) 9 (v := ?v11p13) rfl ?h11p13 hH ?_
    case h11p13 => (intro W hSw; (try dsimp only at hSw); go_simp; (try rw [if_neg (by omega)]); try (with_reducible rfl))
    try simp only [ps]
    refine tk 12 (some 4) (.assign (.tmp 20)) 9 (v := ?v12p14) rfl ?h12p14 hH ?_
    case h12p14 => intro _ _; go_simp; try with_reducible rfl
    try simp only [ps]
    refine wpAnyH_done (by kernel_rfl) ?_ _
    refine NoPanic.normal ?_
    go_wp2_with fail
    go_ret
    exact ⟨by rw [E2.out]; rfl, K1.out.trans KQ⟩
   exact AllReadyH.nil
  refine AllReadyH.cons (o := { dst := some 19, op := .call { callee := .value (.func 53), args := #[.tmp 17, .tmp 18], argTypes := #[37, 4] }, type := 9, pos := "print.go:17", after := _, guard := none }) rfl (fun K hKq => ?_) ?_
  ·
   go_simp
   refine (Q2.out _ (I1.out.kp KQ)).mono ?_
   rintro e y2 ⟨rfl, kq⟩
   try have CB := hid (bl_kp CB.out kq)
   refine hKq.out _ _ (MK.out _ (KQ.trans kq)) (fun hN => ?_)
   clear kq
   clear hKq K hH KQ
   have hH := hN
   clear hN
   have KQ := hH.2.out
   try simp only [ps]
   refine wpAnyH_ready (rs := [5]) (by kernel_rfl) (by simp) ?_
   refine AllReadyH.cons (o := { dst := some 14, op := .buildSlice 59 1 #[(0, .tmp 13)], type := 59, pos := "print.go:17", after := _, guard := none }) rfl (fun K hKq => ?_) AllReadyH.nil
   have cb0 := kp_last KQ (Obj.cells #[.int .u8 (c.op : Int)] 5)
   try rw [show (World.drew W1).heap.size = W1.heap.size from rfl] at cb0
   have CB := hid cb0
   clear cb0
   go_simp
   refine hKq.out _ _ (MK.out _ (by first | exact KQ.alloc _ | exact ((Kp.refl _).alloc _).drew)) (fun hN => ?_)
   clear hKq K hH KQ
   have hH := hN
   clear hN
   have KQ := hH.2.out
   try simp only [ps]
   refine wpAnyH_ready (rs := [6]) (by kernel_rfl) (by simp) ?_
   refine AllReadyH.cons (o := { dst := some 15, op := .convert 59 9 (.tmp 14), type := 9, pos := "print.go:17", after := _, guard := none }) rfl (fun K hKq => ?_) AllReadyH.nil
   first
   | (have cv := conv_at _ _ c.op hop (bl_cell CB.out 0 _ rfl); rw [HD.out] at cv; go_simp; refine hKq.out _ _ (MK.out _ KQ) (fun hN => ?_))
   | (have cv := conv_at (W1.alloc (Obj.cells #[.int .u8 (c.op : Int)] 5)).drew W1.heap.size c.op hop (bl_cell (last_drew _ _) 0 _ rfl); rw [HD.out] at cv; go_simp; refine hKq.out _ _ (MK.out _ KQ) (fun hN => ?_))
   clear hKq K hH KQ
   have hH := hN
   clear hN
   have KQ := hH.2.out
   try simp only [ps]
   refine tk 7 (some 16) (.binOp .add 9 (.tmp 11) (.tmp 15) 9) 9 (v := ?v7p15) rfl ?h7p15 hH ?_
   case h7p15 => (intro W hSw; (try dsimp only at hSw); go_simp; (try rw [if_neg (by omega)]); try (with_reducible rfl))
   try simp only [ps]
   refine tk 11 (some 20) (.binOp .add 9 (.tmp 16) (.tmp 19) 9) 9 (v := ?v11p16) rfl ?h11p16 hH ?_
   case h11p16 => (intro W hSw; (try dsimp only at hSw); go_simp; (try rw [if_neg (by omega)]); try (with_reducible rfl))
   try simp only [ps]
   refine tk 12 (some 4) (.assign (.tmp 20)) 9 (v := ?v12p17) rfl ?h12p17 hH ?_
   case h12p17 => intro _ _; go_simp; try with_reducible rfl
   try simp only [ps]
   refine wpAnyH_done (by kernel_rfl) ?_ _
   refine NoPanic.normal ?_
   go_wp2_with fail
   go_ret
   exact ⟨by rw [E2.out]; rfl, K1.out.trans KQ⟩
  exact AllReadyH.nil
 refine AllReadyH.cons (o := { dst := some 14, op := .buildSlice 59 1 #[(0, .tmp 13)], type := 59, pos := "print.go:17", after := _, guard := none }) rfl (fun K hKq => ?_) ?_
 ·
  have cb0 := kp_last KQ (Obj.cells #[.int .u8 (c.op : Int)] 5)
  try rw [show (World.drew W1).heap.size = W1.heap.size from rfl] at cb0
  have CB := hid cb0
  clear cb0
  go_simp
  refine hKq.out _ _ (MK.out _ (by first | exact KQ.alloc _ | exact ((Kp.refl _).alloc _).drew)) (fun hN => ?_)
  clear hKq K hH KQ
  have hH := hN
  clear hN
  have KQ := hH.2.out
  try simp only [ps]
  refine wpAnyH_ready (rs := [2, 6]) (by kernel_rfl) (by simp) ?_
  refine AllReadyH.cons (o := { dst := some 11, op := .call { callee := .value (.func 52), args := #[.tmp 9, .tmp 10], argTypes := #[37, 4] }, type := 9, pos := "print.go:17", after := _, guard := none }) rfl (fun K hKq => ?_) ?_
  ·
   go_simp
   refine (Q1.out _ (I1.out.kp KQ) (T1.out.kp KQ)).mono ?_
   rintro e y2 ⟨rfl, kq⟩
   try have CB := hid (bl_kp CB.out kq)
   refine hKq.out _ _ (MK.out _ (KQ.trans kq)) (fun hN => ?_)
   clear kq
   clear hKq K hH KQ
   have hH := hN
   clear hN
   have KQ := hH.2.out
   try simp only [ps]
   refine wpAnyH_ready (rs := [6, 10]) (by kernel_rfl) (by simp) ?_
   refine AllReadyH.cons (o := { dst := some 15, op := .convert 59 9 (.tmp 14), type := 9, pos := "print.go:17", after := _, guard := none }) rfl (fun K hKq => ?_) ?_
   ·
    first
    | (have cv := conv_at _ _ c.op hop (bl_cell CB.out 0 _ rfl); rw [HD.out] at cv; go_simp; refine hKq.out _ _ (MK.out _ KQ) (fun hN => ?_))
    | (have cv := conv_at (W1.alloc (Obj.cells #[.int .u8 (c.op : Int)] 5)).drew W1.heap.size c.op hop (bl_cell (last_drew _ _) 0 _ rfl); rw [HD.out] at cv; go_simp; refine hKq.out _ _ (MK.out _ KQ) (fun hN => ?_))
    clear hKq K hH KQ
    have hH := hN
    clear hN
    have KQ := hH.2.out
    try simp only [ps]
    refine tk 7 (some 16) (.binOp .add 9 (.tmp 11) (.tmp 15) 9) 9 (v := ?v7p18) rfl ?h7p18 hH ?_
    case h7p18 => (intro W hSw; (try dsimp only at hSw); go_simp; (try rw [if_neg (by omega)]); try (with_reducible rfl))
    try simp only [ps]
    refine wpAnyH_ready (rs := [10]) (by kernel_rfl) (by simp) ?_
    refine AllReadyH.cons (o := { dst := some 19, op := .call { callee := .value (.func 53), args := #[.tmp 17, .tmp 18], argTypes := #[37, 4] }, type := 9, pos := "print.go:17", after := _, guard := none }) rfl (fun K hKq => ?_) AllReadyH.nil
    go_simp
    refine (Q2.out _ (I1.out.kp KQ)).mono ?_
    rintro e y4 ⟨rfl, kq⟩
    try have CB := hid (bl_kp CB.out kq)
    refine hKq.out _ _ (MK.out _ (KQ.trans kq)) (fun hN => ?_)
    clear kq
    clear hKq K hH KQ
    have hH := hN
    clear hN
    have KQ := hH.2.out
    try simp only [ps]
    refine tk 11 (some 20) (.binOp .add 9 (.tmp 16) (.tmp 19) 9) 9 (v := ?v11p19) rfl ?h11p19 hH ?_
    case h11p19 => (intro W hSw; (try dsimp only at hSw); go_simp; (try rw [if_neg (by omega)]); try (with_reducible rfl))
    try simp only [ps]
    refine tk 12 (some 4) (.assign (.tmp 20)) 9 (v := ?v12p20) rfl ?h12p20 hH ?_
    case h12p20 => intro _ _; go_simp; try with_reducible rfl
    try simp only [ps]
    refine wpAnyH_done (by kernel_rfl) ?_ _
    refine NoPanic.normal ?_
    go_wp2_with fail
    go_ret
    exact ⟨by rw [E2.out]; rfl, K1.out.trans KQ⟩
   refine AllReadyH.cons (o := { dst := some 19, op := .call { callee := .value (.func 53), args := #[.tmp 17, .tmp 18], argTypes := #[37, 4] }, type := 9, pos := "print.go:17", after := _, guard := none }) rfl (fun K hKq => ?_) ?_
   ·
    go_simp
    refine (Q2.out _ (I1.out.kp KQ)).mono ?_
    rintro e y3 ⟨rfl, kq⟩
    try have CB := hid (bl_kp CB.out kq)
    refine hKq.out _ _ (MK.out _ (KQ.trans kq)) (fun hN => ?_)
    clear kq
    clear hKq K hH KQ
    have hH := hN
    clear hN
    have KQ := hH.2.out
    try simp only [ps]
    refine wpAnyH_ready (rs := [6]) (by kernel_rfl) (by simp) ?_
    refine AllReadyH.cons (o := { dst := some 15, op := .convert 59 9 (.tmp 14), type := 9, pos := "print.go:17", after := _, guard := none }) rfl (fun K hKq => ?_) AllReadyH.nil
    first
    | (have cv := conv_at _ _ c.op hop (bl_cell CB.out 0 _ rfl); rw [HD.out] at cv; go_simp; refine hKq.out _ _ (MK.out _ KQ) (fun hN => ?_))
    | (have cv := conv_at (W1.alloc (Obj.cells #[.int .u8 (c.op : Int)] 5)).drew W1.heap.size c.op hop (bl_cell (last_drew _ _) 0 _ rfl); rw [HD.out] at cv; go_simp; refine hKq.out _ _ (MK.out _ KQ) (fun hN => ?_))
    clear hKq K hH KQ
    have hH := hN
    clear hN
    have KQ := hH.2.out
    try simp only [ps]
    refine tk 7 (some 16) (.binOp .add 9 (.tmp 11) (.tmp 15) 9) 9 (v := ?v7p21) rfl ?h7p21 hH ?_
    case h7p21 => (intro W hSw; (try dsimp only at hSw); go_simp; (try rw [if_neg (by omega)]); try (with_reducible rfl))
    try simp only [ps]
    refine tk 11 (some 20) (.binOp .add 9 (.tmp 16) (.tmp 19) 9) 9 (v := ?v11p22) rfl ?h11p22 hH ?_
    case h11p22 => (intro W hSw; (try dsimp only at hSw); go_simp; (try rw [if_neg (by omega)]); try (with_reducible rfl))
    try simp only [ps]
    refine tk 12 (some 4) (.assign (.tmp 20)) 9 (v := ?v12p23) rfl ?h12p23 hH ?_
    case h12p23 => intro _ _; go_simp; try with_reducible rfl
    try simp only [ps]
    refine wpAnyH_done (by kernel_rfl) ?_ _
    refine NoPanic.normal ?_
    go_wp2_with fail
    go_ret
    exact ⟨by rw [E2.out]; rfl, K1.out.trans KQ⟩
   exact AllReadyH.nil
  refine AllReadyH.cons (o := { dst := some 15, op := .convert 59 9 (.tmp 14), type := 9, pos := "print.go:17", after := _, guard := none }) rfl (fun K hKq => ?_) ?_
  ·
   first
   | (have cv := conv_at _ _ c.op hop (bl_cell CB.out 0 _ rfl); rw [HD.out] at cv; go_simp; refine hKq.out _ _ (MK.out _ KQ) (fun hN => ?_))
   | (have cv := conv_at (W1.alloc (Obj.cells #[.int .u8 (c.op : Int)] 5)).drew W1.heap.size c.op hop (bl_cell (last_drew _ _) 0 _ rfl); rw [HD.out] at cv; go_simp; refine hKq.out _ _ (MK.out _ KQ) (fun hN => ?_))
   clear hKq K hH KQ
   have hH := hN
   clear hN
   have KQ := hH.2.out
   try simp only [ps]
   refine wpAnyH_ready (rs := [2]) (by kernel_rfl) (by simp) ?_
   refine AllReadyH.cons (o := { dst := some 11, op := .call { callee := .value (.func 52), args := #[.tmp 9, .tmp 10], argTypes := #[37, 4] }, type := 9, pos := "print.go:17", after := _, guard := none }) rfl (fun K hKq => ?_) AllReadyH.nil
   go_simp
   refine (Q1.out _ (I1.out.kp KQ) (T1.out.kp KQ)).mono ?_
   rintro e y3 ⟨rfl, kq⟩
   try have CB := hid (bl_kp CB.out kq)
   refine hKq.out _ _ (MK.out _ (KQ.trans kq)) (fun hN => ?_)
   clear kq
   clear hKq K hH KQ
   have hH := hN
   clear hN
   have KQ := hH.2.out
   try simp only [ps]
   refine tk 7 (some 16) (.binOp .add 9 (.tmp 11) (.tmp 15) 9) 9 (v := ?v7p24) rfl ?h7p24 hH ?_
   case h7p24 => (intro W hSw; (try dsimp only at hSw); go_simp; (try rw [if_neg (by omega)]); try (with_reducible rfl))
   try simp only [ps]
   refine wpAnyH_ready (rs := [10]) (by kernel_rfl) (by simp) ?_
   refine AllReadyH.cons (o := { dst := some 19, op := .call { callee := .value (.func 53), args := #[.tmp 17, .tmp 18], argTypes := #[37, 4] }, type := 9, pos := "print.go:17", after := _, guard := none }) rfl (fun K hKq => ?_) AllReadyH.nil
   go_simp
   refine (Q2.out _ (I1.out.kp KQ)).mono ?_
   rintro e y4 ⟨rfl, kq⟩
   try have CB := hid (bl_kp CB.out kq)
   refine hKq.out _ _ (MK.out _ (KQ.trans kq)) (fun hN => ?_)
   clear kq
   clear hKq K hH KQ
   have hH := hN
   clear hN
   have KQ := hH.2.out
   try simp only [ps]
   refine tk 11 (some 20) (.binOp .add 9 (.tmp 16) (.tmp 19) 9) 9 (v := ?v11p25) rfl ?h11p25 hH ?_
   case h11p25 => (intro W hSw; (try dsimp only at hSw); go_simp; (try rw [if_neg (by omega)]); try (with_reducible rfl))
   try simp only [ps]
   refine tk 12 (some 4) (.assign (.tmp 20)) 9 (v := ?v12p26) rfl ?h12p26 hH ?_
   case h12p26 => intro _ _; go_simp; try with_reducible rfl
   try simp only [ps]
   refine wpAnyH_done (by kernel_rfl) ?_ _
   refine NoPanic.normal ?_
   go_wp2_with fail
   go_ret
   exact ⟨by rw [E2.out]; rfl, K1.out.trans KQ⟩
  exact AllReadyH.nil
 exact AllReadyH.nil
def q1 : ByteArray := ⟨#[120]⟩
def q2 : ByteArray := ⟨#[97]⟩
abbrev cA (r1 r2 : Rv) (pa : Option Addr) (pl pc : Nat) : Cv := ⟨⟨1, 1, Rv.z⟩, ⟨3, 0, r1⟩, true, 115, ⟨#[]⟩, r2, pa, pl, pc, true, true, 2, ⟨#[]⟩, ⟨#[]⟩⟩
abbrev cB (op : Nat) (nt : Bool) (tx : ByteArray) : Cv := ⟨Av.z, Av.z, nt, op, tx, Rv.z, none, 0, 0, false, false, 0, ⟨#[]⟩, ⟨#[]⟩⟩
def pB : List Pc := [⟨-1, ⟨#[98]⟩⟩]
theorem f1 : (pParse q1 false).2 = (0, 0) ∧ rxOkB (pParse q1 false).1 = true ∧ (pParse q2 false).2 = (0, 0) ∧ rxOkB (pParse q2 false).1 = true ∧
  cmdT (cA Rv.z Rv.z none 0 0) zR (pParse q1 false).1 (pParse q2 false).1 pB false = [49, 44, 47, 120, 47, 33, 115, 47, 97, 47, 98, 47, 103, 112, 50] := by decide +kernel
theorem f2 : cmdT (cB 97 false ⟨#[120]⟩) zR zR zR [] false = [97, 92, 10, 120] ∧ rightC (cB 125 true ⟨#[]⟩) zR zR zR [] false = false := by decide +kernel
theorem within_n (n : Int) (hi : Nat) (h : hi ≤ 1000000) (w : World) : Calls Tryz.prog 33 #[.int .i64 n, .int .i64 0, .int .i64 (hi : Int)] w fun e w' => ∃ k : Nat, k ≤ hi ∧ e = .returned (.int .i64 (k : Int)) ∧ w' = w := by
 refine (within_any n 0 hi w (by omega) (by omega) (by omega)).mono ?_
 rintro e w' ⟨rfl, rfl⟩
 obtain ⟨h1, h2⟩ := wit_le n 0 hi (by omega)
 exact ⟨(wit n 0 hi).toNat, by omega, by rw [Int.toNat_of_nonneg h1], rfl⟩
def xs (k : Nat) : ByteArray := bs (List.replicate k 120)
end Go.Proofs.YtigdmebijbaofaaGreatDoor
