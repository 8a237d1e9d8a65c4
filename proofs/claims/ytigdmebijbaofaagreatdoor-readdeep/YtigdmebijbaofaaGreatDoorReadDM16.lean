/-
  Texts of this claim: SignIn, PInv, Grp, Back.
-/
import Derived.Test.YtigdmebijbaofaaGreatDoorReadDM4
import Derived.Test.YtigdmebijbaofaaGreatDoorReadDM6
import Derived.Test.YtigdmebijbaofaaGreatDoorReadDM14
import Derived.Test.YtigdmebijbaofaaGreatDoorReadDM15
/-! ### SignIn -/
namespace Go.Proofs.YtigdmebijbaofaaGreatDoor
set_option maxHeartbeats 2000000
set_option maxRecDepth 100000
open Go.RowKit
attribute [local go_sem] field91
theorem sgnIn_eq {s : ByteArray} {began i x y z : Nat} (hg : sgn s false i = (x, y, z)) : sgnIn s false began i = if plainIn s began i x then (2, y, z) else (x, y, z) := by
 unfold sgnIn; rw [hg]; rfl
theorem sgn_lt {s : ByteArray} {ere : Bool} {i x y z : Nat} (hg : sgn s ere i = (x, y, z)) (hi : i ≤ s.size) (hx : x ≠ 1) : i < s.size := by
 unfold sgn at hg
 by_cases h : i = s.size
 ·
  rw [if_pos h] at hg; injection hg with h1 _; omega
 ·
  omega
theorem signIn_any (began : Nat) (s : ByteArray) (ere : Bool) (i n g d P : Nat) (w : World) (h : Rd w P s ere i n g d) (hi : i ≤ s.size) (hb : began ≤ i) (hs : s.size ≤ 1000000) :
  Calls Tryz.prog 206 #[.pointer (some ⟨P, 0, none⟩), .int .i64 (began : Int)] w fun e w' => e = .returned (sg (sgnIn s ere began i)) ∧ Kp w w' := by
 obtain ⟨x, y, z, hg⟩ : ∃ x y z, sgn s ere i = (x, y, z) := ⟨_, _, _, rfl⟩
 have HG : Hid (sgn s ere i = (x, y, z)) := hg
 have R : Hid (Rd w P s ere i n g d) := h
 have hlt : x ≠ 1 → i < s.size := fun hx => sgn_lt hg hi hx
 have HL := hid hlt
 clear h hg hlt
 have gb : IntKind.i64.wrap ((began : Int) + 1) = (began : Int) + 1 := by rw [IntKind.wrap_i64]; omega
 have gi : IntKind.i64.wrap ((i : Int) + 1) = (i : Int) + 1 := by rw [IntKind.wrap_i64]; omega
 go_enter Tryz.func206, Tryz.ntmps206
 go_upto_region 1 with fail
 refine opq (fun W0 => Rd W0 P s ere i n g d ∧ W0.heap[w.heap.size]? = some sgz ∧ Kp w W0) ⟨by exact R.out.kp kpt, by (first | exact last_at _ _ _ (by simp) | (refine bl_alloc ?_ _; first | exact last_at _ _ _ (by simp) | (refine bl_alloc ?_ _; first | exact last_at _ _ _ (by simp) | (refine bl_alloc ?_ _; exact last_at _ _ _ (by simp))))), by exact kpt⟩ ?_
 rintro W0 ⟨xR0, xB0, xK0⟩
 have R0 := hidT xR0
 have B0 := hidT xB0
 have K0 := hidT xK0
 clear xR0 xB0 xK0
 go_wp2_with fail
 refine (sign_any s ere i n g d P _ R0.out hi hs).mono ?_
 rintro e w1 ⟨rfl, kq⟩
 rw [HG.out, sg3]
 have hs1 : w.heap.size < w1.heap.size := bl_lt (bl_kp B0.out kq)
 have KQ : Hid (Kp W0 w1) := kq
 clear kq
 go_upto_region 2 with fail
 refine opq (fun W1 => Rd W1 P s ere i n g d ∧ W1.heap[w.heap.size]? = some sgz ∧ W1.heap[w1.heap.size]? = some (sgo x y z) ∧ Kp w W1) ⟨by exact R0.out.kp (KQ.out.trans kpt), by exact bl_kp B0.out (KQ.out.trans kpt), by (first | exact last_at _ _ _ (by simp) | (refine bl_alloc ?_ _; first | exact last_at _ _ _ (by simp) | (refine bl_alloc ?_ _; first | exact last_at _ _ _ (by simp) | (refine bl_alloc ?_ _; exact last_at _ _ _ (by simp))))), by exact K0.out.trans (KQ.out.trans kpt)⟩ ?_
 rintro W1 ⟨xR1, xB1, xG1, xK1⟩
 have R1 := hidT xR1
 have B1 := hidT xB1
 have G1 := hidT xG1
 have K1 := hidT xK1
 clear xR1 xB1 xG1 xK1
 clear R0 B0 K0 KQ
 have p0 := R1.out.cells.1
 have p1 := R1.out.cells.2.1
 have p2 := R1.out.cells.2.2.1
 obtain ⟨q0, fq0, q1, fq1, q2, fq2⟩ := cellf3 (G1.out)
 obtain ⟨b0, fb0, b1, fb1, b2, fb2⟩ := cellf3 (B1.out)
 cases ere with
 | true =>
  have E : Hid (sgnIn s true began i = (x, y, z)) := by show _ = _; unfold sgnIn; rw [HG.out]; rfl
  go_wp2_with fail
  exact bodyPost_ret (v := .agg #[_, _, _]) (sg_ret rfl _ _ _ _ _ _ rfl (bl_set3 B1.out _ _ _)) rfl ⟨by rw [E.out]; rfl, (ks_set3 _ _ _).up K1.out (Nat.le_refl _)⟩
 | false =>
  by_cases x10 : x = 10
  ·
   subst x10
   have hl := HL.out (by omega)
   by_cases e0 : i = began
   ·
    have g0 : ((i : Int) == (began : Int)) = true := by rw [e0]; simp
    have E : Hid (sgnIn s false began i = (2, y, z)) := by show _ = _; rw [sgnIn_eq HG.out, show plainIn s began i _ = true by simp [plainIn, e0]]; rfl
    clear e0
    go_wp2_with fail
    exact bodyPost_ret (v := .agg #[_, _, _]) (sg_ret rfl _ _ _ _ _ _ rfl (bl_set3 (bl_set B1.out (by omega) _) _ _ _)) rfl ⟨by rw [E.out]; rfl, (ks_set3 _ _ _).up (K1.out.setCell (by show w.heap.size ≤ w1.heap.size; omega) _) (Nat.le_refl _)⟩
   have g0 : ((i : Int) == (began : Int)) = false := by simp; omega
   by_cases e1 : i = began + 1
   ·
    have g1 : ((i : Int) == (began : Int) + 1) = true := by rw [e1]; simp
    have ec := run_ch s began (by omega)
    obtain ⟨b, hb'⟩ : ∃ b, ch s began = b := ⟨_, rfl⟩
    have HB := hid hb'
    rw [hb'] at ec
    clear hb'
    by_cases e2 : b = 94
    ·
     subst e2
     rw [show ((94 : Nat) : Int) = 94 from rfl] at ec
     have E : Hid (sgnIn s false began i = (2, y, z)) := by show _ = _; rw [sgnIn_eq HG.out, show plainIn s began i _ = true by simp [plainIn, e1, HB.out]]; rfl
     clear e1 e0
     go_wp2_with fail
     exact bodyPost_ret (v := .agg #[_, _, _]) (sg_ret rfl _ _ _ _ _ _ rfl (bl_set3 (bl_set B1.out (by omega) _) _ _ _)) rfl ⟨by rw [E.out]; rfl, (ks_set3 _ _ _).up (K1.out.setCell (by show w.heap.size ≤ w1.heap.size; omega) _) (Nat.le_refl _)⟩
    ·
     have g2 : ((b : Int) == 94) = false := by simp; omega
     have E : Hid (sgnIn s false began i = (10, y, z)) := by show _ = _; rw [sgnIn_eq HG.out, show plainIn s began i _ = false by simp [plainIn, e1, HB.out, e2]]; rfl
     clear e1 e0
     go_wp2_with fail
     exact bodyPost_ret (v := .agg #[_, _, _]) (sg_ret rfl _ _ _ _ _ _ rfl (bl_set3 B1.out _ _ _)) rfl ⟨by rw [E.out]; rfl, (ks_set3 _ _ _).up K1.out (Nat.le_refl _)⟩
   ·
    have g1 : ((i : Int) == (began : Int) + 1) = false := by simp; omega
    have E : Hid (sgnIn s false began i = (10, y, z)) := by show _ = _; rw [sgnIn_eq HG.out, show plainIn s began i _ = false by simp [plainIn, e0, e1]]; rfl
    go_wp2_with fail
    exact bodyPost_ret (v := .agg #[_, _, _]) (sg_ret rfl _ _ _ _ _ _ rfl (bl_set3 B1.out _ _ _)) rfl ⟨by rw [E.out]; rfl, (ks_set3 _ _ _).up K1.out (Nat.le_refl _)⟩
  by_cases x5 : x = 5
  ·
   subst x5
   by_cases e0 : i = began
   ·
    have g0 : ((i : Int) != (began : Int)) = false := by rw [e0]; simp
    have E : Hid (sgnIn s false began i = (5, y, z)) := by show _ = _; rw [sgnIn_eq HG.out, show plainIn s began i _ = false by simp [plainIn, e0]]; rfl
    clear e0
    go_wp2_with fail
    exact bodyPost_ret (v := .agg #[_, _, _]) (sg_ret rfl _ _ _ _ _ _ rfl (bl_set3 B1.out _ _ _)) rfl ⟨by rw [E.out]; rfl, (ks_set3 _ _ _).up K1.out (Nat.le_refl _)⟩
   ·
    have g0 : ((i : Int) != (began : Int)) = true := by simp; omega
    have E : Hid (sgnIn s false began i = (2, y, z)) := by show _ = _; rw [sgnIn_eq HG.out, show plainIn s began i _ = true by simp [plainIn, e0]]; rfl
    go_wp2_with fail
    exact bodyPost_ret (v := .agg #[_, _, _]) (sg_ret rfl _ _ _ _ _ _ rfl (bl_set3 (bl_set B1.out (by omega) _) _ _ _)) rfl ⟨by rw [E.out]; rfl, (ks_set3 _ _ _).up (K1.out.setCell (by show w.heap.size ≤ w1.heap.size; omega) _) (Nat.le_refl _)⟩
  by_cases x6 : x = 6
  ·
   subst x6
   have hl := HL.out (by omega)
   obtain ⟨x', y', z', hg'⟩ : ∃ x' y' z', sgn s false (i + 1) = (x', y', z') := ⟨_, _, _, rfl⟩
   have HG' := hid hg'
   clear hg'
   have SA : Hid (∀ w, Calls Tryz.prog 175 #[.string s, .int .i64 ((i : Int) + 1), .bool false] w fun e w' => e = .returned (.agg #[.int .i64 (x' : Int), .int .u8 (y' : Int), .int .i64 (z' : Int)]) ∧ Kp w w') := by
    intro w
    have := signAt_any s false (i + 1) w (by omega) hs
    rw [HG'.out] at this
    exact this
   go_upto_region 11 with fail
   go_cut [7] (fun v wc => v = .int .i64 (x' : Int) ∧ Kp W1 wc)
   case first =>
    have Q0 : Kp W1 W1.drew := (Kp.refl _).drew
    have MK : Hid (∀ W, Kp W1 W → W.cell? ⟨P, 0, none⟩ = some (.string s) ∧ W.cell? ⟨P, 1, none⟩ = some (.bool false) ∧ W.cell? ⟨P, 2, none⟩ = some (.int .i64 (i : Int)) ∧ Hid (Kp W1 W)) := fun W k => ⟨(R1.out.kp k).cells.1, (R1.out.kp k).cells.2.1, (R1.out.kp k).cells.2.2.1, k⟩
    refine wp_region_noPanic ?_
    refine hdrew MK Q0 (fun hH => ?_)
    have KQ := Q0
    refine tk 0 (some 53) (.move (.tmp 0)) 142 (v := ?v0a1) rfl ?h0a1 hH ?_
    case h0a1 => intro _ _; go_simp; try with_reducible rfl
    try simp only [ps]
    refine tk 1 (some 54) (.nilCheck (.tmp 53)) 0 (v := ?v1a2) rfl ?h1a2 hH ?_
    case h1a2 => intro _ _; go_simp; try with_reducible rfl
    try simp only [ps]
    refine tk 2 (some 55) (.fieldAddr 99 (.tmp 54) 0) 0 (v := ?v2a3) rfl ?h2a3 hH ?_
    case h2a3 => intro _ _; go_simp; try with_reducible rfl
    try simp only [ps]
    refine tk 3 (some 56) (.load 9 (.tmp 55)) 9 (v := ?v3a4) rfl ?h3a4 hH ?_
    case h3a4 => intro _ _; go_simp; try with_reducible rfl
    try simp only [ps]
    refine tk 4 (some 57) (.move (.tmp 0)) 142 (v := ?v4a5) rfl ?h4a5 hH ?_
    case h4a5 => intro _ _; go_simp; try with_reducible rfl
    try simp only [ps]
    refine tk 5 (some 58) (.nilCheck (.tmp 57)) 0 (v := ?v5a6) rfl ?h5a6 hH ?_
    case h5a6 => intro _ _; go_simp; try with_reducible rfl
    try simp only [ps]
    refine tk 6 (some 59) (.fieldAddr 99 (.tmp 58) 2) 0 (v := ?v6a7) rfl ?h6a7 hH ?_
    case h6a7 => intro _ _; go_simp; try with_reducible rfl
    try simp only [ps]
    refine tk 7 (some 60) (.load 3 (.tmp 59)) 3 (v := ?v7a8) rfl ?h7a8 hH ?_
    case h7a8 => intro _ _; go_simp; try with_reducible rfl
    try simp only [ps]
    refine tk 8 (some 61) (.binOp .add 3 (.tmp 60) (.const (.int .i64 1)) 3) 3 (v := ?v8a9) rfl ?h8a9 hH ?_
    case h8a9 => intro _ _; go_simp; try with_reducible rfl
    try simp only [ps]
    refine tk 9 (some 62) (.move (.tmp 0)) 142 (v := ?v9a10) rfl ?h9a10 hH ?_
    case h9a10 => intro _ _; go_simp; try with_reducible rfl
    try simp only [ps]
    refine tk 10 (some 63) (.nilCheck (.tmp 62)) 0 (v := ?v10a11) rfl ?h10a11 hH ?_
    case h10a11 => intro _ _; go_simp; try with_reducible rfl
    try simp only [ps]
    refine tk 11 (some 64) (.fieldAddr 99 (.tmp 63) 1) 0 (v := ?v11a12) rfl ?h11a12 hH ?_
    case h11a12 => intro _ _; go_simp; try with_reducible rfl
    try simp only [ps]
    refine tk 12 (some 65) (.load 4 (.tmp 64)) 4 (v := ?v12a13) rfl ?h12a13 hH ?_
    case h12a13 => intro _ _; go_simp; try with_reducible rfl
    try simp only [ps]
    refine wpAnyH_ready (rs := [13]) (by kernel_rfl) (by simp) ?_
    refine AllReadyH.cons (o := { dst := some 66, op := .call { callee := .value (.func 175), args := #[.tmp 56, .tmp 61, .tmp 65], argTypes := #[9, 3, 4] }, type := 173, pos := "parse.go:107", after := _, guard := none }) rfl (fun K hKq => ?_) AllReadyH.nil
    go_simp
    refine (SA.out _).mono ?_
    rintro e y1 ⟨rfl, kq⟩
    refine hKq.out _ _ (MK.out _ (KQ.trans kq)) (fun hN => ?_)
    clear kq
    clear hKq K hH KQ
    have hH := hN
    clear hN
    have KQ := hH.2.2.2.out
    try simp only [ps]
    refine tk 14 (some 67) (.field 173 (.tmp 66) 0) 3 (v := ?v14a14) rfl ?h14a14 hH ?_
    case h14a14 => intro _ _; go_simp; try with_reducible rfl
    try simp only [ps]
    refine tk 15 (some 7) (.assign (.tmp 67)) 3 (v := ?v15a15) rfl ?h15a15 hH ?_
    case h15a15 => intro _ _; go_simp; try with_reducible rfl
    try simp only [ps]
    refine wpAnyH_done (by kernel_rfl) ?_ _
    refine NoPanic.normal ?_
    go_wp2_with fail
    go_meet
    case rel => exact ⟨rfl, KQ⟩
   case rest =>
    obtain ⟨rfl, k2⟩ := hcut
    rename World => W2
    have hs2 := k2.size
    have B2 : Hid (W2.heap[w.heap.size]? = some sgz) := bl_kp B1.out k2
    have G2 : Hid (W2.heap[w1.heap.size]? = some (sgo 6 y z)) := bl_kp G1.out k2
    have K2 : Hid (Kp w W2) := K1.out.trans k2
    clear k2 p0 p1 p2 q0 q1 q2 fq0 fq1 fq2 b0 b1 b2 fb0 fb1 fb2 B1 G1 K1 R1
    obtain ⟨q0, fq0, q1, fq1, q2, fq2⟩ := cellf3 (G2.out)
    obtain ⟨b0, fb0, b1, fb1, b2, fb2⟩ := cellf3 (B2.out)
    by_cases n1 : x' = 1
    ·
     subst n1
     have E : Hid (sgnIn s false began i = (6, y, z)) := by show _ = _; rw [sgnIn_eq HG.out, show plainIn s began i _ = false by simp [plainIn, HG'.out]]; rfl
     go_wp2_with fail
     exact bodyPost_ret (v := .agg #[_, _, _]) (sg_ret rfl _ _ _ _ _ _ rfl (bl_set3 B2.out _ _ _)) rfl ⟨by rw [E.out]; rfl, (ks_set3 _ _ _).up K2.out (Nat.le_refl _)⟩
    by_cases n8 : x' = 8
    ·
     subst n8
     have E : Hid (sgnIn s false began i = (6, y, z)) := by show _ = _; rw [sgnIn_eq HG.out, show plainIn s began i _ = false by simp [plainIn, HG'.out]]; rfl
     go_wp2_with fail
     exact bodyPost_ret (v := .agg #[_, _, _]) (sg_ret rfl _ _ _ _ _ _ rfl (bl_set3 B2.out _ _ _)) rfl ⟨by rw [E.out]; rfl, (ks_set3 _ _ _).up K2.out (Nat.le_refl _)⟩
    have g1 : ((x' : Int) != 1) = true := by simp; omega
    have g8 : ((x' : Int) != 8) = true := by simp; omega
    have E : Hid (sgnIn s false began i = (2, y, z)) := by show _ = _; rw [sgnIn_eq HG.out, show plainIn s began i _ = true by simp [plainIn, HG'.out, n1, n8]]; rfl
    go_wp2_with fail
    exact bodyPost_ret (v := .agg #[_, _, _]) (sg_ret rfl _ _ _ _ _ _ rfl (bl_set3 (bl_set B2.out (by omega) _) _ _ _)) rfl ⟨by rw [E.out]; rfl, (ks_set3 _ _ _).up (K2.out.setCell (by show w.heap.size ≤ w1.heap.size; omega) _) (Nat.le_refl _)⟩
  have g10 : ((x : Int) == 10) = false := by simp; omega
  have g5 : ((x : Int) == 5) = false := by simp; omega
  have g6 : ((x : Int) == 6) = false := by simp; omega
  have E : Hid (sgnIn s false began i = (x, y, z)) := by show _ = _; rw [sgnIn_eq HG.out, show plainIn s began i _ = false by simp [plainIn, x10, x5, x6]]; rfl
  go_wp2_with fail
  exact bodyPost_ret (v := .agg #[_, _, _]) (sg_ret rfl _ _ _ _ _ _ rfl (bl_set3 B1.out _ _ _)) rfl ⟨by rw [E.out]; rfl, (ks_set3 _ _ _).up K1.out (Nat.le_refl _)⟩
structure Inv (s : ByteArray) (t : St) : Prop where
 i : t.i ≤ s.size
 n : t.n ≤ 3 * t.i + 1
 g : t.g ≤ t.i
structure CGood (c : St → Out) (s : ByteArray) : Prop where
 all : ∀ t, Inv s t → (c t).st.i ≤ s.size ∧ ((c t).e = 0 → t.i ≤ (c t).st.i ∧ (c t).st.n ≤ 3 * (c t).st.i + 3 ∧ (c t).st.g ≤ (c t).st.i ∧ (c t).st.d = t.d)
structure PGood (s : ByteArray) (t : St) (m : Nat) (o : Out) : Prop where
 le : o.st.i ≤ s.size
 ok : o.e = 0 → t.i + m ≤ o.st.i ∧ Inv s o.st ∧ o.st.d = t.d
theorem pTake_good {s : ByteArray} {t : St} {sz : Nat} (r : Rx) (h : Inv s t) (h1 : t.i + sz ≤ s.size) (h2 : 1 ≤ sz) : PGood s t 1 (pTake sz r t) := by
 have := h.n; have := h.g
 exact ⟨h1, fun _ => ⟨by show t.i + 1 ≤ t.i + sz; omega, ⟨h1, by show t.n + 1 ≤ 3 * (t.i + sz) + 1; omega, by show t.g ≤ t.i + sz; omega⟩, rfl⟩⟩
theorem fail_good {s : ByteArray} {t t' : St} {m e : Nat} (h : t'.i ≤ s.size) (he : e ≠ 0) : PGood s t m ⟨rx0, e, t'⟩ := ⟨h, fun h0 => absurd h0 he⟩
theorem pBrL_le (s : ByteArray) : ∀ f p i, i ≤ s.size → (pBrL s f p i).2 ≤ s.size ∧ ((pBrL s f p i).1 ≠ none → i < (pBrL s f p i).2)
 | 0, p, i, h => by unfold pBrL; exact ⟨h, fun h => absurd rfl h⟩
 | f + 1, p, i, h => by
  unfold pBrL
  split
  ·
   rename_i hp; have h1 := pfx_le hp h; exact ⟨h1, fun _ => by show i < i + 1; omega⟩
  ·
   have hl := pIn_le s i h
   split
   ·
    rename_i j hj; rw [hj] at hl; exact ⟨hl.1, fun h => absurd rfl h⟩
   ·
    rename_i q j hj
    rw [hj] at hl
    have h1 : i < j := hl.2 (by simp)
    have := pBrL_le s f (orB p q) j hl.1
    exact ⟨this.1, fun hn => by have := this.2 hn; omega⟩
theorem pBr_le (s : ByteArray) (i : Nat) (h : i ≤ s.size) : (pBr s i).2 ≤ s.size ∧ ((pBr s i).1 ≠ none → i < (pBr s i).2) := by
 unfold pBr
 have hl := pIn_le s i h
 split
 ·
  rename_i j hj; rw [hj] at hl; exact ⟨hl.1, fun h => absurd rfl h⟩
 ·
  rename_i q j hj
  rw [hj] at hl
  have h1 : i < j := hl.2 (by simp)
  have := pBrL_le s (s.size + 1) q j hl.1
  exact ⟨this.1, fun hn => by have := this.2 hn; omega⟩
theorem pBracket_good {s : ByteArray} {t : St} (h : Inv s t) (hi : t.i < s.size) : PGood s t 1 (pBracket s t) := by
 have hn := h.n; have hg := h.g
 have hf : t.i + 1 ≤ bFrom s t.i ∧ bFrom s t.i ≤ s.size := by
  unfold bFrom
  split
  ·
   rename_i ht; exact ⟨by omega, pfx_le ht hi⟩
  ·
   exact ⟨Nat.le_refl _, hi⟩
 have hl := pBr_le s (bFrom s t.i) hf.2
 unfold pBracket
 split
 ·
  rename_i j hj; rw [hj] at hl; exact fail_good hl.1 (by omega)
 ·
  rename_i p j hj
  rw [hj] at hl
  have h1 : bFrom s t.i < j := hl.2 (by simp)
  dsimp only
  generalize (if bTurn s t.i then notB p else p) = q
  split
  ·
   exact fail_good h.i (by omega)
  ·
   exact ⟨hl.1, fun _ => ⟨by show t.i + 1 ≤ j; omega, ⟨hl.1, by show t.n + 1 ≤ 3 * j + 1; omega, by show t.g ≤ j; omega⟩, rfl⟩⟩
theorem pGroup_good {c : St → Out} {s : ByteArray} {ere : Bool} {sz : Nat} {t : St} (hc : CGood c s) (h : Inv s t) (h1 : t.i + sz ≤ s.size) (h2 : 1 ≤ sz) : PGood s t 1 (pGroup c s ere sz t) := by
 have hn := h.n; have hg := h.g
 unfold pGroup
 split
 ·
  exact fail_good h.i (by omega)
 ·
  dsimp only
  have hi : Inv s ⟨t.i + sz, t.n, t.g + 1, t.d + 1⟩ := ⟨h1, by show t.n ≤ 3 * (t.i + sz) + 1; omega, by show t.g + 1 ≤ t.i + sz; omega⟩
  have ho := hc.all _ hi
  obtain ⟨o, hoo⟩ : ∃ o, c ⟨t.i + sz, t.n, t.g + 1, t.d + 1⟩ = o := ⟨_, rfl⟩
  rw [hoo] at ho ⊢
  split
  ·
   rename_i he; exact fail_good ho.1 he
  ·
   rename_i he
   have he' : o.e = 0 := by omega
   obtain ⟨a1, a2, a3, a4⟩ := ho.2 he'
   simp only at a1 a4
   have hz := sgn_sz s ere o.st.i ho.1
   split
   ·
    exact fail_good ho.1 (by omega)
   ·
    rename_i h8
    have h8' : (sgn s ere o.st.i).1 = 8 := by omega
    have hz1 := hz.2.2 (by omega) (by omega)
    exact ⟨hz.1, fun _ => ⟨by show t.i + 1 ≤ o.st.i + _; omega, ⟨hz.1, by show o.st.n + 1 ≤ 3 * (o.st.i + (sgn s ere o.st.i).2.2) + 1; omega, by show o.st.g ≤ o.st.i + (sgn s ere o.st.i).2.2; omega⟩, by show o.st.d - 1 = t.d; omega⟩⟩
theorem pOne_good {c : St → Out} {s : ByteArray} {ere : Bool} {k b sz : Nat} {t : St} (hc : CGood c s) (h : Inv s t) (h1 : t.i + sz ≤ s.size) (h2 : k ≠ 1 → k ≠ 0 → 1 ≤ sz) : PGood s t 1 (pOne c s ere k b sz t) := by
 unfold pOne
 split
 ·
  exact pTake_good _ h h1 (h2 (by omega) (by omega))
 split
 ·
  exact pTake_good _ h h1 (h2 (by omega) (by omega))
 split
 ·
  exact pTake_good _ h h1 (h2 (by omega) (by omega))
 split
 ·
  exact pTake_good _ h h1 (h2 (by omega) (by omega))
 split
 ·
  unfold pBack
  split
  ·
   exact fail_good h.i (by omega)
  ·
   exact pTake_good _ h h1 (h2 (by omega) (by omega))
 split
 ·
  have := h2 (by omega) (by omega)
  exact pBracket_good h (by omega)
 split
 ·
  exact pGroup_good hc h h1 (h2 (by omega) (by omega))
 ·
  exact fail_good h.i (by omega)
theorem pInt_ok {s : ByteArray} {ere : Bool} {i z : Nat} (h : i + z ≤ s.size) {a b : Int} {j : Nat} (he : pInt s ere i z = (some (a, b), j)) : i + 1 ≤ j := by
 have h1 := pNum_le s (i + z) h
 unfold pInt at he
 dsimp only at he
 split at he
 ·
  have h2 := pHigh_le s (pNum s (i + z)).1 (pNum s (i + z)).2.2 h1.2.1 h1.2.2
  split at he
  ·
   split at he
   ·
    injection he with _ hj
    have : 1 ≤ (closeB ere).length := by unfold closeB; cases ere <;> simp
    omega
   ·
    injection he with hx _; cases hx
  ·
   injection he with hx _; cases hx
 ·
  injection he with hx _; cases hx
theorem pRep_good {s : ByteArray} {ere : Bool} {r : Rx} {t : St} (h : Inv s t) : PGood s t 0 (pRep s ere r t) := by
 have hn := h.n; have hg := h.g
 have hz := sgn_sz s ere t.i h.i
 have tk : ∀ x, (sgn s ere t.i).1 = x → x ≠ 1 → x ≠ 0 → ∀ r', PGood s t 0 (pTake (sgn s ere t.i).2.2 r' t) := fun x hx h1 h0 r' => by
  have := pTake_good r' h hz.1 (hz.2.2 (by omega) (by omega))
  exact ⟨this.le, fun h => by have := this.ok h; exact ⟨by omega, this.2⟩⟩
 unfold pRep
 dsimp only
 split
 ·
  exact tk _ rfl (by omega) (by omega) _
 split
 ·
  exact tk _ rfl (by omega) (by omega) _
 split
 ·
  exact tk _ rfl (by omega) (by omega) _
 split
 ·
  have hl := pInt_le s ere t.i (sgn s ere t.i).2.2 hz.1
  split
  ·
   rename_i j hj; rw [hj] at hl; exact fail_good hl (by omega)
  ·
   rename_i a b j hj
   rw [hj] at hl
   have h1 := pInt_ok hz.1 hj
   exact ⟨hl, fun _ => ⟨by show t.i + 0 ≤ j + 0; omega, ⟨hl, by show t.n + 1 ≤ 3 * (j + 0) + 1; omega, by show t.g ≤ j + 0; omega⟩, rfl⟩⟩
 ·
  exact ⟨h.i, fun _ => ⟨Nat.le_refl _, h, rfl⟩⟩
theorem sgnIn_sz (s : ByteArray) (ere : Bool) (began i : Nat) (hi : i ≤ s.size) : i + (sgnIn s ere began i).2.2 ≤ s.size ∧ (sgnIn s ere began i).2.2 ≤ 2 ∧ ((sgnIn s ere began i).1 ≠ 1 → (sgnIn s ere began i).1 ≠ 0 → 1 ≤ (sgnIn s ere began i).2.2) := by
 have hz := sgn_sz s ere i hi
 unfold sgnIn
 dsimp only
 split
 ·
  exact hz
 ·
  split
  ·
   rename_i hp
   refine ⟨hz.1, hz.2.1, fun _ _ => hz.2.2 ?_ ?_⟩
   ·
    intro h; rw [h] at hp; simp [plainIn] at hp
   ·
    intro h; rw [h] at hp; simp [plainIn] at hp
  ·
   exact hz
theorem pPart_good {c : St → Out} {s : ByteArray} {ere : Bool} {began : Nat} {t : St} (hc : CGood c s) (h : Inv s t) : PGood s t 1 (pPart c s ere began t) := by
 have hz := sgnIn_sz s ere began t.i h.i
 have ho := pOne_good (ere := ere) (b := (sgnIn s ere began t.i).2.1) hc h hz.1 hz.2.2
 unfold pPart
 dsimp only
 split
 ·
  exact ho
 ·
  rename_i he
  have he' : (pOne c s ere (sgnIn s ere began t.i).1 (sgnIn s ere began t.i).2.1 (sgnIn s ere began t.i).2.2 t).e = 0 := by
   apply Classical.byContradiction; intro h; exact he (Or.inl h)
  obtain ⟨a1, a2, a3⟩ := ho.ok he'
  have hr := pRep_good (ere := ere) (r := (pOne c s ere (sgnIn s ere began t.i).1 (sgnIn s ere began t.i).2.1 (sgnIn s ere began t.i).2.2 t).r) a2
  exact ⟨hr.le, fun h0 => by have := hr.ok h0; exact ⟨by omega, this.2.1, this.2.2.trans a3⟩⟩
structure RGood (s : ByteArray) (t : St) (m : Nat) (o : Out) : Prop where
 le : o.st.i ≤ s.size
 ok : o.e = 0 → t.i ≤ o.st.i ∧ o.st.n ≤ 3 * o.st.i + m ∧ o.st.g ≤ o.st.i ∧ o.st.d = t.d
theorem pRowL_good {c : St → Out} {s : ByteArray} {ere : Bool} {began : Nat} (hc : CGood c s) : ∀ f ks t, Inv s t → RGood s t 2 (pRowL c s ere began f ks t)
 | 0, ks, t, h => by unfold pRowL; exact ⟨h.i, fun h => by cases h⟩
 | f + 1, ks, t, h => by
  have hn := h.n
  unfold pRowL
  split
  ·
   unfold rowOut
   split
   ·
    exact ⟨h.i, fun _ => ⟨Nat.le_refl _, by show t.n ≤ 3 * t.i + 2; omega, h.g, rfl⟩⟩
   ·
    exact ⟨h.i, fun _ => ⟨Nat.le_refl _, by show t.n + 1 ≤ 3 * t.i + 2; omega, h.g, rfl⟩⟩
  ·
   have hp := pPart_good (ere := ere) (began := began) hc h
   dsimp only
   split
   ·
    rename_i he; exact ⟨hp.le, fun h0 => absurd h0 he⟩
   ·
    rename_i he
    obtain ⟨a1, a2, a3⟩ := hp.ok (by omega)
    have := pRowL_good (ere := ere) (began := began) hc f (keepL (pPart c s ere began t).st.n ks (pPart c s ere began t).r) _ a2
    exact ⟨this.le, fun h0 => by have := this.ok h0; exact ⟨by omega, this.2.1, this.2.2.1, this.2.2.2.trans a3⟩⟩
theorem pRow_good {c : St → Out} {s : ByteArray} {ere : Bool} {t : St} (hc : CGood c s) (h : Inv s t) : RGood s t 2 (pRow c s ere t) := pRowL_good hc _ _ _ h
theorem pChL_good {c : St → Out} {s : ByteArray} {ere : Bool} (hc : CGood c s) : ∀ f ks t, t.i ≤ s.size → t.n ≤ 3 * t.i + 2 → t.g ≤ t.i → RGood s t 3 (pChL c s ere f ks t)
 | 0, ks, t, h, _, _ => by unfold pChL; exact ⟨h, fun h => by cases h⟩
 | f + 1, ks, t, h, hn, hg => by
  unfold pChL
  split
  ·
   rename_i h9
   have hlt : t.i < s.size := by
    obtain ⟨x, y, z, hx⟩ : ∃ x y z, sgn s ere t.i = (x, y, z) := ⟨_, _, _, rfl⟩
    rw [hx] at h9
    have h9' : x = 9 := h9
    exact sgn_lt hx h (by omega)
   have hr := pRow_good (ere := ere) (t := ⟨t.i + 1, t.n, t.g, t.d⟩) hc ⟨hlt, by show t.n ≤ 3 * (t.i + 1) + 1; omega, by show t.g ≤ t.i + 1; omega⟩
   dsimp only
   split
   ·
    rename_i he; exact ⟨hr.le, fun h0 => absurd h0 he⟩
   ·
    rename_i he
    obtain ⟨a1, a2, a3, a4⟩ := hr.ok (by omega)
    simp only at a1 a4
    have := pChL_good (ere := ere) hc f (keepL (pRow c s ere ⟨t.i + 1, t.n, t.g, t.d⟩).st.n ks (pRow c s ere ⟨t.i + 1, t.n, t.g, t.d⟩).r) _ hr.le a2 a3
    exact ⟨this.le, fun h0 => by have := this.ok h0; exact ⟨by omega, this.2.1, this.2.2.1, this.2.2.2.trans a4⟩⟩
  ·
   exact ⟨h, fun _ => ⟨Nat.le_refl _, by show t.n + 1 ≤ 3 * t.i + 3; omega, hg, rfl⟩⟩
theorem pCh1_good {c : St → Out} {s : ByteArray} {ere : Bool} {t : St} (hc : CGood c s) (h : Inv s t) : RGood s t 3 (pCh1 c s ere t) := by
 have hr := pRow_good (ere := ere) hc h
 unfold pCh1
 dsimp only
 split
 ·
  exact ⟨hr.le, fun h0 => by have := hr.ok h0; exact ⟨this.1, by omega, this.2.2⟩⟩
 ·
  rename_i he
  have he' : (pRow c s ere t).e = 0 := by
   apply Classical.byContradiction; intro h; exact he (Or.inl h)
  obtain ⟨a1, a2, a3, a4⟩ := hr.ok he'
  have := pChL_good (ere := ere) hc (s.size + 1) [(pRow c s ere t).r] _ hr.le a2 a3
  exact ⟨this.le, fun h0 => by have := this.ok h0; exact ⟨by omega, this.2.1, this.2.2.1, this.2.2.2.trans a4⟩⟩
theorem pCh_good (s : ByteArray) (ere : Bool) : ∀ D, CGood (pCh s ere D) s
 | 0 => ⟨fun t h => ⟨h.i, fun h => by cases h⟩⟩
 | D + 1 => ⟨fun t h => by
   have := pCh1_good (ere := ere) (pCh_good s ere D) h
   exact ⟨this.le, this.ok⟩⟩
attribute [local go_sem] field91
structure ChSaid (c : St → Out) (s : ByteArray) (ere : Bool) (D : Nat) : Prop where
 all : ∀ (i n g d P : Nat) (w : World), Rd w P s ere i n g d → Inv s ⟨i, n, g, d⟩ → d + D = 7 → d ≤ 6 → Calls Tryz.prog 94 #[.pointer (some ⟨P, 0, none⟩)] w fun e w' => RetE w P s ere (c ⟨i, n, g, d⟩) e w'
theorem group_any (c : St → Out) (D x y z : Nat) (s : ByteArray) (ere : Bool) (i n g d P : Nat) (w : World) (HC : ChSaid c s ere D) (HGd : CGood c s) (h : Rd w P s ere i n g d) (hv : Inv s ⟨i, n, g, d⟩) (hD : d + D = 6) (hz : i + z ≤ s.size) (hz1 : 1 ≤ z) (hz2 : z ≤ 2) (hs : s.size ≤ 1000000) :
  Calls Tryz.prog 233 #[.pointer (some ⟨P, 0, none⟩), .agg #[.int .i64 (x : Int), .int .u8 (y : Int), .int .i64 (z : Int)]] w fun e w' => RetE w P s ere (pGroup c s ere z ⟨i, n, g, d⟩) e w' := by
 have R : Hid (Rd w P s ere i n g d) := h
 have hP : P < w.heap.size := h.lt
 clear h
 have hn := hv.n
 have hg := hv.g
 simp only at hn hg
 have gw : IntKind.i64.wrap ((i : Int) + (z : Int)) = (i : Int) + (z : Int) := by rw [IntKind.wrap_i64]; omega
 have gg : IntKind.i64.wrap ((g : Int) + 1) = (g : Int) + 1 := by rw [IntKind.wrap_i64]; omega
 have gd : IntKind.i64.wrap ((d : Int) + 1) = (d : Int) + 1 := by rw [IntKind.wrap_i64]; omega
 go_enter Tryz.func233, Tryz.ntmps233
 go_upto_region 1 with fail
 refine opq (fun W0 => Rd W0 P s ere i n g d ∧ W0.heap[w.heap.size]? = some (sgo x y z) ∧ W0.heap[(w.heap.size + 1)]? = some rzo ∧ Ks P w W0) ⟨by exact R.out.kp kpt, by (first | exact last_at _ _ _ (by simp) | (refine bl_alloc ?_ _; first | exact last_at _ _ _ (by simp) | (refine bl_alloc ?_ _; first | exact last_at _ _ _ (by simp) | (refine bl_alloc ?_ _; exact last_at _ _ _ (by simp))))), by (first | exact last_at _ _ _ (by simp) | (refine bl_alloc ?_ _; first | exact last_at _ _ _ (by simp) | (refine bl_alloc ?_ _; first | exact last_at _ _ _ (by simp) | (refine bl_alloc ?_ _; exact last_at _ _ _ (by simp))))), by exact (Kp.ks kpt (Nat.le_of_lt hP))⟩ ?_
 rintro W0 ⟨xR0, xG0, xB0, xK0⟩
 have R0 := hidT xR0
 have G0 := hidT xG0
 have B0 := hidT xB0
 have K0 := hidT xK0
 clear xR0 xG0 xB0 xK0
 clear R
 have p5 := R0.out.cells.2.2.2.2.2
 by_cases h6 : d = 6
 ·
  subst h6
  have E : Hid (pGroup c s ere z ⟨i, n, g, 6⟩ = ⟨rx0, 2, ⟨i, n, g, 6⟩⟩) := by show _ = _; unfold pGroup; rw [if_pos rfl]
  obtain ⟨b0, fb0, b1, fb1, b2, fb2, b3, fb3, b4, fb4, b5, fb5, b6, fb6, b7, fb7, b8, fb8⟩ := cellf9 (B0.out)
  go_wp2_with fail
  refine bodyPost_ret (v := .tuple #[rz, .int .i64 2]) (rx_ret2 rfl _ _ _ _ _ rfl rfl (bl_set9 B0.out _ _ _ _ _ _ _ _ _) rfl) rfl ?_
  rw [E.out]
  exact ⟨_, rfl, Ret.fail R0.out K0.out (ks_set9 _ _ _ _ _ _ _ _ _) hP (by omega)⟩
 have g6 : ((d : Int) == 6) = false := by simp; omega
 have g6' : ¬ (d : Int) = 6 := by omega
 go_upto_region 3 with fail
 clear p5
 go_cut [] (fun wc => Rd wc P s ere (i + z) n g d ∧ wc.heap[w.heap.size + 1]? = some rzo ∧ Ks P w wc)
 case first =>
  have Q0 : Kp W0 W0.drew := (Kp.refl _).drew
  have MK : Hid (∀ W, Kp W0 W → W.cell? ⟨P, 2, none⟩ = some (.int .i64 (i : Int)) ∧ W.cell? ⟨w.heap.size, 2, none⟩ = some (.int .i64 (z : Int)) ∧ Hid (Kp W0 W)) := fun W k => ⟨(R0.out.kp k).cells.2.2.1, bl_cell (bl_kp G0.out k) 2 _ rfl, k⟩
  refine wp_region_noPanic ?_
  refine hdrewZ 9 MK Q0 (fun hH => ?_)
  have KQ := Q0
  refine zk 9 0 [] (some 16) (.move (.tmp 0)) 142 (v := ?v0a1) rfl ?h0a1 hH ?_
  case h0a1 => intro _ _; go_simp; try with_reducible rfl
  try simp only [ps]
  refine zk 9 1 [] (some 17) (.nilCheck (.tmp 16)) 0 (v := ?v1a2) rfl ?h1a2 hH ?_
  case h1a2 => intro _ _; go_simp; try with_reducible rfl
  try simp only [ps]
  refine zk 9 2 [] (some 18) (.fieldAddr 99 (.tmp 17) 2) 0 (v := ?v2a3) rfl ?h2a3 hH ?_
  case h2a3 => intro _ _; go_simp; try with_reducible rfl
  try simp only [ps]
  refine zk 9 3 [] (some 19) (.load 3 (.tmp 18)) 3 (v := ?v3a4) rfl ?h3a4 hH ?_
  case h3a4 => intro _ _; go_simp; try with_reducible rfl
  try simp only [ps]
  refine zk 9 4 [] (some 20) (.fieldAddr 173 (.tmp 3) 2) 0 (v := ?v4a5) rfl ?h4a5 hH ?_
  case h4a5 => intro _ _; go_simp; try with_reducible rfl
  try simp only [ps]
  refine zk 9 5 [] (some 21) (.load 3 (.tmp 20)) 3 (v := ?v5a6) rfl ?h5a6 hH ?_
  case h5a6 => intro _ _; go_simp; try with_reducible rfl
  try simp only [ps]
  refine zk 9 6 [] (some 22) (.binOp .add 3 (.tmp 19) (.tmp 21) 3) 3 (v := ?v6a7) rfl ?h6a7 hH ?_
  case h6a7 => intro _ _; go_simp; try with_reducible rfl
  try simp only [ps]
  refine zk 9 7 [8] (some 23) (.nilCheck (.tmp 16)) 0 (v := ?v7a8) rfl ?h7a8 hH ?_
  case h7a8 => intro _ _; go_simp; try with_reducible rfl
  try simp only [ps]
  refine zk 9 8 [] (some 24) (.fieldAddr 99 (.tmp 23) 2) 0 (v := ?v8a9) rfl ?h8a9 hH ?_
  case h8a9 => intro _ _; go_simp; try with_reducible rfl
  try simp only [ps]
  refine anyZ_ready (rs := [9]) (by kernel_rfl) (by simp) ?_
  refine AllZ.last (o := { dst := none, op := Op.store 3 (Operand.tmp 24) (Operand.tmp 22), type := 0, pos := "parse.go:155", after := _, guard := none }) rfl (Or.inl rfl) (fun K hKq => ?_) AllZ.nil
  have fq2 := bl_frozen (R0.out.kp KQ).b 2
  have cq2 := (R0.out.kp KQ).cells.2.2.1
  go_simp
  refine hKq.out _ _ ?_
  clear fq2 cq2
  clear hKq K
  try simp only [ps]
  refine anyZ_done (by kernel_rfl) ?_ _
  refine NoPanic.normal ?_
  go_wp2_with fail
  go_meet
  case rel => exact ⟨(R0.out.kp KQ).at (i + z), bl_set (bl_kp B0.out KQ) (by omega) _, (K0.out.kpt KQ hP).set 2 _⟩
 case rest =>
  obtain ⟨r1, b1, k1⟩ := hcut
  rename World => W1
  have R1 := hid r1
  have B1 := hid b1
  have K1 := hid k1
  clear r1 b1 k1 R0 G0 B0 K0
  have p5 := R1.out.cells.2.2.2.2.2
  have fp5 := bl_frozen R1.out.b 5
  have p4 := R1.out.cells.2.2.2.2.1
  have fp4 := bl_frozen R1.out.b 4
  go_upto_region 7 with fail
  refine opq (fun W2 => Rd W2 P s ere (i + z) n (g + 1) (d + 1) ∧ W2.heap[(w.heap.size + 1)]? = some rzo ∧ Ks P w W2) ⟨by exact (R1.out.deep (d + 1)).groups (g + 1), by exact bl_set (bl_set B1.out (by omega) _) (by omega) _, by exact (K1.out.set 5 _).set 4 _⟩ ?_
  rintro W2 ⟨xR2, xB2, xK2⟩
  have R2 := hidT xR2
  have B2 := hidT xB2
  have K2 := hidT xK2
  clear xR2 xB2 xK2
  clear p5 fp5 p4 fp4 R1 B1 K1
  have hinv : Inv s ⟨i + z, n, g + 1, d + 1⟩ := ⟨hz, by show n ≤ 3 * (i + z) + 1; omega, by show g + 1 ≤ i + z; omega⟩
  have hgood := HGd.all _ hinv
  have HCC := hid (HC.all (i + z) n (g + 1) (d + 1) P W2 R2.out hinv (by omega) (by omega))
  obtain ⟨o, ho⟩ : ∃ o, c ⟨i + z, n, g + 1, d + 1⟩ = o := ⟨_, rfl⟩
  rw [ho] at hgood HCC
  have HO := hid ho
  clear ho
  obtain ⟨r, er, ⟨i', n', g', d'⟩⟩ := o
  obtain ⟨hg1, hg2⟩ := hgood
  simp only at hg1 hg2
  have HG2 := hid hg2
  clear hg2 hinv
  have E0 : Hid (pGroup c s ere z ⟨i, n, g, d⟩ = if er ≠ 0 then ⟨rx0, er, ⟨i', n', g', d'⟩⟩ else if (sgn s ere i').1 ≠ 8 then ⟨rx0, 1, ⟨i', n', g', d'⟩⟩ else pTake (sgn s ere i').2.2 (.mk 5 0 0 ((g + 1 : Nat) : Int) W4.z [r]) ⟨i', n', g', d' - 1⟩) := by
   show _ = _
   unfold pGroup
   rw [if_neg h6, HO.out]
  go_wp2_with fail
  refine HCC.out.mono ?_
  rintro e W3 ⟨⟨v, rfl, r3⟩⟩
  obtain ⟨kk, mn, mx, mm, tt, ad, ll, cc, rfl⟩ := r3.is.form
  have hs2 : w.heap.size + 1 < W2.heap.size := bl_lt B2.out
  have hs3 : W2.heap.size ≤ W3.heap.size := r3.ks.size
  have R3 : Hid (Rd W3 P s ere i' n' g' d') := r3.rd
  have I3 : Hid (Is W3 (fun b => W2.heap.size ≤ b) r (rxv kk mn mx mm tt (.slice ad ll cc))) := r3.is
  have B3 : Hid (W3.heap[w.heap.size + 1]? = some rzo) := bl_ks B2.out (by omega) r3.ks
  have K3 : Hid (Ks P w W3) := K2.out.trans r3.ks
  clear r3 R2 B2 K2 HCC
  dsimp only
  go_upto_region 8 with fail
  refine opq (fun Wk => Rd Wk P s ere i' n' g' d' ∧ Wk.heap[W3.heap.size]? = some (rxo kk mn mx mm tt (.slice ad ll cc)) ∧ Wk.heap[(w.heap.size + 1)]? = some rzo ∧ Is Wk (fun b => W2.heap.size ≤ b) r (rxv kk mn mx mm tt (.slice ad ll cc)) ∧ Ks P w Wk) ⟨by exact R3.out.kp kpt, by (first | exact last_at _ _ _ (by simp) | (refine bl_alloc ?_ _; first | exact last_at _ _ _ (by simp) | (refine bl_alloc ?_ _; first | exact last_at _ _ _ (by simp) | (refine bl_alloc ?_ _; exact last_at _ _ _ (by simp))))), by exact bl_kp B3.out kpt, by exact I3.out.kp kpt, by exact K3.out.kpt kpt hP⟩ ?_
  rintro Wk ⟨xR4, xA4, xB4, xI4, xK4⟩
  have R4 := hidT xR4
  have A4 := hidT xA4
  have B4 := hidT xB4
  have I4 := hidT xI4
  have K4 := hidT xK4
  clear xR4 xA4 xB4 xI4 xK4
  clear R3 I3 B3 K3
  by_cases he : er = 0
  ·
   subst he
   obtain ⟨j1, j2, j3, j4⟩ := HG2.out rfl
   have j4 : d' = d + 1 := j4
   subst j4
   have E1 : Hid (pGroup c s ere z ⟨i, n, g, d⟩ = if (sgn s ere i').1 ≠ 8 then ⟨rx0, 1, ⟨i', n', g', d + 1⟩⟩ else pTake (sgn s ere i').2.2 (.mk 5 0 0 ((g + 1 : Nat) : Int) W4.z [r]) ⟨i', n', g', d⟩) := by show _ = _; rw [E0.out, if_neg (by omega)]; rfl
   obtain ⟨x2, y2, z2, hg⟩ : ∃ x y z, sgn s ere i' = (x, y, z) := ⟨_, _, _, rfl⟩
   have hz3 := sgn_sz s ere i' hg1
   rw [hg] at hz3 E1
   obtain ⟨hz4, hz5, _⟩ := hz3
   simp only at hz4 hz5
   have HG := hid hg
   clear hg
   have gd1 : IntKind.i64.wrap ((d : Int) + 1 - 1) = (d : Int) := by rw [IntKind.wrap_i64]; omega
   have gd2 : IntKind.i64.wrap (d : Int) = (d : Int) := by rw [IntKind.wrap_i64]; omega
   go_wp2_with fail
   refine (sign_any s ere i' n' g' (d + 1) P _ R4.out hg1 hs).mono ?_
   rintro e W5 ⟨rfl, k5⟩
   rw [HG.out, sg3]
   have hs5 := k5.size
   have K5 := hid k5
   have hs4 : W3.heap.size < Wk.heap.size := bl_lt A4.out
   clear k5
   go_upto_region 11 with fail
   refine opq (fun W6 => Rd W6 P s ere i' n' g' (d + 1) ∧ W6.heap[W3.heap.size]? = some (rxo kk mn mx mm tt (.slice ad ll cc)) ∧ W6.heap[(w.heap.size + 1)]? = some rzo ∧ W6.heap[W5.heap.size]? = some (sgo x2 y2 z2) ∧ Is W6 (fun b => W2.heap.size ≤ b) r (rxv kk mn mx mm tt (.slice ad ll cc)) ∧ Ks P w W6) ⟨by exact R4.out.kp (K5.out.trans kpt), by exact bl_kp A4.out (K5.out.trans kpt), by exact bl_kp B4.out (K5.out.trans kpt), by (first | exact last_at _ _ _ (by simp) | (refine bl_alloc ?_ _; first | exact last_at _ _ _ (by simp) | (refine bl_alloc ?_ _; first | exact last_at _ _ _ (by simp) | (refine bl_alloc ?_ _; exact last_at _ _ _ (by simp))))), by exact I4.out.kp (K5.out.trans kpt), by exact K4.out.kpt (K5.out.trans kpt) hP⟩ ?_
   rintro W6 ⟨xR6, xA6, xB6, xG6, xI6, xK6⟩
   have R6 := hidT xR6
   have A6 := hidT xA6
   have B6 := hidT xB6
   have G6 := hidT xG6
   have I6 := hidT xI6
   have K6 := hidT xK6
   clear xR6 xA6 xB6 xG6 xI6 xK6
   clear R4 A4 B4 I4 K4 K5
   obtain ⟨q0, q1, q2⟩ := cells3 G6.out
   by_cases h8 : x2 = 8
   ·
    subst h8
    have E : Hid (pGroup c s ere z ⟨i, n, g, d⟩ = pTake z2 (.mk 5 0 0 ((g + 1 : Nat) : Int) W4.z [r]) ⟨i', n', g', d⟩) := by show _ = _; rw [E1.out]; rfl
    have p5 := R6.out.cells.2.2.2.2.2
    have fp5 := bl_frozen R6.out.b 5
    have hs6 : W5.heap.size < W6.heap.size := bl_lt G6.out
    go_upto_region 14 with fail
    refine opq (fun W7 => Rd W7 P s ere i' n' g' d ∧ W7.heap[W3.heap.size]? = some (rxo kk mn mx mm tt (.slice ad ll cc)) ∧ W7.heap[(w.heap.size + 1)]? = some rzo ∧ W7.heap[W5.heap.size]? = some (sgo 8 y2 z2) ∧ Is W7 (fun b => W2.heap.size ≤ b) r (rxv kk mn mx mm tt (.slice ad ll cc)) ∧ Ks P w W7) ⟨by exact R6.out.deep d, by exact bl_set A6.out (by omega) _, by exact bl_set B6.out (by omega) _, by exact bl_set G6.out (by omega) _, by exact I6.out.ks ((Ks.refl _ _).set 5 _) (fun _ hb _ => by omega), by exact K6.out.set 5 _⟩ ?_
    rintro W7 ⟨xR7, xA7, xB7, xG7, xI7, xK7⟩
    have R7 := hidT xR7
    have A7 := hidT xA7
    have B7 := hidT xB7
    have G7 := hidT xG7
    have I7 := hidT xI7
    have K7 := hidT xK7
    clear xR7 xA7 xB7 xG7 xI7 xK7
    clear p5 fp5 q0 q1 q2 R6 A6 B6 G6 I6 K6
    obtain ⟨q0, q1, q2⟩ := cells3 G7.out
    have hs7 : W5.heap.size < W7.heap.size := bl_lt G7.out
    obtain ⟨a0, a1, a2, a3, a4, a5, a6, a7, a8⟩ := cells9 (A7.out)
    go_wp2_with fail
    refine (take_any0 8 y2 z2 5 0 0 ((g : Int) + 1) (some ⟨W7.heap.size, 0, none⟩) 1 1 s ere i' n' g' d P _ (R7.out.kp ((Kp.refl _).alloc _)) (by omega) (by omega) (by omega)).mono ?_
    rintro e W8 ⟨rfl, r8, k8⟩
    have R8 := hid r8
    have K8 : Hid (Ks P w W8) := (K7.out.kpt ((Kp.refl _).alloc _) hP).trans k8
    have B8 : Hid (W8.heap[w.heap.size + 1]? = some rzo) := bl_ks (bl_alloc B7.out _) (by omega) k8
    have I8 : Hid (Is W8 (fun b => w.heap.size ≤ b ∧ b ≠ w.heap.size + 1) (.mk 5 0 0 ((g + 1 : Nat) : Int) W4.z [r]) (rxv 5 0 0 ((g : Int) + 1) W4.z (.slice (some ⟨W7.heap.size, 0, none⟩) 1 1))) :=
     ((((I7.out.weak (ok' := fun b => w.heap.size ≤ b ∧ b ≠ w.heap.size + 1) (fun _ hb _ => ⟨by omega, by omega⟩)).kp ((Kp.refl _).alloc _)).one (cells_new _ _ _ _ _ _ _ _ _) ⟨by omega, by omega⟩ (by simp) 5 0 0 ((g : Int) + 1) W4.z).ks k8 (fun _ hb _ => by omega))
    clear r8 k8 q0 q1 q2 a0 a1 a2 a3 a4 a5 a6 a7 a8
    obtain ⟨b0, fb0, b1, fb1, b2, fb2, b3, fb3, b4, fb4, b5, fb5, b6, fb6, b7, fb7, b8, fb8⟩ := cellf9 (B8.out)
    go_wp2_with fail
    refine bodyPost_ret (v := .tuple #[rxv 5 0 0 ((g : Int) + 1) W4.z (.slice (some ⟨W7.heap.size, 0, none⟩) 1 1), .int .i64 0]) (rx_ret2 rfl _ _ _ _ _ rfl rfl (bl_set9 B8.out _ _ _ _ _ _ _ _ _) rfl) rfl ?_
    rw [E.out]
    exact ⟨_, rfl, Ret.fin I8.out R8.out K8.out (ks_set9 _ _ _ _ _ _ _ _ _) hP (by omega)⟩
   ·
    have g8 : ((x2 : Int) != 8) = true := by simp; omega
    have E : Hid (pGroup c s ere z ⟨i, n, g, d⟩ = ⟨rx0, 1, ⟨i', n', g', d + 1⟩⟩) := by show _ = _; rw [E1.out]; exact if_pos h8
    obtain ⟨b0, fb0, b1, fb1, b2, fb2, b3, fb3, b4, fb4, b5, fb5, b6, fb6, b7, fb7, b8, fb8⟩ := cellf9 (B6.out)
    go_wp2_with fail
    refine bodyPost_ret (v := .tuple #[rz, .int .i64 1]) (rx_ret2 rfl _ _ _ _ _ rfl rfl (bl_set9 B6.out _ _ _ _ _ _ _ _ _) rfl) rfl ?_
    rw [E.out]
    exact ⟨_, rfl, Ret.fail R6.out K6.out (ks_set9 _ _ _ _ _ _ _ _ _) hP (by omega)⟩
  ·
   have ge : ((er : Int) != 0) = true := by simp; omega
   have E : Hid (pGroup c s ere z ⟨i, n, g, d⟩ = ⟨rx0, er, ⟨i', n', g', d'⟩⟩) := by show _ = _; rw [E0.out, if_pos he]
   obtain ⟨b0, fb0, b1, fb1, b2, fb2, b3, fb3, b4, fb4, b5, fb5, b6, fb6, b7, fb7, b8, fb8⟩ := cellf9 (B4.out)
   go_wp2_with fail
   refine bodyPost_ret (v := .tuple #[rz, .int .i64 (er : Int)]) (rx_ret2 rfl _ _ _ _ _ rfl rfl (bl_set9 B4.out _ _ _ _ _ _ _ _ _) rfl) rfl ?_
   rw [E.out]
   exact ⟨_, rfl, Ret.fail R4.out K4.out (ks_set9 _ _ _ _ _ _ _ _ _) hP (by omega)⟩
attribute [local go_sem] field91
theorem back_any (x b z : Nat) (s : ByteArray) (ere : Bool) (i n g d P : Nat) (w : World) (h : Rd w P s ere i n g d) (hi : i ≤ 1000000000) (hz : z ≤ 100) (hn : n ≤ 1000000000) (hb : 48 ≤ b) (hb' : b ≤ 57) :
  Calls Tryz.prog 231 #[.pointer (some ⟨P, 0, none⟩), .agg #[.int .i64 (x : Int), .int .u8 (b : Int), .int .i64 (z : Int)]] w fun e w' => ∃ v, e = .returned (.tuple #[v, .int .i64 ((pBack b z ⟨i, n, g, d⟩).e : Nat)]) ∧ Ret w P s ere (pBack b z ⟨i, n, g, d⟩) v w' := by
 have R : Hid (Rd w P s ere i n g d) := h
 have hP : P < w.heap.size := h.lt
 clear h
 have gw : IntKind.u8.wrap ((b : Int) - 48) = (b : Int) - 48 := by rw [IntKind.wrap_u8']; omega
 have gw' : IntKind.i64.wrap ((b : Int) - 48) = (b : Int) - 48 := by rw [IntKind.wrap_i64]; omega
 by_cases hc : b < 49 ∨ g + 48 < b
 ·
  have E : Hid (pBack b z ⟨i, n, g, d⟩ = ⟨rx0, 1, ⟨i, n, g, d⟩⟩) := by show _ = _; unfold pBack; rw [if_pos hc]
  have fin : ∀ (W0 w2 : World), Rd W0 P s ere i n g d → Ks P w W0 → Ks (w.heap.size + 1) W0 w2 → ∃ v, Ending.returned (.tuple #[rz, .int .i64 1]) = .returned (.tuple #[v, .int .i64 ((pBack b z ⟨i, n, g, d⟩).e : Nat)]) ∧ Ret w P s ere (pBack b z ⟨i, n, g, d⟩) v w2 := by
   intro W0 w2 r k k'
   rw [E.out]
   exact ⟨_, rfl, Ret.fail r k k' hP (by omega)⟩
  have FIN := hid fin
  clear fin
  by_cases h1 : b < 49
  ·
   have c1 : (b : Int) - 48 < 1 := by omega
   go_enter Tryz.func231, Tryz.ntmps231
   go_upto_region 1 with fail
   refine opq (fun W0 => Rd W0 P s ere i n g d ∧ W0.heap[w.heap.size]? = some (sgo x b z) ∧ W0.heap[(w.heap.size + 1)]? = some rzo ∧ Kp w W0) ⟨by exact R.out.kp kpt, by (first | exact last_at _ _ _ (by simp) | (refine bl_alloc ?_ _; first | exact last_at _ _ _ (by simp) | (refine bl_alloc ?_ _; first | exact last_at _ _ _ (by simp) | (refine bl_alloc ?_ _; exact last_at _ _ _ (by simp))))), by (first | exact last_at _ _ _ (by simp) | (refine bl_alloc ?_ _; first | exact last_at _ _ _ (by simp) | (refine bl_alloc ?_ _; first | exact last_at _ _ _ (by simp) | (refine bl_alloc ?_ _; exact last_at _ _ _ (by simp))))), by exact kpt⟩ ?_
   rintro W0 ⟨xR0, xG0, xB0, xK0⟩
   have R0 := hidT xR0
   have G0 := hidT xG0
   have B0 := hidT xB0
   have K0 := hidT xK0
   clear xR0 xG0 xB0 xK0
   have ks0 : Hid (Ks P w W0) := K0.out.ks (Nat.le_of_lt hP)
   have hs0 : w.heap.size + 1 < W0.heap.size := bl_lt B0.out
   have p4 := R0.out.cells.2.2.2.2.1
   obtain ⟨q0, q1, q2⟩ := cells3 G0.out
   clear K0
   obtain ⟨b0, fb0, b1, fb1, b2, fb2, b3, fb3, b4, fb4, b5, fb5, b6, fb6, b7, fb7, b8, fb8⟩ := cellf9 (B0.out)
   go_wp2_with fail
   refine bodyPost_ret (v := .tuple #[rz, .int .i64 1]) (rx_ret2 rfl _ _ _ _ _ rfl rfl (bl_set9 B0.out _ _ _ _ _ _ _ _ _) rfl) rfl ?_
   exact FIN.out _ _ R0.out ks0.out (ks_set9 _ _ _ _ _ _ _ _ _)
  ·
   have c1 : ¬ (b : Int) - 48 < 1 := by omega
   have c2 : (g : Int) < (b : Int) - 48 := by omega
   go_enter Tryz.func231, Tryz.ntmps231
   go_upto_region 1 with fail
   refine opq (fun W0 => Rd W0 P s ere i n g d ∧ W0.heap[w.heap.size]? = some (sgo x b z) ∧ W0.heap[(w.heap.size + 1)]? = some rzo ∧ Kp w W0) ⟨by exact R.out.kp kpt, by (first | exact last_at _ _ _ (by simp) | (refine bl_alloc ?_ _; first | exact last_at _ _ _ (by simp) | (refine bl_alloc ?_ _; first | exact last_at _ _ _ (by simp) | (refine bl_alloc ?_ _; exact last_at _ _ _ (by simp))))), by (first | exact last_at _ _ _ (by simp) | (refine bl_alloc ?_ _; first | exact last_at _ _ _ (by simp) | (refine bl_alloc ?_ _; first | exact last_at _ _ _ (by simp) | (refine bl_alloc ?_ _; exact last_at _ _ _ (by simp))))), by exact kpt⟩ ?_
   rintro W0 ⟨xR0, xG0, xB0, xK0⟩
   have R0 := hidT xR0
   have G0 := hidT xG0
   have B0 := hidT xB0
   have K0 := hidT xK0
   clear xR0 xG0 xB0 xK0
   have ks0 : Hid (Ks P w W0) := K0.out.ks (Nat.le_of_lt hP)
   have hs0 : w.heap.size + 1 < W0.heap.size := bl_lt B0.out
   have p4 := R0.out.cells.2.2.2.2.1
   obtain ⟨q0, q1, q2⟩ := cells3 G0.out
   clear K0
   obtain ⟨b0, fb0, b1, fb1, b2, fb2, b3, fb3, b4, fb4, b5, fb5, b6, fb6, b7, fb7, b8, fb8⟩ := cellf9 (B0.out)
   go_wp2_with fail
   refine bodyPost_ret (v := .tuple #[rz, .int .i64 1]) (rx_ret2 rfl _ _ _ _ _ rfl rfl (bl_set9 B0.out _ _ _ _ _ _ _ _ _) rfl) rfl ?_
   exact FIN.out _ _ R0.out ks0.out (ks_set9 _ _ _ _ _ _ _ _ _)
 ·
  have E : Hid (pBack b z ⟨i, n, g, d⟩ = pTake z (.mk 6 0 0 ((b : Int) - 48) W4.z []) ⟨i, n, g, d⟩) := by show _ = _; unfold pBack; rw [if_neg hc]
  have c1 : ¬ (b : Int) - 48 < 1 := by omega
  have c2 : ¬ (g : Int) < (b : Int) - 48 := by omega
  have fin : ∀ (W0 w2 w3 : World), Ret W0 P s ere (pTake z (.mk 6 0 0 ((b : Int) - 48) W4.z []) ⟨i, n, g, d⟩) (rxv 6 0 0 ((b : Int) - 48) W4.z (.slice none 0 0)) w2 → Ks P w W0 → w.heap.size + 1 < W0.heap.size → Ks (w.heap.size + 1) w2 w3 → ∃ v, Ending.returned (.tuple #[rxv 6 0 0 ((b : Int) - 48) W4.z (.slice none 0 0), .int .i64 0]) = .returned (.tuple #[v, .int .i64 ((pBack b z ⟨i, n, g, d⟩).e : Nat)]) ∧ Ret w P s ere (pBack b z ⟨i, n, g, d⟩) v w3 := by
   intro W0 w2 w3 r k hl k'
   rw [E.out]
   exact ⟨_, rfl, r.upset k k' hP (by omega) hl⟩
  have FIN := hid fin
  clear fin hc
  go_enter Tryz.func231, Tryz.ntmps231
  go_upto_region 1 with fail
  refine opq (fun W0 => Rd W0 P s ere i n g d ∧ W0.heap[w.heap.size]? = some (sgo x b z) ∧ W0.heap[(w.heap.size + 1)]? = some rzo ∧ Kp w W0) ⟨by exact R.out.kp kpt, by (first | exact last_at _ _ _ (by simp) | (refine bl_alloc ?_ _; first | exact last_at _ _ _ (by simp) | (refine bl_alloc ?_ _; first | exact last_at _ _ _ (by simp) | (refine bl_alloc ?_ _; exact last_at _ _ _ (by simp))))), by (first | exact last_at _ _ _ (by simp) | (refine bl_alloc ?_ _; first | exact last_at _ _ _ (by simp) | (refine bl_alloc ?_ _; first | exact last_at _ _ _ (by simp) | (refine bl_alloc ?_ _; exact last_at _ _ _ (by simp))))), by exact kpt⟩ ?_
  rintro W0 ⟨xR0, xG0, xB0, xK0⟩
  have R0 := hidT xR0
  have G0 := hidT xG0
  have B0 := hidT xB0
  have K0 := hidT xK0
  clear xR0 xG0 xB0 xK0
  have ks0 : Hid (Ks P w W0) := K0.out.ks (Nat.le_of_lt hP)
  have hs0 : w.heap.size + 1 < W0.heap.size := bl_lt B0.out
  have p4 := R0.out.cells.2.2.2.2.1
  obtain ⟨q0, q1, q2⟩ := cells3 G0.out
  clear K0
  go_wp2_with fail
  refine (take_ret0 x b z 6 0 0 ((b : Int) - 48) none 0 0 s ere i n g d P (.mk 6 0 0 ((b : Int) - 48) W4.z []) W0 _ R0.out hi hz hn (Is.leaf _ _ _ _ _ _ _) (Ks.refl _ _) (by omega)).mono ?_
  rintro e w2 ⟨rfl, r2, k2⟩
  have R2 : Hid (Ret W0 P s ere (pTake z (.mk 6 0 0 ((b : Int) - 48) W4.z []) ⟨i, n, g, d⟩) (rxv 6 0 0 ((b : Int) - 48) W4.z (.slice none 0 0)) w2) := r2
  have B2 : Hid (w2.heap[w.heap.size + 1]? = some rzo) := bl_ks B0.out (by omega) k2
  clear r2 k2 p4 q0 q1 q2
  obtain ⟨b0, fb0, b1, fb1, b2, fb2, b3, fb3, b4, fb4, b5, fb5, b6, fb6, b7, fb7, b8, fb8⟩ := cellf9 (B2.out)
  go_wp2_with fail
  refine bodyPost_ret (v := .tuple #[rxv 6 0 0 ((b : Int) - 48) W4.z (.slice none 0 0), .int .i64 0]) (rx_ret2 rfl _ _ _ _ _ rfl rfl (bl_set9 B2.out _ _ _ _ _ _ _ _ _) rfl) rfl ?_
  exact FIN.out _ _ _ R2.out ks0.out hs0 (ks_set9 _ _ _ _ _ _ _ _ _)
end Go.Proofs.YtigdmebijbaofaaGreatDoor
