/-
  Texts of this claim: Choice, Parse, Text4, Runs, Sets1, Fit, Mak1, Mak2, Mak3, Mak4, Mak5, Rows9, MakR, MakD, And1.
-/
import Derived.Test.YtikmgckefbjbkaaGreatDoorM4
import Derived.Test.YtikmgckefbjbkaaGreatDoorM3
import Derived.Test.YtikmgckefbjbkaaGreatDoorM1

/-! ### Choice -/

namespace Go.Proofs.YtikmgckefbjbkaaGreatDoor
open Go.RowKit
attribute [local go_sem] field91

/-- In the loop of a choice. -/
structure Cw (c : St → Out) (s : ByteArray) (ere : Bool) (P A : Nat) (w : World) (t0 : St) (k : Nat) (v : Value) (wr : World) (ks : List Rx) (t : St) : Prop where
 kids : RK (fun b => w.heap.size + 1 ≤ b ∧ b ≠ A) (w.heap.size + 1) wr v ks
 rd : Rd wr P s ere t.i t.n t.g t.d
 i : t.i ≤ s.size
 n : t.n ≤ 3 * t.i + 2
 g : t.g ≤ t.i
 d : t.d = t0.d
 f : s.size < k + t.i
 len : ks.length ≤ t.i + 1
 eq : pChL c s ere k ks t = pCh1 c s ere t0
 a : ∃ k mn mx m t ad l c, wr.heap[A]? = some (rxo k mn mx m t (.slice ad l c))
 b : wr.heap[w.heap.size]? = some rzo
 ks : Ks P w wr

set_option maxHeartbeats 2000000 in
set_option maxRecDepth 100000 in
theorem choice_any (c : St → Out) (D : Nat) (s : ByteArray) (ere : Bool) (i n g d P : Nat) (w : World) (HC : ChSaid c s ere D) (HGd : CGood c s) (h : Rd w P s ere i n g d) (hv : Inv s ⟨i, n, g, d⟩) (hD : d + D = 6) (hs : s.size ≤ 1000000) :
  Calls Tryz.prog 35 #[.pointer (some ⟨P, 0, none⟩)] w fun e w' => RetE w P s ere (pCh1 c s ere ⟨i, n, g, d⟩) e w' := by
 have R : Hid (Rd w P s ere i n g d) := h
 have hP : P < w.heap.size := h.lt
 clear h
 have hi : i ≤ s.size := hv.i
 obtain ⟨o, ho⟩ : ∃ o, pRow c s ere ⟨i, n, g, d⟩ = o := ⟨_, rfl⟩
 have hgood := pRow_good (ere := ere) HGd hv
 have RA : Hid (∀ w, Rd w P s ere i n g d → Calls Tryz.prog 49 #[.pointer (some ⟨P, 0, none⟩)] w fun e w' => RetE w P s ere o e w') := by
  intro w h
  have := row_any c D s ere i n g d P w HC HGd h hv hD hs
  rw [ho] at this
  exact this
 have E0 : Hid (pCh1 c s ere ⟨i, n, g, d⟩ = if o.e ≠ 0 ∨ (sgn s ere o.st.i).1 ≠ 9 then o else pChL c s ere (s.size + 1) [o.r] o.st) := by
  show _ = _
  unfold pCh1
  rw [ho]
 rw [ho] at hgood
 have HGO := hid hgood
 have ho1 : o.st.i ≤ s.size := hgood.le
 clear ho hgood
 obtain ⟨r, er, ⟨i1, n1, g1, d1⟩⟩ := o
 simp only at ho1
 go_enter Tryz.func35, Tryz.ntmps35
 go_upto_region 1 with fail
 refine opq (fun W0 => Rd W0 P s ere i n g d ∧ W0.heap[w.heap.size]? = some rzo ∧ Ks P w W0) ⟨by exact R.out.kp (by repeat (first | exact Kp.refl _ | refine Kp.alloc ?_ _ | refine Kp.drew ?_ | refine Kp.drewN _ ?_)), by (first | exact last_at _ _ _ (by simp) | (refine bl_alloc ?_ _; first | exact last_at _ _ _ (by simp) | (refine bl_alloc ?_ _; first | exact last_at _ _ _ (by simp) | (refine bl_alloc ?_ _; exact last_at _ _ _ (by simp))))), by exact (Kp.ks (by repeat (first | exact Kp.refl _ | refine Kp.alloc ?_ _ | refine Kp.drew ?_ | refine Kp.drewN _ ?_)) (Nat.le_of_lt hP))⟩ ?_
 rintro W0 ⟨xR0, xB0, xK0⟩
 have R0 : Hid (Rd W0 P s ere i n g d) := xR0
 have B0 : Hid (W0.heap[w.heap.size]? = some rzo) := xB0
 have K0 : Hid (Ks P w W0) := xK0
 clear xR0 xB0 xK0
 clear R
 have hs0 : w.heap.size < W0.heap.size := bl_lt B0.out
 go_wp2_with fail
 refine (RA.out _ R0.out).mono ?_
 rintro e W1 ⟨⟨v, rfl, rr⟩⟩
 obtain ⟨kk, mn, mx, mm, tt, ad, ll, cc, rfl⟩ := rr.is.form
 have hs1 := rr.ks.size
 have R1 : Hid (Rd W1 P s ere i1 n1 g1 d1) := rr.rd
 have I1 : Hid (Is W1 (fun b => W0.heap.size ≤ b) r (rxv kk mn mx mm tt (.slice ad ll cc))) := rr.is
 have B1 := hid (bl_ks B0.out (by omega) rr.ks)
 have K1 := hid (K0.out.trans rr.ks)
 clear rr R0 B0 K0 RA
 dsimp only
 go_upto_region 2 with fail
 refine opq (fun W2 => Rd W2 P s ere i1 n1 g1 d1 ∧ W2.heap[W1.heap.size]? = some (rxo kk mn mx mm tt (.slice ad ll cc)) ∧ Is W2 (fun b => w.heap.size ≤ b ∧ b ≠ w.heap.size) r (rxv kk mn mx mm tt (.slice ad ll cc)) ∧ Is W2 (fun b => w.heap.size + 1 ≤ b ∧ b ≠ W1.heap.size) r (rxv kk mn mx mm tt (.slice ad ll cc)) ∧ W2.heap[w.heap.size]? = some rzo ∧ Ks P w W2) ⟨by exact R1.out.kp (by repeat (first | exact Kp.refl _ | refine Kp.alloc ?_ _ | refine Kp.drew ?_ | refine Kp.drewN _ ?_)), by (first | exact last_at _ _ _ (by simp) | (refine bl_alloc ?_ _; first | exact last_at _ _ _ (by simp) | (refine bl_alloc ?_ _; first | exact last_at _ _ _ (by simp) | (refine bl_alloc ?_ _; exact last_at _ _ _ (by simp))))), by exact (I1.out.weak (ok' := fun b => w.heap.size ≤ b ∧ b ≠ w.heap.size) (fun _ hb _ => ⟨by omega, by omega⟩)).kp (by repeat (first | exact Kp.refl _ | refine Kp.alloc ?_ _ | refine Kp.drew ?_ | refine Kp.drewN _ ?_)), by exact (I1.out.weak (ok' := fun b => w.heap.size + 1 ≤ b ∧ b ≠ W1.heap.size) (fun _ hb hl => ⟨by omega, by omega⟩)).kp (by repeat (first | exact Kp.refl _ | refine Kp.alloc ?_ _ | refine Kp.drew ?_ | refine Kp.drewN _ ?_)), by exact bl_kp B1.out (by repeat (first | exact Kp.refl _ | refine Kp.alloc ?_ _ | refine Kp.drew ?_ | refine Kp.drewN _ ?_)), by exact K1.out.kpt (by repeat (first | exact Kp.refl _ | refine Kp.alloc ?_ _ | refine Kp.drew ?_ | refine Kp.drewN _ ?_)) hP⟩ ?_
 rintro W2 ⟨xR2, xA2, xI2, xJ2, xB2, xK2⟩
 have R2 : Hid (Rd W2 P s ere i1 n1 g1 d1) := xR2
 have A2 : Hid (W2.heap[W1.heap.size]? = some (rxo kk mn mx mm tt (.slice ad ll cc))) := xA2
 have I2 : Hid (Is W2 (fun b => w.heap.size ≤ b ∧ b ≠ w.heap.size) r (rxv kk mn mx mm tt (.slice ad ll cc))) := xI2
 have J2 : Hid (Is W2 (fun b => w.heap.size + 1 ≤ b ∧ b ≠ W1.heap.size) r (rxv kk mn mx mm tt (.slice ad ll cc))) := xJ2
 have B2 : Hid (W2.heap[w.heap.size]? = some rzo) := xB2
 have K2 : Hid (Ks P w W2) := xK2
 clear xR2 xA2 xI2 xJ2 xB2 xK2
 clear R1 I1 B1 K1
 have hs2 : W1.heap.size < W2.heap.size := bl_lt A2.out
 by_cases he : er = 0
 ·
  subst he
  obtain ⟨j1, j2, j3, j4⟩ := HGO.out.ok rfl
  simp only at j1 j2 j3 j4
  subst j4
  obtain ⟨x, y, z, hg⟩ : ∃ x y z, sgn s ere i1 = (x, y, z) := ⟨_, _, _, rfl⟩
  have HG := hid hg
  have E1 : Hid (pCh1 c s ere ⟨i, n, g, d1⟩ = if x ≠ 9 then ⟨r, 0, ⟨i1, n1, g1, d1⟩⟩ else pChL c s ere (s.size + 1) [r] ⟨i1, n1, g1, d1⟩) := by
   show _ = _
   rw [E0.out]
   rw [hg]
   by_cases h9 : x ≠ 9
   ·
    rw [if_pos (Or.inr h9), if_pos h9]
   ·
    rw [if_neg (by simp; omega), if_neg h9]
  clear hg
  go_wp2_with fail
  refine (sign_any s ere i1 n1 g1 d1 P _ R2.out ho1 hs).mono ?_
  rintro e W3 ⟨rfl, k3⟩
  rw [HG.out, sg3]
  have R3 := hid (R2.out.kp k3)
  have A3 := hid (bl_kp A2.out k3)
  have I3 := hid (I2.out.kp k3)
  have J3 := hid (J2.out.kp k3)
  have B3 := hid (bl_kp B2.out k3)
  have K3 := hid (K2.out.kpt k3 hP)
  have hs3 := k3.size
  clear k3 R2 A2 I2 J2 B2 K2
  by_cases h9 : x = 9
  ·
   subst h9
   have E2 : Hid (pChL c s ere (s.size + 1) [r] ⟨i1, n1, g1, d1⟩ = pCh1 c s ere ⟨i, n, g, d1⟩) := by show _ = _; rw [E1.out]; rfl
   obtain ⟨a0, a1, a2, a3, a4, a5, a6, a7, a8⟩ := cells9c A3.out
   go_wp2_with fail
   clear a0 a1 a2 a3 a4 a5 a6 a7 a8
   go_loopg [5, 6] (s.size + 1) (fun k v5 v wr => v5 = .int .i64 0 ∧ ∃ (ks : List Rx) (t : St), Cw c s ere P W1.heap.size w ⟨i, n, g, d1⟩ k v wr ks t)
   case atStart =>
    refine ⟨rfl, [r], ⟨i1, n1, g1, d1⟩, RK.single kk mn mx mm tt ad ll cc J3.out (by omega) ⟨by omega, by omega⟩, R3.out.kp ((Kp.refl _).alloc _), ho1, j2, j3, rfl, by show s.size < s.size + 1 + i1; omega, by simp, E2.out, ⟨_, _, _, _, _, _, _, _, bl_alloc A3.out _⟩, bl_alloc B3.out _, K3.out.kpt ((Kp.refl _).alloc _) hP⟩
   case round =>
    obtain ⟨rfl, ks, ⟨i2, n2, g2, d2⟩, hcw⟩ := hrel
    have CW := hid hcw
    have hi2 : i2 ≤ s.size := hcw.i
    have hn2 : n2 ≤ 3 * i2 + 2 := hcw.n
    have hg2 : g2 ≤ i2 := hcw.g
    have hd2 : d2 = d1 := hcw.d
    have hf : s.size < gk + i2 := hcw.f
    have hlen : ks.length ≤ i2 + 1 := hcw.len
    have hA := bl_lt hcw.a.choose_spec.choose_spec.choose_spec.choose_spec.choose_spec.choose_spec.choose_spec.choose_spec
    subst hd2
    obtain ⟨k, rfl⟩ : ∃ k, gk = k + 1 := ⟨gk - 1, by omega⟩
    clear hcw R3 A3 I3 J3 B3 K3 E2
    obtain ⟨x, y, z, hg⟩ : ∃ x y z, sgn s ere i2 = (x, y, z) := ⟨_, _, _, rfl⟩
    have HG2 := hid hg
    clear hg
    go_wp2_with fail
    refine (sign_any s ere i2 n2 g2 d2 P _ CW.out.rd hi2 hs).mono ?_
    rintro e V4 ⟨rfl, k4⟩
    rw [HG2.out, sg3]
    have R4 := hid (CW.out.rd.kp k4)
    have L4 := hid (CW.out.kids.kp k4)
    have A4 : Hid (∃ k mn mx m t ad l c, V4.heap[W1.heap.size]? = some (rxo k mn mx m t (.slice ad l c))) := by
     obtain ⟨q1, q2, q3, q4, q5, q6, q7, q8, hq⟩ := CW.out.a
     exact ⟨q1, q2, q3, q4, q5, q6, q7, q8, bl_kp hq k4⟩
    have B4 := hid (bl_kp CW.out.b k4)
    have K4 := hid (CW.out.ks.kpt k4 hP)
    have EQ := hid CW.out.eq
    have hs4 := k4.size
    have hs4' : w.heap.size < V4.heap.size := bl_lt B4.out
    clear k4 CW
    by_cases x9 : x = 9
    ·
     subst x9
     have hlt : i2 < s.size := sgn_lt HG2.out hi2 (by omega)
     have gi : IntKind.i64.wrap ((i2 : Int) + 1) = (i2 : Int) + 1 := by rw [IntKind.wrap_i64]; omega
     obtain ⟨q1, q2, q3, q4, q5, q6, q7, q8, hq⟩ := A4.out
     have A4' := hid hq
     clear hq A4
     have p2 := R4.out.cells.2.2.1
     have fp2 := bl_frozen R4.out.b 2
     go_upto_region 7 with fail
     refine opq (fun W5 => Rd W5 P s ere (i2 + 1) n2 g2 d2 ∧ RK (fun b => w.heap.size + 1 ≤ b ∧ b ≠ W1.heap.size) (w.heap.size + 1) W5 u6 ks ∧ W5.heap[W1.heap.size]? = some (rxo q1 q2 q3 q4 q5 (.slice q6 q7 q8)) ∧ W5.heap[w.heap.size]? = some rzo ∧ Ks P w W5) ⟨by exact R4.out.at (i2 + 1), by exact L4.out.ks ((Ks.refl _ _).set 2 _) (fun _ hb => by omega), by exact bl_set A4'.out (by omega) _, by exact bl_set B4.out (by omega) _, by exact K4.out.set 2 _⟩ ?_
     rintro W5 ⟨xR5, xL5, xA5, xB5, xK5⟩
     have R5 : Hid (Rd W5 P s ere (i2 + 1) n2 g2 d2) := xR5
     have L5 : Hid (RK (fun b => w.heap.size + 1 ≤ b ∧ b ≠ W1.heap.size) (w.heap.size + 1) W5 u6 ks) := xL5
     have A5 : Hid (W5.heap[W1.heap.size]? = some (rxo q1 q2 q3 q4 q5 (.slice q6 q7 q8))) := xA5
     have B5 : Hid (W5.heap[w.heap.size]? = some rzo) := xB5
     have K5 : Hid (Ks P w W5) := xK5
     clear xR5 xL5 xA5 xB5 xK5
     have hs5 : W1.heap.size < W5.heap.size := bl_lt A5.out
     have hs5' : w.heap.size < W5.heap.size := bl_lt B5.out
     clear p2 fp2 R4 L4 A4' B4 K4
     have hinv : Inv s ⟨i2 + 1, n2, g2, d2⟩ := ⟨hlt, by show n2 ≤ 3 * (i2 + 1) + 1; omega, by show g2 ≤ i2 + 1; omega⟩
     obtain ⟨o, ho⟩ : ∃ o, pRow c s ere ⟨i2 + 1, n2, g2, d2⟩ = o := ⟨_, rfl⟩
     have hgood := pRow_good (ere := ere) HGd hinv
     have RA := hid (row_any c D s ere (i2 + 1) n2 g2 d2 P W5 HC HGd R5.out hinv hD hs)
     rw [ho] at hgood RA
     have HGO2 := hid hgood
     have E3 : Hid (pCh1 c s ere ⟨i, n, g, d2⟩ = if o.e ≠ 0 then ⟨rx0, o.e, o.st⟩ else pChL c s ere k (keepL o.st.n ks o.r) o.st) := by
      have := EQ.out
      unfold pChL at this
      rw [HG2.out] at this
      rw [if_pos rfl, ho] at this
      exact this.symm
     clear ho hgood hinv
     obtain ⟨r5, er5, ⟨i5, n5, g5, d5⟩⟩ := o
     go_wp2_with fail
     refine RA.out.mono ?_
     rintro e W6 ⟨⟨v, rfl, rr⟩⟩
     obtain ⟨kx, mn', mx', mm', tt', ad', ll', cc', rfl⟩ := rr.is.form
     have hs6 := rr.ks.size
     have R6 : Hid (Rd W6 P s ere i5 n5 g5 d5) := rr.rd
     have OWN : Hid (∀ b, u6.ownBlock = some b → (w.heap.size + 1 ≤ b ∧ b ≠ W1.heap.size) ∧ b < W5.heap.size) := L5.out.block
     have I6 : Hid (Is W6 (fun b => (w.heap.size + 1 ≤ b ∧ b ≠ W1.heap.size) ∧ u6.ownBlock ≠ some b) r5 (rxv kx mn' mx' mm' tt' (.slice ad' ll' cc'))) := rr.is.weak (fun b hb _ => ⟨⟨by omega, by omega⟩, fun he => by have := OWN.out b he; omega⟩)
     have L6 := hid (L5.out.ks rr.ks (fun _ hb => by omega))
     have A6 := hid (bl_ks A5.out (by omega) rr.ks)
     have B6 := hid (bl_ks B5.out (by omega) rr.ks)
     have K6 := hid (K5.out.trans rr.ks)
     clear rr R5 L5 A5 B5 K5 RA
     dsimp only
     obtain ⟨a0, fa0, a1, fa1, a2, fa2, a3, fa3, a4, fa4, a5, fa5, a6, fa6, a7, fa7, a8, fa8⟩ := cells9 A6.out
     go_upto_region 8 with fail
     clear a0 fa0 a1 fa1 a2 fa2 a3 fa3 a4 fa4 a5 fa5 a6 fa6 a7 fa7 a8 fa8
     refine opq (fun W7 => Rd W7 P s ere i5 n5 g5 d5 ∧ RK (fun b => w.heap.size + 1 ≤ b ∧ b ≠ W1.heap.size) (w.heap.size + 1) W7 u6 ks ∧ W7.heap[W1.heap.size]? = some (rxo kx mn' mx' mm' tt' (.slice ad' ll' cc')) ∧ W7.heap[w.heap.size]? = some rzo ∧ Is W7 (fun b => (w.heap.size + 1 ≤ b ∧ b ≠ W1.heap.size) ∧ u6.ownBlock ≠ some b) r5 (rxv kx mn' mx' mm' tt' (.slice ad' ll' cc')) ∧ Ks P w W7) ⟨by exact R6.out.ks (ks_set9 _ _ _ _ _ _ _ _ _) (by omega) (by omega), by exact L6.out.ks (ks_set9 _ _ _ _ _ _ _ _ _) (fun _ hb => by omega), by exact bl_set9 A6.out _ _ _ _ _ _ _ _ _, by exact bl_ks B6.out (by omega) (ks_set9 _ _ _ _ _ _ _ _ _), by exact I6.out.ks (ks_set9 _ _ _ _ _ _ _ _ _) (fun _ hb _ => by omega), by exact K6.out.off (ks_set9 _ _ _ _ _ _ _ _ _) (by omega) hP⟩ ?_
     rintro W7 ⟨xR7, xL7, xA7, xB7, xI7, xK7⟩
     have R7 : Hid (Rd W7 P s ere i5 n5 g5 d5) := xR7
     have L7 : Hid (RK (fun b => w.heap.size + 1 ≤ b ∧ b ≠ W1.heap.size) (w.heap.size + 1) W7 u6 ks) := xL7
     have A7 : Hid (W7.heap[W1.heap.size]? = some (rxo kx mn' mx' mm' tt' (.slice ad' ll' cc'))) := xA7
     have B7 : Hid (W7.heap[w.heap.size]? = some rzo) := xB7
     have I7 : Hid (Is W7 (fun b => (w.heap.size + 1 ≤ b ∧ b ≠ W1.heap.size) ∧ u6.ownBlock ≠ some b) r5 (rxv kx mn' mx' mm' tt' (.slice ad' ll' cc'))) := xI7
     have K7 : Hid (Ks P w W7) := xK7
     clear xR7 xL7 xA7 xB7 xI7 xK7
     have hs7 : W1.heap.size < W7.heap.size := bl_lt A7.out
     have hs7' : w.heap.size < W7.heap.size := bl_lt B7.out
     clear R6 L6 A6 B6 I6 K6
     by_cases he : er5 = 0
     ·
      subst he
      obtain ⟨m1, m2, m3, m4⟩ := HGO2.out.ok rfl
      simp only at m1 m2 m3 m4
      have m0 : i5 ≤ s.size := HGO2.out.le
      have E4 : Hid (pChL c s ere k (keepL n5 ks r5) ⟨i5, n5, g5, d5⟩ = pCh1 c s ere ⟨i, n, g, d2⟩) := by show _ = _; rw [E3.out]; rfl
      obtain ⟨a0, a1, a2, a3, a4, a5, a6, a7, a8⟩ := cells9c A7.out
      go_wp2_with fail
      refine (keep_rk (fun b => w.heap.size + 1 ≤ b ∧ b ≠ W1.heap.size) (w.heap.size + 1) u6 ks r5 kx mn' mx' mm' tt' ad' ll' cc' s ere i5 n5 g5 d5 P _ R7.out L7.out I7.out (fun _ hb => ⟨by omega, by omega⟩) (by omega) (by omega)).mono ?_
      rintro e W8 ⟨v', rfl, l8, g8⟩
      have R8 := hid (R7.out.grown g8 (fun he => by have := OWN.out P he; omega) (fun he => by have := OWN.out 0 he; omega))
      have L8 := hid l8
      have A8 := hid (bl_grown A7.out g8 (fun he => by have := OWN.out _ he; omega))
      have B8 := hid (bl_grown B7.out g8 (fun he => by have := OWN.out _ he; omega))
      have K8 := hid (K7.out.grown g8 (fun k hk => by have := OWN.out k hk; omega) hP)
      clear l8 g8 R7 A7 I7 L7 B7 K7 a0 a1 a2 a3 a4 a5 a6 a7 a8
      have HL : Hid ((keepL n5 ks r5).length ≤ i5 + 1) := by
       show _ ≤ _
       unfold keepL
       split
       ·
        omega
       ·
        simp; omega
      go_wp2_with fail
      go_roundg k
      case measure => omega
      case rel => exact ⟨rfl, _, ⟨i5, n5, g5, d5⟩, L8.out, R8.out, m0, m2, m3, m4, by show s.size < k + i5; omega, HL.out, E4.out, ⟨_, _, _, _, _, _, _, _, A8.out⟩, B8.out, K8.out⟩
     ·
      have ge : ((er5 : Int) != 0) = true := by simp; omega
      have E : Hid (pCh1 c s ere ⟨i, n, g, d2⟩ = ⟨rx0, er5, ⟨i5, n5, g5, d5⟩⟩) := by show _ = _; rw [E3.out]; exact if_pos he
      obtain ⟨b0, fb0, b1, fb1, b2, fb2, b3, fb3, b4, fb4, b5, fb5, b6, fb6, b7, fb7, b8, fb8⟩ := cells9 B7.out
      go_wp2_with fail
      refine bodyPost_ret (v := .tuple #[rz, .int .i64 (er5 : Int)]) (rx_ret2 rfl _ _ _ _ _ rfl rfl (bl_set9 B7.out _ _ _ _ _ _ _ _ _) rfl) rfl ?_
      rw [E.out]
      exact ⟨_, rfl, Ret.fail R7.out K7.out (ks_set9 _ _ _ _ _ _ _ _ _) hP (Nat.le_refl _)⟩
    ·
     have g9 : ((x : Int) == 9) = false := by simp; omega
     have E : Hid (pCh1 c s ere ⟨i, n, g, d2⟩ = ⟨.mk 3 0 0 0 W4.z ks, 0, ⟨i2, n2 + 1, g2, d2⟩⟩) := by
      have := EQ.out
      unfold pChL at this
      rw [HG2.out] at this
      rw [if_neg x9] at this
      exact this.symm
     obtain ⟨ad9, cap, hv6, hcap⟩ := L4.out.form
     have IS := hid (L4.out.is 3 0 0 0 W4.z)
     subst hv6
     go_wp2_with fail
     refine (node_any0 3 0 0 0 ad9 ks.length cap s ere i2 n2 g2 d2 P _ R4.out (by omega)).mono ?_
     rintro e W9 ⟨rfl, r9, k9⟩
     have R9 := hid r9
     have I9 := hid (IS.out.ks k9 (fun _ hb _ => by omega))
     have B9 := hid (bl_ks B4.out (by omega) k9)
     have K9 := hid (K4.out.trans k9)
     clear r9 k9 R4 L4 A4 B4 K4 IS
     obtain ⟨b0, fb0, b1, fb1, b2, fb2, b3, fb3, b4, fb4, b5, fb5, b6, fb6, b7, fb7, b8, fb8⟩ := cells9 B9.out
     go_wp2_with fail
     refine bodyPost_ret (v := .tuple #[rxv 3 0 0 0 W4.z (.slice ad9 ks.length cap), .int .i64 0]) (rx_ret2 rfl _ _ _ _ _ rfl rfl (bl_set9 B9.out _ _ _ _ _ _ _ _ _) rfl) rfl ?_
     rw [E.out]
     exact ⟨_, rfl, Ret.fin (I9.out.weak (fun _ hb _ => ⟨by omega, by omega⟩)) R9.out K9.out (ks_set9 _ _ _ _ _ _ _ _ _) hP (Nat.le_refl _)⟩
  ·
   have g9 : ((x : Int) != 9) = true := by simp; omega
   have E : Hid (pCh1 c s ere ⟨i, n, g, d1⟩ = ⟨r, 0, ⟨i1, n1, g1, d1⟩⟩) := by show _ = _; rw [E1.out, if_pos h9]
   obtain ⟨a0, a1, a2, a3, a4, a5, a6, a7, a8⟩ := cells9c A3.out
   obtain ⟨b0, fb0, b1, fb1, b2, fb2, b3, fb3, b4, fb4, b5, fb5, b6, fb6, b7, fb7, b8, fb8⟩ := cells9 B3.out
   go_wp2_with fail
   refine bodyPost_ret (v := .tuple #[rxv kk mn mx mm tt (.slice ad ll cc), .int .i64 0]) (rx_ret2 rfl _ _ _ _ _ rfl rfl (bl_set9 B3.out _ _ _ _ _ _ _ _ _) rfl) rfl ?_
   rw [E.out]
   exact ⟨_, rfl, Ret.fin I3.out R3.out K3.out (ks_set9 _ _ _ _ _ _ _ _ _) hP (Nat.le_refl _)⟩
 ·
  have ge : ((er : Int) != 0) = true := by simp; omega
  have E : Hid (pCh1 c s ere ⟨i, n, g, d⟩ = ⟨r, er, ⟨i1, n1, g1, d1⟩⟩) := by show _ = _; rw [E0.out, if_pos (Or.inl he)]
  obtain ⟨a0, a1, a2, a3, a4, a5, a6, a7, a8⟩ := cells9c A2.out
  obtain ⟨b0, fb0, b1, fb1, b2, fb2, b3, fb3, b4, fb4, b5, fb5, b6, fb6, b7, fb7, b8, fb8⟩ := cells9 B2.out
  go_wp2_with fail
  refine bodyPost_ret (v := .tuple #[rxv kk mn mx mm tt (.slice ad ll cc), .int .i64 (er : Int)]) (rx_ret2 rfl _ _ _ _ _ rfl rfl (bl_set9 B2.out _ _ _ _ _ _ _ _ _) rfl) rfl ?_
  rw [E.out]
  exact ⟨_, rfl, Ret.fin I2.out R2.out K2.out (ks_set9 _ _ _ _ _ _ _ _ _) hP (Nat.le_refl _)⟩
end Go.Proofs.YtikmgckefbjbkaaGreatDoor

/-! ### Parse -/

namespace Go.Proofs.YtikmgckefbjbkaaGreatDoor
open Go.RowKit

theorem choice_all (s : ByteArray) (ere : Bool) (hs : s.size ≤ 1000000) : ∀ D, ChSaid (pCh s ere D) s ere D
 | 0 => ⟨fun i n g d P w h hv hD h6 => absurd hD (by omega)⟩
 | D + 1 => ⟨fun i n g d P w h hv hD _ => choice_any (pCh s ere D) D s ere i n g d P w (choice_all s ere hs D) (pCh_good s ere D) h hv (by omega) hs⟩

set_option maxHeartbeats 2000000 in
set_option maxRecDepth 100000 in
theorem whole_any (s : ByteArray) (ere : Bool) (P : Nat) (w : World) (h : Rd w P s ere 0 0 0 0) (hs : s.size ≤ 1000000) :
  Calls Tryz.prog 25 #[.pointer (some ⟨P, 0, none⟩)] w fun e w' => RetE w P s ere (pWhole s ere) e w' := by
 have R : Hid (Rd w P s ere 0 0 0 0) := h
 have hP : P < w.heap.size := h.lt
 clear h
 have hinv : Inv s ⟨0, 0, 0, 0⟩ := ⟨Nat.zero_le _, by show 0 ≤ 3 * 0 + 1; omega, Nat.le_refl _⟩
 obtain ⟨o, ho⟩ : ∃ o, pCh s ere 7 ⟨0, 0, 0, 0⟩ = o := ⟨_, rfl⟩
 have hgood := (pCh_good s ere 7).all _ hinv
 have CA : Hid (∀ w, Rd w P s ere 0 0 0 0 → Calls Tryz.prog 35 #[.pointer (some ⟨P, 0, none⟩)] w fun e w' => RetE w P s ere o e w') := by
  intro w h
  have := (choice_all s ere hs 7).all 0 0 0 0 P w h hinv rfl (by omega)
  rw [ho] at this
  exact this
 have E0 : Hid (pWhole s ere = if o.e ≠ 0 then ⟨rx0, o.e, o.st⟩ else if o.st.i < s.size then ⟨rx0, 1, o.st⟩ else if o.st.n > 40 ∨ o.st.g > 3 then ⟨rx0, 4, o.st⟩ else o) := by
  show _ = _
  unfold pWhole
  rw [ho]
 rw [ho] at hgood
 have ho1 : o.st.i ≤ s.size := hgood.1
 clear ho hgood hinv
 obtain ⟨r, er, ⟨i, n, g, d⟩⟩ := o
 simp only at ho1
 go_enter Tryz.func25, Tryz.ntmps25
 go_upto_region 1 with fail
 refine opq (fun W0 => Rd W0 P s ere 0 0 0 0 ∧ W0.heap[w.heap.size]? = some rzo ∧ Ks P w W0) ⟨by exact R.out.kp (by repeat (first | exact Kp.refl _ | refine Kp.alloc ?_ _ | refine Kp.drew ?_ | refine Kp.drewN _ ?_)), by (first | exact last_at _ _ _ (by simp) | (refine bl_alloc ?_ _; first | exact last_at _ _ _ (by simp) | (refine bl_alloc ?_ _; first | exact last_at _ _ _ (by simp) | (refine bl_alloc ?_ _; exact last_at _ _ _ (by simp))))), by exact (Kp.ks (by repeat (first | exact Kp.refl _ | refine Kp.alloc ?_ _ | refine Kp.drew ?_ | refine Kp.drewN _ ?_)) (Nat.le_of_lt hP))⟩ ?_
 rintro W0 ⟨xR0, xB0, xK0⟩
 have R0 : Hid (Rd W0 P s ere 0 0 0 0) := xR0
 have B0 : Hid (W0.heap[w.heap.size]? = some rzo) := xB0
 have K0 : Hid (Ks P w W0) := xK0
 clear xR0 xB0 xK0
 clear R
 have hs0 : w.heap.size < W0.heap.size := bl_lt B0.out
 go_wp2_with fail
 refine (CA.out _ R0.out).mono ?_
 rintro e W1 ⟨⟨v, rfl, rr⟩⟩
 obtain ⟨kk, mn, mx, mm, tt, ad, ll, cc, rfl⟩ := rr.is.form
 have hs1 := rr.ks.size
 have R1 : Hid (Rd W1 P s ere i n g d) := rr.rd
 have I1 : Hid (Is W1 (fun b => W0.heap.size ≤ b) r (rxv kk mn mx mm tt (.slice ad ll cc))) := rr.is
 have B1 := hid (bl_ks B0.out (by omega) rr.ks)
 have K1 := hid (K0.out.trans rr.ks)
 clear rr R0 B0 K0 CA
 dsimp only
 go_upto_region 2 with fail
 refine opq (fun W2 => Rd W2 P s ere i n g d ∧ W2.heap[W1.heap.size]? = some (rxo kk mn mx mm tt (.slice ad ll cc)) ∧ Is W2 (fun b => w.heap.size ≤ b ∧ b ≠ w.heap.size) r (rxv kk mn mx mm tt (.slice ad ll cc)) ∧ W2.heap[w.heap.size]? = some rzo ∧ Ks P w W2) ⟨by exact R1.out.kp (by repeat (first | exact Kp.refl _ | refine Kp.alloc ?_ _ | refine Kp.drew ?_ | refine Kp.drewN _ ?_)), by (first | exact last_at _ _ _ (by simp) | (refine bl_alloc ?_ _; first | exact last_at _ _ _ (by simp) | (refine bl_alloc ?_ _; first | exact last_at _ _ _ (by simp) | (refine bl_alloc ?_ _; exact last_at _ _ _ (by simp))))), by exact (I1.out.weak (ok' := fun b => w.heap.size ≤ b ∧ b ≠ w.heap.size) (fun _ hb _ => ⟨by omega, by omega⟩)).kp (by repeat (first | exact Kp.refl _ | refine Kp.alloc ?_ _ | refine Kp.drew ?_ | refine Kp.drewN _ ?_)), by exact bl_kp B1.out (by repeat (first | exact Kp.refl _ | refine Kp.alloc ?_ _ | refine Kp.drew ?_ | refine Kp.drewN _ ?_)), by exact K1.out.kpt (by repeat (first | exact Kp.refl _ | refine Kp.alloc ?_ _ | refine Kp.drew ?_ | refine Kp.drewN _ ?_)) hP⟩ ?_
 rintro W2 ⟨xR2, xA2, xI2, xB2, xK2⟩
 have R2 : Hid (Rd W2 P s ere i n g d) := xR2
 have A2 : Hid (W2.heap[W1.heap.size]? = some (rxo kk mn mx mm tt (.slice ad ll cc))) := xA2
 have I2 : Hid (Is W2 (fun b => w.heap.size ≤ b ∧ b ≠ w.heap.size) r (rxv kk mn mx mm tt (.slice ad ll cc))) := xI2
 have B2 : Hid (W2.heap[w.heap.size]? = some rzo) := xB2
 have K2 : Hid (Ks P w W2) := xK2
 clear xR2 xA2 xI2 xB2 xK2
 clear R1 I1 B1 K1
 by_cases he : er = 0
 ·
  subst he
  obtain ⟨lt, hlt⟩ : ∃ lt, decide (i < s.size) = lt := ⟨_, rfl⟩
  have HLT := hid hlt
  go_upto_region 4 with fail
  go_cut [16] (fun v wc => v = .bool lt ∧ Kp W2 wc)
  case first =>
   have Q0 : Kp W2 W2.drew := (Kp.refl _).drew
   have MK : Hid (∀ W, Kp W2 W → W.cell? ⟨P, 0, none⟩ = some (.string s) ∧ W.cell? ⟨P, 2, none⟩ = some (.int .i64 (i : Int)) ∧ Hid (Kp W2 W)) := fun W k => ⟨(R2.out.kp k).cells.1, (R2.out.kp k).cells.2.2.1, k⟩
   refine wp_region_noPanic ?_
   refine wp_region_held_drew (S := (fun W => W.cell? ⟨P, 0, none⟩ = some (.string s) ∧ W.cell? ⟨P, 2, none⟩ = some (.int .i64 (i : Int)) ∧ Hid (Kp W2 W))) (by kernel_rfl) ?_ (fun hH => ?_)
   ·
    exact MK.out _ Q0
   have KQ := Q0
   refine wpAnyH_take (i := 0) (oi := { dst := some 17, op := Op.move (Operand.tmp 0), type := 77, pos := "parse.go:35", after := #[], guard := none }) (v := ?v0a1) rfl (by kernel_rfl) (by kernel_rfl) (by kernel_rfl) (fun _ _ _ h => h) (Or.inl ⟨by rfl, ?hy0a1⟩) hH ?r0a1
   case hy0a1 => (intro W hSw; (try dsimp only at hSw); go_simp; try (with_reducible rfl))
   try simp only [Act.put, List.setIfInBounds_toArray, List.set_cons_zero, List.set_cons_succ]
   refine wpAnyH_take (i := 1) (oi := { dst := some 18, op := Op.nilCheck (Operand.tmp 17), type := 0, pos := "parse.go:35", after := #[{ on := 0, ground := Ground.data }], guard := none }) (v := ?v1a2) rfl (by kernel_rfl) (by kernel_rfl) (by kernel_rfl) (fun _ _ _ h => h) (Or.inl ⟨by rfl, ?hy1a2⟩) hH ?r1a2
   case hy1a2 => (intro W hSw; (try dsimp only at hSw); go_simp; try (with_reducible rfl))
   try simp only [Act.put, List.setIfInBounds_toArray, List.set_cons_zero, List.set_cons_succ]
   refine wpAnyH_take (i := 2) (oi := { dst := some 19, op := Op.fieldAddr 55 (Operand.tmp 18) 2, type := 0, pos := "parse.go:35", after := #[{ on := 1, ground := Ground.data }], guard := none }) (v := ?v2a3) rfl (by kernel_rfl) (by kernel_rfl) (by kernel_rfl) (fun _ _ _ h => h) (Or.inl ⟨by rfl, ?hy2a3⟩) hH ?r2a3
   case hy2a3 => (intro W hSw; (try dsimp only at hSw); go_simp; try (with_reducible rfl))
   try simp only [Act.put, List.setIfInBounds_toArray, List.set_cons_zero, List.set_cons_succ]
   refine wpAnyH_take (i := 3) (oi := { dst := some 20, op := Op.load 3 (Operand.tmp 19), type := 3, pos := "parse.go:35", after := #[{ on := 2, ground := Ground.data }], guard := none }) (v := ?v3a4) rfl (by kernel_rfl) (by kernel_rfl) (by kernel_rfl) (fun _ _ _ h => h) (Or.inl ⟨by rfl, ?hy3a4⟩) hH ?r3a4
   case hy3a4 => (intro W hSw; (try dsimp only at hSw); go_simp; try (with_reducible rfl))
   try simp only [Act.put, List.setIfInBounds_toArray, List.set_cons_zero, List.set_cons_succ]
   refine wpAnyH_take (i := 4) (oi := { dst := some 21, op := Op.move (Operand.tmp 0), type := 77, pos := "parse.go:35", after := #[], guard := none }) (v := ?v4a5) rfl (by kernel_rfl) (by kernel_rfl) (by kernel_rfl) (fun _ _ _ h => h) (Or.inl ⟨by rfl, ?hy4a5⟩) hH ?r4a5
   case hy4a5 => (intro W hSw; (try dsimp only at hSw); go_simp; try (with_reducible rfl))
   try simp only [Act.put, List.setIfInBounds_toArray, List.set_cons_zero, List.set_cons_succ]
   refine wpAnyH_take (i := 5) (oi := { dst := some 22, op := Op.nilCheck (Operand.tmp 21), type := 0, pos := "parse.go:35", after := #[{ on := 4, ground := Ground.data }], guard := none }) (v := ?v5a6) rfl (by kernel_rfl) (by kernel_rfl) (by kernel_rfl) (fun _ _ _ h => h) (Or.inl ⟨by rfl, ?hy5a6⟩) hH ?r5a6
   case hy5a6 => (intro W hSw; (try dsimp only at hSw); go_simp; try (with_reducible rfl))
   try simp only [Act.put, List.setIfInBounds_toArray, List.set_cons_zero, List.set_cons_succ]
   refine wpAnyH_take (i := 6) (oi := { dst := some 23, op := Op.fieldAddr 55 (Operand.tmp 22) 0, type := 0, pos := "parse.go:35", after := #[{ on := 5, ground := Ground.data }], guard := none }) (v := ?v6a7) rfl (by kernel_rfl) (by kernel_rfl) (by kernel_rfl) (fun _ _ _ h => h) (Or.inl ⟨by rfl, ?hy6a7⟩) hH ?r6a7
   case hy6a7 => (intro W hSw; (try dsimp only at hSw); go_simp; try (with_reducible rfl))
   try simp only [Act.put, List.setIfInBounds_toArray, List.set_cons_zero, List.set_cons_succ]
   refine wpAnyH_take (i := 7) (oi := { dst := some 24, op := Op.load 9 (Operand.tmp 23), type := 9, pos := "parse.go:35", after := #[{ on := 6, ground := Ground.data }], guard := none }) (v := ?v7a8) rfl (by kernel_rfl) (by kernel_rfl) (by kernel_rfl) (fun _ _ _ h => h) (Or.inl ⟨by rfl, ?hy7a8⟩) hH ?r7a8
   case hy7a8 => (intro W hSw; (try dsimp only at hSw); go_simp; try (with_reducible rfl))
   try simp only [Act.put, List.setIfInBounds_toArray, List.set_cons_zero, List.set_cons_succ]
   refine wpAnyH_take (i := 8) (oi := { dst := some 25, op := Op.call { callee := Callee.builtin Builtin.len, args := #[Operand.tmp 24], argTypes := #[9] }, type := 3, pos := "parse.go:35", after := #[{ on := 7, ground := Ground.data }], guard := none }) (v := ?v8a9) rfl (by kernel_rfl) (by kernel_rfl) (by kernel_rfl) (fun _ _ _ h => h) (Or.inl ⟨by rfl, ?hy8a9⟩) hH ?r8a9
   case hy8a9 => (intro W hSw; (try dsimp only at hSw); go_simp; try (with_reducible rfl))
   try simp only [Act.put, List.setIfInBounds_toArray, List.set_cons_zero, List.set_cons_succ]
   refine wpAnyH_take (i := 9) (oi := { dst := some 26, op := Op.binOp BinOp.lss 3 (Operand.tmp 20) (Operand.tmp 25) 3, type := 4, pos := "parse.go:35", after := #[{ on := 3, ground := Ground.data }, { on := 8, ground := Ground.data }], guard := none }) (v := ?v9a10) rfl (by kernel_rfl) (by kernel_rfl) (by kernel_rfl) (fun _ _ _ h => h) (Or.inl ⟨by rfl, ?hy9a10⟩) hH ?r9a10
   case hy9a10 => (intro W hSw; (try dsimp only at hSw); go_simp; try (with_reducible rfl))
   try simp only [Act.put, List.setIfInBounds_toArray, List.set_cons_zero, List.set_cons_succ]
   refine wpAnyH_take (i := 10) (oi := { dst := some 16, op := Op.assign (Operand.tmp 26), type := 4, pos := "parse.go:35", after := #[{ on := 9, ground := Ground.data }], guard := none }) (v := ?v10a11) rfl (by kernel_rfl) (by kernel_rfl) (by kernel_rfl) (fun _ _ _ h => h) (Or.inl ⟨by rfl, ?hy10a11⟩) hH ?r10a11
   case hy10a11 => (intro W hSw; (try dsimp only at hSw); go_simp; try (with_reducible rfl))
   try simp only [Act.put, List.setIfInBounds_toArray, List.set_cons_zero, List.set_cons_succ]
   refine wpAnyH_done (by kernel_rfl) ?_ _
   refine NoPanic.normal ?_
   go_wp2_with fail
   go_meet
   case rel => exact ⟨rfl, KQ⟩
  case rest =>
   obtain ⟨rfl, k3⟩ := hcut
   rename World => W3
   have R3 := hid (R2.out.kp k3)
   have A3 := hid (bl_kp A2.out k3)
   have I3 := hid (I2.out.kp k3)
   have B3 := hid (bl_kp B2.out k3)
   have K3 := hid (K2.out.kpt k3 hP)
   clear k3 R2 A2 I2 B2 K2 hlt
   have p3 := R3.out.cells.2.2.2.1
   have p4 := R3.out.cells.2.2.2.2.1
   cases lt with
   | true =>
    have h1 : i < s.size := by have := HLT.out; simp at this; omega
    have E : Hid (pWhole s ere = ⟨rx0, 1, ⟨i, n, g, d⟩⟩) := by show _ = _; rw [E0.out]; rw [if_neg (by omega), if_pos h1]
    obtain ⟨b0, fb0, b1, fb1, b2, fb2, b3, fb3, b4, fb4, b5, fb5, b6, fb6, b7, fb7, b8, fb8⟩ := cells9 B3.out
    go_wp2_with fail
    refine bodyPost_ret (v := .tuple #[rz, .int .i64 1]) (rx_ret2 rfl _ _ _ _ _ rfl rfl (bl_set9 B3.out _ _ _ _ _ _ _ _ _) rfl) rfl ?_
    rw [E.out]
    exact ⟨_, rfl, Ret.fail R3.out K3.out (ks_set9 _ _ _ _ _ _ _ _ _) hP (Nat.le_refl _)⟩
   | false =>
    have h1 : ¬ i < s.size := by have := HLT.out; simp at this; omega
    by_cases hn : n > 40
    ·
     have gn : (40 : Int) < (n : Int) := by omega
     have E : Hid (pWhole s ere = ⟨rx0, 4, ⟨i, n, g, d⟩⟩) := by show _ = _; rw [E0.out]; rw [if_neg (by omega), if_neg h1, if_pos (Or.inl hn)]
     obtain ⟨b0, fb0, b1, fb1, b2, fb2, b3, fb3, b4, fb4, b5, fb5, b6, fb6, b7, fb7, b8, fb8⟩ := cells9 B3.out
     go_wp2_with fail
     refine bodyPost_ret (v := .tuple #[rz, .int .i64 4]) (rx_ret2 rfl _ _ _ _ _ rfl rfl (bl_set9 B3.out _ _ _ _ _ _ _ _ _) rfl) rfl ?_
     rw [E.out]
     exact ⟨_, rfl, Ret.fail R3.out K3.out (ks_set9 _ _ _ _ _ _ _ _ _) hP (Nat.le_refl _)⟩
    have gn : ¬ (40 : Int) < (n : Int) := by omega
    by_cases hg : g > 3
    ·
     have gg : (3 : Int) < (g : Int) := by omega
     have E : Hid (pWhole s ere = ⟨rx0, 4, ⟨i, n, g, d⟩⟩) := by show _ = _; rw [E0.out]; rw [if_neg (by omega), if_neg h1, if_pos (Or.inr hg)]
     obtain ⟨b0, fb0, b1, fb1, b2, fb2, b3, fb3, b4, fb4, b5, fb5, b6, fb6, b7, fb7, b8, fb8⟩ := cells9 B3.out
     go_wp2_with fail
     refine bodyPost_ret (v := .tuple #[rz, .int .i64 4]) (rx_ret2 rfl _ _ _ _ _ rfl rfl (bl_set9 B3.out _ _ _ _ _ _ _ _ _) rfl) rfl ?_
     rw [E.out]
     exact ⟨_, rfl, Ret.fail R3.out K3.out (ks_set9 _ _ _ _ _ _ _ _ _) hP (Nat.le_refl _)⟩
    have gg : ¬ (3 : Int) < (g : Int) := by omega
    have E : Hid (pWhole s ere = ⟨r, 0, ⟨i, n, g, d⟩⟩) := by show _ = _; rw [E0.out]; rw [if_neg (by omega), if_neg h1, if_neg (by omega)]
    obtain ⟨a0, a1, a2, a3, a4, a5, a6, a7, a8⟩ := cells9c A3.out
    obtain ⟨b0, fb0, b1, fb1, b2, fb2, b3, fb3, b4, fb4, b5, fb5, b6, fb6, b7, fb7, b8, fb8⟩ := cells9 B3.out
    go_wp2_with fail
    refine bodyPost_ret (v := .tuple #[rxv kk mn mx mm tt (.slice ad ll cc), .int .i64 0]) (rx_ret2 rfl _ _ _ _ _ rfl rfl (bl_set9 B3.out _ _ _ _ _ _ _ _ _) rfl) rfl ?_
    rw [E.out]
    exact ⟨_, rfl, Ret.fin I3.out R3.out K3.out (ks_set9 _ _ _ _ _ _ _ _ _) hP (Nat.le_refl _)⟩
 ·
  have ge : ((er : Int) != 0) = true := by simp; omega
  have E : Hid (pWhole s ere = ⟨rx0, er, ⟨i, n, g, d⟩⟩) := by show _ = _; rw [E0.out]; exact if_pos he
  obtain ⟨b0, fb0, b1, fb1, b2, fb2, b3, fb3, b4, fb4, b5, fb5, b6, fb6, b7, fb7, b8, fb8⟩ := cells9 B2.out
  go_wp2_with fail
  refine bodyPost_ret (v := .tuple #[rz, .int .i64 (er : Int)]) (rx_ret2 rfl _ _ _ _ _ rfl rfl (bl_set9 B2.out _ _ _ _ _ _ _ _ _) rfl) rfl ?_
  rw [E.out]
  exact ⟨_, rfl, Ret.fail R2.out K2.out (ks_set9 _ _ _ _ _ _ _ _ _) hP (Nat.le_refl _)⟩

theorem rx_ret3 {fn : Func} {p u x : Tmp} (h : fn.results = #[.cell p 27, .tmp u, .tmp x]) (tmps : Array Value) (w : World) (S : Nat) (cs : Array Value) (a b : Value) (hp : tmps.getD p undef = .pointer (some ⟨S, 0, none⟩)) (hu : tmps.getD u undef = a) (hx : tmps.getD x undef = b) (hA : w.heap[S]? = some (.cells cs 27)) (hc : cs.size = 9) : (results fn tmps).run Tryz.prog w = .ok (.tuple #[.agg cs, a, b]) w := by
 have hl := run_loadVar_row (P := Tryz.prog) w S 27 27 cs (0, 0) _ hA Tryz.underlying27 rfl (by rw [hc]; kernel_rfl)
 have hp' : tmps[p]?.getD undef = .pointer (some ⟨S, 0, none⟩) := by simpa using hp
 have hu' : tmps[u]?.getD undef = a := by simpa using hu
 have hx' : tmps[x]?.getD undef = b := by simpa using hx
 simp [results, h, hp', hu', hx', asAddr, hl]

/-- What Parse leaves. -/
structure Parsed (w : World) (s : ByteArray) (ere : Bool) (e : Ending) (w' : World) : Prop where
 ex : ∃ v, e = .returned (.tuple #[v, .int .i64 ((pParse s ere).2.1 : Nat), .int .i64 ((pParse s ere).2.2 : Nat)]) ∧ Is w' (fun b => w.heap.size ≤ b) (pParse s ere).1 v ∧ Kp w w'

set_option maxHeartbeats 2000000 in
set_option maxRecDepth 100000 in
theorem parse_any (s : ByteArray) (ere : Bool) (w : World) (h0 : ∃ m, w.cell? ⟨0, 0, none⟩ = some (.int .i64 m)) (hs : s.size ≤ 1000000) :
  Calls Tryz.prog 9 #[.string s, .bool ere] w fun e w' => Parsed w s ere e w' := by
 have H0 := hid h0
 have hw : 0 < w.heap.size := by obtain ⟨m, hm⟩ := h0; exact World.block_lt_of_cell? w _ hm
 clear h0
 obtain ⟨o, ho⟩ : ∃ o, pWhole s ere = o := ⟨_, rfl⟩
 have E0 : Hid (pParse s ere = if o.e ≠ 0 then (rx0, o.st.i, o.e) else (o.r, 0, 0)) := by
  show _ = _
  unfold pParse
  rw [ho]
 have WA : Hid (∀ P w, Rd w P s ere 0 0 0 0 → Calls Tryz.prog 25 #[.pointer (some ⟨P, 0, none⟩)] w fun e w' => RetE w P s ere o e w') := by
  intro P w h
  have := whole_any s ere P w h hs
  rw [ho] at this
  exact this
 clear ho
 obtain ⟨r, er, ⟨i, n, g, d⟩⟩ := o
 go_enter Tryz.func9, Tryz.ntmps9
 go_upto_region 2 with fail
 refine opq (fun W0 => Rd W0 (w.heap.size + 1) s ere 0 0 0 0 ∧ W0.heap[w.heap.size]? = some rzo ∧ Kp w W0) ⟨by exact ⟨last_at _ _ _ (by simp), by omega, by obtain ⟨m, hm⟩ := H0.out; exact ⟨m, (Kp.cell (a := w) (by repeat (first | exact Kp.refl _ | refine Kp.alloc ?_ _ | refine Kp.drew ?_ | refine Kp.drewN _ ?_)) hw).trans hm⟩⟩, by (first | exact last_at _ _ _ (by simp) | (refine bl_alloc ?_ _; first | exact last_at _ _ _ (by simp) | (refine bl_alloc ?_ _; first | exact last_at _ _ _ (by simp) | (refine bl_alloc ?_ _; exact last_at _ _ _ (by simp))))), by exact (by repeat (first | exact Kp.refl _ | refine Kp.alloc ?_ _ | refine Kp.drew ?_ | refine Kp.drewN _ ?_))⟩ ?_
 rintro W0 ⟨xR0, xB0, xK0⟩
 have R0 : Hid (Rd W0 (w.heap.size + 1) s ere 0 0 0 0) := xR0
 have B0 : Hid (W0.heap[w.heap.size]? = some rzo) := xB0
 have K0 : Hid (Kp w W0) := xK0
 clear xR0 xB0 xK0
 have hs0 : w.heap.size + 1 < W0.heap.size := R0.out.lt
 go_wp2_with fail
 refine (WA.out (w.heap.size + 1) _ R0.out).mono ?_
 rintro e W1 ⟨⟨v, rfl, rr⟩⟩
 obtain ⟨kk, mn, mx, mm, tt, ad, ll, cc, rfl⟩ := rr.is.form
 have hs1 := rr.ks.size
 have R1 : Hid (Rd W1 (w.heap.size + 1) s ere i n g d) := rr.rd
 have I1 : Hid (Is W1 (fun b => W0.heap.size ≤ b) r (rxv kk mn mx mm tt (.slice ad ll cc))) := rr.is
 have B1 := hid (bl_ks B0.out (by omega) rr.ks)
 have K1 := hid (rr.ks.up K0.out (by omega))
 clear rr R0 B0 K0 WA
 dsimp only
 go_upto_region 3 with fail
 refine opq (fun W2 => Rd W2 (w.heap.size + 1) s ere i n g d ∧ W2.heap[W1.heap.size]? = some (rxo kk mn mx mm tt (.slice ad ll cc)) ∧ Is W2 (fun b => w.heap.size ≤ b ∧ b ≠ w.heap.size) r (rxv kk mn mx mm tt (.slice ad ll cc)) ∧ W2.heap[w.heap.size]? = some rzo ∧ Kp w W2) ⟨by exact R1.out.kp (by repeat (first | exact Kp.refl _ | refine Kp.alloc ?_ _ | refine Kp.drew ?_ | refine Kp.drewN _ ?_)), by (first | exact last_at _ _ _ (by simp) | (refine bl_alloc ?_ _; first | exact last_at _ _ _ (by simp) | (refine bl_alloc ?_ _; first | exact last_at _ _ _ (by simp) | (refine bl_alloc ?_ _; exact last_at _ _ _ (by simp))))), by exact (I1.out.weak (ok' := fun b => w.heap.size ≤ b ∧ b ≠ w.heap.size) (fun _ hb _ => ⟨by omega, by omega⟩)).kp (by repeat (first | exact Kp.refl _ | refine Kp.alloc ?_ _ | refine Kp.drew ?_ | refine Kp.drewN _ ?_)), by exact bl_kp B1.out (by repeat (first | exact Kp.refl _ | refine Kp.alloc ?_ _ | refine Kp.drew ?_ | refine Kp.drewN _ ?_)), by exact K1.out.trans (by repeat (first | exact Kp.refl _ | refine Kp.alloc ?_ _ | refine Kp.drew ?_ | refine Kp.drewN _ ?_))⟩ ?_
 rintro W2 ⟨xR2, xA2, xI2, xB2, xK2⟩
 have R2 : Hid (Rd W2 (w.heap.size + 1) s ere i n g d) := xR2
 have A2 : Hid (W2.heap[W1.heap.size]? = some (rxo kk mn mx mm tt (.slice ad ll cc))) := xA2
 have I2 : Hid (Is W2 (fun b => w.heap.size ≤ b ∧ b ≠ w.heap.size) r (rxv kk mn mx mm tt (.slice ad ll cc))) := xI2
 have B2 : Hid (W2.heap[w.heap.size]? = some rzo) := xB2
 have K2 : Hid (Kp w W2) := xK2
 clear xR2 xA2 xI2 xB2 xK2
 clear R1 I1 B1 K1
 by_cases he : er = 0
 ·
  subst he
  have E : Hid (pParse s ere = (r, 0, 0)) := by show _ = _; rw [E0.out]; rfl
  obtain ⟨a0, a1, a2, a3, a4, a5, a6, a7, a8⟩ := cells9c A2.out
  obtain ⟨b0, fb0, b1, fb1, b2, fb2, b3, fb3, b4, fb4, b5, fb5, b6, fb6, b7, fb7, b8, fb8⟩ := cells9 B2.out
  go_wp2_with fail
  refine bodyPost_ret (v := .tuple #[rxv kk mn mx mm tt (.slice ad ll cc), .int .i64 0, .int .i64 0]) (rx_ret3 rfl _ _ _ _ _ _ rfl rfl rfl (bl_set9 B2.out _ _ _ _ _ _ _ _ _) rfl) rfl ?_
  refine ⟨rxv kk mn mx mm tt (.slice ad ll cc), ?_, ?_, (ks_set9 _ _ _ _ _ _ _ _ _).up K2.out (Nat.le_refl _)⟩
  ·
   rw [E.out]; rfl
  ·
   rw [E.out]; exact (I2.out.ks (ks_set9 _ _ _ _ _ _ _ _ _) (fun _ hb _ => hb.2)).weak (fun _ hb _ => hb.1)
 ·
  have ge : ((er : Int) != 0) = true := by simp; omega
  have E : Hid (pParse s ere = (rx0, i, er)) := by show _ = _; rw [E0.out]; exact if_pos he
  go_upto_region 4 with fail
  have Q0 : Ks w.heap.size W2 W2.drew := (Ks.refl _ _).drew
  have MK : Hid (∀ W, Ks w.heap.size W2 W → W.cell? ⟨(w.heap.size + 1), 2, none⟩ = some (.int .i64 (i : Int)) ∧ Hid (Ks w.heap.size W2 W)) := fun W k => ⟨(R2.out.ks k (by omega) (by omega)).cells.2.2.1, k⟩
  refine wp_region_noPanic ?_
  refine wp_region_held_drew (S := (fun W => W.cell? ⟨(w.heap.size + 1), 2, none⟩ = some (.int .i64 (i : Int)) ∧ Hid (Ks w.heap.size W2 W))) (by kernel_rfl) ?_ (fun hH => ?_)
  ·
   exact MK.out _ Q0
  have KQ := Q0
  refine wpAnyH_take (i := 0) (oi := { dst := some 19, op := Op.build 27 #[], type := 27, pos := "parse.go:15", after := #[], guard := none }) (v := ?v0b1) rfl (by kernel_rfl) (by kernel_rfl) (by kernel_rfl) (fun _ _ _ h => h) (Or.inl ⟨by rfl, ?hy0b1⟩) hH ?r0b1
  case hy0b1 => (intro W hSw; (try dsimp only at hSw); go_simp; try (with_reducible rfl))
  try simp only [Act.put, List.setIfInBounds_toArray, List.set_cons_zero, List.set_cons_succ]
  refine wpAnyH_take (i := 1) (oi := { dst := some 20, op := Op.fieldAddr 55 (Operand.tmp 7) 2, type := 0, pos := "parse.go:15", after := #[{ on := 4, ground := Ground.gcOnly Departure.lateStores }], guard := none }) (v := ?v1b2) rfl (by kernel_rfl) (by kernel_rfl) (by kernel_rfl) (fun _ _ _ h => h) (Or.inl ⟨by rfl, ?hy1b2⟩) hH ?r1b2
  case hy1b2 => (intro W hSw; (try dsimp only at hSw); go_simp; try (with_reducible rfl))
  try simp only [Act.put, List.setIfInBounds_toArray, List.set_cons_zero, List.set_cons_succ]
  refine wpAnyH_take (i := 2) (oi := { dst := some 21, op := Op.load 3 (Operand.tmp 20), type := 3, pos := "parse.go:15", after := #[{ on := 1, ground := Ground.data }, { on := 4, ground := Ground.gcOnly Departure.lateStores }], guard := none }) (v := ?v2b3) rfl (by kernel_rfl) (by kernel_rfl) (by kernel_rfl) (fun _ _ _ h => h) (Or.inl ⟨by rfl, ?hy2b3⟩) hH ?r2b3
  case hy2b3 => (intro W hSw; (try dsimp only at hSw); go_simp; try (with_reducible rfl))
  try simp only [Act.put, List.setIfInBounds_toArray, List.set_cons_zero, List.set_cons_succ]
  refine wpAnyH_take (i := 3) (oi := { dst := some 22, op := Op.move (Operand.tmp 9), type := 28, pos := "parse.go:15", after := #[{ on := 5, ground := Ground.gcOnly Departure.lateStores }], guard := none }) (v := ?v3b4) rfl (by kernel_rfl) (by kernel_rfl) (by kernel_rfl) (fun _ _ _ h => h) (Or.inl ⟨by rfl, ?hy3b4⟩) hH ?r3b4
  case hy3b4 => (intro W hSw; (try dsimp only at hSw); go_simp; try (with_reducible rfl))
  try simp only [Act.put, List.setIfInBounds_toArray, List.set_cons_zero, List.set_cons_succ]
  refine wpAnyH_ready (rs := [4]) (by kernel_rfl) (by simp) ?_
  refine AllReadyH.cons (o := { dst := none, op := Op.store 27 (Operand.tmp 4) (Operand.tmp 19), type := 0, pos := "parse.go:15", after := #[{ on := 0, ground := Ground.data }, { on := 0, ground := Ground.phase }, { on := 1, ground := Ground.textOnly Departure.lateStores }, { on := 2, ground := Ground.textOnly Departure.lateStores }, { on := 3, ground := Ground.textOnly Departure.lateStores }], guard := none }) rfl (fun K hKq => ?_) AllReadyH.nil
  obtain ⟨b0, fb0, b1, fb1, b2, fb2, b3, fb3, b4, fb4, b5, fb5, b6, fb6, b7, fb7, b8, fb8⟩ := cells9 B2.out
  go_simp
  refine hKq.out _ _ (MK.out _ (ks_set9 _ _ _ _ _ _ _ _ _).drew) (fun hN => ?_)
  clear hKq K hH KQ
  have hH := hN
  clear hN
  have KQ := hH.2.out
  try simp only [Act.put, List.setIfInBounds_toArray, List.set_cons_zero, List.set_cons_succ]
  refine wpAnyH_take (i := 5) (oi := { dst := some 5, op := Op.assign (Operand.tmp 21), type := 3, pos := "parse.go:15", after := #[{ on := 2, ground := Ground.data }, { on := 4, ground := Ground.chain }, { on := 0, ground := Ground.phase }, { on := 1, ground := Ground.phase }, { on := 2, ground := Ground.phase }, { on := 3, ground := Ground.textOnly Departure.lateStores }, { on := 4, ground := Ground.phase }], guard := none }) (v := ?v5b5) rfl (by kernel_rfl) (by kernel_rfl) (by kernel_rfl) (fun _ _ _ h => h) (Or.inl ⟨by rfl, ?hy5b5⟩) hH ?r5b5
  case hy5b5 => (intro W hSw; (try dsimp only at hSw); go_simp; try (with_reducible rfl))
  try simp only [Act.put, List.setIfInBounds_toArray, List.set_cons_zero, List.set_cons_succ]
  refine wpAnyH_take (i := 6) (oi := { dst := some 6, op := Op.assign (Operand.tmp 22), type := 28, pos := "parse.go:15", after := #[{ on := 3, ground := Ground.data }, { on := 5, ground := Ground.chain }, { on := 0, ground := Ground.phase }, { on := 1, ground := Ground.phase }, { on := 2, ground := Ground.phase }, { on := 3, ground := Ground.phase }, { on := 4, ground := Ground.phase }, { on := 5, ground := Ground.phase }], guard := none }) (v := ?v6b6) rfl (by kernel_rfl) (by kernel_rfl) (by kernel_rfl) (fun _ _ _ h => h) (Or.inl ⟨by rfl, ?hy6b6⟩) hH ?r6b6
  case hy6b6 => (intro W hSw; (try dsimp only at hSw); go_simp; try (with_reducible rfl))
  try simp only [Act.put, List.setIfInBounds_toArray, List.set_cons_zero, List.set_cons_succ]
  refine wpAnyH_done (by kernel_rfl) ?_ _
  refine NoPanic.normal ?_
  go_wp2_with fail
  refine bodyPost_ret (v := .tuple #[rz, .int .i64 (i : Int), .int .i64 (er : Int)]) (rx_ret3 rfl _ _ _ _ _ _ rfl rfl rfl (bl_drew (bl_set9 B2.out _ _ _ _ _ _ _ _ _)) rfl) rfl ?_
  refine ⟨rz, ?_, ?_, ((ks_set9 _ _ _ _ _ _ _ _ _).up K2.out (Nat.le_refl _)).drew⟩
  ·
   rw [E.out]
  ·
   rw [E.out]; exact is_zero _ _
end Go.Proofs.YtikmgckefbjbkaaGreatDoor

/-! ### Text4 -/

namespace Go.Proofs.YtikmgckefbjbkaaGreatDoor
open Go.RowKit

/-- What is asked of one node ahead of its text. -/
structure TxNode (ere : Bool) (k mn mx m : Int) (t : W4) (kids : List Rx) : Prop where
 rep : k = 4 → (∃ r, kids = [r]) ∧ 0 ≤ mn ∧ mn ≤ 20 ∧ -1 ≤ mx ∧ mx ≤ 20
 grp : k = 5 → ∃ r, kids = [r]
 bak : k = 6 → 0 ≤ m ∧ m < 100
 len : kids.length ≤ 100
 w4 : t.a < 18446744073709551616 ∧ t.b < 18446744073709551616 ∧ t.c < 18446744073709551616 ∧ t.d < 18446744073709551616
 all : (txt ere (.mk k mn mx m t kids)).length ≤ 1000000
 kid : ∀ r, r ∈ kids → (txt ere r).length ≤ 1000000

set_option maxHeartbeats 2000000 in
set_option maxRecDepth 100000 in
theorem text_step (ere : Bool) (k mn mx m : Int) (t : W4) (kids : List Rx) (H : ∀ r, r ∈ kids → TextSaid ere r) (hN : TxNode ere k mn mx m t kids) : TextSaid ere (.mk k mn mx m t kids) := by
 refine ⟨fun ok v w hI => ?_⟩
 obtain ⟨ad, l, c, rfl, hr⟩ := hI.row
 have RR := hid hr
 have HN := hid hN
 have HH := hid H
 have HSV : Hid (vv t.a t.b t.c t.d = sv (W4.bit t)) := vv_sv t.a t.b t.c t.d hN.w4.1 hN.w4.2.1 hN.w4.2.2.1 hN.w4.2.2.2
 have HA := hid hN.all
 clear hI hr hN H
 obtain ⟨o, ho⟩ : ∃ o, txt ere (.mk k mn mx m t kids) = o := ⟨_, rfl⟩
 rw [ho] at HA ⊢
 unfold txt at ho
 have HO := hid ho
 clear ho
 go_enter Tryz.func26, Tryz.ntmps26
 go_upto_region 1 with fail
 refine opq (fun W0 => W0.heap[w.heap.size]? = some (rxo k mn mx m t (.slice ad l c)) ∧ Kp w W0 ∧ RowAt W0 ok kids ad l c) ⟨by (first | exact last_at _ _ _ (by simp) | (refine bl_alloc ?_ _; first | exact last_at _ _ _ (by simp) | (refine bl_alloc ?_ _; first | exact last_at _ _ _ (by simp) | (refine bl_alloc ?_ _; exact last_at _ _ _ (by simp))))), by exact (by repeat (first | exact Kp.refl _ | refine Kp.alloc ?_ _ | refine Kp.drew ?_ | refine Kp.drewN _ ?_)), by exact RR.out.kp (by repeat (first | exact Kp.refl _ | refine Kp.alloc ?_ _ | refine Kp.drew ?_ | refine Kp.drewN _ ?_))⟩ ?_
 rintro W0 ⟨xA0, xK0, xR0⟩
 have A0 : Hid (W0.heap[w.heap.size]? = some (rxo k mn mx m t (.slice ad l c))) := xA0
 have K0 : Hid (Kp w W0) := xK0
 have R0 : Hid (RowAt W0 ok kids ad l c) := xR0
 clear xA0 xK0 xR0
 obtain ⟨a0, a1, a2, a3, a4, a5, a6, a7, a8⟩ := cells9c A0.out
 by_cases k1 : k = 1
 ·
  subst k1
  have E : Hid (o = setT (W4.bit t) ere) := by show _ = _; rw [← HO.out, if_pos rfl]
  have ST : Hid (∀ w, Calls Tryz.prog 36 #[vv t.a t.b t.c t.d, .bool ere] w fun e w' => e = .returned (.string (bs (setT (W4.bit t) ere))) ∧ Kp w w') := fun w => by rw [HSV.out]; exact setText_any _ _ w
  go_wp2_with fail
  clear a0 a1 a2 a3 a4 a5 a6 a7 a8
  refine (ST.out _).mono ?_
  rintro e W1 ⟨rfl, k1⟩
  have K1 := hid (K0.out.trans k1)
  clear k1
  go_wp2_with fail
  go_ret
  exact ⟨by rw [E.out]; rfl, K1.out⟩
 by_cases k2 : k = 2
 ·
  subst k2
  have E : Hid (o = Lib.join (txts ere kids) []) := by show _ = _; rw [← HO.out, if_neg (by omega), if_pos rfl]
  have hlen : (txts ere kids).length ≤ 100 := by rw [txts_map, List.length_map]; exact HN.out.len
  have hjl : Hid ((Lib.join (txts ere kids) []).length ≤ 1000000) := by have := HA.out; rw [E.out] at this; exact this
  go_wp2_with fail
  clear a0 a1 a2 a3 a4 a5 a6 a7 a8
  refine (texts_any ere kids HH.out ok ad l c _ R0.out HN.out.len).mono ?_
  rintro e W1 ⟨v1, rfl, o1, k1⟩
  have O1 := hid o1
  have K1 := hid (K0.out.trans k1)
  clear k1 o1
  go_wp2_with fail
  refine (join_any _ (txts ere kids) [] v1 _ O1.out hlen (by have := hjl.out; omega)).mono ?_
  rintro e W2 ⟨rfl, k2⟩
  have K2 := hid (K1.out.trans k2)
  clear k2
  go_wp2_with fail
  go_ret
  exact ⟨by rw [E.out]; rfl, K2.out⟩
 by_cases k3 : k = 3
 ·
  subst k3
  have E : Hid (o = Lib.join (txts ere kids) [124]) := by show _ = _; rw [← HO.out, if_neg (by omega), if_neg (by omega), if_pos rfl]
  have hlen : (txts ere kids).length ≤ 100 := by rw [txts_map, List.length_map]; exact HN.out.len
  have hjl : Hid ((Lib.join (txts ere kids) [124]).length ≤ 1000000) := by have := HA.out; rw [E.out] at this; exact this
  go_wp2_with fail
  clear a0 a1 a2 a3 a4 a5 a6 a7 a8
  refine (texts_any ere kids HH.out ok ad l c _ R0.out HN.out.len).mono ?_
  rintro e W1 ⟨v1, rfl, o1, k1⟩
  have O1 := hid o1
  have K1 := hid (K0.out.trans k1)
  clear k1 o1
  go_wp2_with fail
  refine (join_any _ (txts ere kids) [124] v1 _ O1.out hlen (by have := hjl.out; omega)).mono ?_
  rintro e W2 ⟨rfl, k2⟩
  have K2 := hid (K1.out.trans k2)
  clear k2
  go_wp2_with fail
  go_ret
  exact ⟨by rw [E.out]; rfl, K2.out⟩
 by_cases k4 : k = 4
 ·
  subst k4
  obtain ⟨⟨r, rfl⟩, b1, b2, b3, b4⟩ := HN.out.rep rfl
  obtain ⟨lo, rfl⟩ : ∃ lo : Nat, mn = lo := ⟨mn.toNat, by omega⟩
  have E : Hid (o = txt ere r ++ timesT lo mx ere) := by show _ = _; rw [← HO.out, if_neg (by omega), if_neg (by omega), if_neg (by omega), if_pos rfl]; rfl
  obtain ⟨bb, oo, kk, mn', mx', mm', tt', ad', ll', cc', e1, hbb, i1, ce1⟩ := R0.out.at 0 r rfl
  subst e1
  rw [Nat.zero_mul, Nat.add_zero] at ce1
  have hl1 : l = 1 := R0.out.ln
  subst hl1
  have I0 := hid i1
  have CE0 := hid ce1
  have hcap := R0.out.cp
  have TS := hid (HH.out r (by simp))
  have hkl : Hid ((txt ere r).length ≤ 1000000) := HN.out.kid r (by simp)
  clear i1 ce1
  have hb2 : lo ≤ 20 := by omega
  have hz1 : (bs (txt ere r)).size ≤ 1000000 := by rw [bs_size]; exact hkl.out
  have hz2 : (bs (timesT lo mx ere)).size ≤ 1000000 := by rw [bs_size]; have := HA.out; rw [E.out, List.length_append] at this; omega
  have E2 : Hid (bs o = bs (txt ere r) ++ bs (timesT lo mx ere)) := by show _ = _; rw [E.out, bs_app]
  obtain ⟨X, hX⟩ : ∃ X, bs (txt ere r) = X := ⟨_, rfl⟩
  obtain ⟨Y, hY⟩ : ∃ Y, bs (timesT lo mx ere) = Y := ⟨_, rfl⟩
  have TT : Hid (∀ w, Calls Tryz.prog 39 #[.int .i64 (lo : Int), .int .i64 mx, .bool ere] w fun e w' => e = .returned (.string Y) ∧ w' = w) := fun w => by rw [← hY]; exact timesText_any lo mx ere hb2 b3 b4 w
  rw [hX, hY] at E2
  rw [hX] at hz1
  rw [hY] at hz2
  have HX := hid hX
  clear hX hY
  go_upto_region 9 with fail
  clear a0 a1 a2 a3 a4 a5 a6 a7 a8
  have Q0 : Kp W0 W0.drew := (Kp.refl _).drew
  have MK : Hid (∀ W, Kp W0 W → W.cell? ⟨w.heap.size, 8, none⟩ = some (.slice (some ⟨bb, oo, none⟩) 1 c) ∧ W.cell? ⟨w.heap.size, 1, none⟩ = some (.int .i64 (lo : Int)) ∧ W.cell? ⟨w.heap.size, 2, none⟩ = some (.int .i64 mx) ∧ W.cell? ⟨bb, oo, none⟩ = some (.int .i64 kk) ∧ W.cell? ⟨bb, (oo + 1), none⟩ = some (.int .i64 mn') ∧ W.cell? ⟨bb, (oo + 2), none⟩ = some (.int .i64 mx') ∧ W.cell? ⟨bb, (oo + 3), none⟩ = some (.int .i64 mm') ∧ W.cell? ⟨bb, (oo + 4), none⟩ = some (Value.int .u64 (tt'.a : Int)) ∧ W.cell? ⟨bb, (oo + 5), none⟩ = some (Value.int .u64 (tt'.b : Int)) ∧ W.cell? ⟨bb, (oo + 6), none⟩ = some (Value.int .u64 (tt'.c : Int)) ∧ W.cell? ⟨bb, (oo + 7), none⟩ = some (Value.int .u64 (tt'.d : Int)) ∧ W.cell? ⟨bb, (oo + 8), none⟩ = some (Value.slice ad' ll' cc') ∧ Hid (Kp W0 W)) := fun W k => ⟨bl_cell (bl_kp A0.out k) 8 _ rfl, bl_cell (bl_kp A0.out k) 1 _ rfl, bl_cell (bl_kp A0.out k) 2 _ rfl, (cells_of_is (CE0.out.turn (k.block _ hbb))).1, (cells_of_is (CE0.out.turn (k.block _ hbb))).2.1, (cells_of_is (CE0.out.turn (k.block _ hbb))).2.2.1, (cells_of_is (CE0.out.turn (k.block _ hbb))).2.2.2.1, (cells_of_is (CE0.out.turn (k.block _ hbb))).2.2.2.2.1, (cells_of_is (CE0.out.turn (k.block _ hbb))).2.2.2.2.2.1, (cells_of_is (CE0.out.turn (k.block _ hbb))).2.2.2.2.2.2.1, (cells_of_is (CE0.out.turn (k.block _ hbb))).2.2.2.2.2.2.2.1, (cells_of_is (CE0.out.turn (k.block _ hbb))).2.2.2.2.2.2.2.2, k⟩
  refine wp_region_noPanic ?_
  refine wp_region_held_drew (S := (fun W => W.cell? ⟨w.heap.size, 8, none⟩ = some (.slice (some ⟨bb, oo, none⟩) 1 c) ∧ W.cell? ⟨w.heap.size, 1, none⟩ = some (.int .i64 (lo : Int)) ∧ W.cell? ⟨w.heap.size, 2, none⟩ = some (.int .i64 mx) ∧ W.cell? ⟨bb, oo, none⟩ = some (.int .i64 kk) ∧ W.cell? ⟨bb, (oo + 1), none⟩ = some (.int .i64 mn') ∧ W.cell? ⟨bb, (oo + 2), none⟩ = some (.int .i64 mx') ∧ W.cell? ⟨bb, (oo + 3), none⟩ = some (.int .i64 mm') ∧ W.cell? ⟨bb, (oo + 4), none⟩ = some (Value.int .u64 (tt'.a : Int)) ∧ W.cell? ⟨bb, (oo + 5), none⟩ = some (Value.int .u64 (tt'.b : Int)) ∧ W.cell? ⟨bb, (oo + 6), none⟩ = some (Value.int .u64 (tt'.c : Int)) ∧ W.cell? ⟨bb, (oo + 7), none⟩ = some (Value.int .u64 (tt'.d : Int)) ∧ W.cell? ⟨bb, (oo + 8), none⟩ = some (Value.slice ad' ll' cc') ∧ Hid (Kp W0 W))) (by kernel_rfl) ?_ (fun hH => ?_)
  ·
   exact MK.out _ Q0
  have KQ := Q0
  refine wpAnyH_take (i := 0) (oi := { dst := some 29, op := Op.fieldAddr 27 (Operand.tmp 2) 5, type := 0, pos := "print.go:47", after := #[], guard := none }) (v := ?v0a1) rfl (by kernel_rfl) (by kernel_rfl) (by kernel_rfl) (fun _ _ _ h => h) (Or.inl ⟨by rfl, ?hy0a1⟩) hH ?r0a1
  case hy0a1 => (intro W hSw; (try dsimp only at hSw); go_simp; try (with_reducible rfl))
  try simp only [Act.put, List.setIfInBounds_toArray, List.set_cons_zero, List.set_cons_succ]
  refine wpAnyH_take (i := 1) (oi := { dst := some 30, op := Op.load 25 (Operand.tmp 29), type := 25, pos := "print.go:47", after := #[{ on := 0, ground := Ground.data }], guard := none }) (v := ?v1a2) rfl (by kernel_rfl) (by kernel_rfl) (by kernel_rfl) (fun _ _ _ h => h) (Or.inl ⟨by rfl, ?hy1a2⟩) hH ?r1a2
  case hy1a2 => (intro W hSw; (try dsimp only at hSw); go_simp; try (with_reducible rfl))
  try simp only [Act.put, List.setIfInBounds_toArray, List.set_cons_zero, List.set_cons_succ]
  refine wpAnyH_take (i := 2) (oi := { dst := some 31, op := Op.indexAddr 25 (Operand.tmp 30) (Operand.const (Value.int IntKind.i64 0)), type := 0, pos := "print.go:47", after := #[{ on := 1, ground := Ground.data }], guard := none }) (v := ?v2a3) rfl (by kernel_rfl) (by kernel_rfl) (by kernel_rfl) (fun _ _ _ h => h) (Or.inl ⟨by rfl, ?hy2a3⟩) hH ?r2a3
  case hy2a3 => (intro W hSw; (try dsimp only at hSw); go_simp; try (with_reducible rfl))
  try simp only [Act.put, List.setIfInBounds_toArray, List.set_cons_zero, List.set_cons_succ]
  refine wpAnyH_take (i := 3) (oi := { dst := some 32, op := Op.load 27 (Operand.tmp 31), type := 27, pos := "print.go:47", after := #[{ on := 2, ground := Ground.data }], guard := none }) (v := ?v3a4) rfl (by kernel_rfl) (by kernel_rfl) (by kernel_rfl) (fun _ _ _ h => h) (Or.inl ⟨by rfl, ?hy3a4⟩) hH ?r3a4
  case hy3a4 => (intro W hSw; (try dsimp only at hSw); go_simp; try (with_reducible rfl))
  try simp only [Act.put, List.setIfInBounds_toArray, List.set_cons_zero, List.set_cons_succ]
  refine wpAnyH_take (i := 4) (oi := { dst := some 33, op := Op.move (Operand.tmp 1), type := 4, pos := "print.go:47", after := #[], guard := none }) (v := ?v4a5) rfl (by kernel_rfl) (by kernel_rfl) (by kernel_rfl) (fun _ _ _ h => h) (Or.inl ⟨by rfl, ?hy4a5⟩) hH ?r4a5
  case hy4a5 => (intro W hSw; (try dsimp only at hSw); go_simp; try (with_reducible rfl))
  try simp only [Act.put, List.setIfInBounds_toArray, List.set_cons_zero, List.set_cons_succ]
  refine wpAnyH_take (i := 6) (oi := { dst := some 35, op := Op.fieldAddr 27 (Operand.tmp 2) 1, type := 0, pos := "print.go:47", after := #[], guard := none }) (v := ?v6a6) rfl (by kernel_rfl) (by kernel_rfl) (by kernel_rfl) (fun _ _ _ h => h) (Or.inl ⟨by rfl, ?hy6a6⟩) hH ?r6a6
  case hy6a6 => (intro W hSw; (try dsimp only at hSw); go_simp; try (with_reducible rfl))
  try simp only [Act.put, List.setIfInBounds_toArray, List.set_cons_zero, List.set_cons_succ]
  refine wpAnyH_take (i := 7) (oi := { dst := some 36, op := Op.load 3 (Operand.tmp 35), type := 3, pos := "print.go:47", after := #[{ on := 6, ground := Ground.data }], guard := none }) (v := ?v7a7) rfl (by kernel_rfl) (by kernel_rfl) (by kernel_rfl) (fun _ _ _ h => h) (Or.inl ⟨by rfl, ?hy7a7⟩) hH ?r7a7
  case hy7a7 => (intro W hSw; (try dsimp only at hSw); go_simp; try (with_reducible rfl))
  try simp only [Act.put, List.setIfInBounds_toArray, List.set_cons_zero, List.set_cons_succ]
  refine wpAnyH_take (i := 8) (oi := { dst := some 37, op := Op.fieldAddr 27 (Operand.tmp 2) 2, type := 0, pos := "print.go:47", after := #[], guard := none }) (v := ?v8a8) rfl (by kernel_rfl) (by kernel_rfl) (by kernel_rfl) (fun _ _ _ h => h) (Or.inl ⟨by rfl, ?hy8a8⟩) hH ?r8a8
  case hy8a8 => (intro W hSw; (try dsimp only at hSw); go_simp; try (with_reducible rfl))
  try simp only [Act.put, List.setIfInBounds_toArray, List.set_cons_zero, List.set_cons_succ]
  refine wpAnyH_take (i := 9) (oi := { dst := some 38, op := Op.load 3 (Operand.tmp 37), type := 3, pos := "print.go:47", after := #[{ on := 8, ground := Ground.data }], guard := none }) (v := ?v9a9) rfl (by kernel_rfl) (by kernel_rfl) (by kernel_rfl) (fun _ _ _ h => h) (Or.inl ⟨by rfl, ?hy9a9⟩) hH ?r9a9
  case hy9a9 => (intro W hSw; (try dsimp only at hSw); go_simp; try (with_reducible rfl))
  try simp only [Act.put, List.setIfInBounds_toArray, List.set_cons_zero, List.set_cons_succ]
  refine wpAnyH_take (i := 10) (oi := { dst := some 39, op := Op.move (Operand.tmp 1), type := 4, pos := "print.go:47", after := #[], guard := none }) (v := ?v10a10) rfl (by kernel_rfl) (by kernel_rfl) (by kernel_rfl) (fun _ _ _ h => h) (Or.inl ⟨by rfl, ?hy10a10⟩) hH ?r10a10
  case hy10a10 => (intro W hSw; (try dsimp only at hSw); go_simp; try (with_reducible rfl))
  try simp only [Act.put, List.setIfInBounds_toArray, List.set_cons_zero, List.set_cons_succ]
  refine wpAnyH_ready (rs := [5]) (by kernel_rfl) (by simp) ?_
  refine AllReadyH.cons (o := { dst := some 34, op := Op.call { callee := Callee.value (Operand.func 26), args := #[Operand.tmp 32, Operand.tmp 33], argTypes := #[27, 4] }, type := 9, pos := "print.go:47", after := #[{ on := 3, ground := Ground.data }, { on := 4, ground := Ground.data }], guard := none }) rfl (fun K hKq => ?_) AllReadyH.nil
  go_simp
  refine (TS.out.all ok _ _ (I0.out.kp KQ)).mono ?_
  rintro e y1 ⟨rfl, kq⟩
  rw [HX.out]
  refine hKq.out _ _ (MK.out _ (KQ.trans kq)) (fun hN => ?_)
  clear kq
  clear hKq K hH KQ
  have hH := hN
  clear hN
  have KQ := hH.2.2.2.2.2.2.2.2.2.2.2.2.out
  try simp only [Act.put, List.setIfInBounds_toArray, List.set_cons_zero, List.set_cons_succ]
  refine wpAnyH_ready (rs := [11]) (by kernel_rfl) (by simp) ?_
  refine AllReadyH.cons (o := { dst := some 40, op := Op.call { callee := Callee.value (Operand.func 39), args := #[Operand.tmp 36, Operand.tmp 38, Operand.tmp 39], argTypes := #[3, 3, 4] }, type := 9, pos := "print.go:47", after := #[{ on := 7, ground := Ground.data }, { on := 9, ground := Ground.data }, { on := 10, ground := Ground.data }, { on := 5, ground := Ground.chain }], guard := none }) rfl (fun K hKq => ?_) AllReadyH.nil
  go_simp
  refine (TT.out _).mono ?_
  rintro e yy ⟨rfl, rfl⟩
  refine hKq.out _ _ (MK.out _ KQ) (fun hN => ?_)
  clear hKq K hH KQ
  have hH := hN
  clear hN
  have KQ := hH.2.2.2.2.2.2.2.2.2.2.2.2.out
  try simp only [Act.put, List.setIfInBounds_toArray, List.set_cons_zero, List.set_cons_succ]
  refine wpAnyH_take (i := 12) (oi := { dst := some 41, op := Op.binOp BinOp.add 9 (Operand.tmp 34) (Operand.tmp 40) 9, type := 9, pos := "print.go:47", after := #[{ on := 5, ground := Ground.data }, { on := 11, ground := Ground.data }], guard := none }) (v := ?v12a11) rfl (by kernel_rfl) (by kernel_rfl) (by kernel_rfl) (fun _ _ _ h => h) (Or.inl ⟨by rfl, ?hy12a11⟩) hH ?r12a11
  case hy12a11 => (intro W hSw; (try dsimp only at hSw); go_simp; rw [if_neg (by omega)])
  try simp only [Act.put, List.setIfInBounds_toArray, List.set_cons_zero, List.set_cons_succ]
  refine wpAnyH_take (i := 13) (oi := { dst := some 4, op := Op.assign (Operand.tmp 41), type := 9, pos := "print.go:47", after := #[{ on := 12, ground := Ground.data }, { on := 11, ground := Ground.chain }, { on := 0, ground := Ground.phase }, { on := 1, ground := Ground.phase }, { on := 2, ground := Ground.phase }, { on := 3, ground := Ground.phase }, { on := 4, ground := Ground.phase }, { on := 5, ground := Ground.phase }, { on := 6, ground := Ground.phase }, { on := 7, ground := Ground.phase }, { on := 8, ground := Ground.phase }, { on := 9, ground := Ground.phase }, { on := 10, ground := Ground.phase }, { on := 11, ground := Ground.phase }, { on := 12, ground := Ground.phase }], guard := none }) (v := ?v13a12) rfl (by kernel_rfl) (by kernel_rfl) (by kernel_rfl) (fun _ _ _ h => h) (Or.inl ⟨by rfl, ?hy13a12⟩) hH ?r13a12
  case hy13a12 => (intro W hSw; (try dsimp only at hSw); go_simp; try (with_reducible rfl))
  try simp only [Act.put, List.setIfInBounds_toArray, List.set_cons_zero, List.set_cons_succ]
  refine wpAnyH_done (by kernel_rfl) ?_ _
  refine NoPanic.normal ?_
  go_wp2_with fail
  go_ret
  exact ⟨by rw [E2.out]; rfl, K0.out.trans KQ⟩
 by_cases k5 : k = 5
 ·
  subst k5
  obtain ⟨r, rfl⟩ := HN.out.grp rfl
  have E : Hid (o = framedT [40] (txt ere r) [41] ere) := by show _ = _; rw [← HO.out, if_neg (by omega), if_neg (by omega), if_neg (by omega), if_neg (by omega), if_pos rfl]; rfl
  obtain ⟨bb, oo, kk, mn', mx', mm', tt', ad', ll', cc', e1, hbb, i1, ce1⟩ := R0.out.at 0 r rfl
  subst e1
  rw [Nat.zero_mul, Nat.add_zero] at ce1
  have hl1 : l = 1 := R0.out.ln
  subst hl1
  have I0 := hid i1
  have CE0 := hid ce1
  have hcap := R0.out.cp
  have TS := hid (HH.out r (by simp))
  have hkl : Hid ((txt ere r).length ≤ 1000000) := HN.out.kid r (by simp)
  clear i1 ce1
  have FR := hid (framed_any [40] (txt ere r) [41] ere (by simp) (by have := hkl.out; omega) (by simp))
  obtain ⟨x0, x1, x2, x3, x4, x5, x6, x7, x8⟩ := cells_of_is CE0.out
  go_wp2_with fail
  clear x0 x1 x2 x3 x4 x5 x6 x7 x8
  clear a0 a1 a2 a3 a4 a5 a6 a7 a8
  refine (TS.out.all ok _ _ I0.out).mono ?_
  rintro e W1 ⟨rfl, k1⟩
  have K1 := hid (K0.out.trans k1)
  clear k1
  go_wp2_with fail
  refine (FR.out _).mono ?_
  rintro e W1 ⟨rfl, rfl⟩
  go_wp2_with fail
  go_ret
  exact ⟨by rw [E.out]; rfl, K1.out⟩
 by_cases k6 : k = 6
 ·
  subst k6
  obtain ⟨b1, b2⟩ := HN.out.bak rfl
  obtain ⟨q, rfl⟩ : ∃ q : Nat, m = q := ⟨m.toNat, by omega⟩
  have E : Hid (o = [92] ++ dec q) := by show _ = _; rw [← HO.out, if_neg (by omega), if_neg (by omega), if_neg (by omega), if_neg (by omega), if_neg (by omega), if_pos rfl]; rfl
  have hz : (bs (dec q)).size ≤ 2 := by rw [bs_size]; exact dec_len q (by omega)
  have E2 : Hid (bs o = bs [92] ++ bs (dec q)) := by show _ = _; rw [E.out, bs_app]
  obtain ⟨X, hX⟩ : ∃ X, bs (dec q) = X := ⟨_, rfl⟩
  have IT : Hid (∀ w, Calls Tryz.prog 41 #[.int .i64 (q : Int)] w fun e w' => e = .returned (.string X) ∧ w' = w) := fun w => by rw [← hX]; exact itoa_any q (by omega) w
  rw [hX] at hz E2
  clear hX
  go_wp2_with fail
  clear a0 a1 a2 a3 a4 a5 a6 a7 a8
  refine (IT.out _).mono ?_
  rintro e W0 ⟨rfl, rfl⟩
  go_wp2_with fail
  go_ret
  exact ⟨by rw [E2.out]; rfl, K0.out⟩
 by_cases k7 : k = 7
 ·
  subst k7
  have E : Hid (o = [94]) := by show _ = _; rw [← HO.out, if_neg (by omega), if_neg (by omega), if_neg (by omega), if_neg (by omega), if_neg (by omega), if_neg (by omega), if_pos rfl]
  go_wp2_with fail
  go_ret
  exact ⟨by rw [E.out]; rfl, K0.out⟩
 have g1 : (k == 1) = false := by simp [k1]
 have g2 : (k == 2) = false := by simp [k2]
 have g3 : (k == 3) = false := by simp [k3]
 have g4 : (k == 4) = false := by simp [k4]
 have g5 : (k == 5) = false := by simp [k5]
 have g6 : (k == 6) = false := by simp [k6]
 have g7 : (k == 7) = false := by simp [k7]
 have E : Hid (o = [36]) := by show _ = _; rw [← HO.out, if_neg (by omega), if_neg (by omega), if_neg (by omega), if_neg (by omega), if_neg (by omega), if_neg (by omega), if_neg (by omega)]
 go_wp2_with fail
 go_ret
 exact ⟨by rw [E.out]; rfl, K0.out⟩

/-- A tree whose text can be made. -/
def TxFit (ere : Bool) : Rx → Prop
 | .mk k mn mx m t kids => TxNode ere k mn mx m t kids ∧ ∀ a, a ∈ kids → TxFit ere a
termination_by r => SizeOf.sizeOf r
decreasing_by
 have := List.sizeOf_lt_of_mem (by assumption)
 simp
 omega
theorem text_all (ere : Bool) : ∀ a, TxFit ere a → TextSaid ere a
 | .mk k mn mx n s kids, h => by
  unfold TxFit at h
  exact text_step ere k mn mx n s kids (fun a ha => text_all ere a (h.2 a ha)) h.1
termination_by a => SizeOf.sizeOf a
decreasing_by
 have := List.sizeOf_lt_of_mem ha
 simp
 omega

/-- What Print answers. -/
def printT (ere : Bool) (r : Rx) : List UInt8 := if right ere r then txt ere r else []
set_option maxHeartbeats 2000000 in
set_option maxRecDepth 100000 in
theorem print_any (r : Rx) (ere : Bool) (ok : Nat → Prop) (k mn mx m : Int) (t : W4) (ad : Option Addr) (l c : Nat) (w : World) (hR : RxOk r) (hT : right ere r = true → TxFit ere r) (hI : Is w ok r (rxv k mn mx m t (.slice ad l c))) :
  Calls Tryz.prog 10 #[rxv k mn mx m t (.slice ad l c), .bool ere] w fun e w' => e = .returned (.string (bs (printT ere r))) ∧ Kp w w' := by
 have HI := hid hI
 have HR := hid hR
 have HT := hid hT
 clear hI hR hT
 obtain ⟨q, hq⟩ : ∃ q, right ere r = q := ⟨_, rfl⟩
 have HQ := hid hq
 clear hq
 go_enter Tryz.func10, Tryz.ntmps10
 go_upto_region 1 with fail
 refine opq (fun W0 => W0.heap[w.heap.size]? = some (rxo k mn mx m t (.slice ad l c)) ∧ Kp w W0 ∧ Is W0 ok r (rxv k mn mx m t (.slice ad l c))) ⟨by (first | exact last_at _ _ _ (by simp) | (refine bl_alloc ?_ _; first | exact last_at _ _ _ (by simp) | (refine bl_alloc ?_ _; first | exact last_at _ _ _ (by simp) | (refine bl_alloc ?_ _; exact last_at _ _ _ (by simp))))), by exact (by repeat (first | exact Kp.refl _ | refine Kp.alloc ?_ _ | refine Kp.drew ?_ | refine Kp.drewN _ ?_)), by exact HI.out.kp (by repeat (first | exact Kp.refl _ | refine Kp.alloc ?_ _ | refine Kp.drew ?_ | refine Kp.drewN _ ?_))⟩ ?_
 rintro W0 ⟨xA0, xK0, xI0⟩
 have A0 : Hid (W0.heap[w.heap.size]? = some (rxo k mn mx m t (.slice ad l c))) := xA0
 have K0 : Hid (Kp w W0) := xK0
 have I0 : Hid (Is W0 ok r (rxv k mn mx m t (.slice ad l c))) := xI0
 clear xA0 xK0 xI0
 obtain ⟨a0, a1, a2, a3, a4, a5, a6, a7, a8⟩ := cells9c A0.out
 go_wp2_with fail
 clear a0 a1 a2 a3 a4 a5 a6 a7 a8
 refine (Right_any r ere ok k mn mx m t ad l c _ HR.out I0.out).mono ?_
 rintro e W1 ⟨rfl, k1⟩
 rw [HQ.out]
 have A1 := hid (bl_kp A0.out k1)
 have I1 := hid (I0.out.kp k1)
 have K1 := hid (K0.out.trans k1)
 clear k1
 cases q with
 | false =>
  have E : Hid (printT ere r = []) := by show _ = _; unfold printT; rw [HQ.out]; rfl
  go_wp2_with fail
  go_ret
  exact ⟨by rw [E.out]; rfl, K1.out⟩
 | true =>
  have E : Hid (printT ere r = txt ere r) := by show _ = _; unfold printT; rw [HQ.out]; rfl
  obtain ⟨a0, a1, a2, a3, a4, a5, a6, a7, a8⟩ := cells9c A1.out
  go_wp2_with fail
  clear a0 a1 a2 a3 a4 a5 a6 a7 a8
  refine ((text_all ere r (HT.out HQ.out)).all ok _ _ I1.out).mono ?_
  rintro e W2 ⟨rfl, k2⟩
  have K2 := hid (K1.out.trans k2)
  clear k2
  go_wp2_with fail
  go_ret
  exact ⟨by rw [E.out]; rfl, K2.out⟩
end Go.Proofs.YtikmgckefbjbkaaGreatDoor

/-! ### Runs -/

namespace Go.Proofs.YtikmgckefbjbkaaGreatDoor
open Go.RowKit

def Rx.kn : Rx → Nat | .mk _ _ _ _ _ kids => kids.length
def Rx.set : Rx → W4 | .mk _ _ _ _ s _ => s
mutual
def rxOkB : Rx → Bool
 | .mk _ _ _ _ s kids => decide (kids.length ≤ 1000000) && decide (s.a < 18446744073709551616) && decide (s.b < 18446744073709551616) && decide (s.c < 18446744073709551616) && decide (s.d < 18446744073709551616) && rxOkL kids
def rxOkL : List Rx → Bool
 | [] => true
 | r :: rs => rxOkB r && rxOkL rs
end
theorem rxOkL_mem : ∀ (rs : List Rx), rxOkL rs = true → ∀ r ∈ rs, rxOkB r = true
 | [], _, r, h => by simp at h
 | x :: rs, h, r, hr => by
  unfold rxOkL at h
  rw [Bool.and_eq_true] at h
  rcases List.mem_cons.1 hr with rfl | hr
  ·
   exact h.1
  ·
   exact rxOkL_mem rs h.2 r hr
theorem rxOk_of : ∀ r, rxOkB r = true → RxOk r
 | .mk k mn mx n s kids, h => by
  unfold rxOkB at h
  simp only [Bool.and_eq_true, decide_eq_true_eq] at h
  obtain ⟨⟨⟨⟨⟨h1, h2⟩, h3⟩, h4⟩, h5⟩, h6⟩ := h
  unfold RxOk
  exact ⟨h1, ⟨h2, h3, h4, h5⟩, fun a ha => rxOk_of a (rxOkL_mem kids h6 a ha)⟩
termination_by r => SizeOf.sizeOf r
decreasing_by
 have := List.sizeOf_lt_of_mem ha
 simp
 omega
def txNodeB (ere : Bool) (k mn mx m : Int) (t : W4) (kids : List Rx) : Bool :=
 (k != 4 || (kids.length == 1 && decide (0 ≤ mn) && decide (mn ≤ 20) && decide (-1 ≤ mx) && decide (mx ≤ 20))) && (k != 5 || kids.length == 1) && (k != 6 || (decide (0 ≤ m) && decide (m < 100))) && decide (kids.length ≤ 100)
 && (decide (t.a < 18446744073709551616) && decide (t.b < 18446744073709551616) && decide (t.c < 18446744073709551616) && decide (t.d < 18446744073709551616)) && decide ((txt ere (.mk k mn mx m t kids)).length ≤ 1000000) && kids.all fun r => decide ((txt ere r).length ≤ 1000000)
theorem txNode_of {ere : Bool} {k mn mx m : Int} {t : W4} {kids : List Rx} (h : txNodeB ere k mn mx m t kids = true) : TxNode ere k mn mx m t kids := by
 unfold txNodeB at h
 simp only [Bool.and_eq_true, Bool.or_eq_true, bne_iff_ne, beq_iff_eq, decide_eq_true_eq, List.all_eq_true] at h
 obtain ⟨⟨⟨⟨⟨⟨h1, h2⟩, h3⟩, h4⟩, ⟨⟨h5, h6⟩, h7⟩, h8⟩, h9⟩, h10⟩ := h
 refine ⟨fun hk => ?_, fun hk => ?_, fun hk => ?_, h4, ⟨h5, h6, h7, h8⟩, h9, h10⟩
 ·
  rcases h1 with h1 | h1
  ·
   exact absurd hk h1
  ·
   exact ⟨List.length_eq_one_iff.1 h1.1.1.1.1, h1.1.1.1.2, h1.1.1.2, h1.1.2, h1.2⟩
 ·
  rcases h2 with h2 | h2
  ·
   exact absurd hk h2
  ·
   exact List.length_eq_one_iff.1 h2
 ·
  rcases h3 with h3 | h3
  ·
   exact absurd hk h3
  ·
   exact h3
mutual
def txB (ere : Bool) : Rx → Bool
 | .mk k mn mx m t kids => txNodeB ere k mn mx m t kids && txBL ere kids
def txBL (ere : Bool) : List Rx → Bool
 | [] => true
 | r :: rs => txB ere r && txBL ere rs
end
theorem txBL_mem (ere : Bool) : ∀ (rs : List Rx), txBL ere rs = true → ∀ r ∈ rs, txB ere r = true
 | [], _, r, h => by simp at h
 | x :: rs, h, r, hr => by
  unfold txBL at h
  rw [Bool.and_eq_true] at h
  rcases List.mem_cons.1 hr with rfl | hr
  ·
   exact h.1
  ·
   exact txBL_mem ere rs h.2 r hr
theorem txFit_of (ere : Bool) : ∀ r, txB ere r = true → TxFit ere r
 | .mk k mn mx n s kids, h => by
  unfold txB at h
  rw [Bool.and_eq_true] at h
  unfold TxFit
  exact ⟨txNode_of h.1, fun a ha => txFit_of ere a (txBL_mem ere kids h.2 a ha)⟩
termination_by r => SizeOf.sizeOf r
decreasing_by
 have := List.sizeOf_lt_of_mem ha
 simp
 omega

/-- What the parse of a text leaves in a variable. -/
structure Pd (w : World) (T : Rx) (k mn mx m : Int) (t : W4) (ad : Option Addr) (l c : Nat) : Prop where
 is : Is w (fun _ => True) T (rxv k mn mx m t (.slice ad l c))
theorem Pd.kp {w w' : World} {T : Rx} {k mn mx m : Int} {t : W4} {ad : Option Addr} {l c : Nat} (h : Pd w T k mn mx m t ad l c) (q : Kp w w') : Pd w' T k mn mx m t ad l c := ⟨h.is.kp q⟩
theorem Pd.all {w : World} {T : Rx} {k mn mx m : Int} {t : W4} {ad : Option Addr} {l c : Nat} (h : Pd w T k mn mx m t ad l c) : l = T.kn ∧ k = T.k ∧ t = T.set := by
 cases T with
 | mk k' mn' mx' n' s' kids =>
  obtain ⟨ad', l', c', he, hr⟩ := h.is.row
  injection he with he
  injection he with he
  simp at he
  obtain ⟨rfl, _, _, _, h1, h2, h3, h4, _, rfl, _⟩ := he
  refine ⟨hr.ln, rfl, ?_⟩
  show t = s'
  obtain ⟨t1, t2, t3, t4⟩ := t
  obtain ⟨q1, q2, q3, q4⟩ := s'
  have e1 : t1 = q1 := Int.ofNat.inj h1
  have e2 : t2 = q2 := Int.ofNat.inj h2
  have e3 : t3 = q3 := Int.ofNat.inj h3
  have e4 : t4 = q4 := Int.ofNat.inj h4
  subst e1; subst e2; subst e3; subst e4
  rfl

def t1 : ByteArray := ⟨#[97, 92, 40, 98, 42, 92, 41, 92, 49, 36]⟩
def t2 : ByteArray := ⟨#[40, 97, 124, 98, 41, 43]⟩
def t3 : ByteArray := ⟨#[91, 94, 97, 93]⟩
def t4 : ByteArray := ⟨#[97, 124, 98]⟩
def t5 : ByteArray := ⟨#[42, 97]⟩
theorem p1 : (pParse t1 false).2 = (0, 0) ∧ (pParse t1 false).1.kn = 4 := by decide +kernel
theorem p2 : (pParse t2 true).2 = (0, 0) ∧ rxOkB (pParse t2 true).1 = true ∧ txB true (pParse t2 true).1 = true ∧ printT true (pParse t2 true).1 = [40, 97, 124, 98, 41, 43] := by decide +kernel
theorem p3 : (pParse t3 true).2 = (0, 0) ∧ (pParse t3 true).1.k = 1 ∧ cnt (W4.bit (pParse t3 true).1.set) 256 = 255 ∧ rxOkB (pParse t3 true).1 = true := by decide +kernel
theorem p4 : (pParse t4 false).2 = (0, 0) ∧ (pParse t4 false).1.kn = 3 := by decide +kernel
theorem p5 : (pParse t5 true).2.2 = 1 := by decide +kernel
theorem rxOk_set {r : Rx} (h : rxOkB r = true) : r.set.a < 18446744073709551616 ∧ r.set.b < 18446744073709551616 ∧ r.set.c < 18446744073709551616 ∧ r.set.d < 18446744073709551616 := by
 have := rxOk_of r h
 cases r with
 | mk k mn mx n s kids => unfold RxOk at this; exact this.2.1
/-- A parse, with its answer. -/
theorem parse_at (s : ByteArray) (ere : Bool) (T : Rx) (n e : Nat) (hs : s.size ≤ 1000000) (hp : pParse s ere = (T, n, e)) (w : World) (h0 : ∃ m, w.cell? ⟨0, 0, none⟩ = some (.int .i64 m)) :
  Calls Tryz.prog 9 #[.string s, .bool ere] w fun en w' => ∃ k mn mx m t ad l c, en = .returned (.tuple #[rxv k mn mx m t (.slice ad l c), .int .i64 (n : Int), .int .i64 (e : Int)]) ∧ Pd w' T k mn mx m t ad l c ∧ Kp w w' := by
 refine (parse_any s ere w h0 hs).mono ?_
 intro en w' hx
 obtain ⟨v, rfl, hI, hk⟩ := hx.ex
 rw [hp] at hI ⊢
 obtain ⟨k, mn, mx, m, t, ad, l, c, rfl⟩ := hI.form
 exact ⟨k, mn, mx, m, t, ad, l, c, rfl, ⟨hI.weak (fun _ _ _ => trivial)⟩, hk⟩
theorem cell0 {w w' : World} (h : ∃ m, w.cell? ⟨0, 0, none⟩ = some (.int .i64 m)) (k : Kp w w') : ∃ m, w'.cell? ⟨0, 0, none⟩ = some (.int .i64 m) := by
 obtain ⟨m, hm⟩ := h
 exact ⟨m, (k.cell (World.block_lt_of_cell? w _ hm)).trans hm⟩

set_option maxHeartbeats 2000000 in
set_option maxRecDepth 100000 in
theorem runs_any (w : World) (h0 : ∃ m, w.cell? ⟨0, 0, none⟩ = some (.int .i64 m)) : Calls Tryz.prog 3 #[] w fun e w' => e = .returned (.bool true) ∧ Kp w w' := by
 have Z0 := hid h0
 clear h0
 obtain ⟨T1, n1, e1, hp1⟩ : ∃ T n e, pParse t1 false = (T, n, e) := ⟨_, _, _, rfl⟩
 have f1 := p1
 rw [hp1] at f1
 have PA1 := hid (parse_at t1 false T1 n1 e1 (by decide) hp1)
 have F1 := hid f1
 have hn1 : n1 = 0 := by have := f1.1; injection this
 have he1 : e1 = 0 := by have := f1.1; injection this
 subst hn1
 subst he1
 clear hp1 f1
 obtain ⟨T2, n2, e2, hp2⟩ : ∃ T n e, pParse t2 true = (T, n, e) := ⟨_, _, _, rfl⟩
 have f2 := p2
 rw [hp2] at f2
 have PA2 := hid (parse_at t2 true T2 n2 e2 (by decide) hp2)
 have F2 := hid f2
 have hn2 : n2 = 0 := by have := f2.1; injection this
 have he2 : e2 = 0 := by have := f2.1; injection this
 subst hn2
 subst he2
 clear hp2 f2
 obtain ⟨T3, n3, e3, hp3⟩ : ∃ T n e, pParse t3 true = (T, n, e) := ⟨_, _, _, rfl⟩
 have f3 := p3
 rw [hp3] at f3
 have PA3 := hid (parse_at t3 true T3 n3 e3 (by decide) hp3)
 have F3 := hid f3
 have hn3 : n3 = 0 := by have := f3.1; injection this
 have he3 : e3 = 0 := by have := f3.1; injection this
 subst hn3
 subst he3
 clear hp3 f3
 obtain ⟨T4, n4, e4, hp4⟩ : ∃ T n e, pParse t4 false = (T, n, e) := ⟨_, _, _, rfl⟩
 have f4 := p4
 rw [hp4] at f4
 have PA4 := hid (parse_at t4 false T4 n4 e4 (by decide) hp4)
 have F4 := hid f4
 have hn4 : n4 = 0 := by have := f4.1; injection this
 have he4 : e4 = 0 := by have := f4.1; injection this
 subst hn4
 subst he4
 clear hp4 f4
 obtain ⟨T5, n5, e5, hp5⟩ : ∃ T n e, pParse t5 true = (T, n, e) := ⟨_, _, _, rfl⟩
 have f5 := p5
 rw [hp5] at f5
 have PA5 := hid (parse_at t5 true T5 n5 e5 (by decide) hp5)
 have he5 : e5 = 1 := f5
 subst he5
 clear hp5 f5
 go_enter Tryz.func3, Tryz.ntmps3
 go_wp2_with fail
 refine (PA1.out _ Z0.out).mono ?_
 rintro en V1 ⟨k1, mn1, mx1, m1, s1, ad1, l1, c1, rfl, pd1, kv1⟩
 have KV1 := hid kv1
 have PD1 := hid pd1
 have hsv1 := kv1.size
 clear kv1 pd1
 go_upto_region 2 with fail
 refine opq (fun U1 => U1.heap[V1.heap.size]? = some (rxo k1 mn1 mx1 m1 s1 (.slice ad1 l1 c1)) ∧ Pd U1 T1 k1 mn1 mx1 m1 s1 ad1 l1 c1 ∧ Kp w U1 ∧ ∃ mz, U1.cell? ⟨0, 0, none⟩ = some (.int .i64 mz)) ⟨by (first | exact last_at _ _ _ (by simp) | (refine bl_alloc ?_ _; first | exact last_at _ _ _ (by simp) | (refine bl_alloc ?_ _; first | exact last_at _ _ _ (by simp) | (refine bl_alloc ?_ _; exact last_at _ _ _ (by simp))))), by exact PD1.out.kp (by repeat (first | exact Kp.refl _ | refine Kp.alloc ?_ _ | refine Kp.drew ?_ | refine Kp.drewN _ ?_)), by exact KV1.out.trans (by repeat (first | exact Kp.refl _ | refine Kp.alloc ?_ _ | refine Kp.drew ?_ | refine Kp.drewN _ ?_)), by exact cell0 Z0.out (KV1.out.trans (by repeat (first | exact Kp.refl _ | refine Kp.alloc ?_ _ | refine Kp.drew ?_ | refine Kp.drewN _ ?_)))⟩ ?_
 rintro U1 ⟨xA1x, xPD1x, xK1, xZ1⟩
 have A1x : Hid (U1.heap[V1.heap.size]? = some (rxo k1 mn1 mx1 m1 s1 (.slice ad1 l1 c1))) := xA1x
 have PD1x : Hid (Pd U1 T1 k1 mn1 mx1 m1 s1 ad1 l1 c1) := xPD1x
 have K1 : Hid (Kp w U1) := xK1
 have Z1 : Hid (∃ mz, U1.cell? ⟨0, 0, none⟩ = some (.int .i64 mz)) := xZ1
 clear xA1x xPD1x xK1 xZ1
 clear  PD1 KV1
 have A1 := A1x
 have PD1 := PD1x
 clear A1x PD1x
 go_wp2_with fail
 refine (PA2.out _ Z1.out).mono ?_
 rintro en V2 ⟨k2, mn2, mx2, m2, s2, ad2, l2, c2, rfl, pd2, kv2⟩
 have KV2 := hid kv2
 have PD2 := hid pd2
 have hsv2 := kv2.size
 clear kv2 pd2
 go_upto_region 3 with fail
 refine opq (fun U2 => U2.heap[V1.heap.size]? = some (rxo k1 mn1 mx1 m1 s1 (.slice ad1 l1 c1)) ∧ Pd U2 T1 k1 mn1 mx1 m1 s1 ad1 l1 c1 ∧ U2.heap[V2.heap.size]? = some (rxo k2 mn2 mx2 m2 s2 (.slice ad2 l2 c2)) ∧ Pd U2 T2 k2 mn2 mx2 m2 s2 ad2 l2 c2 ∧ Kp w U2 ∧ ∃ mz, U2.cell? ⟨0, 0, none⟩ = some (.int .i64 mz)) ⟨by exact bl_kp A1.out (KV2.out.trans (by repeat (first | exact Kp.refl _ | refine Kp.alloc ?_ _ | refine Kp.drew ?_ | refine Kp.drewN _ ?_))), by exact PD1.out.kp (KV2.out.trans (by repeat (first | exact Kp.refl _ | refine Kp.alloc ?_ _ | refine Kp.drew ?_ | refine Kp.drewN _ ?_))), by (first | exact last_at _ _ _ (by simp) | (refine bl_alloc ?_ _; first | exact last_at _ _ _ (by simp) | (refine bl_alloc ?_ _; first | exact last_at _ _ _ (by simp) | (refine bl_alloc ?_ _; exact last_at _ _ _ (by simp))))), by exact PD2.out.kp (by repeat (first | exact Kp.refl _ | refine Kp.alloc ?_ _ | refine Kp.drew ?_ | refine Kp.drewN _ ?_)), by exact K1.out.trans (KV2.out.trans (by repeat (first | exact Kp.refl _ | refine Kp.alloc ?_ _ | refine Kp.drew ?_ | refine Kp.drewN _ ?_))), by exact cell0 Z1.out (KV2.out.trans (by repeat (first | exact Kp.refl _ | refine Kp.alloc ?_ _ | refine Kp.drew ?_ | refine Kp.drewN _ ?_)))⟩ ?_
 rintro U2 ⟨xA1x, xPD1x, xA2x, xPD2x, xK2, xZ2⟩
 have A1x : Hid (U2.heap[V1.heap.size]? = some (rxo k1 mn1 mx1 m1 s1 (.slice ad1 l1 c1))) := xA1x
 have PD1x : Hid (Pd U2 T1 k1 mn1 mx1 m1 s1 ad1 l1 c1) := xPD1x
 have A2x : Hid (U2.heap[V2.heap.size]? = some (rxo k2 mn2 mx2 m2 s2 (.slice ad2 l2 c2))) := xA2x
 have PD2x : Hid (Pd U2 T2 k2 mn2 mx2 m2 s2 ad2 l2 c2) := xPD2x
 have K2 : Hid (Kp w U2) := xK2
 have Z2 : Hid (∃ mz, U2.cell? ⟨0, 0, none⟩ = some (.int .i64 mz)) := xZ2
 clear xA1x xPD1x xA2x xPD2x xK2 xZ2
 clear A1 PD1 PD2 KV2 K1 Z1
 have A1 := A1x
 have PD1 := PD1x
 clear A1x PD1x
 have A2 := A2x
 have PD2 := PD2x
 clear A2x PD2x
 go_wp2_with fail
 refine (PA3.out _ Z2.out).mono ?_
 rintro en V3 ⟨k3, mn3, mx3, m3, s3, ad3, l3, c3, rfl, pd3, kv3⟩
 have KV3 := hid kv3
 have PD3 := hid pd3
 have hsv3 := kv3.size
 clear kv3 pd3
 go_upto_region 4 with fail
 refine opq (fun U3 => U3.heap[V1.heap.size]? = some (rxo k1 mn1 mx1 m1 s1 (.slice ad1 l1 c1)) ∧ Pd U3 T1 k1 mn1 mx1 m1 s1 ad1 l1 c1 ∧ U3.heap[V2.heap.size]? = some (rxo k2 mn2 mx2 m2 s2 (.slice ad2 l2 c2)) ∧ Pd U3 T2 k2 mn2 mx2 m2 s2 ad2 l2 c2 ∧ U3.heap[V3.heap.size]? = some (rxo k3 mn3 mx3 m3 s3 (.slice ad3 l3 c3)) ∧ Pd U3 T3 k3 mn3 mx3 m3 s3 ad3 l3 c3 ∧ Kp w U3 ∧ ∃ mz, U3.cell? ⟨0, 0, none⟩ = some (.int .i64 mz)) ⟨by exact bl_kp A1.out (KV3.out.trans (by repeat (first | exact Kp.refl _ | refine Kp.alloc ?_ _ | refine Kp.drew ?_ | refine Kp.drewN _ ?_))), by exact PD1.out.kp (KV3.out.trans (by repeat (first | exact Kp.refl _ | refine Kp.alloc ?_ _ | refine Kp.drew ?_ | refine Kp.drewN _ ?_))), by exact bl_kp A2.out (KV3.out.trans (by repeat (first | exact Kp.refl _ | refine Kp.alloc ?_ _ | refine Kp.drew ?_ | refine Kp.drewN _ ?_))), by exact PD2.out.kp (KV3.out.trans (by repeat (first | exact Kp.refl _ | refine Kp.alloc ?_ _ | refine Kp.drew ?_ | refine Kp.drewN _ ?_))), by (first | exact last_at _ _ _ (by simp) | (refine bl_alloc ?_ _; first | exact last_at _ _ _ (by simp) | (refine bl_alloc ?_ _; first | exact last_at _ _ _ (by simp) | (refine bl_alloc ?_ _; exact last_at _ _ _ (by simp))))), by exact PD3.out.kp (by repeat (first | exact Kp.refl _ | refine Kp.alloc ?_ _ | refine Kp.drew ?_ | refine Kp.drewN _ ?_)), by exact K2.out.trans (KV3.out.trans (by repeat (first | exact Kp.refl _ | refine Kp.alloc ?_ _ | refine Kp.drew ?_ | refine Kp.drewN _ ?_))), by exact cell0 Z2.out (KV3.out.trans (by repeat (first | exact Kp.refl _ | refine Kp.alloc ?_ _ | refine Kp.drew ?_ | refine Kp.drewN _ ?_)))⟩ ?_
 rintro U3 ⟨xA1x, xPD1x, xA2x, xPD2x, xA3x, xPD3x, xK3, xZ3⟩
 have A1x : Hid (U3.heap[V1.heap.size]? = some (rxo k1 mn1 mx1 m1 s1 (.slice ad1 l1 c1))) := xA1x
 have PD1x : Hid (Pd U3 T1 k1 mn1 mx1 m1 s1 ad1 l1 c1) := xPD1x
 have A2x : Hid (U3.heap[V2.heap.size]? = some (rxo k2 mn2 mx2 m2 s2 (.slice ad2 l2 c2))) := xA2x
 have PD2x : Hid (Pd U3 T2 k2 mn2 mx2 m2 s2 ad2 l2 c2) := xPD2x
 have A3x : Hid (U3.heap[V3.heap.size]? = some (rxo k3 mn3 mx3 m3 s3 (.slice ad3 l3 c3))) := xA3x
 have PD3x : Hid (Pd U3 T3 k3 mn3 mx3 m3 s3 ad3 l3 c3) := xPD3x
 have K3 : Hid (Kp w U3) := xK3
 have Z3 : Hid (∃ mz, U3.cell? ⟨0, 0, none⟩ = some (.int .i64 mz)) := xZ3
 clear xA1x xPD1x xA2x xPD2x xA3x xPD3x xK3 xZ3
 clear A1 PD1 A2 PD2 PD3 KV3 K2 Z2
 have A1 := A1x
 have PD1 := PD1x
 clear A1x PD1x
 have A2 := A2x
 have PD2 := PD2x
 clear A2x PD2x
 have A3 := A3x
 have PD3 := PD3x
 clear A3x PD3x
 go_wp2_with fail
 refine (PA4.out _ Z3.out).mono ?_
 rintro en V4 ⟨k4, mn4, mx4, m4, s4, ad4, l4, c4, rfl, pd4, kv4⟩
 have KV4 := hid kv4
 have PD4 := hid pd4
 have hsv4 := kv4.size
 clear kv4 pd4
 go_upto_region 5 with fail
 refine opq (fun U4 => U4.heap[V1.heap.size]? = some (rxo k1 mn1 mx1 m1 s1 (.slice ad1 l1 c1)) ∧ Pd U4 T1 k1 mn1 mx1 m1 s1 ad1 l1 c1 ∧ U4.heap[V2.heap.size]? = some (rxo k2 mn2 mx2 m2 s2 (.slice ad2 l2 c2)) ∧ Pd U4 T2 k2 mn2 mx2 m2 s2 ad2 l2 c2 ∧ U4.heap[V3.heap.size]? = some (rxo k3 mn3 mx3 m3 s3 (.slice ad3 l3 c3)) ∧ Pd U4 T3 k3 mn3 mx3 m3 s3 ad3 l3 c3 ∧ U4.heap[V4.heap.size]? = some (rxo k4 mn4 mx4 m4 s4 (.slice ad4 l4 c4)) ∧ Pd U4 T4 k4 mn4 mx4 m4 s4 ad4 l4 c4 ∧ Kp w U4 ∧ ∃ mz, U4.cell? ⟨0, 0, none⟩ = some (.int .i64 mz)) ⟨by exact bl_kp A1.out (KV4.out.trans (by repeat (first | exact Kp.refl _ | refine Kp.alloc ?_ _ | refine Kp.drew ?_ | refine Kp.drewN _ ?_))), by exact PD1.out.kp (KV4.out.trans (by repeat (first | exact Kp.refl _ | refine Kp.alloc ?_ _ | refine Kp.drew ?_ | refine Kp.drewN _ ?_))), by exact bl_kp A2.out (KV4.out.trans (by repeat (first | exact Kp.refl _ | refine Kp.alloc ?_ _ | refine Kp.drew ?_ | refine Kp.drewN _ ?_))), by exact PD2.out.kp (KV4.out.trans (by repeat (first | exact Kp.refl _ | refine Kp.alloc ?_ _ | refine Kp.drew ?_ | refine Kp.drewN _ ?_))), by exact bl_kp A3.out (KV4.out.trans (by repeat (first | exact Kp.refl _ | refine Kp.alloc ?_ _ | refine Kp.drew ?_ | refine Kp.drewN _ ?_))), by exact PD3.out.kp (KV4.out.trans (by repeat (first | exact Kp.refl _ | refine Kp.alloc ?_ _ | refine Kp.drew ?_ | refine Kp.drewN _ ?_))), by (first | exact last_at _ _ _ (by simp) | (refine bl_alloc ?_ _; first | exact last_at _ _ _ (by simp) | (refine bl_alloc ?_ _; first | exact last_at _ _ _ (by simp) | (refine bl_alloc ?_ _; exact last_at _ _ _ (by simp))))), by exact PD4.out.kp (by repeat (first | exact Kp.refl _ | refine Kp.alloc ?_ _ | refine Kp.drew ?_ | refine Kp.drewN _ ?_)), by exact K3.out.trans (KV4.out.trans (by repeat (first | exact Kp.refl _ | refine Kp.alloc ?_ _ | refine Kp.drew ?_ | refine Kp.drewN _ ?_))), by exact cell0 Z3.out (KV4.out.trans (by repeat (first | exact Kp.refl _ | refine Kp.alloc ?_ _ | refine Kp.drew ?_ | refine Kp.drewN _ ?_)))⟩ ?_
 rintro U4 ⟨xA1x, xPD1x, xA2x, xPD2x, xA3x, xPD3x, xA4x, xPD4x, xK4, xZ4⟩
 have A1x : Hid (U4.heap[V1.heap.size]? = some (rxo k1 mn1 mx1 m1 s1 (.slice ad1 l1 c1))) := xA1x
 have PD1x : Hid (Pd U4 T1 k1 mn1 mx1 m1 s1 ad1 l1 c1) := xPD1x
 have A2x : Hid (U4.heap[V2.heap.size]? = some (rxo k2 mn2 mx2 m2 s2 (.slice ad2 l2 c2))) := xA2x
 have PD2x : Hid (Pd U4 T2 k2 mn2 mx2 m2 s2 ad2 l2 c2) := xPD2x
 have A3x : Hid (U4.heap[V3.heap.size]? = some (rxo k3 mn3 mx3 m3 s3 (.slice ad3 l3 c3))) := xA3x
 have PD3x : Hid (Pd U4 T3 k3 mn3 mx3 m3 s3 ad3 l3 c3) := xPD3x
 have A4x : Hid (U4.heap[V4.heap.size]? = some (rxo k4 mn4 mx4 m4 s4 (.slice ad4 l4 c4))) := xA4x
 have PD4x : Hid (Pd U4 T4 k4 mn4 mx4 m4 s4 ad4 l4 c4) := xPD4x
 have K4 : Hid (Kp w U4) := xK4
 have Z4 : Hid (∃ mz, U4.cell? ⟨0, 0, none⟩ = some (.int .i64 mz)) := xZ4
 clear xA1x xPD1x xA2x xPD2x xA3x xPD3x xA4x xPD4x xK4 xZ4
 clear A1 PD1 A2 PD2 A3 PD3 PD4 KV4 K3 Z3
 have A1 := A1x
 have PD1 := PD1x
 clear A1x PD1x
 have A2 := A2x
 have PD2 := PD2x
 clear A2x PD2x
 have A3 := A3x
 have PD3 := PD3x
 clear A3x PD3x
 have A4 := A4x
 have PD4 := PD4x
 clear A4x PD4x
 go_wp2_with fail
 refine (PA5.out _ Z4.out).mono ?_
 rintro en V5 ⟨k5, mn5, mx5, m5, s5, ad5, l5, c5, rfl, pd5, kv5⟩
 have KV5 := hid kv5
 have PD5 := hid pd5
 have hsv5 := kv5.size
 clear kv5 pd5
 go_upto_region 6 with fail
 refine opq (fun U5 => U5.heap[V1.heap.size]? = some (rxo k1 mn1 mx1 m1 s1 (.slice ad1 l1 c1)) ∧ Pd U5 T1 k1 mn1 mx1 m1 s1 ad1 l1 c1 ∧ U5.heap[V2.heap.size]? = some (rxo k2 mn2 mx2 m2 s2 (.slice ad2 l2 c2)) ∧ Pd U5 T2 k2 mn2 mx2 m2 s2 ad2 l2 c2 ∧ U5.heap[V3.heap.size]? = some (rxo k3 mn3 mx3 m3 s3 (.slice ad3 l3 c3)) ∧ Pd U5 T3 k3 mn3 mx3 m3 s3 ad3 l3 c3 ∧ U5.heap[V4.heap.size]? = some (rxo k4 mn4 mx4 m4 s4 (.slice ad4 l4 c4)) ∧ Pd U5 T4 k4 mn4 mx4 m4 s4 ad4 l4 c4 ∧ U5.heap[V5.heap.size]? = some (rxo k5 mn5 mx5 m5 s5 (.slice ad5 l5 c5)) ∧ Pd U5 T5 k5 mn5 mx5 m5 s5 ad5 l5 c5 ∧ Kp w U5 ∧ ∃ mz, U5.cell? ⟨0, 0, none⟩ = some (.int .i64 mz)) ⟨by exact bl_kp A1.out (KV5.out.trans (by repeat (first | exact Kp.refl _ | refine Kp.alloc ?_ _ | refine Kp.drew ?_ | refine Kp.drewN _ ?_))), by exact PD1.out.kp (KV5.out.trans (by repeat (first | exact Kp.refl _ | refine Kp.alloc ?_ _ | refine Kp.drew ?_ | refine Kp.drewN _ ?_))), by exact bl_kp A2.out (KV5.out.trans (by repeat (first | exact Kp.refl _ | refine Kp.alloc ?_ _ | refine Kp.drew ?_ | refine Kp.drewN _ ?_))), by exact PD2.out.kp (KV5.out.trans (by repeat (first | exact Kp.refl _ | refine Kp.alloc ?_ _ | refine Kp.drew ?_ | refine Kp.drewN _ ?_))), by exact bl_kp A3.out (KV5.out.trans (by repeat (first | exact Kp.refl _ | refine Kp.alloc ?_ _ | refine Kp.drew ?_ | refine Kp.drewN _ ?_))), by exact PD3.out.kp (KV5.out.trans (by repeat (first | exact Kp.refl _ | refine Kp.alloc ?_ _ | refine Kp.drew ?_ | refine Kp.drewN _ ?_))), by exact bl_kp A4.out (KV5.out.trans (by repeat (first | exact Kp.refl _ | refine Kp.alloc ?_ _ | refine Kp.drew ?_ | refine Kp.drewN _ ?_))), by exact PD4.out.kp (KV5.out.trans (by repeat (first | exact Kp.refl _ | refine Kp.alloc ?_ _ | refine Kp.drew ?_ | refine Kp.drewN _ ?_))), by (first | exact last_at _ _ _ (by simp) | (refine bl_alloc ?_ _; first | exact last_at _ _ _ (by simp) | (refine bl_alloc ?_ _; first | exact last_at _ _ _ (by simp) | (refine bl_alloc ?_ _; exact last_at _ _ _ (by simp))))), by exact PD5.out.kp (by repeat (first | exact Kp.refl _ | refine Kp.alloc ?_ _ | refine Kp.drew ?_ | refine Kp.drewN _ ?_)), by exact K4.out.trans (KV5.out.trans (by repeat (first | exact Kp.refl _ | refine Kp.alloc ?_ _ | refine Kp.drew ?_ | refine Kp.drewN _ ?_))), by exact cell0 Z4.out (KV5.out.trans (by repeat (first | exact Kp.refl _ | refine Kp.alloc ?_ _ | refine Kp.drew ?_ | refine Kp.drewN _ ?_)))⟩ ?_
 rintro U5 ⟨xA1x, xPD1x, xA2x, xPD2x, xA3x, xPD3x, xA4x, xPD4x, xA5x, xPD5x, xK5, xZ5⟩
 have A1x : Hid (U5.heap[V1.heap.size]? = some (rxo k1 mn1 mx1 m1 s1 (.slice ad1 l1 c1))) := xA1x
 have PD1x : Hid (Pd U5 T1 k1 mn1 mx1 m1 s1 ad1 l1 c1) := xPD1x
 have A2x : Hid (U5.heap[V2.heap.size]? = some (rxo k2 mn2 mx2 m2 s2 (.slice ad2 l2 c2))) := xA2x
 have PD2x : Hid (Pd U5 T2 k2 mn2 mx2 m2 s2 ad2 l2 c2) := xPD2x
 have A3x : Hid (U5.heap[V3.heap.size]? = some (rxo k3 mn3 mx3 m3 s3 (.slice ad3 l3 c3))) := xA3x
 have PD3x : Hid (Pd U5 T3 k3 mn3 mx3 m3 s3 ad3 l3 c3) := xPD3x
 have A4x : Hid (U5.heap[V4.heap.size]? = some (rxo k4 mn4 mx4 m4 s4 (.slice ad4 l4 c4))) := xA4x
 have PD4x : Hid (Pd U5 T4 k4 mn4 mx4 m4 s4 ad4 l4 c4) := xPD4x
 have A5x : Hid (U5.heap[V5.heap.size]? = some (rxo k5 mn5 mx5 m5 s5 (.slice ad5 l5 c5))) := xA5x
 have PD5x : Hid (Pd U5 T5 k5 mn5 mx5 m5 s5 ad5 l5 c5) := xPD5x
 have K5 : Hid (Kp w U5) := xK5
 have Z5 : Hid (∃ mz, U5.cell? ⟨0, 0, none⟩ = some (.int .i64 mz)) := xZ5
 clear xA1x xPD1x xA2x xPD2x xA3x xPD3x xA4x xPD4x xA5x xPD5x xK5 xZ5
 clear A1 PD1 A2 PD2 A3 PD3 A4 PD4 PD5 KV5 K4 Z4
 have A1 := A1x
 have PD1 := PD1x
 clear A1x PD1x
 have A2 := A2x
 have PD2 := PD2x
 clear A2x PD2x
 have A3 := A3x
 have PD3 := PD3x
 clear A3x PD3x
 have A4 := A4x
 have PD4 := PD4x
 clear A4x PD4x
 have A5 := A5x
 have PD5 := PD5x
 clear A5x PD5x
 have d1 : l1 = 4 := (PD1.out.all.1).trans F1.out.2
 have d4 : l4 = 3 := (PD4.out.all.1).trans F4.out.2
 have d3 : k3 = 1 := (PD3.out.all.2.1).trans F3.out.2.1
 have d3s : s3 = T3.set := PD3.out.all.2.2
 subst d1
 subst d4
 subst d3
 have b3 := rxOk_set F3.out.2.2.2
 rw [← d3s] at b3
 have cn : cnt (W4.bit s3) 256 = 255 := by rw [d3s]; exact F3.out.2.2.1
 have CN : Hid (∀ w, Calls Tryz.prog 11 #[vv s3.a s3.b s3.c s3.d] w fun e w' => e = .returned (.int .i64 255) ∧ Kp w w') := fun w => by
  have := count_any (W4.bit s3) w
  rw [cn] at this
  have e : vv s3.a s3.b s3.c s3.d = sv (W4.bit s3) := vv_sv s3.a s3.b s3.c s3.d b3.1 b3.2.1 b3.2.2.1 b3.2.2.2
  rw [e]
  exact this
 have PR : Hid (∀ w, Pd w T2 k2 mn2 mx2 m2 s2 ad2 l2 c2 → Calls Tryz.prog 10 #[rxv k2 mn2 mx2 m2 s2 (.slice ad2 l2 c2), .bool true] w fun e w' => e = .returned (.string ⟨#[40, 97, 124, 98, 41, 43]⟩) ∧ Kp w w') := fun w h => by
  have := print_any T2 true (fun _ => True) k2 mn2 mx2 m2 s2 ad2 l2 c2 w (rxOk_of _ F2.out.2.1) (fun _ => txFit_of true _ F2.out.2.2.1) h.is
  rw [F2.out.2.2.2] at this
  exact this
 clear d3s b3 cn
 have x18 := bl_cell A1.out 8 _ rfl
 obtain ⟨y0, y1, y2, y3, y4, y5, y6, y7, y8⟩ := cells9c A2.out
 go_wp2_with fail
 clear x18 y0 y1 y2 y3 y4 y5 y6 y7 y8
 refine (PR.out _ PD2.out).mono ?_
 rintro en U6 ⟨rfl, k6⟩
 have B3 := hid (bl_kp A3.out k6)
 have B4 := hid (bl_kp A4.out k6)
 have K6 := hid (K5.out.trans k6)
 clear k6
 obtain ⟨y0, y1, y2, y3, y4, y5, y6, y7, y8⟩ := cells9c B3.out
 have x48 := bl_cell B4.out 8 _ rfl
 go_wp2_with fail
 clear y0 y1 y2 y3 y4 y5 y6 y7 y8 x48
 refine (CN.out _).mono ?_
 rintro en U7 ⟨rfl, k7⟩
 have C4 := hid (bl_kp B4.out k7)
 have K7 := hid (K6.out.trans k7)
 clear k7
 have x48 := bl_cell C4.out 8 _ rfl
 go_wp2_with fail
 go_ret
 exact ⟨rfl, K7.out⟩
end Go.Proofs.YtikmgckefbjbkaaGreatDoor

/-! ### Sets1 -/

namespace Go.Proofs.YtikmgckefbjbkaaGreatDoor.Trip
open Go Go.Proofs.YtikmgckefbjbkaaGreatDoor

def setR (p : Nat → Bool) : Rx := .mk 1 0 0 0 (W4.of p) []
theorem of_lt (p : Nat → Bool) : (W4.of p).a < 18446744073709551616 ∧ (W4.of p).b < 18446744073709551616 ∧ (W4.of p).c < 18446744073709551616 ∧ (W4.of p).d < 18446744073709551616 := ⟨wd_lt p 0, wd_lt p 1, wd_lt p 2, wd_lt p 3⟩
theorem bit_of (p : Nat → Bool) (k : Nat) (hk : k < 256) : W4.bit (W4.of p) k = p k := by
 unfold W4.bit bitOf W4.of
 have h : k / 64 = 0 ∨ k / 64 = 1 ∨ k / 64 = 2 ∨ k / 64 = 3 := by omega
 rcases h with h | h | h | h
 ·
  rw [if_pos h, wd_testBit, decide_eq_true (by omega), Bool.true_and, show 64 * 0 + k % 64 = k by omega]
 ·
  rw [if_neg (by omega), if_pos h, wd_testBit, decide_eq_true (by omega), Bool.true_and, show 64 * 1 + k % 64 = k by omega]
 ·
  rw [if_neg (by omega), if_neg (by omega), if_pos h, wd_testBit, decide_eq_true (by omega), Bool.true_and, show 64 * 2 + k % 64 = k by omega]
 ·
  rw [if_neg (by omega), if_neg (by omega), if_neg (by omega), wd_testBit, decide_eq_true (by omega), Bool.true_and, show 64 * 3 + k % 64 = k by omega]
theorem setR_ok (p : Nat → Bool) : RxOk (setR p) := by
 unfold setR RxOk
 exact ⟨by simp, of_lt p, fun a ha => by cases ha⟩
theorem setT_len2 (p : Nat → Bool) (ere : Bool) : (setT p ere).length ≤ 2000 := by
 have h1 := rowT_len p
 have h2 := rowT_len (notB p)
 have h3 : (setRow p).length ≤ 1024 := by
  unfold setRow
  split
  ·
   simp
  ·
   exact h1
 unfold setT
 split
 ·
  unfold byteT
  split
  ·
   simp
  ·
   split <;> simp
 ·
  split
  ·
   simp
  ·
   split
   ·
    simp; omega
   ·
    simp; omega
theorem setR_txt (p : Nat → Bool) (ere : Bool) : txt ere (setR p) = setT (W4.bit (W4.of p)) ere := by
 unfold setR
 rw [txt_mk, if_pos rfl]
theorem setR_fit (p : Nat → Bool) (ere : Bool) : TxFit ere (setR p) := by
 have h := setR_txt p ere
 have h2 := setT_len2 (W4.bit (W4.of p)) ere
 unfold setR at h ⊢
 unfold TxFit
 refine ⟨⟨fun hk => absurd hk (by decide), fun hk => absurd hk (by decide), fun hk => absurd hk (by decide), by simp, of_lt p, by rw [h]; omega, fun r hr => by cases hr⟩, fun a ha => by cases ha⟩
theorem setR_right (p : Nat → Bool) (ere : Bool) : right ere (setR p) = decide (0 < cnt p 256) := by
 unfold right setR
 rw [chk]
 have hl : leanB (.mk 1 0 0 0 (W4.of p) []) = true := rfl
 rw [if_neg (by rw [hl]; simp), if_pos rfl, cnt_congr _ p (fun k hk => bit_of p k hk)]
 by_cases h : 0 < cnt p 256
 ·
  rw [if_pos h, decide_eq_true h]; rfl
 ·
  rw [if_neg h, decide_eq_false h]; rfl
theorem setR_trip (p : Nat → Bool) (ere : Bool) (h : 0 < cnt p 256) : pParse (bs (printT ere (setR p))) ere = (setR p, 0, 0) := by
 have hr : right ere (setR p) = true := by rw [setR_right, decide_eq_true h]
 unfold printT
 rw [if_pos hr]
 exact trip ere (setR p) (setR_ok p) hr
theorem setR_none (p : Nat → Bool) (ere : Bool) (h : cnt p 256 = 0) : printT ere (setR p) = [] ∧ right ere (setR p) = false := by
 have hr : right ere (setR p) = false := by rw [setR_right, decide_eq_false (by omega)]
 refine ⟨?_, hr⟩
 unfold printT
 rw [if_neg (by rw [hr]; simp)]
/-- No byte: no bit. -/
theorem of_zero (p : Nat → Bool) : (W4.of p == W4.z) = decide (cnt p 256 = 0) := by
 rw [Bool.eq_iff_iff, beq_iff_eq, decide_eq_true_eq]
 constructor
 ·
  intro h
  refine cnt_zero p (fun k hk => ?_)
  rw [← bit_of p k hk, h]
  unfold W4.bit bitOf W4.z
  simp
 ·
  intro h
  have hz : ∀ k, k < 256 → p k = false := by
   intro k hk
   cases hp : p k with
   | false => rfl
   | true =>
    have : k ∈ lst p 256 := (mem_lst p k).2 ⟨hk, hp⟩
    rw [← lst_length, List.length_eq_zero_iff] at h
    rw [h] at this
    cases this
  exact w4_back W4.z p (by unfold W4.z; simp) (fun k hk => by rw [hz k hk]; unfold W4.bit bitOf W4.z; simp)
theorem rng_cnt (f t : Nat) (h : f ≤ t) (ht : t < 256) : cnt (rng f t) 256 ≠ 0 := by
 intro h0
 have : f ∈ lst (rng f t) 256 := (mem_lst _ f).2 ⟨by omega, by unfold rng; simp; omega⟩
 rw [← lst_length, List.length_eq_zero_iff] at h0
 rw [h0] at this
 cases this
/-- From one to another, in brackets. -/
theorem range_parse (f t : Nat) (hf : f < 256) (ht : t < 256) (ere : Bool) (_f1 : f ≠ 93) (f2 : f ≠ 94) (f3 : f ≠ 45) (f4 : f ≠ 91) (t1 : t ≠ 93) (t2 : t ≠ 91) (t3 : t ≠ 45) :
  if f ≤ t then pParse (bs [91, UInt8.ofNat f, 45, UInt8.ofNat t, 93]) ere = (rset (rng f t), 0, 0) else ∃ n, pParse (bs [91, UInt8.ofNat f, 45, UInt8.ofNat t, 93]) ere = (rx0, n, 1) := by
 have F8 := of8 f hf
 have T8 := of8 t ht
 obtain ⟨s, hs⟩ : ∃ s, bs [91, UInt8.ofNat f, 45, UInt8.ofNat t, 93] = s := ⟨_, rfl⟩
 have h0 : Rest s 0 [91, UInt8.ofNat f, 45, UInt8.ofNat t, 93] := by rw [← hs]; exact Rest.of _
 rw [hs]
 have hsz : s.size = 5 := by have := h0.len; simp at this; omega
 obtain ⟨F, hF⟩ : ∃ F, UInt8.ofNat f = F := ⟨_, rfl⟩
 obtain ⟨T, hT⟩ : ∃ T, UInt8.ofNat t = T := ⟨_, rfl⟩
 rw [hF, hT] at h0
 rw [hF] at F8
 rw [hT] at T8
 have r1 := h0.tail
 have r2 := r1.tail
 have r3 := r2.tail
 have r4 := r3.tail
 have r5 := r4.tail
 have sg0 : sgn s ere 0 = (4, 91, 1) := by
  rw [h0.sign ere, sgL_cons, if_neg (by decide)]
  show (bare 91 ere, 91, 1) = _
  rw [bare91]
 have sg5 : sgn s ere 5 = (1, 0, 0) := by rw [r5.sign ere]; rfl
 have si : sgnIn s ere 0 0 = (4, 91, 1) := by
  have e : sgL ere [91, F, 45, T, 93] = (4, 91, 1) := by rw [← h0.sign ere]; exact sg0
  rw [sgnIn_ok h0 (by rw [e]; simp), e]
 have turn : bTurn s 0 = false := by
  unfold bTurn
  rw [r1.has]
  show ((94 : UInt8) == F && true) = false
  rw [beq_nat, Bool.and_true, F8]
  simp
  omega
 have p1 : pfx s 1 [91, 58] = false := by
  rw [r1.has]
  show ((91 : UInt8) == F && ((58 : UInt8) == 45 && true)) = false
  simp
 have p3 : pfx s 3 [91, 58] = false := by
  rw [r3.has]
  show ((91 : UInt8) == T && ((58 : UInt8) == 93 && true)) = false
  simp
 have dsh : dash s 2 = true := by
  unfold dash
  rw [r2.byte, r3.byte, hsz, T8]
  simp
  exact t1
 have hin : pIn s 1 = if f ≤ t then (some (rng f t), 4) else (none, 3) := by
  unfold pIn
  rw [if_neg (by omega), p1, dsh, p3, r1.byte, r3.byte, F8, T8]
  by_cases h : f ≤ t
  ·
   rw [if_pos h]
   show (if (false || decide (t < f)) = true then _ else _) = _
   rw [decide_eq_false (by omega)]
   rfl
  ·
   rw [if_neg h]
   show (if (false || decide (t < f)) = true then _ else _) = _
   rw [decide_eq_true (by omega)]
   rfl
 by_cases h : f ≤ t
 ·
  rw [if_pos h] at hin ⊢
  have hbr : pBr s 1 = (some (rng f t), 5) := by
   unfold pBr
   rw [hin]
   show pBrL s (s.size + 1) (rng f t) 4 = _
   rw [pBrL, r4.has]
   rfl
  have hone : ∀ c n g d, pOne c s ere 4 91 1 ⟨0, n, g, d⟩ = ⟨rset (rng f t), 0, ⟨5, n + 1, g, d⟩⟩ := by
   intro c n g d
   show pBracket s ⟨0, n, g, d⟩ = _
   unfold pBracket
   show (match pBr s (bFrom s 0) with | (none, j) => _ | (some p, j) => _) = _
   rw [show bFrom s 0 = 1 by unfold bFrom; rw [turn]; rfl, hbr]
   show (if cnt (if bTurn s 0 then notB (rng f t) else rng f t) 256 = 0 then _ else _) = _
   rw [turn]
   show (if cnt (rng f t) 256 = 0 then _ else _) = _
   rw [if_neg (rng_cnt f t h ht)]
   rfl
  have hpart : ∀ c, pPart c s ere 0 ⟨0, 0, 0, 0⟩ = ⟨rset (rng f t), 0, ⟨5, 1, 0, 0⟩⟩ := by
   intro c
   unfold pPart
   show (if (pOne c s ere (sgnIn s ere 0 0).1 (sgnIn s ere 0 0).2.1 (sgnIn s ere 0 0).2.2 ⟨0, 0, 0, 0⟩).e ≠ 0 ∨ _ then _ else _) = _
   rw [si, hone]
   rw [if_neg (by show ¬((0 : Nat) ≠ 0 ∨ mayRep 1 = false); simp [mayRep])]
   rw [pRep_none (by show noRep (sgn s ere 5).1; rw [sg5]; unfold noRep; simp)]
  have hrow : ∀ c, pRow c s ere ⟨0, 0, 0, 0⟩ = ⟨rset (rng f t), 0, ⟨5, 1, 0, 0⟩⟩ := by
   intro c
   unfold pRow
   show pRowL c s ere 0 (s.size + 1) [] ⟨0, 0, 0, 0⟩ = _
   rw [hsz, pRowL]
   show (if ends (sgn s ere 0).1 = true then _ else _) = _
   rw [sg0, if_neg (by decide)]
   show (if (pPart c s ere 0 ⟨0, 0, 0, 0⟩).e ≠ 0 then _ else pRowL c s ere 0 5 (keepL (pPart c s ere 0 ⟨0, 0, 0, 0⟩).st.n [] (pPart c s ere 0 ⟨0, 0, 0, 0⟩).r) (pPart c s ere 0 ⟨0, 0, 0, 0⟩).st) = _
   rw [hpart, if_neg (by simp)]
   show pRowL c s ere 0 5 [rset (rng f t)] ⟨5, 1, 0, 0⟩ = _
   rw [pRowL]
   show (if ends (sgn s ere 5).1 = true then _ else _) = _
   rw [sg5, if_pos (by decide)]
   rfl
  have hch : pCh s ere 7 ⟨0, 0, 0, 0⟩ = ⟨rset (rng f t), 0, ⟨5, 1, 0, 0⟩⟩ := by
   show pCh1 (pCh s ere 6) s ere ⟨0, 0, 0, 0⟩ = _
   unfold pCh1
   show (if (pRow (pCh s ere 6) s ere ⟨0, 0, 0, 0⟩).e ≠ 0 ∨ (sgn s ere (pRow (pCh s ere 6) s ere ⟨0, 0, 0, 0⟩).st.i).1 ≠ 9 then _ else _) = _
   rw [hrow]
   rw [if_pos (by right; show (sgn s ere 5).1 ≠ 9; rw [sg5]; decide)]
  have hw : pWhole s ere = ⟨rset (rng f t), 0, ⟨5, 1, 0, 0⟩⟩ := by
   unfold pWhole
   show (if (pCh s ere 7 ⟨0, 0, 0, 0⟩).e ≠ 0 then _ else _) = _
   rw [hch]
   rw [if_neg (by simp)]
   show (if 5 < s.size then _ else if 1 > 40 ∨ 0 > 3 then _ else _) = _
   rw [hsz, if_neg (by omega), if_neg (by omega)]
  unfold pParse
  show (if (pWhole s ere).e ≠ 0 then _ else _) = _
  rw [hw]
  rfl
 ·
  rw [if_neg h] at hin ⊢
  have hbr : pBr s 1 = (none, 3) := by
   unfold pBr
   rw [hin]
  have hone : ∀ c n g d, pOne c s ere 4 91 1 ⟨0, n, g, d⟩ = ⟨rx0, 1, ⟨3, n, g, d⟩⟩ := by
   intro c n g d
   show pBracket s ⟨0, n, g, d⟩ = _
   unfold pBracket
   show (match pBr s (bFrom s 0) with | (none, j) => _ | (some p, j) => _) = _
   rw [show bFrom s 0 = 1 by unfold bFrom; rw [turn]; rfl, hbr]
  have hpart : ∀ c, pPart c s ere 0 ⟨0, 0, 0, 0⟩ = ⟨rx0, 1, ⟨3, 0, 0, 0⟩⟩ := by
   intro c
   unfold pPart
   show (if (pOne c s ere (sgnIn s ere 0 0).1 (sgnIn s ere 0 0).2.1 (sgnIn s ere 0 0).2.2 ⟨0, 0, 0, 0⟩).e ≠ 0 ∨ _ then _ else _) = _
   rw [si, hone]
   rw [if_pos (by left; simp)]
  have hrow : ∀ c, pRow c s ere ⟨0, 0, 0, 0⟩ = ⟨rx0, 1, ⟨3, 0, 0, 0⟩⟩ := by
   intro c
   unfold pRow
   show pRowL c s ere 0 (s.size + 1) [] ⟨0, 0, 0, 0⟩ = _
   rw [hsz, pRowL]
   show (if ends (sgn s ere 0).1 = true then _ else _) = _
   rw [sg0, if_neg (by decide)]
   show (if (pPart c s ere 0 ⟨0, 0, 0, 0⟩).e ≠ 0 then Out.mk rx0 (pPart c s ere 0 ⟨0, 0, 0, 0⟩).e (pPart c s ere 0 ⟨0, 0, 0, 0⟩).st else _) = _
   rw [hpart, if_pos (by simp)]
  have hch : pCh s ere 7 ⟨0, 0, 0, 0⟩ = ⟨rx0, 1, ⟨3, 0, 0, 0⟩⟩ := by
   show pCh1 (pCh s ere 6) s ere ⟨0, 0, 0, 0⟩ = _
   unfold pCh1
   show (if (pRow (pCh s ere 6) s ere ⟨0, 0, 0, 0⟩).e ≠ 0 ∨ (sgn s ere (pRow (pCh s ere 6) s ere ⟨0, 0, 0, 0⟩).st.i).1 ≠ 9 then _ else _) = _
   rw [hrow]
   rw [if_pos (by left; simp)]
  have hw : pWhole s ere = ⟨rx0, 1, ⟨3, 0, 0, 0⟩⟩ := by
   unfold pWhole
   show (if (pCh s ere 7 ⟨0, 0, 0, 0⟩).e ≠ 0 then Out.mk rx0 (pCh s ere 7 ⟨0, 0, 0, 0⟩).e (pCh s ere 7 ⟨0, 0, 0, 0⟩).st else _) = _
   rw [hch]
   rw [if_pos (by simp)]
  refine ⟨3, ?_⟩
  unfold pParse
  show (if (pWhole s ere).e ≠ 0 then _ else _) = _
  rw [hw]
  rfl
def dg : ByteArray := ⟨#[91, 91, 58, 100, 105, 103, 105, 116, 58, 93, 97, 45, 99, 93]⟩
theorem dg_parse (ere : Bool) : ∃ T n, pParse dg ere = (T, n, 0) ∧ T.set = W4.of (orB (rng 48 57) (rng 97 99)) := by
 have h : ((pParse dg true).2.2 = 0 ∧ (pParse dg true).1.set = W4.of (orB (rng 48 57) (rng 97 99))) ∧ (pParse dg false).2.2 = 0 ∧ (pParse dg false).1.set = W4.of (orB (rng 48 57) (rng 97 99)) := by decide +kernel
 cases ere
 ·
  exact ⟨_, (pParse dg false).2.1, by rw [← h.2.1], h.2.2⟩
 ·
  exact ⟨_, (pParse dg true).2.1, by rw [← h.1.1], h.1.2⟩
end Go.Proofs.YtikmgckefbjbkaaGreatDoor.Trip

/-! ### Fit -/

namespace Go.Proofs.YtikmgckefbjbkaaGreatDoor.Trip
open Go Go.Proofs.YtikmgckefbjbkaaGreatDoor

/-- How long a text may be: two thousand for each node. -/
structure Lg (ere : Bool) (r : Rx) : Prop where
 all : ∀ (b e : Bool) (c c' : Ck), RxOk r → chk ere r b e c = some c' → c.g ≤ 3 → (txt ere r).length ≤ 2100 * nds r ∧ TxFit ere r
theorem txts_len (ere : Bool) (f : Rx → Nat) : ∀ (rs : List Rx), (∀ r ∈ rs, (txt ere r).length ≤ 2100 * nds r) → ((txts ere rs).flatten).length ≤ 2100 * ndss rs
 | [], _ => by simp [txts, ndss]
 | r :: rs, h => by
  rw [txts, List.flatten_cons, List.length_append, ndss]
  have h1 := h r (by simp)
  have h2 := txts_len ere f rs (fun x hx => h x (by simp [hx]))
  omega
theorem bars_le (ere : Bool) : ∀ (rs : List Rx), (∀ r ∈ rs, (txt ere r).length ≤ 2100 * nds r) → (bars ere rs).length ≤ 2100 * ndss rs + rs.length
 | [], _ => by simp [bars]
 | r :: rs, h => by
  have h1 := h r (by simp)
  have h2 := bars_le ere rs (fun x hx => h x (by simp [hx]))
  have e : (bars ere (r :: rs)).length = 1 + (txt ere r).length + (bars ere rs).length := by
   unfold bars
   rw [List.map_cons, List.flatten_cons, List.length_append, List.length_cons]
   omega
  rw [e, ndss, List.length_cons]
  omega
theorem nds_pos (r : Rx) : 1 ≤ nds r := by
 cases r with
 | mk k mn mx n s kids => rw [nds]; omega
theorem len_ndss : ∀ (rs : List Rx), rs.length ≤ ndss rs
 | [] => by simp
 | r :: rs => by
  have := nds_pos r
  have := len_ndss rs
  rw [ndss, List.length_cons]
  omega
theorem timesT_len (lo : Nat) (hi : Int) (ere : Bool) (h : lo ≤ 20) (h1 : -1 ≤ hi) (h2 : hi ≤ 20) : (timesT lo hi ere).length ≤ 9 := by
 have := ivT_len lo hi h h1 h2
 unfold timesT
 split
 ·
  simp
 ·
  split
  ·
   simp
  ·
   split
   ·
    simp
   ·
    unfold framedT
    split <;> simp <;> omega
theorem cat_each {ere : Bool} : ∀ (rs : List Rx) (f : Bool) (c c' : Ck), chkCat ere rs f c = some c' → c.g ≤ 3 → ∀ r ∈ rs, ∃ b e c1 c2, chk ere r b e c1 = some c2 ∧ c1.g ≤ 3
 | [], _, _, _, _, _ => by intro r h; cases h
 | r :: rs, f, c, c', h, hg => by
  rw [chkCat] at h
  split at h
  ·
   cases h
  split at h
  ·
   cases h
  rename_i c1 h1
  have cn := (cnt_any r).all _ _ _ _ _ h1
  intro x hx
  rcases List.mem_cons.1 hx with rfl | hx
  ·
   exact ⟨_, _, _, _, h1, hg⟩
  ·
   exact cat_each rs false c1 c' h (cn.2.2.2 hg) x hx
theorem alt_each {ere : Bool} : ∀ (rs : List Rx) (c c' : Ck), chkAlt ere rs c = some c' → c.g ≤ 3 → ∀ r ∈ rs, ∃ b e c1 c2, chk ere r b e c1 = some c2 ∧ c1.g ≤ 3
 | [], _, _, _, _ => by intro r h; cases h
 | r :: rs, c, c', h, hg => by
  rw [chkAlt] at h
  split at h
  ·
   cases h
  split at h
  ·
   cases h
  rename_i c1 h1
  have cn := (cnt_any r).all _ _ _ _ _ h1
  intro x hx
  rcases List.mem_cons.1 hx with rfl | hx
  ·
   exact ⟨_, _, _, _, h1, hg⟩
  ·
   exact alt_each rs c1 c' h (cn.2.2.2 hg) x hx
theorem lg_step (ere : Bool) (k mn mx n : Int) (s : W4) (kids : List Rx) (H : ∀ a, a ∈ kids → Lg ere a) : Lg ere (.mk k mn mx n s kids) := by
 refine ⟨fun b e c c' hR h hg => ?_⟩
 have h0 := h
 have cn := (cnt_any (.mk k mn mx n s kids)).all _ _ _ _ _ h0
 obtain ⟨h1, h2, h⟩ := chk_inv h
 obtain ⟨l1, l2, l3, l4⟩ := lean_inv h2
 have hR' := rxOk_kid hR
 have z : nds (.mk k mn mx n s kids) = 1 + ndss kids := by rw [nds]
 have hk40 := len_ndss kids
 have hnn : nds (.mk k mn mx n s kids) ≤ 40 := by omega
 -- what is asked of the kids
 have each : ∀ r, r ∈ kids → (txt ere r).length ≤ 2100 * nds r ∧ TxFit ere r := by
  intro r hr
  have : ∃ b e c1 c2, chk ere r b e c1 = some c2 ∧ c1.g ≤ 3 := by
   rcases h with ⟨hk, _⟩ | ⟨hk, h⟩ | ⟨hk, _, h⟩ | ⟨hk, _, h⟩ | ⟨hk, _, hg3, _, h⟩ | ⟨hk, _⟩ | ⟨hk, _⟩ | ⟨hk, _⟩
   ·
    rw [kids_none (by omega) l4] at hr; cases hr
   ·
    exact cat_each kids true _ _ h hg r hr
   ·
    exact alt_each kids _ _ h hg r hr
   ·
    obtain ⟨x, rfl⟩ := kids_one (Or.inl hk) l4
    obtain ⟨_, hx⟩ := rep_inv h
    obtain rfl : r = x := by simpa using hr
    exact ⟨_, _, _, _, hx, hg⟩
   ·
    obtain ⟨x, rfl⟩ := kids_one (Or.inr hk) l4
    obtain ⟨c1, hx, _⟩ := grp_inv h
    obtain rfl : r = x := by simpa using hr
    exact ⟨_, _, _, _, hx, hg3⟩
   ·
    rw [kids_none (by omega) l4] at hr; cases hr
   ·
    rw [kids_none (by omega) l4] at hr; cases hr
   ·
    rw [kids_none (by omega) l4] at hr; cases hr
  obtain ⟨b, e, c1, c2, hc, hg1⟩ := this
  exact (H r hr).all b e c1 c2 (hR'.2 r hr) hc hg1
 have len : (txt ere (.mk k mn mx n s kids)).length ≤ 2100 * nds (.mk k mn mx n s kids) := by
  rw [z, txt_mk]
  rcases h with ⟨rfl, _⟩ | ⟨rfl, h⟩ | ⟨rfl, _, h⟩ | ⟨rfl, ht, h⟩ | ⟨rfl, _, hg3, _, h⟩ | ⟨rfl, hn1, hn2, _⟩ | ⟨rfl, _⟩ | ⟨rfl, _⟩
  ·
   rw [if_pos rfl]
   have := setT_len2 (W4.bit s) ere
   omega
  ·
   rw [if_neg (by decide), if_pos rfl, join_nil]
   have := txts_len ere nds kids (fun r hr => (each r hr).1)
   omega
  ·
   rw [if_neg (by decide), if_neg (by decide), if_pos rfl]
   match kids, l4, each, hk40 with
   | r :: rs, _, each, hk40 =>
    rw [join_bar, List.length_append, ndss]
    have h1 := (each r (by simp)).1
    have h2 := bars_le ere rs (fun x hx => (each x (by simp [hx])).1)
    have := len_ndss rs
    have h3 : rs.length ≤ 40 := by rw [z, ndss] at hnn; omega
    omega
   | [], _, _, _ => simp [txts, Lib.join, List.intercalate]
  ·
   rw [if_neg (by decide), if_neg (by decide), if_neg (by decide), if_pos rfl]
   obtain ⟨x, rfl⟩ := kids_one (Or.inl rfl) l4
   have ht' : 0 ≤ mn ∧ mn ≤ 20 ∧ -1 ≤ mx ∧ mx ≤ 20 := by
    unfold timesFit at ht
    split at ht
    ·
     cases ht
    ·
     simp at ht
     omega
   have h1 := (each x (by simp)).1
   have h2 := timesT_len mn.toNat mx ere (by omega) (by omega) (by omega)
   rw [show (txts ere [x]).headD [] = txt ere x by rw [txts]; rfl, List.length_append]
   simp only [ndss]
   omega
  ·
   rw [if_neg (by decide), if_neg (by decide), if_neg (by decide), if_neg (by decide), if_pos rfl]
   obtain ⟨x, rfl⟩ := kids_one (Or.inr rfl) l4
   have h1 := (each x (by simp)).1
   rw [show (txts ere [x]).headD [] = txt ere x by rw [txts]; rfl]
   have fl : (framedT [40] (txt ere x) [41] ere).length ≤ (txt ere x).length + 4 := by
    unfold framedT
    split <;> simp
   simp only [ndss]
   omega
  ·
   rw [if_neg (by decide), if_neg (by decide), if_neg (by decide), if_neg (by decide), if_neg (by decide), if_pos rfl]
   have := dec_len n.toNat (by omega)
   simp
   omega
  ·
   rw [if_neg (by decide), if_neg (by decide), if_neg (by decide), if_neg (by decide), if_neg (by decide), if_neg (by decide), if_pos rfl]
   simp
   omega
  ·
   rw [if_neg (by decide), if_neg (by decide), if_neg (by decide), if_neg (by decide), if_neg (by decide), if_neg (by decide), if_neg (by decide)]
   simp
   omega
 refine ⟨len, ?_⟩
 unfold TxFit
 refine ⟨⟨fun hk => ?_, fun hk => kids_one (Or.inr hk) l4, fun hk => ?_, by omega, hR'.1, by omega, fun r hr => ?_⟩, fun a ha => (each a ha).2⟩
 ·
  rcases h with ⟨hk', _⟩ | ⟨hk', _⟩ | ⟨hk', _⟩ | ⟨hk', ht, _⟩ | ⟨hk', _⟩ | ⟨hk', _⟩ | ⟨hk', _⟩ | ⟨hk', _⟩ <;> try omega
  refine ⟨kids_one (Or.inl hk) l4, ?_⟩
  unfold timesFit at ht
  split at ht
  ·
   cases ht
  ·
   simp at ht
   omega
 ·
  rcases h with ⟨hk', _⟩ | ⟨hk', _⟩ | ⟨hk', _⟩ | ⟨hk', _⟩ | ⟨hk', _⟩ | ⟨hk', hn1, hn2, _⟩ | ⟨hk', _⟩ | ⟨hk', _⟩ <;> omega
 ·
  have h1 := (each r hr).1
  have h2 : nds r ≤ ndss kids := ndss_mem kids r hr
  omega
theorem lg_any (ere : Bool) : ∀ r, Lg ere r
 | .mk k mn mx n s kids => lg_step ere k mn mx n s kids (fun a _ => lg_any ere a)
termination_by r => SizeOf.sizeOf r
decreasing_by
 have := List.sizeOf_lt_of_mem (by assumption)
 simp
 omega
/-- What the printer asks of a right expression holds. -/
theorem right_fit (ere : Bool) (r : Rx) (hR : RxOk r) (h : right ere r = true) : TxFit ere r ∧ (txt ere r).length ≤ 84000 := by
 unfold right at h
 obtain ⟨c', hc⟩ := Option.isSome_iff_exists.1 h
 obtain ⟨h1, h2⟩ := (lg_any ere r).all _ _ _ _ hR hc (Nat.zero_le _)
 have cn := (cnt_any r).all _ _ _ _ _ hc
 have := cn.1
 have := cn.2.1
 simp at *
 exact ⟨h2, by omega⟩
/-- A right expression is read out of what is printed of it. -/
theorem print_trip (ere : Bool) (r : Rx) (hR : RxOk r) (h : right ere r = true) : pParse (bs (printT ere r)) ere = (r, 0, 0) := by
 unfold printT
 rw [if_pos h]
 exact trip ere r hR h
/-- Two have one text just if they are the same. -/
theorem print_inj (ere : Bool) (x y : Rx) (hx : RxOk x) (hy : RxOk y) (rx : right ere x = true) (ry : right ere y = true) : (bs (printT ere x) = bs (printT ere y)) ↔ x = y := by
 constructor
 ·
  intro h
  have h1 := print_trip ere x hx rx
  have h2 := print_trip ere y hy ry
  rw [h, h2] at h1
  exact (Prod.mk.inj h1).1.symm
 ·
  rintro rfl
  rfl
end Go.Proofs.YtikmgckefbjbkaaGreatDoor.Trip

/-! ### Mak1 -/

namespace Go.Proofs.YtikmgckefbjbkaaGreatDoor
open Go.RowKit

/-- Nothing that was there has turned but the maker's three blocks. -/
structure Km (B : Nat) (w w' : World) : Prop where
 lo : Below B w w'
 block : ∀ b, b < w.heap.size → b ≠ B → b ≠ B + 1 → b ≠ B + 2 → w'.heap[b]? = w.heap[b]?
theorem Km.refl (B : Nat) (w : World) : Km B w w := ⟨Below.refl _ _, fun _ _ _ _ _ => rfl⟩
theorem Km.size {B : Nat} {a b : World} (h : Km B a b) : a.heap.size ≤ b.heap.size := h.lo.size
theorem Km.trans {B : Nat} {a b c : World} (h : Km B a b) (g : Km B b c) : Km B a c := ⟨h.lo.trans g.lo, fun k hk n0 n1 n2 => (g.block k (Nat.lt_of_lt_of_le hk h.size) n0 n1 n2).trans (h.block k hk n0 n1 n2)⟩
theorem Kp.km {B : Nat} {a b : World} (h : Kp a b) (hB : B ≤ a.heap.size) : Km B a b := ⟨Below.mono h hB, fun k hk _ _ _ => h.block k hk⟩
theorem Km.kp {B : Nat} {a b c : World} (h : Km B a b) (k : Kp b c) (hB : B ≤ a.heap.size) : Km B a c := h.trans (k.km (Nat.le_trans hB h.size))
theorem Km.set {B : Nat} {a b : World} (h : Km B a b) (i : Nat) (hi : i < 3) (j : Nat) (u : Value) : Km B a (b.setCell ⟨B + i, j, none⟩ u) :=
 ⟨h.lo.setCell (by show B ≤ B + i; omega) u, fun k hk n0 n1 n2 => (Below.heap_setCell b ⟨B + i, j, none⟩ u k (by show k ≠ B + i; omega)).trans (h.block k hk n0 n1 n2)⟩
theorem Km.up {B : Nat} {W w w' : World} (h : Km B w w') (k : Kp W w) (hB : W.heap.size ≤ B) : Kp W w' :=
 ⟨h.lo.os.trans k.os, h.lo.tape.trans k.tape, h.lo.output.trans k.output, Nat.le_trans k.size h.size, fun b hb => (h.block b (Nat.lt_of_lt_of_le hb k.size) (by omega) (by omega) (by omega)).trans (k.block b hb)⟩
theorem bl_km {B : Nat} {w w' : World} {S : Nat} {o : Obj} (h : w.heap[S]? = some o) (hS : B + 2 < S) (hk : Km B w w') : w'.heap[S]? = some o := (hk.block S (bl_lt h) (by omega) (by omega) (by omega)).trans h
theorem Is.km {B : Nat} {w w' : World} {ok : Nat → Prop} {t : Rx} {v : Value} (h : Is w ok t v) (k : Km B w w') (hP : ∀ b, ok b → b < w.heap.size → B + 2 < b) : Is w' ok t v := Is.turn k.size (fun b hb hl => ⟨hb, k.block b hl (by have := hP b hb hl; omega) (by have := hP b hb hl; omega) (by have := hP b hb hl; omega)⟩) t v h
/-- The maker's blocks: where it reads, the groups, what is left. -/
structure Mk (w : World) (B : Nat) (x y z : Int) : Prop where
 at_ : w.heap[B]? = some (.cells #[.int .i64 x] 3)
 gr : w.heap[B + 1]? = some (.cells #[.int .i64 y] 3)
 lf : w.heap[B + 2]? = some (.cells #[.int .i64 z] 3)
theorem Mk.kp {w w' : World} {B : Nat} {x y z : Int} (h : Mk w B x y z) (k : Kp w w') : Mk w' B x y z := ⟨bl_kp h.at_ k, bl_kp h.gr k, bl_kp h.lf k⟩
theorem Mk.lt {w : World} {B : Nat} {x y z : Int} (h : Mk w B x y z) : B + 2 < w.heap.size := bl_lt h.lf
theorem Mk.setA {w : World} {B : Nat} {x y z : Int} (h : Mk w B x y z) (u : Int) : Mk (w.setCell ⟨B, 0, none⟩ (.int .i64 u)) B u y z := ⟨bl_put h.at_ _, bl_set h.gr (by omega) _, bl_set h.lf (by omega) _⟩
theorem Mk.setG {w : World} {B : Nat} {x y z : Int} (h : Mk w B x y z) (u : Int) : Mk (w.setCell ⟨B + 1, 0, none⟩ (.int .i64 u)) B x u z := ⟨bl_set h.at_ (by omega) _, bl_put h.gr _, bl_set h.lf (by omega) _⟩
theorem Mk.setL {w : World} {B : Nat} {x y z : Int} (h : Mk w B x y z) (u : Int) : Mk (w.setCell ⟨B + 2, 0, none⟩ (.int .i64 u)) B x y u := ⟨bl_set h.at_ (by omega) _, bl_set h.gr (by omega) _, bl_put h.lf _⟩
/-- A row of numbers that came in: it lies below B. -/
structure Nums (w : World) (B : Nat) (a : Option Addr) (l : Nat) : Prop where
 ex : 0 < l → ∃ b o, a = some ⟨b, o, none⟩ ∧ b < B ∧ ∀ i, i < l → ∃ x : Int, w.cell? ⟨b, o + i, none⟩ = some (.int .i64 x)
theorem Nums.km {w w' : World} {B : Nat} {a : Option Addr} {l : Nat} (h : Nums w B a l) (k : Km B w w') : Nums w' B a l := ⟨fun hl => by
 obtain ⟨b, o, h1, h2, h3⟩ := h.ex hl
 exact ⟨b, o, h1, h2, fun i hi => by
  obtain ⟨x, hx⟩ := h3 i hi
  exact ⟨x, (k.lo.cell (p := ⟨b, o + i, none⟩) h2).trans hx⟩⟩⟩
/-- The maker's value. -/
abbrev mkv (aK : Option Addr) (lK cK : Nat) (aN : Option Addr) (lN cN : Nat) (ere : Bool) (B : Nat) : Value := .agg #[.slice aK lK cK, .slice aN lN cN, .bool ere, .pointer (some ⟨B, 0, none⟩), .pointer (some ⟨B + 1, 0, none⟩), .pointer (some ⟨B + 2, 0, none⟩)]
abbrev mko (aK : Option Addr) (lK cK : Nat) (aN : Option Addr) (lN cN : Nat) (ere : Bool) (B : Nat) : Obj := .cells #[.slice aK lK cK, .slice aN lN cN, .bool ere, .pointer (some ⟨B, 0, none⟩), .pointer (some ⟨B + 1, 0, none⟩), .pointer (some ⟨B + 2, 0, none⟩)] 61
/-- What the next number leaves. -/
structure Nxt (B x : Nat) (y z : Int) (w : World) (e : Ending) (w' : World) : Prop where
 ex : ∃ a b : Int, e = .returned (.tuple #[.int .i64 a, .int .i64 b]) ∧ Mk w' B ((x + 1 : Nat) : Int) y z ∧ Km B w w'

set_option maxHeartbeats 2000000 in
set_option maxRecDepth 100000 in
theorem next_any (aK : Option Addr) (lK cK : Nat) (aN : Option Addr) (lN cN : Nat) (ere : Bool) (B x : Nat) (y z : Int) (w : World) (hM : Mk w B (x : Int) y z) (hK : Nums w B aK lK) (hN : Nums w B aN lN) (hx : x ≤ 1000) :
  Calls Tryz.prog 42 #[(mkv aK lK cK aN lN cN ere B)] w fun e w' => Nxt B x y z w e w' := by
 have HM := hid hM
 have HK := hid hK
 have HN := hid hN
 have hBw := hM.lt
 clear hM hK hN
 go_enter Tryz.func42, Tryz.ntmps42
 go_upto_region 1 with fail
 refine opq (fun W0 => Mk W0 B (x : Int) y z ∧ W0.heap[w.heap.size]? = some (mko aK lK cK aN lN cN ere B) ∧ Km B w W0) ⟨by exact HM.out.kp (by repeat (first | exact Kp.refl _ | refine Kp.alloc ?_ _ | refine Kp.drew ?_ | refine Kp.drewN _ ?_)), by (first | exact last_at _ _ _ (by simp) | (refine bl_alloc ?_ _; first | exact last_at _ _ _ (by simp) | (refine bl_alloc ?_ _; first | exact last_at _ _ _ (by simp) | (refine bl_alloc ?_ _; exact last_at _ _ _ (by simp))))), by exact (Km.refl _ _).kp (by repeat (first | exact Kp.refl _ | refine Kp.alloc ?_ _ | refine Kp.drew ?_ | refine Kp.drewN _ ?_)) (by omega)⟩ ?_
 rintro W0 ⟨xM0, xA0, xK0⟩
 have M0 : Hid (Mk W0 B (x : Int) y z) := xM0
 have A0 : Hid (W0.heap[w.heap.size]? = some (mko aK lK cK aN lN cN ere B)) := xA0
 have K0 : Hid (Km B w W0) := xK0
 clear xM0 xA0 xK0
 have p0 := bl_cell (A0.out) 0 _ rfl
 have p1 := bl_cell (A0.out) 1 _ rfl
 have p2 := bl_cell (A0.out) 2 _ rfl
 have p3 := bl_cell (A0.out) 3 _ rfl
 have p4 := bl_cell (A0.out) 4 _ rfl
 have p5 := bl_cell (A0.out) 5 _ rfl
 have q0 := bl_cell M0.out.at_ 0 _ rfl
 have fq0 := bl_frozen M0.out.at_ 0
 have gx : IntKind.i64.wrap ((x : Int) + 1) = (x : Int) + 1 := by rw [IntKind.wrap_i64]; omega
 go_upto_region 3 with fail
 refine opq (fun W1 => Mk W1 B ((x + 1 : Nat) : Int) y z ∧ W1.heap[w.heap.size]? = some (mko aK lK cK aN lN cN ere B) ∧ Km B w W1) ⟨by exact M0.out.setA _, by exact bl_set A0.out (by omega) _, by exact K0.out.set 0 (by omega) 0 _⟩ ?_
 rintro W1 ⟨xM1, xA1, xK1⟩
 have M1 : Hid (Mk W1 B ((x + 1 : Nat) : Int) y z) := xM1
 have A1 : Hid (W1.heap[w.heap.size]? = some (mko aK lK cK aN lN cN ere B)) := xA1
 have K1 : Hid (Km B w W1) := xK1
 clear xM1 xA1 xK1
 clear p0 p1 p2 p3 p4 p5 q0 fq0 gx M0 A0 K0
 have NK := hid (HK.out.km K1.out)
 have NN := hid (HN.out.km K1.out)
 have p0 := bl_cell (A1.out) 0 _ rfl
 have p1 := bl_cell (A1.out) 1 _ rfl
 have p2 := bl_cell (A1.out) 2 _ rfl
 have p3 := bl_cell (A1.out) 3 _ rfl
 have p4 := bl_cell (A1.out) 4 _ rfl
 have p5 := bl_cell (A1.out) 5 _ rfl
 by_cases hl : x < lK
 ·
  have hli : (x : Int) < (lK : Int) := by omega
  by_cases h30 : x < 30
  ·
   have h30i : (x : Int) < 30 := by omega
   obtain ⟨bK, oK, hae, hbK, hcK⟩ := NK.out.ex (by omega)
   subst hae
   obtain ⟨v, hv⟩ := hcK x hl
   clear hcK
   go_upto_region 6 with fail
   clear hv
   by_cases hn : 0 < lN
   ·
    have hni : (0 : Int) < (lN : Int) := by omega
    have hnz : ¬ (lN : Int) = 0 := by omega
    have hnz2 : ¬ lN = 0 := by omega
    obtain ⟨bN, oN, hae, hbN, hcN⟩ := NN.out.ex hn
    subst hae
    obtain ⟨r, hr⟩ : ∃ r, x % lN = r := ⟨_, rfl⟩
    have hrl : r < lN := by rw [← hr]; exact Nat.mod_lt _ hn
    have hrli : (r : Int) < (lN : Int) := by omega
    have er : (x : Int).tmod (lN : Int) = (r : Int) := by rw [Int.tmod_eq_emod_of_nonneg (by omega), ← hr]; exact (Int.natCast_emod x lN).symm
    have er2 : (x : Int) % (lN : Int) = (r : Int) := by rw [← hr]; exact (Int.natCast_emod x lN).symm
    have hrx : r ≤ x := by rw [← hr]; exact Nat.mod_le _ _
    have gr : IntKind.i64.wrap (r : Int) = (r : Int) := by rw [IntKind.wrap_i64]; omega
    obtain ⟨u, hu⟩ := hcN r hrl
    have HU := hid hu
    clear hu hcN hr
    go_upto_region 8 with fail
    have Q0 : Kp W1 W1.drew := (Kp.refl _).drew
    have MK : Hid (∀ W, Kp W1 W → W.cell? ⟨w.heap.size, 1, none⟩ = some (.slice (some ⟨bN, oN, none⟩) lN cN) ∧ W.cell? ⟨bN, (oN + r), none⟩ = some (.int .i64 u) ∧ Hid (Kp W1 W)) := fun W k => ⟨bl_cell (bl_kp A1.out k) 1 _ rfl, (k.cell (World.block_lt_of_cell? W1 _ HU.out)).trans HU.out, k⟩
    refine wp_region_noPanic ?_
    refine wp_region_held_drew (S := (fun W => W.cell? ⟨w.heap.size, 1, none⟩ = some (.slice (some ⟨bN, oN, none⟩) lN cN) ∧ W.cell? ⟨bN, (oN + r), none⟩ = some (.int .i64 u) ∧ Hid (Kp W1 W))) (by kernel_rfl) ?_ (fun hH => ?_)
    ·
     exact MK.out _ Q0
    have KQ := Q0
    refine wpAnyH_take (i := 0) (oi := { dst := some 39, op := Op.fieldAddr 61 (Operand.tmp 1) 0, type := 0, pos := "keep.go:30", after := #[], guard := none }) (v := ?v0a1) rfl (by kernel_rfl) (by kernel_rfl) (by kernel_rfl) (fun _ _ _ h => h) (Or.inl ⟨by rfl, ?hy0a1⟩) hH ?r0a1
    case hy0a1 => (intro W hSw; (try dsimp only at hSw); go_simp; try (with_reducible rfl))
    try simp only [Act.put, List.setIfInBounds_toArray, List.set_cons_zero, List.set_cons_succ]
    refine wpAnyH_take (i := 1) (oi := { dst := some 40, op := Op.fieldAddr 36 (Operand.tmp 39) 1, type := 0, pos := "keep.go:30", after := #[{ on := 0, ground := Ground.data }], guard := none }) (v := ?v1a2) rfl (by kernel_rfl) (by kernel_rfl) (by kernel_rfl) (fun _ _ _ h => h) (Or.inl ⟨by rfl, ?hy1a2⟩) hH ?r1a2
    case hy1a2 => (intro W hSw; (try dsimp only at hSw); go_simp; try (with_reducible rfl))
    try simp only [Act.put, List.setIfInBounds_toArray, List.set_cons_zero, List.set_cons_succ]
    refine wpAnyH_take (i := 2) (oi := { dst := some 41, op := Op.load 34 (Operand.tmp 40), type := 34, pos := "keep.go:30", after := #[{ on := 1, ground := Ground.data }], guard := none }) (v := ?v2a3) rfl (by kernel_rfl) (by kernel_rfl) (by kernel_rfl) (fun _ _ _ h => h) (Or.inl ⟨by rfl, ?hy2a3⟩) hH ?r2a3
    case hy2a3 => (intro W hSw; (try dsimp only at hSw); go_simp; try (with_reducible rfl))
    try simp only [Act.put, List.setIfInBounds_toArray, List.set_cons_zero, List.set_cons_succ]
    refine wpAnyH_take (i := 3) (oi := { dst := some 42, op := Op.move (Operand.tmp 4), type := 3, pos := "keep.go:30", after := #[], guard := none }) (v := ?v3a4) rfl (by kernel_rfl) (by kernel_rfl) (by kernel_rfl) (fun _ _ _ h => h) (Or.inl ⟨by rfl, ?hy3a4⟩) hH ?r3a4
    case hy3a4 => (intro W hSw; (try dsimp only at hSw); go_simp; try (with_reducible rfl))
    try simp only [Act.put, List.setIfInBounds_toArray, List.set_cons_zero, List.set_cons_succ]
    refine wpAnyH_take (i := 4) (oi := { dst := some 43, op := Op.move (Operand.tmp 7), type := 3, pos := "keep.go:30", after := #[], guard := none }) (v := ?v4a5) rfl (by kernel_rfl) (by kernel_rfl) (by kernel_rfl) (fun _ _ _ h => h) (Or.inl ⟨by rfl, ?hy4a5⟩) hH ?r4a5
    case hy4a5 => (intro W hSw; (try dsimp only at hSw); go_simp; try (with_reducible rfl))
    try simp only [Act.put, List.setIfInBounds_toArray, List.set_cons_zero, List.set_cons_succ]
    refine wpAnyH_take (i := 5) (oi := { dst := some 44, op := Op.binOp BinOp.rem 3 (Operand.tmp 42) (Operand.tmp 43) 3, type := 3, pos := "keep.go:30", after := #[{ on := 3, ground := Ground.data }, { on := 4, ground := Ground.data }], guard := none }) (v := ?v5a6) rfl (by kernel_rfl) (by kernel_rfl) (by kernel_rfl) (fun _ _ _ h => h) (Or.inl ⟨by rfl, ?hy5a6⟩) hH ?r5a6
    case hy5a6 => (intro W hSw; (try dsimp only at hSw); go_simp; try (with_reducible rfl))
    try simp only [Act.put, List.setIfInBounds_toArray, List.set_cons_zero, List.set_cons_succ]
    refine wpAnyH_take (i := 6) (oi := { dst := some 45, op := Op.indexAddr 34 (Operand.tmp 41) (Operand.tmp 44), type := 0, pos := "keep.go:30", after := #[{ on := 2, ground := Ground.data }, { on := 5, ground := Ground.data }], guard := none }) (v := ?v6a7) rfl (by kernel_rfl) (by kernel_rfl) (by kernel_rfl) (fun _ _ _ h => h) (Or.inl ⟨by rfl, ?hy6a7⟩) hH ?r6a7
    case hy6a7 => (intro W hSw; (try dsimp only at hSw); go_simp; try (with_reducible rfl))
    try simp only [Act.put, List.setIfInBounds_toArray, List.set_cons_zero, List.set_cons_succ]
    refine wpAnyH_take (i := 7) (oi := { dst := some 46, op := Op.load 3 (Operand.tmp 45), type := 3, pos := "keep.go:30", after := #[{ on := 6, ground := Ground.data }], guard := none }) (v := ?v7a8) rfl (by kernel_rfl) (by kernel_rfl) (by kernel_rfl) (fun _ _ _ h => h) (Or.inl ⟨by rfl, ?hy7a8⟩) hH ?r7a8
    case hy7a8 => (intro W hSw; (try dsimp only at hSw); go_simp; try (with_reducible rfl))
    try simp only [Act.put, List.setIfInBounds_toArray, List.set_cons_zero, List.set_cons_succ]
    refine wpAnyH_take (i := 8) (oi := { dst := some 6, op := Op.assign (Operand.tmp 46), type := 3, pos := "keep.go:30", after := #[{ on := 7, ground := Ground.data }, { on := 0, ground := Ground.phase }, { on := 1, ground := Ground.phase }, { on := 2, ground := Ground.phase }, { on := 3, ground := Ground.phase }, { on := 4, ground := Ground.phase }, { on := 5, ground := Ground.phase }, { on := 6, ground := Ground.phase }, { on := 7, ground := Ground.phase }], guard := none }) (v := ?v8a9) rfl (by kernel_rfl) (by kernel_rfl) (by kernel_rfl) (fun _ _ _ h => h) (Or.inl ⟨by rfl, ?hy8a9⟩) hH ?r8a9
    case hy8a9 => (intro W hSw; (try dsimp only at hSw); go_simp; try (with_reducible rfl))
    try simp only [Act.put, List.setIfInBounds_toArray, List.set_cons_zero, List.set_cons_succ]
    refine wpAnyH_done (by kernel_rfl) ?_ _
    refine NoPanic.normal ?_
    go_wp2_with fail
    go_ret2
    exact ⟨⟨_, _, rfl, M1.out.kp KQ, K1.out.kp KQ (by omega)⟩⟩
   ·
    have hni : ¬ (0 : Int) < (lN : Int) := by omega
    go_wp2_with fail
    go_ret2
    exact ⟨⟨_, _, rfl, M1.out, K1.out⟩⟩
  ·
   have h30i : ¬ (x : Int) < 30 := by omega
   go_upto_region 6 with fail
   by_cases hn : 0 < lN
   ·
    have hni : (0 : Int) < (lN : Int) := by omega
    have hnz : ¬ (lN : Int) = 0 := by omega
    have hnz2 : ¬ lN = 0 := by omega
    obtain ⟨bN, oN, hae, hbN, hcN⟩ := NN.out.ex hn
    subst hae
    obtain ⟨r, hr⟩ : ∃ r, x % lN = r := ⟨_, rfl⟩
    have hrl : r < lN := by rw [← hr]; exact Nat.mod_lt _ hn
    have hrli : (r : Int) < (lN : Int) := by omega
    have er : (x : Int).tmod (lN : Int) = (r : Int) := by rw [Int.tmod_eq_emod_of_nonneg (by omega), ← hr]; exact (Int.natCast_emod x lN).symm
    have er2 : (x : Int) % (lN : Int) = (r : Int) := by rw [← hr]; exact (Int.natCast_emod x lN).symm
    have hrx : r ≤ x := by rw [← hr]; exact Nat.mod_le _ _
    have gr : IntKind.i64.wrap (r : Int) = (r : Int) := by rw [IntKind.wrap_i64]; omega
    obtain ⟨u, hu⟩ := hcN r hrl
    have HU := hid hu
    clear hu hcN hr
    go_upto_region 8 with fail
    have Q0 : Kp W1 W1.drew := (Kp.refl _).drew
    have MK : Hid (∀ W, Kp W1 W → W.cell? ⟨w.heap.size, 1, none⟩ = some (.slice (some ⟨bN, oN, none⟩) lN cN) ∧ W.cell? ⟨bN, (oN + r), none⟩ = some (.int .i64 u) ∧ Hid (Kp W1 W)) := fun W k => ⟨bl_cell (bl_kp A1.out k) 1 _ rfl, (k.cell (World.block_lt_of_cell? W1 _ HU.out)).trans HU.out, k⟩
    refine wp_region_noPanic ?_
    refine wp_region_held_drew (S := (fun W => W.cell? ⟨w.heap.size, 1, none⟩ = some (.slice (some ⟨bN, oN, none⟩) lN cN) ∧ W.cell? ⟨bN, (oN + r), none⟩ = some (.int .i64 u) ∧ Hid (Kp W1 W))) (by kernel_rfl) ?_ (fun hH => ?_)
    ·
     exact MK.out _ Q0
    have KQ := Q0
    refine wpAnyH_take (i := 0) (oi := { dst := some 39, op := Op.fieldAddr 61 (Operand.tmp 1) 0, type := 0, pos := "keep.go:30", after := #[], guard := none }) (v := ?v0b1) rfl (by kernel_rfl) (by kernel_rfl) (by kernel_rfl) (fun _ _ _ h => h) (Or.inl ⟨by rfl, ?hy0b1⟩) hH ?r0b1
    case hy0b1 => (intro W hSw; (try dsimp only at hSw); go_simp; try (with_reducible rfl))
    try simp only [Act.put, List.setIfInBounds_toArray, List.set_cons_zero, List.set_cons_succ]
    refine wpAnyH_take (i := 1) (oi := { dst := some 40, op := Op.fieldAddr 36 (Operand.tmp 39) 1, type := 0, pos := "keep.go:30", after := #[{ on := 0, ground := Ground.data }], guard := none }) (v := ?v1b2) rfl (by kernel_rfl) (by kernel_rfl) (by kernel_rfl) (fun _ _ _ h => h) (Or.inl ⟨by rfl, ?hy1b2⟩) hH ?r1b2
    case hy1b2 => (intro W hSw; (try dsimp only at hSw); go_simp; try (with_reducible rfl))
    try simp only [Act.put, List.setIfInBounds_toArray, List.set_cons_zero, List.set_cons_succ]
    refine wpAnyH_take (i := 2) (oi := { dst := some 41, op := Op.load 34 (Operand.tmp 40), type := 34, pos := "keep.go:30", after := #[{ on := 1, ground := Ground.data }], guard := none }) (v := ?v2b3) rfl (by kernel_rfl) (by kernel_rfl) (by kernel_rfl) (fun _ _ _ h => h) (Or.inl ⟨by rfl, ?hy2b3⟩) hH ?r2b3
    case hy2b3 => (intro W hSw; (try dsimp only at hSw); go_simp; try (with_reducible rfl))
    try simp only [Act.put, List.setIfInBounds_toArray, List.set_cons_zero, List.set_cons_succ]
    refine wpAnyH_take (i := 3) (oi := { dst := some 42, op := Op.move (Operand.tmp 4), type := 3, pos := "keep.go:30", after := #[], guard := none }) (v := ?v3b4) rfl (by kernel_rfl) (by kernel_rfl) (by kernel_rfl) (fun _ _ _ h => h) (Or.inl ⟨by rfl, ?hy3b4⟩) hH ?r3b4
    case hy3b4 => (intro W hSw; (try dsimp only at hSw); go_simp; try (with_reducible rfl))
    try simp only [Act.put, List.setIfInBounds_toArray, List.set_cons_zero, List.set_cons_succ]
    refine wpAnyH_take (i := 4) (oi := { dst := some 43, op := Op.move (Operand.tmp 7), type := 3, pos := "keep.go:30", after := #[], guard := none }) (v := ?v4b5) rfl (by kernel_rfl) (by kernel_rfl) (by kernel_rfl) (fun _ _ _ h => h) (Or.inl ⟨by rfl, ?hy4b5⟩) hH ?r4b5
    case hy4b5 => (intro W hSw; (try dsimp only at hSw); go_simp; try (with_reducible rfl))
    try simp only [Act.put, List.setIfInBounds_toArray, List.set_cons_zero, List.set_cons_succ]
    refine wpAnyH_take (i := 5) (oi := { dst := some 44, op := Op.binOp BinOp.rem 3 (Operand.tmp 42) (Operand.tmp 43) 3, type := 3, pos := "keep.go:30", after := #[{ on := 3, ground := Ground.data }, { on := 4, ground := Ground.data }], guard := none }) (v := ?v5b6) rfl (by kernel_rfl) (by kernel_rfl) (by kernel_rfl) (fun _ _ _ h => h) (Or.inl ⟨by rfl, ?hy5b6⟩) hH ?r5b6
    case hy5b6 => (intro W hSw; (try dsimp only at hSw); go_simp; try (with_reducible rfl))
    try simp only [Act.put, List.setIfInBounds_toArray, List.set_cons_zero, List.set_cons_succ]
    refine wpAnyH_take (i := 6) (oi := { dst := some 45, op := Op.indexAddr 34 (Operand.tmp 41) (Operand.tmp 44), type := 0, pos := "keep.go:30", after := #[{ on := 2, ground := Ground.data }, { on := 5, ground := Ground.data }], guard := none }) (v := ?v6b7) rfl (by kernel_rfl) (by kernel_rfl) (by kernel_rfl) (fun _ _ _ h => h) (Or.inl ⟨by rfl, ?hy6b7⟩) hH ?r6b7
    case hy6b7 => (intro W hSw; (try dsimp only at hSw); go_simp; try (with_reducible rfl))
    try simp only [Act.put, List.setIfInBounds_toArray, List.set_cons_zero, List.set_cons_succ]
    refine wpAnyH_take (i := 7) (oi := { dst := some 46, op := Op.load 3 (Operand.tmp 45), type := 3, pos := "keep.go:30", after := #[{ on := 6, ground := Ground.data }], guard := none }) (v := ?v7b8) rfl (by kernel_rfl) (by kernel_rfl) (by kernel_rfl) (fun _ _ _ h => h) (Or.inl ⟨by rfl, ?hy7b8⟩) hH ?r7b8
    case hy7b8 => (intro W hSw; (try dsimp only at hSw); go_simp; try (with_reducible rfl))
    try simp only [Act.put, List.setIfInBounds_toArray, List.set_cons_zero, List.set_cons_succ]
    refine wpAnyH_take (i := 8) (oi := { dst := some 6, op := Op.assign (Operand.tmp 46), type := 3, pos := "keep.go:30", after := #[{ on := 7, ground := Ground.data }, { on := 0, ground := Ground.phase }, { on := 1, ground := Ground.phase }, { on := 2, ground := Ground.phase }, { on := 3, ground := Ground.phase }, { on := 4, ground := Ground.phase }, { on := 5, ground := Ground.phase }, { on := 6, ground := Ground.phase }, { on := 7, ground := Ground.phase }], guard := none }) (v := ?v8b9) rfl (by kernel_rfl) (by kernel_rfl) (by kernel_rfl) (fun _ _ _ h => h) (Or.inl ⟨by rfl, ?hy8b9⟩) hH ?r8b9
    case hy8b9 => (intro W hSw; (try dsimp only at hSw); go_simp; try (with_reducible rfl))
    try simp only [Act.put, List.setIfInBounds_toArray, List.set_cons_zero, List.set_cons_succ]
    refine wpAnyH_done (by kernel_rfl) ?_ _
    refine NoPanic.normal ?_
    go_wp2_with fail
    go_ret2
    exact ⟨⟨_, _, rfl, M1.out.kp KQ, K1.out.kp KQ (by omega)⟩⟩
   ·
    have hni : ¬ (0 : Int) < (lN : Int) := by omega
    go_wp2_with fail
    go_ret2
    exact ⟨⟨_, _, rfl, M1.out, K1.out⟩⟩
 ·
  have hli : ¬ (x : Int) < (lK : Int) := by omega
  go_upto_region 6 with fail
  by_cases hn : 0 < lN
  ·
   have hni : (0 : Int) < (lN : Int) := by omega
   have hnz : ¬ (lN : Int) = 0 := by omega
   have hnz2 : ¬ lN = 0 := by omega
   obtain ⟨bN, oN, hae, hbN, hcN⟩ := NN.out.ex hn
   subst hae
   obtain ⟨r, hr⟩ : ∃ r, x % lN = r := ⟨_, rfl⟩
   have hrl : r < lN := by rw [← hr]; exact Nat.mod_lt _ hn
   have hrli : (r : Int) < (lN : Int) := by omega
   have er : (x : Int).tmod (lN : Int) = (r : Int) := by rw [Int.tmod_eq_emod_of_nonneg (by omega), ← hr]; exact (Int.natCast_emod x lN).symm
   have er2 : (x : Int) % (lN : Int) = (r : Int) := by rw [← hr]; exact (Int.natCast_emod x lN).symm
   have hrx : r ≤ x := by rw [← hr]; exact Nat.mod_le _ _
   have gr : IntKind.i64.wrap (r : Int) = (r : Int) := by rw [IntKind.wrap_i64]; omega
   obtain ⟨u, hu⟩ := hcN r hrl
   have HU := hid hu
   clear hu hcN hr
   go_upto_region 8 with fail
   have Q0 : Kp W1 W1.drew := (Kp.refl _).drew
   have MK : Hid (∀ W, Kp W1 W → W.cell? ⟨w.heap.size, 1, none⟩ = some (.slice (some ⟨bN, oN, none⟩) lN cN) ∧ W.cell? ⟨bN, (oN + r), none⟩ = some (.int .i64 u) ∧ Hid (Kp W1 W)) := fun W k => ⟨bl_cell (bl_kp A1.out k) 1 _ rfl, (k.cell (World.block_lt_of_cell? W1 _ HU.out)).trans HU.out, k⟩
   refine wp_region_noPanic ?_
   refine wp_region_held_drew (S := (fun W => W.cell? ⟨w.heap.size, 1, none⟩ = some (.slice (some ⟨bN, oN, none⟩) lN cN) ∧ W.cell? ⟨bN, (oN + r), none⟩ = some (.int .i64 u) ∧ Hid (Kp W1 W))) (by kernel_rfl) ?_ (fun hH => ?_)
   ·
    exact MK.out _ Q0
   have KQ := Q0
   refine wpAnyH_take (i := 0) (oi := { dst := some 39, op := Op.fieldAddr 61 (Operand.tmp 1) 0, type := 0, pos := "keep.go:30", after := #[], guard := none }) (v := ?v0c1) rfl (by kernel_rfl) (by kernel_rfl) (by kernel_rfl) (fun _ _ _ h => h) (Or.inl ⟨by rfl, ?hy0c1⟩) hH ?r0c1
   case hy0c1 => (intro W hSw; (try dsimp only at hSw); go_simp; try (with_reducible rfl))
   try simp only [Act.put, List.setIfInBounds_toArray, List.set_cons_zero, List.set_cons_succ]
   refine wpAnyH_take (i := 1) (oi := { dst := some 40, op := Op.fieldAddr 36 (Operand.tmp 39) 1, type := 0, pos := "keep.go:30", after := #[{ on := 0, ground := Ground.data }], guard := none }) (v := ?v1c2) rfl (by kernel_rfl) (by kernel_rfl) (by kernel_rfl) (fun _ _ _ h => h) (Or.inl ⟨by rfl, ?hy1c2⟩) hH ?r1c2
   case hy1c2 => (intro W hSw; (try dsimp only at hSw); go_simp; try (with_reducible rfl))
   try simp only [Act.put, List.setIfInBounds_toArray, List.set_cons_zero, List.set_cons_succ]
   refine wpAnyH_take (i := 2) (oi := { dst := some 41, op := Op.load 34 (Operand.tmp 40), type := 34, pos := "keep.go:30", after := #[{ on := 1, ground := Ground.data }], guard := none }) (v := ?v2c3) rfl (by kernel_rfl) (by kernel_rfl) (by kernel_rfl) (fun _ _ _ h => h) (Or.inl ⟨by rfl, ?hy2c3⟩) hH ?r2c3
   case hy2c3 => (intro W hSw; (try dsimp only at hSw); go_simp; try (with_reducible rfl))
   try simp only [Act.put, List.setIfInBounds_toArray, List.set_cons_zero, List.set_cons_succ]
   refine wpAnyH_take (i := 3) (oi := { dst := some 42, op := Op.move (Operand.tmp 4), type := 3, pos := "keep.go:30", after := #[], guard := none }) (v := ?v3c4) rfl (by kernel_rfl) (by kernel_rfl) (by kernel_rfl) (fun _ _ _ h => h) (Or.inl ⟨by rfl, ?hy3c4⟩) hH ?r3c4
   case hy3c4 => (intro W hSw; (try dsimp only at hSw); go_simp; try (with_reducible rfl))
   try simp only [Act.put, List.setIfInBounds_toArray, List.set_cons_zero, List.set_cons_succ]
   refine wpAnyH_take (i := 4) (oi := { dst := some 43, op := Op.move (Operand.tmp 7), type := 3, pos := "keep.go:30", after := #[], guard := none }) (v := ?v4c5) rfl (by kernel_rfl) (by kernel_rfl) (by kernel_rfl) (fun _ _ _ h => h) (Or.inl ⟨by rfl, ?hy4c5⟩) hH ?r4c5
   case hy4c5 => (intro W hSw; (try dsimp only at hSw); go_simp; try (with_reducible rfl))
   try simp only [Act.put, List.setIfInBounds_toArray, List.set_cons_zero, List.set_cons_succ]
   refine wpAnyH_take (i := 5) (oi := { dst := some 44, op := Op.binOp BinOp.rem 3 (Operand.tmp 42) (Operand.tmp 43) 3, type := 3, pos := "keep.go:30", after := #[{ on := 3, ground := Ground.data }, { on := 4, ground := Ground.data }], guard := none }) (v := ?v5c6) rfl (by kernel_rfl) (by kernel_rfl) (by kernel_rfl) (fun _ _ _ h => h) (Or.inl ⟨by rfl, ?hy5c6⟩) hH ?r5c6
   case hy5c6 => (intro W hSw; (try dsimp only at hSw); go_simp; try (with_reducible rfl))
   try simp only [Act.put, List.setIfInBounds_toArray, List.set_cons_zero, List.set_cons_succ]
   refine wpAnyH_take (i := 6) (oi := { dst := some 45, op := Op.indexAddr 34 (Operand.tmp 41) (Operand.tmp 44), type := 0, pos := "keep.go:30", after := #[{ on := 2, ground := Ground.data }, { on := 5, ground := Ground.data }], guard := none }) (v := ?v6c7) rfl (by kernel_rfl) (by kernel_rfl) (by kernel_rfl) (fun _ _ _ h => h) (Or.inl ⟨by rfl, ?hy6c7⟩) hH ?r6c7
   case hy6c7 => (intro W hSw; (try dsimp only at hSw); go_simp; try (with_reducible rfl))
   try simp only [Act.put, List.setIfInBounds_toArray, List.set_cons_zero, List.set_cons_succ]
   refine wpAnyH_take (i := 7) (oi := { dst := some 46, op := Op.load 3 (Operand.tmp 45), type := 3, pos := "keep.go:30", after := #[{ on := 6, ground := Ground.data }], guard := none }) (v := ?v7c8) rfl (by kernel_rfl) (by kernel_rfl) (by kernel_rfl) (fun _ _ _ h => h) (Or.inl ⟨by rfl, ?hy7c8⟩) hH ?r7c8
   case hy7c8 => (intro W hSw; (try dsimp only at hSw); go_simp; try (with_reducible rfl))
   try simp only [Act.put, List.setIfInBounds_toArray, List.set_cons_zero, List.set_cons_succ]
   refine wpAnyH_take (i := 8) (oi := { dst := some 6, op := Op.assign (Operand.tmp 46), type := 3, pos := "keep.go:30", after := #[{ on := 7, ground := Ground.data }, { on := 0, ground := Ground.phase }, { on := 1, ground := Ground.phase }, { on := 2, ground := Ground.phase }, { on := 3, ground := Ground.phase }, { on := 4, ground := Ground.phase }, { on := 5, ground := Ground.phase }, { on := 6, ground := Ground.phase }, { on := 7, ground := Ground.phase }], guard := none }) (v := ?v8c9) rfl (by kernel_rfl) (by kernel_rfl) (by kernel_rfl) (fun _ _ _ h => h) (Or.inl ⟨by rfl, ?hy8c9⟩) hH ?r8c9
   case hy8c9 => (intro W hSw; (try dsimp only at hSw); go_simp; try (with_reducible rfl))
   try simp only [Act.put, List.setIfInBounds_toArray, List.set_cons_zero, List.set_cons_succ]
   refine wpAnyH_done (by kernel_rfl) ?_ _
   refine NoPanic.normal ?_
   go_wp2_with fail
   go_ret2
   exact ⟨⟨_, _, rfl, M1.out.kp KQ, K1.out.kp KQ (by omega)⟩⟩
  ·
   have hni : ¬ (0 : Int) < (lN : Int) := by omega
   go_wp2_with fail
   go_ret2
   exact ⟨⟨_, _, rfl, M1.out, K1.out⟩⟩
end Go.Proofs.YtikmgckefbjbkaaGreatDoor

/-! ### Mak2 -/

namespace Go.Proofs.YtikmgckefbjbkaaGreatDoor
open Go.RowKit

theorem At.put {w : World} {S : Nat} {p : Nat → Bool} (h : At w S p) (b j : Nat) (hj : b / 64 = j) (hb : b < 256) : At (w.setCell ⟨S, j, none⟩ (.int .u64 (wd (addB p b) (b / 64) : Nat))) S (addB p b) := by
 subst hj
 have hp := bl_put (j := b / 64) h (.int .u64 (wd (addB p b) (b / 64) : Nat))
 refine hp.trans ?_
 have hk : b / 64 = 0 ∨ b / 64 = 1 ∨ b / 64 = 2 ∨ b / 64 = 3 := by omega
 rcases hk with hk | hk | hk | hk <;> rw [hk]
 ·
  rw [← wd_other p b 1 (by omega), ← wd_other p b 2 (by omega), ← wd_other p b 3 (by omega)]; rfl
 ·
  rw [← wd_other p b 0 (by omega), ← wd_other p b 2 (by omega), ← wd_other p b 3 (by omega)]; rfl
 ·
  rw [← wd_other p b 0 (by omega), ← wd_other p b 1 (by omega), ← wd_other p b 3 (by omega)]; rfl
 ·
  rw [← wd_other p b 0 (by omega), ← wd_other p b 1 (by omega), ← wd_other p b 2 (by omega)]; rfl
set_option maxHeartbeats 2000000 in
set_option maxRecDepth 100000 in
theorem putc_any (p : Nat → Bool) (b S : Nat) (hb : b < 256) (w : World) (hA : At w S p) : Calls Tryz.prog 90 #[.int .u8 (b : Int), .pointer (some ⟨S, 0, none⟩)] w fun e w' => e = .returned (.tuple #[]) ∧ At w' S (addB p b) ∧ Ks S w w' := by
 have HA := hid hA
 clear hA
 have hk : b / 64 = 0 ∨ b / 64 = 1 ∨ b / 64 = 2 ∨ b / 64 = 3 := by omega
 rcases hk with hj | hj | hj | hj
 ·
  have e1 : (b : Int) / 64 = 0 := by omega
  have e2 : (b : Int).tdiv 64 = 0 := by rw [Int.tdiv_eq_ediv_of_nonneg (by omega)]; omega
  have ap := HA.out.put b 0 hj hb
  have ob := or_bit p b
  rw [hj] at ap ob
  have AP := hid ap
  have OB : Hid (bits .or .u64 (wd p 0 : Nat) (IntKind.u64.wrap (2 ^ (b % 64))) = ((wd (addB p b) 0 : Nat) : Int)) := by show _ = _; rw [wrap_pow]; exact ob
  clear ap ob
  obtain ⟨x0, x1, x2, x3⟩ := HA.out.cells
  have f0 := bl_frozen HA.out 0
  go_enter Tryz.func90, Tryz.ntmps90
  go_wp2_with fail
  refine bodyPost_end (v := .tuple #[]) (results_none rfl _ _ _) rfl ⟨rfl, ?_, (Ks.refl _ _).set 0 _⟩
  rw [OB.out]
  exact AP.out
 ·
  have e1 : (b : Int) / 64 = 1 := by omega
  have e2 : (b : Int).tdiv 64 = 1 := by rw [Int.tdiv_eq_ediv_of_nonneg (by omega)]; omega
  have ap := HA.out.put b 1 hj hb
  have ob := or_bit p b
  rw [hj] at ap ob
  have AP := hid ap
  have OB : Hid (bits .or .u64 (wd p 1 : Nat) (IntKind.u64.wrap (2 ^ (b % 64))) = ((wd (addB p b) 1 : Nat) : Int)) := by show _ = _; rw [wrap_pow]; exact ob
  clear ap ob
  obtain ⟨x0, x1, x2, x3⟩ := HA.out.cells
  have f0 := bl_frozen HA.out 1
  go_enter Tryz.func90, Tryz.ntmps90
  go_wp2_with fail
  refine bodyPost_end (v := .tuple #[]) (results_none rfl _ _ _) rfl ⟨rfl, ?_, (Ks.refl _ _).set 1 _⟩
  rw [OB.out]
  exact AP.out
 ·
  have e1 : (b : Int) / 64 = 2 := by omega
  have e2 : (b : Int).tdiv 64 = 2 := by rw [Int.tdiv_eq_ediv_of_nonneg (by omega)]; omega
  have ap := HA.out.put b 2 hj hb
  have ob := or_bit p b
  rw [hj] at ap ob
  have AP := hid ap
  have OB : Hid (bits .or .u64 (wd p 2 : Nat) (IntKind.u64.wrap (2 ^ (b % 64))) = ((wd (addB p b) 2 : Nat) : Int)) := by show _ = _; rw [wrap_pow]; exact ob
  clear ap ob
  obtain ⟨x0, x1, x2, x3⟩ := HA.out.cells
  have f0 := bl_frozen HA.out 2
  go_enter Tryz.func90, Tryz.ntmps90
  go_wp2_with fail
  refine bodyPost_end (v := .tuple #[]) (results_none rfl _ _ _) rfl ⟨rfl, ?_, (Ks.refl _ _).set 2 _⟩
  rw [OB.out]
  exact AP.out
 ·
  have e1 : (b : Int) / 64 = 3 := by omega
  have e2 : (b : Int).tdiv 64 = 3 := by rw [Int.tdiv_eq_ediv_of_nonneg (by omega)]; omega
  have ap := HA.out.put b 3 hj hb
  have ob := or_bit p b
  rw [hj] at ap ob
  have AP := hid ap
  have OB : Hid (bits .or .u64 (wd p 3 : Nat) (IntKind.u64.wrap (2 ^ (b % 64))) = ((wd (addB p b) 3 : Nat) : Int)) := by show _ = _; rw [wrap_pow]; exact ob
  clear ap ob
  obtain ⟨x0, x1, x2, x3⟩ := HA.out.cells
  have f0 := bl_frozen HA.out 3
  go_enter Tryz.func90, Tryz.ntmps90
  go_wp2_with fail
  refine bodyPost_end (v := .tuple #[]) (results_none rfl _ _ _) rfl ⟨rfl, ?_, (Ks.refl _ _).set 3 _⟩
  rw [OB.out]
  exact AP.out
theorem within_nat (n : Int) (hi : Nat) (h : hi ≤ 1000000) (w : World) : Calls Tryz.prog 21 #[.int .i64 n, .int .i64 0, .int .i64 (hi : Int)] w fun e w' => ∃ k : Nat, k ≤ hi ∧ e = .returned (.int .i64 (k : Int)) ∧ w' = w := by
 refine (within_any n 0 (hi : Int) w (by omega) (by omega) (by omega)).mono ?_
 rintro e w' ⟨rfl, rfl⟩
 have := wit_le n 0 (hi : Int) (by omega)
 exact ⟨(wit n 0 (hi : Int)).toNat, by omega, by rw [Int.toNat_of_nonneg this.1], rfl⟩
theorem cnt_pos (q : Nat → Bool) (k : Nat) (hk : k < 256) (h : q k = true) : 0 < cnt q 256 := by
 rw [← lst_length]
 exact List.length_pos_of_mem ((Trip.mem_lst q k).2 ⟨hk, h⟩)
abbrev cb6 : Array Value := #[.int .u8 97, .int .u8 98, .int .u8 99, .int .u8 46, .int .u8 42, .int .u8 10]
theorem at6 {w : World} {B : Nat} (h : w.heap[B]? = some (.cells cb6 5)) (j : Nat) (hj : j ≤ 5) : ∃ b : Nat, b < 256 ∧ w.cell? ⟨B, j, none⟩ = some (.int .u8 (b : Int)) := by
 match j, hj with
 | 0, _ => exact ⟨97, by decide, bl_cell h 0 _ rfl⟩
 | 1, _ => exact ⟨98, by decide, bl_cell h 1 _ rfl⟩
 | 2, _ => exact ⟨99, by decide, bl_cell h 2 _ rfl⟩
 | 3, _ => exact ⟨46, by decide, bl_cell h 3 _ rfl⟩
 | 4, _ => exact ⟨42, by decide, bl_cell h 4 _ rfl⟩
 | 5, _ => exact ⟨10, by decide, bl_cell h 5 _ rfl⟩
structure Bst (w : World) (e : Ending) (w' : World) : Prop where
 ex : ∃ q : Nat → Bool, e = .returned (sv q) ∧ 0 < cnt q 256 ∧ Kp w w'
def ltB (i : Nat) : Nat → Bool := fun k => decide (k < i)
theorem ltB_step (i : Nat) : addB (ltB i) i = ltB (i + 1) := by
 funext k
 unfold addB ltB
 rw [Bool.eq_iff_iff]
 simp
 omega
def ltN (i : Nat) : Nat → Bool := fun k => decide (k < i) && !(k == 97)
theorem ltN_step (i : Nat) (h : i ≠ 97) : addB (ltN i) i = ltN (i + 1) := by
 funext k
 unfold addB ltN
 rw [Bool.eq_iff_iff]
 simp
 omega
theorem ltN_skip : ltN (97 + 1) = ltN 97 := by
 funext k
 unfold ltN
 rw [Bool.eq_iff_iff]
 simp
 omega
set_option maxHeartbeats 2000000 in
set_option maxRecDepth 100000 in
theorem byteSet_any (n : Int) (w : World) : Calls Tryz.prog 77 #[.int .i64 n] w fun e w' => Bst w e w' := by
 go_enter Tryz.func77, Tryz.ntmps77
 go_upto_region 2 with fail
 refine opq (fun W0 => W0.heap[w.heap.size]? = some (.cells #[.int .u64 0, .int .u64 0, .int .u64 0, .int .u64 0] 24) ∧ At W0 (w.heap.size + 1) (fun _ => false) ∧ Kp w W0) ⟨by exact bl_alloc (last_of _ _) _, by exact last_at _ _ _ (by simp), by exact (by repeat (first | exact Kp.refl _ | refine Kp.alloc ?_ _ | refine Kp.drew ?_ | refine Kp.drewN _ ?_))⟩ ?_
 rintro W0 ⟨xR0, xA0, xK0⟩
 have R0 : Hid (W0.heap[w.heap.size]? = some (.cells #[.int .u64 0, .int .u64 0, .int .u64 0, .int .u64 0] 24)) := xR0
 have A0 : Hid (At W0 (w.heap.size + 1) (fun _ => false)) := xA0
 have K0 : Hid (Kp w W0) := xK0
 clear xR0 xA0 xK0
 go_wp2_with fail
 refine (within_nat _ 5 (by omega) _).mono ?_
 rintro e W0 ⟨c, hc5, rfl, rfl⟩
 have hc : c = 0 ∨ c = 1 ∨ c = 2 ∨ 3 ≤ c := by omega
 rcases hc with rfl | rfl | rfl | hc
 ·
  go_wp2_with fail
  go_loopg [20] 257 (fun gk v wr => ∃ i : Nat, v = .int .i64 (i : Int) ∧ i ≤ 256 ∧ 256 < gk + i ∧ wr.heap[w.heap.size]? = some (.cells #[.int .u64 0, .int .u64 0, .int .u64 0, .int .u64 0] 24) ∧ At wr (w.heap.size + 1) (ltB i) ∧ Kp w wr)
  case atStart => exact ⟨0, rfl, by omega, by omega, R0.out, by
   have := A0.out
   rw [show (fun _ => false) = ltB 0 from funext fun k => by unfold ltB; simp] at this
   exact this, K0.out⟩
  case round =>
   obtain ⟨i, rfl, hi, hgi, r1, a1, k1⟩ := hrel
   have R1 := hid r1
   have A1 := hid a1
   have K1 := hid k1
   clear r1 a1 k1
   by_cases hlt : i < 256
   ·
    have hli : (i : Int) < 256 := by omega
    have gi : IntKind.i64.wrap ((i : Int) + 1) = (i : Int) + 1 := by rw [IntKind.wrap_i64]; omega
    have gb : IntKind.u8.wrap (i : Int) = (i : Int) := by rw [IntKind.wrap_u8']; omega
    go_wp2_with fail
    refine (putc_any _ i _ (by omega) _ A1.out).mono ?_
    rintro e W2 ⟨rfl, a2, k2⟩
    have A2 := hid a2
    have R2 := hid (bl_ks R1.out (by omega) k2)
    have K2 := hid (k2.up K1.out (by omega))
    clear a2 k2
    go_wp2_with fail
    go_roundg (gk - 1)
    case measure => omega
    case rel => exact ⟨i + 1, by go_num, by omega, by omega, R2.out, by rw [← ltB_step i]; exact A2.out, K2.out⟩
   ·
    have hli : ¬ (i : Int) < 256 := by omega
    have hi256 : i = 256 := by omega
    subst hi256
    have RF := R1
    have KF := K1
    obtain ⟨x0, x1, x2, x3⟩ := A1.out.cells
    have ff0 := bl_frozen RF.out 0
    have ff1 := bl_frozen RF.out 1
    have ff2 := bl_frozen RF.out 2
    have ff3 := bl_frozen RF.out 3
    have fc0 := bl_cell RF.out 0 _ rfl
    have fc1 := bl_cell RF.out 1 _ rfl
    have fc2 := bl_cell RF.out 2 _ rfl
    have fc3 := bl_cell RF.out 3 _ rfl
    go_wp2_with fail
    have AF := bl_set4 RF.out (.int .u64 (wd (ltB 256) 0 : Nat)) (.int .u64 (wd (ltB 256) 1 : Nat)) (.int .u64 (wd (ltB 256) 2 : Nat)) (.int .u64 (wd (ltB 256) 3 : Nat))
    refine bodyPost_ret (v := sv (ltB 256)) (ret_at rfl _ _ _ _ rfl AF) rfl ⟨⟨ltB 256, rfl, cnt_pos _ 97 (by omega) rfl, ?_⟩⟩
    exact (ks_set4 _ _ _ _).up KF.out (Nat.le_refl _)
 ·
  go_wp2_with fail
  refine (putc_any _ 97 _ (by omega) _ A0.out).mono ?_
  rintro e W1 ⟨rfl, a1, k1⟩
  have A1 := hid a1
  have R1 := hid (bl_ks R0.out (by omega) k1)
  have K1 := hid (k1.up K0.out (by omega))
  clear a1 k1
  go_wp2_with fail
  refine (putc_any _ 98 _ (by omega) _ A1.out).mono ?_
  rintro e W2 ⟨rfl, a2, k2⟩
  have A2 := hid a2
  have R2 := hid (bl_ks R1.out (by omega) k2)
  have K2 := hid (k2.up K1.out (by omega))
  clear a2 k2
  have RF := R2
  have KF := K2
  obtain ⟨x0, x1, x2, x3⟩ := A2.out.cells
  have ff0 := bl_frozen RF.out 0
  have ff1 := bl_frozen RF.out 1
  have ff2 := bl_frozen RF.out 2
  have ff3 := bl_frozen RF.out 3
  have fc0 := bl_cell RF.out 0 _ rfl
  have fc1 := bl_cell RF.out 1 _ rfl
  have fc2 := bl_cell RF.out 2 _ rfl
  have fc3 := bl_cell RF.out 3 _ rfl
  go_wp2_with fail
  have AF := bl_set4 RF.out (.int .u64 (wd (addB (addB (fun _ => false) 97) 98) 0 : Nat)) (.int .u64 (wd (addB (addB (fun _ => false) 97) 98) 1 : Nat)) (.int .u64 (wd (addB (addB (fun _ => false) 97) 98) 2 : Nat)) (.int .u64 (wd (addB (addB (fun _ => false) 97) 98) 3 : Nat))
  refine bodyPost_ret (v := sv (addB (addB (fun _ => false) 97) 98)) (ret_at rfl _ _ _ _ rfl AF) rfl ⟨⟨addB (addB (fun _ => false) 97) 98, rfl, cnt_pos _ 97 (by omega) rfl, ?_⟩⟩
  exact (ks_set4 _ _ _ _).up KF.out (Nat.le_refl _)
 ·
  go_wp2_with fail
  go_loopg [36] 257 (fun gk v wr => ∃ i : Nat, v = .int .i64 (i : Int) ∧ i ≤ 256 ∧ 256 < gk + i ∧ wr.heap[w.heap.size]? = some (.cells #[.int .u64 0, .int .u64 0, .int .u64 0, .int .u64 0] 24) ∧ At wr (w.heap.size + 1) (ltN i) ∧ Kp w wr)
  case atStart => exact ⟨0, rfl, by omega, by omega, R0.out, by
   have := A0.out
   rw [show (fun _ => false) = ltN 0 from funext fun k => by unfold ltN; simp] at this
   exact this, K0.out⟩
  case round =>
   obtain ⟨i, rfl, hi, hgi, r1, a1, k1⟩ := hrel
   have R1 := hid r1
   have A1 := hid a1
   have K1 := hid k1
   clear r1 a1 k1
   by_cases hlt : i < 256
   ·
    have hli : (i : Int) < 256 := by omega
    have gi : IntKind.i64.wrap ((i : Int) + 1) = (i : Int) + 1 := by rw [IntKind.wrap_i64]; omega
    have gb : IntKind.u8.wrap (i : Int) = (i : Int) := by rw [IntKind.wrap_u8']; omega
    by_cases h97 : i = 97
    ·
     subst h97
     go_wp2_with fail
     go_roundg (gk - 1)
     case measure => omega
     case rel => exact ⟨97 + 1, by go_num, by omega, by omega, R1.out, by rw [ltN_skip]; exact A1.out, K1.out⟩
    ·
     have n97 : ((i : Int) != 97) = true := by simp; omega
     have n97' : ¬ (i : Int) = 97 := by omega
     go_wp2_with fail
     refine (putc_any _ i _ (by omega) _ A1.out).mono ?_
     rintro e W2 ⟨rfl, a2, k2⟩
     have A2 := hid a2
     have R2 := hid (bl_ks R1.out (by omega) k2)
     have K2 := hid (k2.up K1.out (by omega))
     clear a2 k2
     go_wp2_with fail
     go_roundg (gk - 1)
     case measure => omega
     case rel => exact ⟨i + 1, by go_num, by omega, by omega, R2.out, by rw [← ltN_step i h97]; exact A2.out, K2.out⟩
   ·
    have hli : ¬ (i : Int) < 256 := by omega
    have hi256 : i = 256 := by omega
    subst hi256
    have RF := R1
    have KF := K1
    obtain ⟨x0, x1, x2, x3⟩ := A1.out.cells
    have ff0 := bl_frozen RF.out 0
    have ff1 := bl_frozen RF.out 1
    have ff2 := bl_frozen RF.out 2
    have ff3 := bl_frozen RF.out 3
    have fc0 := bl_cell RF.out 0 _ rfl
    have fc1 := bl_cell RF.out 1 _ rfl
    have fc2 := bl_cell RF.out 2 _ rfl
    have fc3 := bl_cell RF.out 3 _ rfl
    go_wp2_with fail
    have AF := bl_set4 RF.out (.int .u64 (wd (ltN 256) 0 : Nat)) (.int .u64 (wd (ltN 256) 1 : Nat)) (.int .u64 (wd (ltN 256) 2 : Nat)) (.int .u64 (wd (ltN 256) 3 : Nat))
    refine bodyPost_ret (v := sv (ltN 256)) (ret_at rfl _ _ _ _ rfl AF) rfl ⟨⟨ltN 256, rfl, cnt_pos _ 98 (by omega) rfl, ?_⟩⟩
    exact (ks_set4 _ _ _ _).up KF.out (Nat.le_refl _)
 ·
  have c0 : ¬ (c : Int) = 0 := by omega
  have c1 : ¬ (c : Int) = 1 := by omega
  have c2 : ¬ (c : Int) = 2 := by omega
  have d0 : ((c : Int) == 0) = false := by simp; omega
  have d1 : ((c : Int) == 1) = false := by simp; omega
  have d2 : ((c : Int) == 2) = false := by simp; omega
  go_wp2_with fail
  refine (within_nat _ 5 (by omega) _).mono ?_
  rintro e Wz ⟨k, hk5, rfl, rfl⟩
  obtain ⟨b, hb, hcell⟩ := at6 (last_of W0 (.cells cb6 5)) k hk5
  have hk6 : (k : Int) < 6 := by omega
  go_wp2_with fail
  refine (putc_any _ b _ hb _ (A0.out.alloc _)).mono ?_
  rintro e W2 ⟨rfl, a2, k2⟩
  have A2 := hid a2
  have R2 := hid (bl_ks (bl_alloc R0.out _) (by omega) k2)
  have K2 := hid (k2.up (K0.out.alloc _) (by omega))
  clear a2 k2 hcell
  have RF := R2
  have KF := K2
  obtain ⟨x0, x1, x2, x3⟩ := A2.out.cells
  have ff0 := bl_frozen RF.out 0
  have ff1 := bl_frozen RF.out 1
  have ff2 := bl_frozen RF.out 2
  have ff3 := bl_frozen RF.out 3
  have fc0 := bl_cell RF.out 0 _ rfl
  have fc1 := bl_cell RF.out 1 _ rfl
  have fc2 := bl_cell RF.out 2 _ rfl
  have fc3 := bl_cell RF.out 3 _ rfl
  go_wp2_with fail
  have AF := bl_set4 RF.out (.int .u64 (wd (addB (fun _ => false) b) 0 : Nat)) (.int .u64 (wd (addB (fun _ => false) b) 1 : Nat)) (.int .u64 (wd (addB (fun _ => false) b) 2 : Nat)) (.int .u64 (wd (addB (fun _ => false) b) 3 : Nat))
  refine bodyPost_ret (v := sv (addB (fun _ => false) b)) (ret_at rfl _ _ _ _ rfl AF) rfl ⟨⟨addB (fun _ => false) b, rfl, cnt_pos _ b hb (by unfold addB; simp), ?_⟩⟩
  exact (ks_set4 _ _ _ _).up KF.out (Nat.le_refl _)
end Go.Proofs.YtikmgckefbjbkaaGreatDoor

/-! ### Mak3 -/

namespace Go.Proofs.YtikmgckefbjbkaaGreatDoor.Trip
open Go Go.Proofs.YtikmgckefbjbkaaGreatDoor

/-- A part that may stand in a row: from g groups to g'. m: its nodes besides those of its groups. -/
structure PGood (ere : Bool) (m : Nat) (T : Rx) (d g g' : Nat) : Prop where
 k2 : T.k ≠ 2
 k3 : T.k ≠ 3
 ok : RxOk T
 le : g ≤ g'
 g3 : g' ≤ 3
 nd : nds T ≤ m + 8 * (g' - g)
 chk : ∀ b e n, n + nds T ≤ 40 → chk ere T b e ⟨n, g, d⟩ = some ⟨n + nds T, g', d⟩
/-- A row or a choice. -/
structure RGood (ere : Bool) (T : Rx) (d g g' : Nat) : Prop where
 ok : RxOk T
 le : g ≤ g'
 g3 : g' ≤ 3
 nd : nds T ≤ 8 + 8 * (g' - g)
 chk : ∀ n, n + nds T ≤ 40 → chk ere T true true ⟨n, g, d⟩ = some ⟨n + nds T, g', d⟩
/-- What so many parts come to. -/
structure SGood (ere : Bool) (m : Nat) (T : Rx) (d g g' : Nat) : Prop where
 k3 : T.k ≠ 3
 ok : RxOk T
 le : g ≤ g'
 g3 : g' ≤ 3
 nd : nds T ≤ m + 8 * (g' - g)
 chk : ∀ b e n, n + nds T ≤ 40 → chk ere T b e ⟨n, g, d⟩ = some ⟨n + nds T, g', d⟩
theorem PGood.part {ere : Bool} {m : Nat} {T : Rx} {d g g' : Nat} (h : PGood ere m T d g g') : SGood ere m T d g g' := ⟨h.k3, h.ok, h.le, h.g3, h.nd, h.chk⟩
theorem PGood.more {ere : Bool} {m m' : Nat} {T : Rx} {d g g' : Nat} (h : PGood ere m T d g g') (hm : m ≤ m') : PGood ere m' T d g g' := ⟨h.k2, h.k3, h.ok, h.le, h.g3, Nat.le_trans h.nd (by omega), h.chk⟩
theorem SGood.row {ere : Bool} {m : Nat} {T : Rx} {d g g' : Nat} (h : SGood ere m T d g g') (hm : m ≤ 8) : RGood ere T d g g' := ⟨h.ok, h.le, h.g3, Nat.le_trans h.nd (by omega), fun n hn => h.chk true true n hn⟩
theorem z_lt : W4.z.a < 18446744073709551616 ∧ W4.z.b < 18446744073709551616 ∧ W4.z.c < 18446744073709551616 ∧ W4.z.d < 18446744073709551616 := by unfold W4.z; simp
theorem nds0 (k mn mx n : Int) (s : W4) : nds (.mk k mn mx n s []) = 1 := by simp [nds, ndss]
theorem nds1 (k mn mx n : Int) (s : W4) (r : Rx) : nds (.mk k mn mx n s [r]) = 1 + nds r := by simp [nds, ndss]
theorem set_good (ere : Bool) (q : Nat → Bool) (hq : 0 < cnt q 256) (d g : Nat) (hg : g ≤ 3) : PGood ere 1 (setR q) d g g := by
 refine ⟨by show (1 : Int) ≠ 2; decide, by show (1 : Int) ≠ 3; decide, setR_ok q, Nat.le_refl _, hg, by unfold setR; rw [nds0]; omega, fun b e n hn => ?_⟩
 unfold setR at hn ⊢
 rw [nds0] at hn ⊢
 rw [Go.Proofs.YtikmgckefbjbkaaGreatDoor.chk]
 have hl : leanB (.mk 1 0 0 0 (W4.of q) []) = true := rfl
 rw [if_neg (by rw [hl]; simp; omega), if_pos rfl, cnt_congr _ q (fun k hk => bit_of q k hk), if_pos hq]
theorem back_good (ere : Bool) (n : Nat) (d g : Nat) (hg : g ≤ 3) (h1 : 1 ≤ n) (h2 : n ≤ g) : PGood ere 1 (.mk 6 0 0 (n : Int) W4.z []) d g g := by
 refine ⟨by show (6 : Int) ≠ 2; decide, by show (6 : Int) ≠ 3; decide, ?_, Nat.le_refl _, hg, by rw [nds0]; omega, fun b e m hm => ?_⟩
 ·
  unfold RxOk
  exact ⟨by simp, z_lt, fun a ha => by cases ha⟩
 ·
  rw [nds0] at hm ⊢
  rw [Go.Proofs.YtikmgckefbjbkaaGreatDoor.chk]
  have hl : leanB (.mk 6 0 0 (n : Int) W4.z []) = true := rfl
  rw [if_neg (by rw [hl]; simp; omega), if_neg (by decide), if_neg (by decide), if_neg (by decide), if_neg (by decide), if_neg (by decide), if_pos rfl, if_pos (by constructor <;> (try simp) <;> omega)]
theorem group_good (ere : Bool) (R : Rx) (d g g' : Nat) (hd : d ≤ 5) (hg : g + 1 ≤ 3) (h : RGood ere R (d + 1) (g + 1) g') : PGood ere 1 (.mk 5 0 0 ((g + 1 : Nat) : Int) W4.z [R]) d g g' := by
 have hle := h.le
 have hnd := h.nd
 refine ⟨by show (5 : Int) ≠ 2; decide, by show (5 : Int) ≠ 3; decide, ?_, by omega, h.g3, by rw [nds1]; omega, fun b e m hm => ?_⟩
 ·
  unfold RxOk
  exact ⟨by simp, z_lt, fun a ha => by
   obtain rfl : a = R := by simpa using ha
   exact h.ok⟩
 ·
  rw [nds1] at hm ⊢
  rw [Go.Proofs.YtikmgckefbjbkaaGreatDoor.chk]
  have hl : leanB (.mk 5 0 0 ((g + 1 : Nat) : Int) W4.z [R]) = true := rfl
  rw [if_neg (by rw [hl]; simp; omega), if_neg (by decide), if_neg (by decide), if_neg (by decide), if_neg (by decide), if_pos rfl, if_neg (by simp; omega)]
  rw [chkGroup]
  have := h.chk (m + 1) (by omega)
  rw [show (⟨m + 1, g + 1, d + 1⟩ : Ck) = ⟨m + 1, g + 1, d + 1⟩ from rfl, this]
  show some (Ck.mk (m + 1 + nds R) g' (d + 1 - 1)) = _
  rw [show m + 1 + nds R = m + (1 + nds R) by omega, show d + 1 - 1 = d by omega]
theorem rep_good (ere : Bool) (X : Rx) (lo hi : Int) (d g g' : Nat) (h : PGood ere 1 X d g g') (hk : mayRep X.k = true) (ht : timesFit lo hi = true) : PGood ere 2 (.mk 4 lo hi 0 W4.z [X]) d g g' := by
 have hnd := h.nd
 refine ⟨by show (4 : Int) ≠ 2; decide, by show (4 : Int) ≠ 3; decide, ?_, h.le, h.g3, by rw [nds1]; omega, fun b e m hm => ?_⟩
 ·
  unfold RxOk
  exact ⟨by simp, z_lt, fun a ha => by
   obtain rfl : a = X := by simpa using ha
   exact h.ok⟩
 ·
  rw [nds1] at hm ⊢
  rw [Go.Proofs.YtikmgckefbjbkaaGreatDoor.chk]
  have hl : leanB (.mk 4 lo hi 0 W4.z [X]) = true := rfl
  rw [if_neg (by rw [hl]; simp; omega), if_neg (by decide), if_neg (by decide), if_neg (by decide), if_pos rfl, if_pos ht, chkRep, if_pos hk, h.chk false false (m + 1) (by omega)]
  rw [show m + 1 + nds X = m + (1 + nds X) by omega]
/-- Parts, one behind the other. -/
inductive LG (ere : Bool) (d : Nat) : List Rx → Nat → Nat → Prop
 | nil (g : Nat) : LG ere d [] g g
 | cons {T : Rx} {ks : List Rx} {g g1 g' : Nat} (h : PGood ere 2 T d g g1) (r : LG ere d ks g1 g') : LG ere d (T :: ks) g g'
theorem LG.snoc {ere : Bool} {d : Nat} {ks : List Rx} {g g1 : Nat} (h : LG ere d ks g g1) : ∀ {T : Rx} {g' : Nat}, PGood ere 2 T d g1 g' → LG ere d (ks ++ [T]) g g' := by
 induction h with
 | nil g => intro T g' hT; exact .cons hT (.nil _)
 | cons h r ih => intro T g' hT; exact .cons h (ih hT)
theorem LG.facts {ere : Bool} {d : Nat} {ks : List Rx} {g g' : Nat} (h : LG ere d ks g g') : g ≤ g' ∧ (g ≤ 3 → g' ≤ 3) ∧ ndss ks ≤ 2 * ks.length + 8 * (g' - g) ∧ ∀ r ∈ ks, RxOk r := by
 induction h with
 | nil g => exact ⟨Nat.le_refl _, fun h => h, by simp [ndss], fun r hr => by cases hr⟩
 | cons h r ih =>
  have h1 := h.le
  have h2 := h.g3
  have h3 := h.nd
  obtain ⟨i1, i2, i3, i4⟩ := ih
  refine ⟨by omega, fun _ => i2 h2, by rw [ndss, List.length_cons]; omega, fun x hx => ?_⟩
  rcases List.mem_cons.1 hx with rfl | hx
  ·
   exact h.ok
  ·
   exact i4 x hx
theorem LG.cat {ere : Bool} {d : Nat} {ks : List Rx} {g g' : Nat} (h : LG ere d ks g g') : ∀ (rest : List Rx) (first : Bool) (n : Nat), n + ndss ks ≤ 40 → chkCat ere (ks ++ rest) first ⟨n, g, d⟩ = chkCat ere rest (first && ks.isEmpty) ⟨n + ndss ks, g', d⟩ := by
 induction h with
 | nil g => intro rest first n _; simp [ndss]
 | cons h r ih =>
  rename_i T ks g g1 g'
  intro rest first n hn
  rw [ndss] at hn ⊢
  show chkCat ere (T :: (ks ++ rest)) first ⟨n, g, d⟩ = _
  rw [chkCat, if_neg (by rintro (h' | h'); exact h.k2 h'; exact h.k3 h'), h.chk first _ n (by omega)]
  show chkCat ere (ks ++ rest) false ⟨n + nds T, g1, d⟩ = _
  rw [ih rest false (n + nds T) (by omega), Bool.false_and, show (first && (T :: ks).isEmpty) = false by simp, Nat.add_assoc]
theorem cat_good (ere : Bool) (d g g' : Nat) (hg : g ≤ 3) (ks : List Rx) (h : LG ere d ks g g') (h2 : 2 ≤ ks.length) (h3 : ks.length ≤ 3) : SGood ere (1 + 2 * ks.length) (.mk 2 0 0 0 W4.z ks) d g g' := by
 obtain ⟨f1, f2, f3, f4⟩ := h.facts
 have z : nds (.mk 2 0 0 0 W4.z ks) = 1 + ndss ks := by rw [nds]
 refine ⟨by show (2 : Int) ≠ 3; decide, ?_, f1, f2 hg, by rw [z]; omega, fun b e n hn => ?_⟩
 ·
  unfold RxOk
  exact ⟨by omega, z_lt, f4⟩
 ·
  rw [z] at hn ⊢
  rw [Go.Proofs.YtikmgckefbjbkaaGreatDoor.chk]
  have hl : leanB (.mk 2 0 0 0 W4.z ks) = true := by
   unfold leanB kidsFit
   simp
   omega
  rw [if_neg (by rw [hl]; simp; omega), if_neg (by decide), if_pos rfl]
  have := h.cat [] true (n + 1) (by omega)
  rw [List.append_nil] at this
  rw [this, chkCat, show n + 1 + ndss ks = n + (1 + ndss ks) by omega]
theorem leaf_ok (k : Int) : RxOk (.mk k 0 0 0 W4.z []) := by
 unfold RxOk
 exact ⟨by simp, z_lt, fun a ha => by cases ha⟩
theorem begin_good (ere : Bool) (d g g' : Nat) (hg : g ≤ 3) (ks : List Rx) (h : LG ere d ks g g') (h2 : 2 ≤ ks.length) (h3 : ks.length ≤ 3) : RGood ere (.mk 2 0 0 0 W4.z (.mk 7 0 0 0 W4.z [] :: ks)) d g g' := by
 obtain ⟨f1, f2, f3, f4⟩ := h.facts
 have z : nds (.mk 2 0 0 0 W4.z (.mk 7 0 0 0 W4.z [] :: ks)) = 2 + ndss ks := by rw [nds, ndss, nds0]; omega
 refine ⟨?_, f1, f2 hg, by rw [z]; omega, fun n hn => ?_⟩
 ·
  unfold RxOk
  refine ⟨by simp; omega, z_lt, fun a ha => ?_⟩
  rcases List.mem_cons.1 ha with rfl | ha
  ·
   exact leaf_ok 7
  ·
   exact f4 a ha
 ·
  rw [z] at hn ⊢
  rw [Go.Proofs.YtikmgckefbjbkaaGreatDoor.chk]
  have hl : leanB (.mk 2 0 0 0 W4.z (.mk 7 0 0 0 W4.z [] :: ks)) = true := by
   unfold leanB kidsFit
   simp
   intro e
   rw [e] at h2
   simp at h2
  rw [if_neg (by rw [hl]; simp; omega), if_neg (by decide), if_pos rfl, chkCat, if_neg (by rintro (h' | h') <;> exact absurd h' (by decide))]
  have hb : Go.Proofs.YtikmgckefbjbkaaGreatDoor.chk ere (.mk 7 0 0 0 W4.z []) true ks.isEmpty ⟨n + 1, g, d⟩ = some ⟨n + 2, g, d⟩ := by
   rw [Go.Proofs.YtikmgckefbjbkaaGreatDoor.chk]
   have hl : leanB (.mk 7 0 0 0 W4.z []) = true := rfl
   rw [if_neg (by rw [hl]; simp; omega), if_neg (by decide), if_neg (by decide), if_neg (by decide), if_neg (by decide), if_neg (by decide), if_neg (by decide), if_pos rfl, if_pos (by simp)]
  rw [hb]
  show chkCat ere ks false ⟨n + 2, g, d⟩ = _
  have := h.cat [] false (n + 2) (by omega)
  rw [List.append_nil] at this
  rw [this, chkCat, show n + 2 + ndss ks = n + (2 + ndss ks) by omega]
theorem end_good (ere : Bool) (d g g' : Nat) (hg : g ≤ 3) (ks : List Rx) (h : LG ere d ks g g') (h2 : 2 ≤ ks.length) (h3 : ks.length ≤ 3) : RGood ere (.mk 2 0 0 0 W4.z (ks ++ [.mk 8 0 0 0 W4.z []])) d g g' := by
 obtain ⟨f1, f2, f3, f4⟩ := h.facts
 have z : nds (.mk 2 0 0 0 W4.z (ks ++ [.mk 8 0 0 0 W4.z []])) = 2 + ndss ks := by rw [nds, ndss_app]; simp [ndss, nds0]; omega
 refine ⟨?_, f1, f2 hg, by rw [z]; omega, fun n hn => ?_⟩
 ·
  unfold RxOk
  refine ⟨by simp; omega, z_lt, fun a ha => ?_⟩
  rcases List.mem_append.1 ha with ha | ha
  ·
   exact f4 a ha
  ·
   obtain rfl : a = .mk 8 0 0 0 W4.z [] := by simpa using ha
   exact leaf_ok 8
 ·
  rw [z] at hn ⊢
  rw [Go.Proofs.YtikmgckefbjbkaaGreatDoor.chk]
  have hl : leanB (.mk 2 0 0 0 W4.z (ks ++ [.mk 8 0 0 0 W4.z []])) = true := by
   unfold leanB kidsFit
   simp
   intro e
   rw [e] at h2
   simp at h2
  rw [if_neg (by rw [hl]; simp; omega), if_neg (by decide), if_pos rfl, h.cat _ true (n + 1) (by omega), chkCat, if_neg (by rintro (h' | h') <;> exact absurd h' (by decide))]
  have hb : ∀ f, Go.Proofs.YtikmgckefbjbkaaGreatDoor.chk ere (.mk 8 0 0 0 W4.z []) f true ⟨n + 1 + ndss ks, g', d⟩ = some ⟨n + (2 + ndss ks), g', d⟩ := by
   intro f
   rw [Go.Proofs.YtikmgckefbjbkaaGreatDoor.chk]
   have hl : leanB (.mk 8 0 0 0 W4.z []) = true := rfl
   rw [if_neg (by rw [hl]; simp; omega), if_neg (by decide), if_neg (by decide), if_neg (by decide), if_neg (by decide), if_neg (by decide), if_neg (by decide), if_neg (by decide), if_pos rfl, if_pos (by simp)]
   rw [show n + 1 + ndss ks + 1 = n + (2 + ndss ks) by omega]
  rw [show ([] : List Rx).isEmpty = true from rfl, hb]
  rfl
theorem alt_good (a b : Rx) (d g g1 g' : Nat) (ha : SGood true 5 a d g g1) (hb : SGood true 2 b d g1 g') : RGood true (.mk 3 0 0 0 W4.z [a, b]) d g g' := by
 have a1 := ha.le
 have b1 := hb.le
 have a2 := ha.nd
 have b2 := hb.nd
 have z : nds (.mk 3 0 0 0 W4.z [a, b]) = 1 + nds a + nds b := by simp [nds, ndss]; omega
 refine ⟨?_, by omega, hb.g3, by rw [z]; omega, fun n hn => ?_⟩
 ·
  unfold RxOk
  refine ⟨by simp, z_lt, fun x hx => ?_⟩
  simp at hx
  rcases hx with rfl | rfl
  ·
   exact ha.ok
  ·
   exact hb.ok
 ·
  rw [z] at hn ⊢
  rw [Go.Proofs.YtikmgckefbjbkaaGreatDoor.chk]
  have hl : leanB (.mk 3 0 0 0 W4.z [a, b]) = true := rfl
  rw [if_neg (by rw [hl]; simp; omega), if_neg (by decide), if_neg (by decide), if_pos rfl, if_pos rfl, chkAlt, if_neg ha.k3, ha.chk false false (n + 1) (by omega)]
  show chkAlt true [b] ⟨n + 1 + nds a, g1, d⟩ = _
  rw [chkAlt, if_neg hb.k3, hb.chk false false (n + 1 + nds a) (by omega)]
  show chkAlt true [] ⟨n + 1 + nds a + nds b, g', d⟩ = _
  rw [chkAlt, show n + 1 + nds a + nds b = n + (1 + nds a + nds b) by omega]
/-- What is good from nothing is right. -/
theorem RGood.right {ere : Bool} {T : Rx} {g' : Nat} (h : RGood ere T 0 0 g') : right ere T = true := by
 unfold Go.Proofs.YtikmgckefbjbkaaGreatDoor.right
 have := h.nd
 have := h.g3
 rw [h.chk 0 (by omega)]
 rfl
end Go.Proofs.YtikmgckefbjbkaaGreatDoor.Trip

/-! ### Mak4 -/

namespace Go.Proofs.YtikmgckefbjbkaaGreatDoor
open Go.RowKit

/-- How far a call of the maker has come: x numbers read, g groups, z left. s: how many it may read, t: how much may go. -/
structure Gone (B : Nat) (s t : Nat) (x g : Nat) (z : Int) (w w' : World) (g' : Nat) : Prop where
 ex : ∃ (x' : Nat) (z' : Int), Mk w' B (x' : Int) (g' : Int) z' ∧ x' + 8 * (4 - g') ≤ x + 8 * (4 - g) + s ∧ z + 8 * g ≤ z' + 8 * g' + t ∧ z' ≤ z
 km : Km B w w'
/-- What a call of the maker asks. -/
structure Asks (w : World) (aK : Option Addr) (lK : Nat) (aN : Option Addr) (lN : Nat) (B s t x g : Nat) (z : Int) : Prop where
 mm : Mk w B (x : Int) (g : Int) z
 nk : Nums w B aK lK
 nn : Nums w B aN lN
 g3 : g ≤ 3
 bx : x + 8 * (4 - g) + s ≤ 150
 bz : -100 ≤ z + 8 * g - t
 z14 : z ≤ 14
structure RowD (ere : Bool) (B d x g : Nat) (z : Int) (w : World) (e : Ending) (w' : World) : Prop where
 ex : ∃ T v g', e = .returned v ∧ Is w' (fun b => w.heap.size ≤ b) T v ∧ Trip.RGood ere T d g g' ∧ Gone B 4 7 x g z w w' g'
structure RowSaid (ere : Bool) (d : Nat) : Prop where
 all : ∀ (aK : Option Addr) (lK cK : Nat) (aN : Option Addr) (lN cN : Nat) (B x g : Nat) (z : Int) (w : World), Asks w aK lK aN lN B 4 7 x g z → Calls Tryz.prog 28 #[mkv aK lK cK aN lN cN ere B, .int .i64 (d : Int)] w fun e w' => RowD ere B d x g z w e w'
structure PartD (ere : Bool) (B d x g : Nat) (z : Int) (w : World) (e : Ending) (w' : World) : Prop where
 ex : ∃ T v g', e = .returned v ∧ Is w' (fun b => w.heap.size ≤ b) T v ∧ Trip.PGood ere 2 T d g g' ∧ Gone B 1 2 x g z w w' g'
/-- What stands in the part's variable: something that may be repeated. -/
structure Mid (ere : Bool) (B V d g x : Nat) (z : Int) (w w' : World) : Prop where
 ex : ∃ T g' k mn mx m t ad l c, w'.heap[V]? = some (rxo k mn mx m t (.slice ad l c)) ∧ Is w' (fun b => w.heap.size + 1 < b ∧ b ≠ V) T (rxv k mn mx m t (.slice ad l c)) ∧ Trip.PGood ere 1 T d g g' ∧ mayRep T.k = true ∧ Gone B 1 2 x g z w w' g'

theorem Mk.ks {w w' : World} {B S : Nat} {x y z : Int} (h : Mk w B x y z) (k : Ks S w w') (hS : B + 2 < S) : Mk w' B x y z := ⟨bl_ks h.at_ (by omega) k, bl_ks h.gr (by omega) k, bl_ks h.lf (by omega) k⟩
theorem Km.new {B S : Nat} {a b c : World} (h : Km B a b) (k : Ks S b c) (hS : a.heap.size ≤ S) (hB : B ≤ a.heap.size) : Km B a c :=
 ⟨h.lo.trans (Below.mono k.lo (by omega)), fun j hj n0 n1 n2 => (k.block j (Nat.lt_of_lt_of_le hj h.size) (by omega)).trans (h.block j hj n0 n1 n2)⟩
theorem Gone.ks {B s t x g : Nat} {z : Int} {w w' w'' : World} {g' : Nat} {S : Nat} (h : Gone B s t x g z w w' g') (k : Ks S w' w'') (hS : w.heap.size ≤ S) (hB : B + 2 < w.heap.size) : Gone B s t x g z w w'' g' := by
 obtain ⟨x', z', h1, h2, h3, h4⟩ := h.ex
 exact ⟨⟨x', z', h1.ks k (by omega), h2, h3, h4⟩, h.km.new k hS (by omega)⟩
theorem Gone.kp {B s t x g : Nat} {z : Int} {w w' w'' : World} {g' : Nat} (h : Gone B s t x g z w w' g') (k : Kp w' w'') (hB : B + 2 < w.heap.size) : Gone B s t x g z w w'' g' := by
 obtain ⟨x', z', h1, h2, h3, h4⟩ := h.ex
 exact ⟨⟨x', z', h1.kp k, h2, h3, h4⟩, h.km.kp k (by omega)⟩
/-- A condition, and what it says where it holds. -/
structure Bq (P : Prop) (v : Value) : Prop where
 ex : ∃ q : Bool, v = .bool q ∧ (q = true → P)

set_option maxHeartbeats 2000000 in
set_option maxRecDepth 100000 in
theorem kpart_any (aK : Option Addr) (lK cK : Nat) (aN : Option Addr) (lN cN : Nat) (ere : Bool) (B : Nat) (d x g : Nat) (z : Int) (w : World) (hd : d ≤ 3) (HR : d < 3 → RowSaid ere (d + 1)) (hA : Asks w aK lK aN lN B 1 2 x g z) :
  Calls Tryz.prog 62 #[(mkv aK lK cK aN lN cN ere B), .int .i64 (d : Int)] w fun e w' => PartD ere B d x g z w e w' := by
 have HA := hid hA
 have hBw := hA.mm.lt
 have hg3 := hA.g3
 have hbx := hA.bx
 have hbz := hA.bz
 have hz14 := hA.z14
 have RS := hid HR
 clear hA HR
 go_enter Tryz.func62, Tryz.ntmps62
 go_upto_region 1 with fail
 refine opq (fun W0 => W0.heap[w.heap.size]? = some (mko aK lK cK aN lN cN ere B) ∧ W0.heap[(w.heap.size + 1)]? = some rzo ∧ Kp w W0) ⟨by exact bl_alloc (last_of _ _) _, by exact last_at _ _ _ (by simp), by exact (by repeat (first | exact Kp.refl _ | refine Kp.alloc ?_ _ | refine Kp.drew ?_ | refine Kp.drewN _ ?_))⟩ ?_
 rintro W0 ⟨xA0, xR0, xK0⟩
 have A0 : Hid (W0.heap[w.heap.size]? = some (mko aK lK cK aN lN cN ere B)) := xA0
 have R0 : Hid (W0.heap[(w.heap.size + 1)]? = some rzo) := xR0
 have K0 : Hid (Kp w W0) := xK0
 clear xA0 xR0 xK0
 have AS0 := hid (HA.out.mm.kp K0.out)
 have NK0 := hid (HA.out.nk.km (K0.out.km (B := B) (by omega)))
 have NN0 := hid (HA.out.nn.km (K0.out.km (B := B) (by omega)))
 have p0 := bl_cell (A0.out) 0 _ rfl
 have p1 := bl_cell (A0.out) 1 _ rfl
 have p2 := bl_cell (A0.out) 2 _ rfl
 have p3 := bl_cell (A0.out) 3 _ rfl
 have p4 := bl_cell (A0.out) 4 _ rfl
 have p5 := bl_cell (A0.out) 5 _ rfl
 go_wp2_with fail
 refine (next_any aK lK cK aN lN cN ere B x (g : Int) z _ AS0.out NK0.out NN0.out (by omega)).mono ?_
 rintro e W1 ⟨kd, n, rfl, m1, k1⟩
 have hs0 := K0.out.size
 have hs0' : w.heap.size + 1 < W0.heap.size := bl_lt R0.out
 have hs1 := k1.size
 have M1 := hid m1
 have A1 := hid (bl_km A0.out (by omega) k1)
 have R1 := hid (bl_km R0.out (by omega) k1)
 have K1 : Hid (Km B w W1) := (K0.out.km (by omega)).trans k1
 clear m1 k1 AS0 NK0 NN0 A0 R0 p0 p1 p2 p3 p4 p5
 go_upto_region 2 with fail
 have gz : IntKind.i64.wrap (z - 2) = z - 2 := by rw [IntKind.wrap_i64]; omega
 go_cut [] (fun wc => Mk wc B ((x + 1 : Nat) : Int) (g : Int) (z - 2) ∧ wc.heap[w.heap.size]? = some (mko aK lK cK aN lN cN ere B) ∧ wc.heap[w.heap.size + 1]? = some rzo ∧ Km B w wc ∧ W1.heap.size ≤ wc.heap.size)
 case first =>
  have Q0 : Kp W1 W1.drew := (Kp.refl _).drew
  have MK : Hid (∀ W, Kp W1 W → W.cell? ⟨w.heap.size, 5, none⟩ = some (.pointer (some ⟨B + 2, 0, none⟩)) ∧ W.cell? ⟨(B + 2), 0, none⟩ = some (.int .i64 z) ∧ Hid (Kp W1 W)) := fun W k => ⟨bl_cell (bl_kp A1.out k) 5 _ rfl, bl_cell (M1.out.kp k).lf 0 _ rfl, k⟩
  refine wp_region_noPanic ?_
  refine region_Z (z := 8) (S := (fun W => W.cell? ⟨w.heap.size, 5, none⟩ = some (.pointer (some ⟨B + 2, 0, none⟩)) ∧ W.cell? ⟨(B + 2), 0, none⟩ = some (.int .i64 z) ∧ Hid (Kp W1 W))) (by kernel_rfl) ?_ (fun hH => ?_)
  ·
   exact MK.out _ Q0
  have KQ := Q0
  refine anyZ_take (z := 8) (ks := []) (i := 0) (oi := { dst := some 17, op := Op.fieldAddr 61 (Operand.tmp 2) 4, type := 0, pos := "keep.go:100", after := #[], guard := none }) (v := ?v0a1) rfl (by kernel_rfl) (by kernel_rfl) (by kernel_rfl) (by kernel_rfl) (by kernel_rfl) (fun _ _ _ h => h) (Or.inl ⟨by rfl, ?hy0a1⟩) hH ?r0a1
  case hy0a1 => (intro W hSw; (try dsimp only at hSw); go_simp; try (with_reducible rfl))
  try simp only [Act.put, List.setIfInBounds_toArray, List.set_cons_zero, List.set_cons_succ]
  refine anyZ_take (z := 8) (ks := []) (i := 1) (oi := { dst := some 18, op := Op.load 59 (Operand.tmp 17), type := 59, pos := "keep.go:100", after := #[{ on := 0, ground := Ground.data }], guard := none }) (v := ?v1a2) rfl (by kernel_rfl) (by kernel_rfl) (by kernel_rfl) (by kernel_rfl) (by kernel_rfl) (fun _ _ _ h => h) (Or.inl ⟨by rfl, ?hy1a2⟩) hH ?r1a2
  case hy1a2 => (intro W hSw; (try dsimp only at hSw); go_simp; try (with_reducible rfl))
  try simp only [Act.put, List.setIfInBounds_toArray, List.set_cons_zero, List.set_cons_succ]
  refine anyZ_take (z := 8) (ks := []) (i := 2) (oi := { dst := some 19, op := Op.fieldAddr 61 (Operand.tmp 2) 4, type := 0, pos := "keep.go:100", after := #[], guard := none }) (v := ?v2a3) rfl (by kernel_rfl) (by kernel_rfl) (by kernel_rfl) (by kernel_rfl) (by kernel_rfl) (fun _ _ _ h => h) (Or.inl ⟨by rfl, ?hy2a3⟩) hH ?r2a3
  case hy2a3 => (intro W hSw; (try dsimp only at hSw); go_simp; try (with_reducible rfl))
  try simp only [Act.put, List.setIfInBounds_toArray, List.set_cons_zero, List.set_cons_succ]
  refine anyZ_take (z := 8) (ks := []) (i := 3) (oi := { dst := some 20, op := Op.load 59 (Operand.tmp 19), type := 59, pos := "keep.go:100", after := #[{ on := 2, ground := Ground.data }], guard := none }) (v := ?v3a4) rfl (by kernel_rfl) (by kernel_rfl) (by kernel_rfl) (by kernel_rfl) (by kernel_rfl) (fun _ _ _ h => h) (Or.inl ⟨by rfl, ?hy3a4⟩) hH ?r3a4
  case hy3a4 => (intro W hSw; (try dsimp only at hSw); go_simp; try (with_reducible rfl))
  try simp only [Act.put, List.setIfInBounds_toArray, List.set_cons_zero, List.set_cons_succ]
  refine anyZ_take (z := 8) (ks := []) (i := 4) (oi := { dst := some 21, op := Op.nilCheck (Operand.tmp 20), type := 0, pos := "keep.go:100", after := #[{ on := 3, ground := Ground.data }], guard := none }) (v := ?v4a5) rfl (by kernel_rfl) (by kernel_rfl) (by kernel_rfl) (by kernel_rfl) (by kernel_rfl) (fun _ _ _ h => h) (Or.inl ⟨by rfl, ?hy4a5⟩) hH ?r4a5
  case hy4a5 => (intro W hSw; (try dsimp only at hSw); go_simp; try (with_reducible rfl))
  try simp only [Act.put, List.setIfInBounds_toArray, List.set_cons_zero, List.set_cons_succ]
  refine anyZ_take (z := 8) (ks := []) (i := 5) (oi := { dst := some 22, op := Op.load 3 (Operand.tmp 21), type := 3, pos := "keep.go:100", after := #[{ on := 4, ground := Ground.data }], guard := none }) (v := ?v5a6) rfl (by kernel_rfl) (by kernel_rfl) (by kernel_rfl) (by kernel_rfl) (by kernel_rfl) (fun _ _ _ h => h) (Or.inl ⟨by rfl, ?hy5a6⟩) hH ?r5a6
  case hy5a6 => (intro W hSw; (try dsimp only at hSw); go_simp; try (with_reducible rfl))
  try simp only [Act.put, List.setIfInBounds_toArray, List.set_cons_zero, List.set_cons_succ]
  refine anyZ_take (z := 8) (ks := []) (i := 6) (oi := { dst := some 23, op := Op.binOp BinOp.sub 3 (Operand.tmp 22) (Operand.const (Value.int IntKind.i64 2)) 3, type := 3, pos := "keep.go:100", after := #[{ on := 5, ground := Ground.data }], guard := none }) (v := ?v6a7) rfl (by kernel_rfl) (by kernel_rfl) (by kernel_rfl) (by kernel_rfl) (by kernel_rfl) (fun _ _ _ h => h) (Or.inl ⟨by rfl, ?hy6a7⟩) hH ?r6a7
  case hy6a7 => (intro W hSw; (try dsimp only at hSw); go_simp; try (with_reducible rfl))
  try simp only [Act.put, List.setIfInBounds_toArray, List.set_cons_zero, List.set_cons_succ]
  refine anyZ_take (z := 8) (ks := []) (i := 7) (oi := { dst := some 24, op := Op.nilCheck (Operand.tmp 18), type := 0, pos := "keep.go:100", after := #[{ on := 1, ground := Ground.data }, { on := 0, ground := Ground.phase }, { on := 1, ground := Ground.phase }, { on := 2, ground := Ground.phase }, { on := 3, ground := Ground.phase }, { on := 4, ground := Ground.phase }, { on := 5, ground := Ground.phase }, { on := 6, ground := Ground.phase }], guard := none }) (v := ?v7a8) rfl (by kernel_rfl) (by kernel_rfl) (by kernel_rfl) (by kernel_rfl) (by kernel_rfl) (fun _ _ _ h => h) (Or.inl ⟨by rfl, ?hy7a8⟩) hH ?r7a8
  case hy7a8 => (intro W hSw; (try dsimp only at hSw); go_simp; try (with_reducible rfl))
  try simp only [Act.put, List.setIfInBounds_toArray, List.set_cons_zero, List.set_cons_succ]
  refine anyZ_ready (rs := [8]) (by kernel_rfl) (by simp) ?_
  refine AllZ.last (o := { dst := none, op := Op.store 3 (Operand.tmp 24) (Operand.tmp 23), type := 0, pos := "keep.go:100", after := #[{ on := 7, ground := Ground.data }, { on := 6, ground := Ground.data }, { on := 0, ground := Ground.phase }, { on := 1, ground := Ground.phase }, { on := 2, ground := Ground.phase }, { on := 3, ground := Ground.phase }, { on := 4, ground := Ground.phase }, { on := 5, ground := Ground.phase }, { on := 6, ground := Ground.phase }], guard := none }) rfl (Or.inl rfl) (fun K hKq => ?_) AllZ.nil
  have fq2 := bl_frozen (M1.out.kp KQ).lf 0
  have cq2 := bl_cell (M1.out.kp KQ).lf 0 _ rfl
  go_simp
  refine hKq.out _ _ ?_
  clear fq2 cq2
  clear hKq K
  try simp only [Act.put, List.setIfInBounds_toArray, List.set_cons_zero, List.set_cons_succ]
  refine anyZ_done (by kernel_rfl) ?_ _
  refine NoPanic.normal ?_
  go_wp2_with fail
  go_meet
  case rel => exact ⟨(M1.out.kp KQ).setL _, bl_set (bl_kp A1.out KQ) (by omega) _, bl_set (bl_kp R1.out KQ) (by omega) _, (K1.out.kp KQ (by omega)).set 2 (by omega) 0 _, by simp⟩
 case rest =>
 obtain ⟨m2, a2, r2, k2, hs2⟩ := hcut
 rename World => W2
 have M2 := hid m2
 have A2 := hid a2
 have R2 := hid r2
 have K2 := hid k2
 clear m2 a2 r2 k2 M1 A1 R1 K1 gz
 go_wp2_with fail
 refine (byteSet_any n _).mono ?_
 rintro e W3 ⟨q, rfl, hq, k3⟩
 have hs3 := k3.size
 have M3 := hid (M2.out.kp k3)
 have A3 := hid (bl_kp A2.out k3)
 have R3 := hid (bl_kp R2.out k3)
 have K3 := hid (K2.out.kp k3 (by omega))
 have HQ := hid hq
 clear k3 hq M2 A2 R2 K2
 go_upto_region 4 with fail
 refine opq (fun W4w => Mk W4w B ((x + 1 : Nat) : Int) (g : Int) (z - 2) ∧ W4w.heap[w.heap.size]? = some (mko aK lK cK aN lN cN ere B) ∧ W4w.heap[(w.heap.size + 1)]? = some rzo ∧ W4w.heap[W3.heap.size]? = some (rxo 1 0 0 0 (W4.of q) (.slice none 0 0)) ∧ Km B w W4w) ⟨by exact M3.out.kp (by repeat (first | exact Kp.refl _ | refine Kp.alloc ?_ _ | refine Kp.drew ?_ | refine Kp.drewN _ ?_)), by exact bl_kp A3.out (by repeat (first | exact Kp.refl _ | refine Kp.alloc ?_ _ | refine Kp.drew ?_ | refine Kp.drewN _ ?_)), by exact bl_kp R3.out (by repeat (first | exact Kp.refl _ | refine Kp.alloc ?_ _ | refine Kp.drew ?_ | refine Kp.drewN _ ?_)), by (first | exact last_at _ _ _ (by simp) | (refine bl_alloc ?_ _; first | exact last_at _ _ _ (by simp) | (refine bl_alloc ?_ _; first | exact last_at _ _ _ (by simp) | (refine bl_alloc ?_ _; exact last_at _ _ _ (by simp))))), by exact K3.out.kp (by repeat (first | exact Kp.refl _ | refine Kp.alloc ?_ _ | refine Kp.drew ?_ | refine Kp.drewN _ ?_)) (by omega)⟩ ?_
 rintro W4w ⟨xM4, xA4, xR4, xV4, xK4⟩
 have M4 : Hid (Mk W4w B ((x + 1 : Nat) : Int) (g : Int) (z - 2)) := xM4
 have A4 : Hid (W4w.heap[w.heap.size]? = some (mko aK lK cK aN lN cN ere B)) := xA4
 have R4 : Hid (W4w.heap[(w.heap.size + 1)]? = some rzo) := xR4
 have V4 : Hid (W4w.heap[W3.heap.size]? = some (rxo 1 0 0 0 (W4.of q) (.slice none 0 0))) := xV4
 have K4 : Hid (Km B w W4w) := xK4
 clear xM4 xA4 xR4 xV4 xK4
 have hs4 : W3.heap.size < W4w.heap.size := bl_lt V4.out
 clear M3 A3 R3 K3
 go_wp2_with fail
 refine (within_nat _ 9 (by omega) _).mono ?_
 rintro e W4w ⟨c, hc9, rfl, rfl⟩
 have p0 := bl_cell (A4.out) 0 _ rfl
 have p1 := bl_cell (A4.out) 1 _ rfl
 have p2 := bl_cell (A4.out) 2 _ rfl
 have p3 := bl_cell (A4.out) 3 _ rfl
 have p4 := bl_cell (A4.out) 4 _ rfl
 have p5 := bl_cell (A4.out) 5 _ rfl
 have q0 := bl_cell M4.out.lf 0 _ rfl
 have q1 := bl_cell M4.out.gr 0 _ rfl
 go_upto_region 5 with fail
 go_cut [49] (fun v wc => Bq (d < 3 ∧ g < 3) v ∧ Kp W4w wc)
 case first =>
  by_cases h6 : 6 ≤ c
  ·
   have h6i : (6 : Int) ≤ (c : Int) := by omega
   by_cases hl : 3 < z - 2
   ·
    have hli : (3 : Int) < z - 2 := by omega
    by_cases hd3 : d < 3
    ·
     have hd3i : (d : Int) < 3 := by omega
     by_cases hg2 : g < 3
     ·
      have hg2i : (g : Int) < 3 := by omega
      go_wp2_with fail
      go_meet
      case rel => exact ⟨⟨_, rfl, fun _ => ⟨hd3, hg2⟩⟩, Kp.refl _⟩
     ·
      have hg2i : ¬ (g : Int) < 3 := by omega
      go_wp2_with fail
      go_meet
      case rel => exact ⟨⟨_, rfl, fun h => by cases h⟩, Kp.refl _⟩
    ·
     have hd3i : ¬ (d : Int) < 3 := by omega
     go_wp2_with fail
     go_meet
     case rel => exact ⟨⟨_, rfl, fun h => by cases h⟩, Kp.refl _⟩
   ·
    have hli : ¬ (3 : Int) < z - 2 := by omega
    go_wp2_with fail
    go_meet
    case rel => exact ⟨⟨_, rfl, fun h => by cases h⟩, Kp.refl _⟩
  ·
   have h6i : ¬ (6 : Int) ≤ (c : Int) := by omega
   go_wp2_with fail
   go_meet
   case rel => exact ⟨⟨_, rfl, fun h => by cases h⟩, Kp.refl _⟩
 case rest =>
 obtain ⟨⟨⟨q5, rfl, hq5⟩⟩, k5⟩ := hcut
 rename World => W5
 have hs5 := k5.size
 have M5 := hid (M4.out.kp k5)
 have A5 := hid (bl_kp A4.out k5)
 have R5 := hid (bl_kp R4.out k5)
 have V5 := hid (bl_kp V4.out k5)
 have K5 := hid (K4.out.kp k5 (by omega))
 clear k5 M4 A4 R4 V4 K4 q0 q1 p0 p1 p2 p3 p4 p5
 go_upto_if 49 with fail
 go_cut [] (fun wc => Mid ere B W3.heap.size d g x z w wc ∧ wc.heap[w.heap.size + 1]? = some rzo)
 case first =>
  cases q5 with
  | true =>
   obtain ⟨hd3, hg2⟩ := hq5 rfl
   have RSx := hid ((RS.out hd3).all aK lK cK aN lN cN B (x + 1) (g + 1) (z - 2))
   have gg : IntKind.i64.wrap ((g : Int) + 1) = ((g + 1 : Nat) : Int) := by rw [IntKind.wrap_i64]; omega
   have gd : IntKind.i64.wrap ((d : Int) + 1) = ((d + 1 : Nat) : Int) := by rw [IntKind.wrap_i64]; omega
   go_upto_region 6 with fail
   go_cut [] (fun wc => Mk wc B ((x + 1 : Nat) : Int) ((g + 1 : Nat) : Int) (z - 2) ∧ wc.heap[w.heap.size]? = some (mko aK lK cK aN lN cN ere B) ∧ wc.heap[w.heap.size + 1]? = some rzo ∧ wc.heap[W3.heap.size]? = some (rxo 1 0 0 0 (W4.of q) (.slice none 0 0)) ∧ Km B w wc ∧ W5.heap.size ≤ wc.heap.size)
   case first =>
    have Q0 : Kp W5 W5.drew := (Kp.refl _).drew
    have MK : Hid (∀ W, Kp W5 W → W.cell? ⟨w.heap.size, 4, none⟩ = some (.pointer (some ⟨B + 1, 0, none⟩)) ∧ W.cell? ⟨(B + 1), 0, none⟩ = some (.int .i64 (g : Int)) ∧ Hid (Kp W5 W)) := fun W k => ⟨bl_cell (bl_kp A5.out k) 4 _ rfl, bl_cell (M5.out.kp k).gr 0 _ rfl, k⟩
    refine wp_region_noPanic ?_
    refine region_Z (z := 8) (S := (fun W => W.cell? ⟨w.heap.size, 4, none⟩ = some (.pointer (some ⟨B + 1, 0, none⟩)) ∧ W.cell? ⟨(B + 1), 0, none⟩ = some (.int .i64 (g : Int)) ∧ Hid (Kp W5 W))) (by kernel_rfl) ?_ (fun hH => ?_)
    ·
     exact MK.out _ Q0
    have KQ := Q0
    refine anyZ_take (z := 8) (ks := []) (i := 0) (oi := { dst := some 50, op := Op.fieldAddr 61 (Operand.tmp 2) 3, type := 0, pos := "keep.go:104", after := #[], guard := none }) (v := ?v0b1) rfl (by kernel_rfl) (by kernel_rfl) (by kernel_rfl) (by kernel_rfl) (by kernel_rfl) (fun _ _ _ h => h) (Or.inl ⟨by rfl, ?hy0b1⟩) hH ?r0b1
    case hy0b1 => (intro W hSw; (try dsimp only at hSw); go_simp; try (with_reducible rfl))
    try simp only [Act.put, List.setIfInBounds_toArray, List.set_cons_zero, List.set_cons_succ]
    refine anyZ_take (z := 8) (ks := []) (i := 1) (oi := { dst := some 51, op := Op.load 59 (Operand.tmp 50), type := 59, pos := "keep.go:104", after := #[{ on := 0, ground := Ground.data }], guard := none }) (v := ?v1b2) rfl (by kernel_rfl) (by kernel_rfl) (by kernel_rfl) (by kernel_rfl) (by kernel_rfl) (fun _ _ _ h => h) (Or.inl ⟨by rfl, ?hy1b2⟩) hH ?r1b2
    case hy1b2 => (intro W hSw; (try dsimp only at hSw); go_simp; try (with_reducible rfl))
    try simp only [Act.put, List.setIfInBounds_toArray, List.set_cons_zero, List.set_cons_succ]
    refine anyZ_take (z := 8) (ks := []) (i := 2) (oi := { dst := some 52, op := Op.fieldAddr 61 (Operand.tmp 2) 3, type := 0, pos := "keep.go:104", after := #[], guard := none }) (v := ?v2b3) rfl (by kernel_rfl) (by kernel_rfl) (by kernel_rfl) (by kernel_rfl) (by kernel_rfl) (fun _ _ _ h => h) (Or.inl ⟨by rfl, ?hy2b3⟩) hH ?r2b3
    case hy2b3 => (intro W hSw; (try dsimp only at hSw); go_simp; try (with_reducible rfl))
    try simp only [Act.put, List.setIfInBounds_toArray, List.set_cons_zero, List.set_cons_succ]
    refine anyZ_take (z := 8) (ks := []) (i := 3) (oi := { dst := some 53, op := Op.load 59 (Operand.tmp 52), type := 59, pos := "keep.go:104", after := #[{ on := 2, ground := Ground.data }], guard := none }) (v := ?v3b4) rfl (by kernel_rfl) (by kernel_rfl) (by kernel_rfl) (by kernel_rfl) (by kernel_rfl) (fun _ _ _ h => h) (Or.inl ⟨by rfl, ?hy3b4⟩) hH ?r3b4
    case hy3b4 => (intro W hSw; (try dsimp only at hSw); go_simp; try (with_reducible rfl))
    try simp only [Act.put, List.setIfInBounds_toArray, List.set_cons_zero, List.set_cons_succ]
    refine anyZ_take (z := 8) (ks := []) (i := 4) (oi := { dst := some 54, op := Op.nilCheck (Operand.tmp 53), type := 0, pos := "keep.go:104", after := #[{ on := 3, ground := Ground.data }], guard := none }) (v := ?v4b5) rfl (by kernel_rfl) (by kernel_rfl) (by kernel_rfl) (by kernel_rfl) (by kernel_rfl) (fun _ _ _ h => h) (Or.inl ⟨by rfl, ?hy4b5⟩) hH ?r4b5
    case hy4b5 => (intro W hSw; (try dsimp only at hSw); go_simp; try (with_reducible rfl))
    try simp only [Act.put, List.setIfInBounds_toArray, List.set_cons_zero, List.set_cons_succ]
    refine anyZ_take (z := 8) (ks := []) (i := 5) (oi := { dst := some 55, op := Op.load 3 (Operand.tmp 54), type := 3, pos := "keep.go:104", after := #[{ on := 4, ground := Ground.data }], guard := none }) (v := ?v5b6) rfl (by kernel_rfl) (by kernel_rfl) (by kernel_rfl) (by kernel_rfl) (by kernel_rfl) (fun _ _ _ h => h) (Or.inl ⟨by rfl, ?hy5b6⟩) hH ?r5b6
    case hy5b6 => (intro W hSw; (try dsimp only at hSw); go_simp; try (with_reducible rfl))
    try simp only [Act.put, List.setIfInBounds_toArray, List.set_cons_zero, List.set_cons_succ]
    refine anyZ_take (z := 8) (ks := []) (i := 6) (oi := { dst := some 56, op := Op.binOp BinOp.add 3 (Operand.tmp 55) (Operand.const (Value.int IntKind.i64 1)) 3, type := 3, pos := "keep.go:104", after := #[{ on := 5, ground := Ground.data }], guard := none }) (v := ?v6b7) rfl (by kernel_rfl) (by kernel_rfl) (by kernel_rfl) (by kernel_rfl) (by kernel_rfl) (fun _ _ _ h => h) (Or.inl ⟨by rfl, ?hy6b7⟩) hH ?r6b7
    case hy6b7 => (intro W hSw; (try dsimp only at hSw); go_simp; try (with_reducible rfl))
    try simp only [Act.put, List.setIfInBounds_toArray, List.set_cons_zero, List.set_cons_succ]
    refine anyZ_take (z := 8) (ks := []) (i := 7) (oi := { dst := some 57, op := Op.nilCheck (Operand.tmp 51), type := 0, pos := "keep.go:104", after := #[{ on := 1, ground := Ground.data }, { on := 0, ground := Ground.phase }, { on := 1, ground := Ground.phase }, { on := 2, ground := Ground.phase }, { on := 3, ground := Ground.phase }, { on := 4, ground := Ground.phase }, { on := 5, ground := Ground.phase }, { on := 6, ground := Ground.phase }], guard := none }) (v := ?v7b8) rfl (by kernel_rfl) (by kernel_rfl) (by kernel_rfl) (by kernel_rfl) (by kernel_rfl) (fun _ _ _ h => h) (Or.inl ⟨by rfl, ?hy7b8⟩) hH ?r7b8
    case hy7b8 => (intro W hSw; (try dsimp only at hSw); go_simp; try (with_reducible rfl))
    try simp only [Act.put, List.setIfInBounds_toArray, List.set_cons_zero, List.set_cons_succ]
    refine anyZ_ready (rs := [8]) (by kernel_rfl) (by simp) ?_
    refine AllZ.last (o := { dst := none, op := Op.store 3 (Operand.tmp 57) (Operand.tmp 56), type := 0, pos := "keep.go:104", after := #[{ on := 7, ground := Ground.data }, { on := 6, ground := Ground.data }, { on := 0, ground := Ground.phase }, { on := 1, ground := Ground.phase }, { on := 2, ground := Ground.phase }, { on := 3, ground := Ground.phase }, { on := 4, ground := Ground.phase }, { on := 5, ground := Ground.phase }, { on := 6, ground := Ground.phase }], guard := none }) rfl (Or.inl rfl) (fun K hKq => ?_) AllZ.nil
    have fq2 := bl_frozen (M5.out.kp KQ).gr 0
    have cq2 := bl_cell (M5.out.kp KQ).gr 0 _ rfl
    go_simp
    refine hKq.out _ _ ?_
    clear fq2 cq2
    clear hKq K
    try simp only [Act.put, List.setIfInBounds_toArray, List.set_cons_zero, List.set_cons_succ]
    refine anyZ_done (by kernel_rfl) ?_ _
    refine NoPanic.normal ?_
    go_wp2_with fail
    go_meet
    case rel => exact ⟨(M5.out.kp KQ).setG _, bl_set (bl_kp A5.out KQ) (by omega) _, bl_set (bl_kp R5.out KQ) (by omega) _, bl_set (bl_kp V5.out KQ) (by omega) _, (K5.out.kp KQ (by omega)).set 1 (by omega) 0 _, by simp⟩
   case rest =>
   obtain ⟨m6, a6, r6, v6, k6, hs6⟩ := hcut
   rename World => W6
   have M6 := hid m6
   have A6 := hid a6
   have R6 := hid r6
   have V6 := hid v6
   have K6 := hid k6
   have AX := hid (RSx.out W6 ⟨m6, HA.out.nk.km k6, HA.out.nn.km k6, by omega, by omega, by omega, by omega⟩)
   clear m6 a6 r6 v6 k6 M5 A5 R5 V5 K5 gg RSx
   have p0 := bl_cell (A6.out) 0 _ rfl
   have p1 := bl_cell (A6.out) 1 _ rfl
   have p2 := bl_cell (A6.out) 2 _ rfl
   have p3 := bl_cell (A6.out) 3 _ rfl
   have p4 := bl_cell (A6.out) 4 _ rfl
   have p5 := bl_cell (A6.out) 5 _ rfl
   have q1 := bl_cell M6.out.gr 0 _ rfl
   go_wp2_with fail
   refine AX.out.mono ?_
   rintro e W8 ⟨⟨T, v, g', rfl, hI, hG, hGn⟩⟩
   obtain ⟨kk, mn, mx, mm, tt, ad, ll, cc, rfl⟩ := hI.form
   have hs8 := hGn.km.size
   have I8 := hid (hI.weak (ok' := fun b => w.heap.size + 1 < b ∧ b ≠ W3.heap.size) (fun b hb _ => ⟨by omega, by omega⟩))
   have V8 : Hid ((W8.alloc (rxo kk mn mx mm tt (.slice ad ll cc))).heap[W3.heap.size]? = some (rxo 1 0 0 0 (W4.of q) (.slice none 0 0))) := bl_alloc (bl_km V6.out (by omega) hGn.km) _
   have R8 := hid (bl_km R6.out (by omega) hGn.km)
   have K8 := hid (K6.out.trans hGn.km)
   have HG := hid hG
   have GX := hid hGn.ex
   have KI := hid ((RK.single (base := 0) kk mn mx mm tt ad ll cc I8.out (by omega) ⟨by omega, by omega⟩).is 5 0 0 ((g + 1 : Nat) : Int) W4.z)
   clear hI hG hGn M6 A6 R6 V6 K6 q1 I8 p0 p1 p2 p3 p4 p5
   obtain ⟨v0, fv0, v1, fv1, v2, fv2, v3, fv3, v4, fv4, v5, fv5, v6, fv6, v7, fv7, v8, fv8⟩ := cells9 V8.out
   go_wp2_with fail
   go_meet
   case rel =>
    refine ⟨⟨.mk 5 0 0 ((g + 1 : Nat) : Int) W4.z [T], g', 5, 0, 0, ((g + 1 : Nat) : Int), W4.z, _, _, _, bl_set9 V8.out _ _ _ _ _ _ _ _ _, KI.out.ks (ks_set9 _ _ _ _ _ _ _ _ _) (fun b hb _ => hb.2), Trip.group_good ere T d g g' (by omega) (by omega) HG.out, rfl, ?_⟩, bl_set (bl_set (bl_set (bl_set (bl_set (bl_set (bl_set (bl_set (bl_set (bl_alloc R8.out _) (by omega) _) (by omega) _) (by omega) _) (by omega) _) (by omega) _) (by omega) _) (by omega) _) (by omega) _) (by omega) _⟩
    obtain ⟨x', z', h1, h2, h3, h4⟩ := GX.out
    exact Gone.ks ⟨⟨x', z', h1.kp ((Kp.refl _).alloc _), by omega, by omega, by omega⟩, K8.out.kp ((Kp.refl _).alloc _) (by omega)⟩ (ks_set9 _ _ _ _ _ _ _ _ _) (by omega) (by omega)
  | false =>
   have GN5 : Hid (Gone B 1 2 x g z w W5 g) := ⟨⟨x + 1, z - 2, M5.out, by omega, by omega, by omega⟩, K5.out⟩
   have MS : Hid (Mid ere B W3.heap.size d g x z w W5) := ⟨⟨Trip.setR q, g, 1, 0, 0, 0, W4.of q, none, 0, 0, V5.out, Is.leaf _ _ _ _ _ _ _, Trip.set_good ere q HQ.out d g hg3, rfl, GN5.out⟩⟩
   have p0 := bl_cell (A5.out) 0 _ rfl
   have p1 := bl_cell (A5.out) 1 _ rfl
   have p2 := bl_cell (A5.out) 2 _ rfl
   have p3 := bl_cell (A5.out) 3 _ rfl
   have p4 := bl_cell (A5.out) 4 _ rfl
   have p5 := bl_cell (A5.out) 5 _ rfl
   have q1 := bl_cell M5.out.gr 0 _ rfl
   by_cases hc5 : c = 5
   ·
    subst hc5
    by_cases hg0 : 0 < g
    ·
     have hg0i : (0 : Int) < (g : Int) := by omega
     have wl := wit_le n 1 (g : Int) (by omega)
     obtain ⟨b, hb⟩ : ∃ b : Nat, wit n 1 (g : Int) = (b : Int) := ⟨(wit n 1 (g : Int)).toNat, by omega⟩
     rw [hb] at wl
     have WN := hid (fun w => within_any n 1 (g : Int) w (by omega) (by omega) (by omega))
     rw [hb] at WN
     clear hb
     go_wp2_with fail
     refine (WN.out _).mono ?_
     rintro e W5 ⟨rfl, rfl⟩
     obtain ⟨v0, fv0, v1, fv1, v2, fv2, v3, fv3, v4, fv4, v5, fv5, v6, fv6, v7, fv7, v8, fv8⟩ := cells9 V5.out
     go_wp2_with fail
     go_meet
     case rel => exact ⟨⟨.mk 6 0 0 (b : Int) W4.z [], g, 6, 0, 0, (b : Int), W4.z, none, 0, 0, bl_set9 V5.out _ _ _ _ _ _ _ _ _, Is.leaf _ _ _ _ _ _ _, Trip.back_good ere b d g hg3 (by omega) (by omega), rfl, GN5.out.ks (ks_set9 _ _ _ _ _ _ _ _ _) (by omega) (by omega)⟩, bl_set (bl_set (bl_set (bl_set (bl_set (bl_set (bl_set (bl_set (bl_set R5.out (by omega) _) (by omega) _) (by omega) _) (by omega) _) (by omega) _) (by omega) _) (by omega) _) (by omega) _) (by omega) _⟩
    ·
     have hg0i : ¬ (0 : Int) < (g : Int) := by omega
     go_wp2_with fail
     go_meet
     case rel => exact ⟨MS.out, R5.out⟩
   ·
    have hc5i : ((c : Int) == 5) = false := by simp; omega
    have hc5j : ¬ (c : Int) = 5 := by omega
    go_wp2_with fail
    go_meet
    case rel => exact ⟨MS.out, R5.out⟩
 case rest =>
 obtain ⟨⟨T, g', kk, mn, mx, mm, tt, ad, ll, cc, v6, i6, p6, hm6, gn6⟩, r6⟩ := hcut
 rename World => W6
 have V6 := hid v6
 have I6 := hid i6
 have R6 := hid r6
 have hs6 := gn6.km.size
 have hR6 : w.heap.size + 1 < W6.heap.size := bl_lt r6
 have PG := hid p6
 have HM6 := hid hm6
 have GN := hid gn6
 clear v6 i6 r6 p6 hm6 gn6 M5 A5 R5 V5 K5
 obtain ⟨qa, hqa⟩ : ∃ q, (bits .and .i64 (c : Int) 1 == 0) = q := ⟨_, rfl⟩
 obtain ⟨p0, p1, p2, p3, p4, p5, p6, p7, p8⟩ := cells9c V6.out
 obtain ⟨r0, fr0, r1, fr1, r2, fr2, r3, fr3, r4, fr4, r5, fr5, r6, fr6, r7, fr7, r8, fr8⟩ := cells9 R6.out
 cases qa with
 | true =>
  go_wp2_with fail
  refine bodyPost_ret (v := rxv kk mn mx mm tt (.slice ad ll cc)) (rx_ret rfl _ _ _ _ rfl (bl_set9 R6.out _ _ _ _ _ _ _ _ _) rfl) rfl ⟨⟨T, _, g', rfl, ?_, PG.out.more (by omega), ?_⟩⟩
  ·
   exact (I6.out.ks (ks_set9 _ _ _ _ _ _ _ _ _) (fun b hb _ => by omega)).weak (fun b hb _ => by omega)
  ·
   exact GN.out.ks (ks_set9 _ _ _ _ _ _ _ _ _) (by omega) (by omega)
 | false =>
  clear p0 p1 p2 p3 p4 p5 p6 p7 p8 r0 r1 r2 r3 r4 r5 r6 r7 r8 fr0 fr1 fr2 fr3 fr4 fr5 fr6 fr7 fr8
  go_wp2_with fail
  refine (within_nat _ 2 (by omega) _).mono ?_
  rintro e W6 ⟨lo, hlo, rfl, rfl⟩
  obtain ⟨qb, hqb⟩ : ∃ q, (bits .and .i64 n 4 == 4) = q := ⟨_, rfl⟩
  cases qb with
  | true =>
   go_wp2_with fail
   refine (within_nat _ 2 (by omega) _).mono ?_
   rintro e W6 ⟨h2, hh2, rfl, rfl⟩
   obtain ⟨hi, hhi⟩ : ∃ hi : Nat, max lo 1 + h2 = hi := ⟨_, rfl⟩
   have eh : max (lo : Int) 1 + (h2 : Int) = (hi : Int) := by omega
   have ew : IntKind.i64.wrap (max (lo : Int) 1 + (h2 : Int)) = (hi : Int) := by rw [IntKind.wrap_i64]; omega
   have ew2 : IntKind.i64.wrap (hi : Int) = (hi : Int) := by rw [IntKind.wrap_i64]; omega
   go_upto_region 17 with fail
   refine opq (fun W7 => W7.heap[W3.heap.size]? = some (rxo kk mn mx mm tt (.slice ad ll cc)) ∧ Is W7 (fun b => w.heap.size + 1 < b ∧ b ≠ W3.heap.size) T (rxv kk mn mx mm tt (.slice ad ll cc)) ∧ W7.heap[(w.heap.size + 1)]? = some rzo ∧ Gone B 1 2 x g z w W7 g') ⟨by exact V6.out, by exact I6.out, by exact R6.out, by exact GN.out⟩ ?_
   rintro W7 ⟨xV7, xI7, xR7, xGN7⟩
   have V7 : Hid (W7.heap[W3.heap.size]? = some (rxo kk mn mx mm tt (.slice ad ll cc))) := xV7
   have I7 : Hid (Is W7 (fun b => w.heap.size + 1 < b ∧ b ≠ W3.heap.size) T (rxv kk mn mx mm tt (.slice ad ll cc))) := xI7
   have R7 : Hid (W7.heap[(w.heap.size + 1)]? = some rzo) := xR7
   have GN7 : Hid (Gone B 1 2 x g z w W7 g') := xGN7
   clear xV7 xI7 xR7 xGN7
   have hs7 : W3.heap.size < W7.heap.size := bl_lt V7.out
   have KI := hid ((RK.single (base := 0) kk mn mx mm tt ad ll cc I7.out (by omega) ⟨by omega, by omega⟩).is 4 (lo : Int) (hi : Int) 0 W4.z)
   have R8 : Hid ((W7.alloc (rxo kk mn mx mm tt (.slice ad ll cc))).heap[w.heap.size + 1]? = some rzo) := bl_alloc R7.out _
   have GN8 := hid (GN7.out.kp ((Kp.refl _).alloc (rxo kk mn mx mm tt (.slice ad ll cc))) (by omega))
   obtain ⟨p0, p1, p2, p3, p4, p5, p6, p7, p8⟩ := cells9c V7.out
   obtain ⟨r0, fr0, r1, fr1, r2, fr2, r3, fr3, r4, fr4, r5, fr5, r6, fr6, r7, fr7, r8, fr8⟩ := cells9 R8.out
   go_wp2_with fail
   refine bodyPost_ret (v := rxv 4 (lo : Int) (hi : Int) 0 W4.z (.slice (some ⟨W7.heap.size, 0, none⟩) 1 1)) (rx_ret rfl _ _ _ _ rfl (bl_set9 R8.out _ _ _ _ _ _ _ _ _) rfl) rfl ⟨⟨.mk 4 (lo : Int) (hi : Int) 0 W4.z [T], _, g', rfl, ?_, Trip.rep_good ere T (lo : Int) (hi : Int) d g g' PG.out HM6.out (by unfold timesFit; rw [if_neg (by omega)]; simp; omega), ?_⟩⟩
   ·
    exact (KI.out.ks (ks_set9 _ _ _ _ _ _ _ _ _) (fun b hb _ => by omega)).weak (fun b hb _ => by omega)
   ·
    exact GN8.out.ks (ks_set9 _ _ _ _ _ _ _ _ _) (by omega) (by omega)
  | false =>
   go_upto_region 17 with fail
   refine opq (fun W7 => W7.heap[W3.heap.size]? = some (rxo kk mn mx mm tt (.slice ad ll cc)) ∧ Is W7 (fun b => w.heap.size + 1 < b ∧ b ≠ W3.heap.size) T (rxv kk mn mx mm tt (.slice ad ll cc)) ∧ W7.heap[(w.heap.size + 1)]? = some rzo ∧ Gone B 1 2 x g z w W7 g') ⟨by exact V6.out, by exact I6.out, by exact R6.out, by exact GN.out⟩ ?_
   rintro W7 ⟨xV7, xI7, xR7, xGN7⟩
   have V7 : Hid (W7.heap[W3.heap.size]? = some (rxo kk mn mx mm tt (.slice ad ll cc))) := xV7
   have I7 : Hid (Is W7 (fun b => w.heap.size + 1 < b ∧ b ≠ W3.heap.size) T (rxv kk mn mx mm tt (.slice ad ll cc))) := xI7
   have R7 : Hid (W7.heap[(w.heap.size + 1)]? = some rzo) := xR7
   have GN7 : Hid (Gone B 1 2 x g z w W7 g') := xGN7
   clear xV7 xI7 xR7 xGN7
   have hs7 : W3.heap.size < W7.heap.size := bl_lt V7.out
   have KI := hid ((RK.single (base := 0) kk mn mx mm tt ad ll cc I7.out (by omega) ⟨by omega, by omega⟩).is 4 (lo : Int) (-1) 0 W4.z)
   have R8 : Hid ((W7.alloc (rxo kk mn mx mm tt (.slice ad ll cc))).heap[w.heap.size + 1]? = some rzo) := bl_alloc R7.out _
   have GN8 := hid (GN7.out.kp ((Kp.refl _).alloc (rxo kk mn mx mm tt (.slice ad ll cc))) (by omega))
   obtain ⟨p0, p1, p2, p3, p4, p5, p6, p7, p8⟩ := cells9c V7.out
   obtain ⟨r0, fr0, r1, fr1, r2, fr2, r3, fr3, r4, fr4, r5, fr5, r6, fr6, r7, fr7, r8, fr8⟩ := cells9 R8.out
   go_wp2_with fail
   refine bodyPost_ret (v := rxv 4 (lo : Int) (-1) 0 W4.z (.slice (some ⟨W7.heap.size, 0, none⟩) 1 1)) (rx_ret rfl _ _ _ _ rfl (bl_set9 R8.out _ _ _ _ _ _ _ _ _) rfl) rfl ⟨⟨.mk 4 (lo : Int) (-1) 0 W4.z [T], _, g', rfl, ?_, Trip.rep_good ere T (lo : Int) (-1) d g g' PG.out HM6.out (by unfold timesFit; rw [if_neg (by omega)]; simp), ?_⟩⟩
   ·
    exact (KI.out.ks (ks_set9 _ _ _ _ _ _ _ _ _) (fun b hb _ => by omega)).weak (fun b hb _ => by omega)
   ·
    exact GN8.out.ks (ks_set9 _ _ _ _ _ _ _ _ _) (by omega) (by omega)
end Go.Proofs.YtikmgckefbjbkaaGreatDoor

/-! ### Mak5 -/

namespace Go.Proofs.YtikmgckefbjbkaaGreatDoor
open Go.RowKit

theorem RKids.km {base B : Nat} {w w' : World} {v : Value} {ts : List Rx} (h : RKids base w v ts) (k : Km B w w') (hB : B + 2 < base) : RKids base w' v ts := h.turn k.size (fun b hb hl => k.block b hl (by omega) (by omega) (by omega))
theorem Km.grown {B : Nat} {a b c : World} {row : Option Nat} (h : Km B a b) (gr : b.grownBy c row) (hr : ∀ k, row = some k → a.heap.size ≤ k) (hB : B ≤ a.heap.size) : Km B a c :=
 ⟨⟨gr.os.trans h.lo.os, gr.tape.trans h.lo.tape, gr.output.trans h.lo.output, Nat.le_trans h.size gr.size, fun k hk => (gr.block k (Nat.lt_of_lt_of_le (Nat.lt_of_lt_of_le hk hB) h.size) (fun e => by have := hr k e.symm; omega)).trans (h.lo.block k hk)⟩,
  fun k hk n0 n1 n2 => (gr.block k (Nat.lt_of_lt_of_le hk h.size) (fun e => by have := hr k e.symm; omega)).trans (h.block k hk n0 n1 n2)⟩
theorem bl_gr {w w' : World} {S : Nat} {o : Obj} {row : Option Nat} (h : w.heap[S]? = some o) (gr : w.grownBy w' row) (hr : row ≠ some S) : w'.heap[S]? = some o := (gr.block S (bl_lt h) (fun e => hr e.symm)).trans h
theorem Gone.grown {B s t x g : Nat} {z : Int} {w w' w'' : World} {g' : Nat} {row : Option Nat} (h : Gone B s t x g z w w' g') (gr : w'.grownBy w'' row) (hr : ∀ k, row = some k → w.heap.size ≤ k) (hB : B + 2 < w.heap.size) : Gone B s t x g z w w'' g' := by
 obtain ⟨x', z', h1, h2, h3, h4⟩ := h.ex
 exact ⟨⟨x', z', ⟨bl_gr h1.at_ gr (fun e => by have := hr _ e; omega), bl_gr h1.gr gr (fun e => by have := hr _ e; omega), bl_gr h1.lf gr (fun e => by have := hr _ e; omega)⟩, h2, h3, h4⟩, h.km.grown gr hr (by omega)⟩
theorem LG_one {ere : Bool} {d : Nat} {r : Rx} {g g' : Nat} (h : Trip.LG ere d [r] g g') : Trip.PGood ere 2 r d g g' := by
 cases h with
 | cons h r =>
  cases r
  exact h
structure PartsD (ere : Bool) (B d m x g : Nat) (z : Int) (w : World) (e : Ending) (w' : World) : Prop where
 ex : ∃ T v g', e = .returned v ∧ Is w' (fun b => w.heap.size + 2 ≤ b) T v ∧ (m = 1 → Trip.PGood ere 2 T d g g') ∧ (2 ≤ m → ∃ ks kv, v = rxv 2 0 0 0 W4.z kv ∧ T = .mk 2 0 0 0 W4.z ks ∧ RKids (w.heap.size + 2) w' kv ks ∧ ks.length = m ∧ Trip.LG ere d ks g g') ∧ Gone B m (2 * m) x g z w w' g'
/-- What is asked of a part. -/
structure PartSaid (ere : Bool) (d : Nat) : Prop where
 all : ∀ (aK : Option Addr) (lK cK : Nat) (aN : Option Addr) (lN cN : Nat) (B x g : Nat) (z : Int) (w : World), Asks w aK lK aN lN B 1 2 x g z → Calls Tryz.prog 62 #[mkv aK lK cK aN lN cN ere B, .int .i64 (d : Int)] w fun e w' => PartD ere B d x g z w e w'
set_option maxHeartbeats 2000000 in
set_option maxRecDepth 100000 in
theorem parts_any (aK : Option Addr) (lK cK : Nat) (aN : Option Addr) (lN cN : Nat) (ere : Bool) (B : Nat) (d m x g : Nat) (z : Int) (w : World) (hm1 : 1 ≤ m) (hm3 : m ≤ 3) (HP : PartSaid ere d) (hA : Asks w aK lK aN lN B m (2 * m) x g z) :
  Calls Tryz.prog 43 #[(mkv aK lK cK aN lN cN ere B), .int .i64 (d : Int), .int .i64 (m : Int)] w fun e w' => PartsD ere B d m x g z w e w' := by
 have HA := hid hA
 have hBw := hA.mm.lt
 have hg3 := hA.g3
 have hbx := hA.bx
 have hbz := hA.bz
 have hz14 := hA.z14
 have HPS := hid HP
 clear hA HP
 go_enter Tryz.func43, Tryz.ntmps43
 go_upto_region 1 with fail
 refine opq (fun W0 => W0.heap[w.heap.size]? = some (mko aK lK cK aN lN cN ere B) ∧ W0.heap[(w.heap.size + 1)]? = some rzo ∧ Kp w W0) ⟨by exact bl_alloc (last_of _ _) _, by exact last_at _ _ _ (by simp), by exact (by repeat (first | exact Kp.refl _ | refine Kp.alloc ?_ _ | refine Kp.drew ?_ | refine Kp.drewN _ ?_))⟩ ?_
 rintro W0 ⟨xA0, xR0, xK0⟩
 have A0 : Hid (W0.heap[w.heap.size]? = some (mko aK lK cK aN lN cN ere B)) := xA0
 have R0 : Hid (W0.heap[(w.heap.size + 1)]? = some rzo) := xR0
 have K0 : Hid (Kp w W0) := xK0
 clear xA0 xR0 xK0
 have hs0 : w.heap.size + 1 < W0.heap.size := bl_lt R0.out
 go_wp2_with fail
 go_loopg [7, 9] (m + 1) (fun gk v7 v9 wr => ∃ (i g1 : Nat) (ks : List Rx), v9 = .int .i64 (i : Int) ∧ i ≤ m ∧ m < gk + i ∧ ks.length = i ∧ Trip.LG ere d ks g g1 ∧ RKids (w.heap.size + 2) wr v7 ks ∧ Gone B i (2 * i) x g z w wr g1 ∧ wr.heap[w.heap.size]? = some (mko aK lK cK aN lN cN ere B) ∧ wr.heap[w.heap.size + 1]? = some rzo)
 case atStart => exact ⟨0, g, [], rfl, by omega, by omega, rfl, .nil _, RKids.nil _ _, ⟨⟨x, z, HA.out.mm.kp K0.out, by omega, by omega, by omega⟩, K0.out.km (by omega)⟩, A0.out, R0.out⟩
 case round =>
  obtain ⟨i, g1, ks, rfl, hi, hgk, hlen, hLG, hRK, hGo, hA1, hR1⟩ := hrel
  have LG := hid hLG
  have RKx := hid hRK
  have GO := hid hGo
  have A1 := hid hA1
  have R1 := hid hR1
  have hs1 : w.heap.size + 1 < wr.heap.size := bl_lt hR1
  have hgl := hLG.facts.1
  have hgl3 := hLG.facts.2.1 hg3
  clear hLG hRK hGo hA1 hR1
  by_cases hlt : i < m
  ·
   have hli : (i : Int) < (m : Int) := by omega
   have gi : IntKind.i64.wrap ((i : Int) + 1) = (i : Int) + 1 := by rw [IntKind.wrap_i64]; omega
   obtain ⟨x1, z1, m1, b1, b2, b3⟩ := GO.out.ex
   have PX := hid (HPS.out.all aK lK cK aN lN cN B x1 g1 z1 wr ⟨m1, HA.out.nk.km GO.out.km, HA.out.nn.km GO.out.km, hgl3, by omega, by omega, by omega⟩)
   clear m1
   have p0 := bl_cell (A1.out) 0 _ rfl
   have p1 := bl_cell (A1.out) 1 _ rfl
   have p2 := bl_cell (A1.out) 2 _ rfl
   have p3 := bl_cell (A1.out) 3 _ rfl
   have p4 := bl_cell (A1.out) 4 _ rfl
   have p5 := bl_cell (A1.out) 5 _ rfl
   go_wp2_with fail
   refine PX.out.mono ?_
   rintro e W2 ⟨⟨T, v, g2, rfl, hI, hPG, hGn⟩⟩
   obtain ⟨kk, mn, mx, mm, tt, ad, ll, cc, rfl⟩ := hI.form
   have hs2 := hGn.km.size
   have RK2 := hid (RKx.out.km hGn.km (by omega))
   have HI2 : Hid (Is W2 (fun b => w.heap.size + 2 ≤ b ∧ u7.ownBlock ≠ some b) T (rxv kk mn mx mm tt (.slice ad ll cc))) := hI.weak (fun b hb _ => ⟨by omega, fun e => by have := (RKx.out.block b e).2; omega⟩)
   have hub : ∀ k, u7.ownBlock = some k → w.heap.size + 2 ≤ k := fun k e => (RKx.out.block k e).1
   have HUB := hid hub
   have A2 := hid (bl_km A1.out (by omega) hGn.km)
   have R2 := hid (bl_km R1.out (by omega) hGn.km)
   obtain ⟨x2, z2, m2, c1, c2, c3⟩ := hGn.ex
   have hPl := hPG.le
   have GO2 : Hid (Gone B (i + 1) (2 * (i + 1)) x g z w W2 g2) := ⟨⟨x2, z2, m2, by omega, by omega, by omega⟩, GO.out.km.trans hGn.km⟩
   have LG2 := hid (LG.out.snoc hPG)
   clear hI hPG hGn hub m2 A1 R1 GO RKx LG p0 p1 p2 p3 p4 p5
   go_wp2_with (at_builtin; go_must (refine wpList_append_rx W2 (by rfl) _ _ (by rfl) (w.heap.size + 2) u7 ks T (by rfl) RK2 kk mn mx mm tt ad ll cc HI2 _ (by rfl) (by rfl) ?h1 ?h2 ?_))
   case h1 => omega
   case h2 => omega
   intro v' w' hk' hg'
   have HK' := hid hk'
   have GO3 := hid (GO2.out.grown hg' (fun k e => by have := HUB.out k e; omega) (by omega))
   have A3 := hid (bl_gr A2.out hg' (fun e => by have := HUB.out _ e; omega))
   have R3 := hid (bl_gr R2.out hg' (fun e => by have := HUB.out _ e; omega))
   clear hk' hg' A2 R2 GO2 RK2 HI2
   go_wp2_with fail
   go_roundg (gk - 1)
   case measure => omega
   case rel => exact ⟨i + 1, g2, ks ++ [T], by go_num, by omega, by omega, by simp [hlen], LG2.out, HK'.out, GO3.out, A3.out, R3.out⟩
  ·
   have hli : ¬ (i : Int) < (m : Int) := by omega
   have him : i = m := by omega
   subst him
   by_cases h1 : i = 1
   ·
    subst h1
    obtain ⟨r, rfl⟩ : ∃ r, ks = [r] := List.length_eq_one_iff.1 hlen
    obtain ⟨gb, cap, hv4, hcap, hb1, hb2, hcells⟩ := RKx.out.get (by simp)
    obtain ⟨u, hIs, hCe⟩ := hcells 0 r rfl
    obtain ⟨kk, mn, mx, mm, tt, ad, ll, cc, rfl⟩ := hIs.form
    have IS := hid hIs
    have a0 := hCe 0 _ rfl
    have a1 := hCe 1 _ rfl
    have a2 := hCe 2 _ rfl
    have a3 := hCe 3 _ rfl
    have a4 := hCe 4 _ rfl
    have a5 := hCe 5 _ rfl
    have a6 := hCe 6 _ rfl
    have a7 := hCe 7 _ rfl
    have a8 := hCe 8 _ rfl
    simp only [Nat.mul_zero, Nat.zero_add] at a0 a1 a2 a3 a4 a5 a6 a7 a8
    have hv4' : u7 = .slice (some ⟨gb, 0, none⟩) 1 cap := hv4
    clear hv4 hCe hcells hIs
    subst hv4'
    obtain ⟨r0, fr0, r1, fr1, r2, fr2, r3, fr3, r4, fr4, r5, fr5, r6, fr6, r7, fr7, r8, fr8⟩ := cells9 R1.out
    go_wp2_with fail
    refine bodyPost_ret (v := rxv kk mn mx mm tt (.slice ad ll cc)) (rx_ret rfl _ _ _ _ rfl (bl_set9 R1.out _ _ _ _ _ _ _ _ _) rfl) rfl ⟨⟨r, _, g1, rfl, ?_, fun _ => LG_one LG.out, fun h => by omega, ?_⟩⟩
    ·
     exact (IS.out.ks (ks_set9 _ _ _ _ _ _ _ _ _) (fun b hb _ => by have := hb.1; omega)).weak (fun b hb _ => hb.1)
    ·
     exact GO.out.ks (S := w.heap.size + 1) (ks_set9 _ _ _ _ _ _ _ _ _) (by omega) (by omega)
   ·
    subst hlen
    obtain ⟨ad, cap, hv4, hcap⟩ := RKx.out.form
    have g1 : ((ks.length : Int) == 1) = false := by simp; omega
    have g1' : ¬ (ks.length : Int) = 1 := by omega
    have g1'' : ¬ ks.length = 1 := by omega
    subst hv4
    obtain ⟨r0, fr0, r1, fr1, r2, fr2, r3, fr3, r4, fr4, r5, fr5, r6, fr6, r7, fr7, r8, fr8⟩ := cells9 R1.out
    go_wp2_with fail
    refine bodyPost_ret (v := rxv 2 0 0 0 W4.z (.slice ad ks.length cap)) (rx_ret rfl _ _ _ _ rfl (bl_set9 R1.out _ _ _ _ _ _ _ _ _) rfl) rfl ⟨⟨.mk 2 0 0 0 W4.z ks, _, _, rfl, ?_, fun h => absurd h h1, fun _ => ⟨ks, _, rfl, rfl, ?_, rfl, LG.out⟩, ?_⟩⟩
    ·
     exact ((RKx.out.is 2 0 0 0 W4.z).ks (ks_set9 _ _ _ _ _ _ _ _ _) (fun b hb _ => by omega)).weak (fun b hb _ => by omega)
    ·
     exact RKx.out.ks (ks_set9 _ _ _ _ _ _ _ _ _) (by omega)
    ·
     exact GO.out.ks (S := w.heap.size + 1) (ks_set9 _ _ _ _ _ _ _ _ _) (by omega) (by omega)
end Go.Proofs.YtikmgckefbjbkaaGreatDoor

/-! ### Rows9 -/

namespace Go.Proofs.YtikmgckefbjbkaaGreatDoor
open Go.RowKit

theorem rowOf_one9 : ∀ (vs : List Value), (∀ v ∈ vs, ∃ k mn mx m t ad l c, v = rxv k mn mx m t (.slice ad l c)) → (∀ u ∈ rowOf vs, u.oneCell' = true) ∧ (rowOf vs).length = vs.length * 9
 | [], _ => ⟨by intro u hu; simp [rowOf] at hu, rfl⟩
 | v :: vs, h => by
  obtain ⟨k, mn, mx, m, t, ad, l, c, rfl⟩ := h v (by simp)
  obtain ⟨i1, i2⟩ := rowOf_one9 vs (fun x hx => h x (by simp [hx]))
  have e : rowOf (rxv k mn mx m t (.slice ad l c) :: vs) = cellsOf (rxv k mn mx m t (.slice ad l c)) ++ rowOf vs := by simp [rowOf]
  rw [e]
  refine ⟨fun u hu => ?_, ?_⟩
  ·
   rcases List.mem_append.1 hu with hu | hu
   ·
    exact rx_one _ _ _ _ _ _ _ _ u hu
   ·
    exact i1 u hu
  ·
   rw [List.length_append, i2, List.length_cons]
   show 9 + vs.length * 9 = _
   omega
/-- Trees that lie in a row of their own, put behind those that the call owns. -/
theorem wpList_append_rows {ops : Array Oper} {rest : List Oper} {o : Oper} {a : Act} {Q : Exit → Act → World → Prop} (W : World) (hgd : o.guard = none) (s x : Operand)
  (ho : o.op = .call { callee := .builtin .append, args := #[s, x], argTypes := #[25, 25] })
  (base : Nat) (v u : Value) (ts us : List Rx) (hs : a.eval s = v) (hK : Hid (RKids base W v ts)) (hne : 0 < us.length)
  (hU : Hid (∃ ys : List Value, ys.length = us.length ∧ W.ownsRow base 27 9 u us.length (rowOf ys) ∧ ∀ (j : Nat) t y, us[j]? = some t → ys[j]? = some y → Is W (fun b => base ≤ b ∧ v.ownBlock ≠ some b) t y))
  (hx : a.eval x = u) (h63 : ts.length + us.length ≤ 1000000) (hbase : base ≤ W.heap.size)
  (h : ∀ v' w', RKids base w' v' (ts ++ us) → W.grownBy w' v.ownBlock → wpList Tryz.prog ops Q rest (a.put o.dst v') w') :
  wpList Tryz.prog ops Q (o :: rest) a W := by
 obtain ⟨i, hi, hz, hsz, hby⟩ := info27
 obtain ⟨vs, hv1, hv2, hv3⟩ := hK.out.ex
 obtain ⟨ys, hy1, hy2, hy3⟩ := hU.out
 obtain ⟨g, cap, hu, hcap, hbg, hgl, hcell⟩ := owns_cells hy2 hne
 have hform : ∀ y ∈ ys, ∃ k mn mx m t ad l c, y = rxv k mn mx m t (.slice ad l c) := by
  intro y hy
  obtain ⟨q, hq⟩ := List.mem_iff_getElem?.1 hy
  have hq' : q < us.length := by rw [← hy1]; exact (List.getElem?_eq_some_iff.1 hq).1
  exact (hy3 q _ y (List.getElem?_eq_getElem hq') hq).form
 obtain ⟨o1, o2⟩ := rowOf_one9 ys hform
 refine wpList_append_own_at W hgd s x 25 ho base 27 i rz 9 88 Tryz.underlying25 hi hz hsz hby rfl (by omega) v ts.length (rowOf vs) hs hv2 ⟨g, 0, none⟩ us.length cap (rowOf ys) (hx.trans hu) (by rw [o2, hy1]) ?_ o1 (by unfold maxLen; omega) (by omega) hbase ?_
 ·
  intro j y hj
  rw [show (⟨g, 0, none⟩ : Addr).add j = ⟨g, j, none⟩ by simp [Addr.add]; exact Eq.symm]
  exact hcell j y hj
 ·
  intro v' w' a1 a2 _ a4
  refine h v' w' ⟨vs ++ ys, by simp [hv1, hy1], ?_, ?_⟩ a2
  ·
   rw [List.length_append, rowOf_append]; exact a1
  ·
   have hok : ∀ b, (base ≤ b ∧ v.ownBlock ≠ some b) → b < W.heap.size → (base ≤ b ∧ v'.ownBlock ≠ some b) ∧ w'.heap[b]? = W.heap[b]? := by
    intro b hb hl
    refine ⟨⟨hb.1, ?_⟩, a2.block b hl (Ne.symm hb.2)⟩
    rcases a4 with a4 | a4
    ·
     rw [a4]; exact hb.2
    ·
     rw [a4]; intro he; injection he with he; omega
   intro j t' y hj hy
   by_cases hlt : j < ts.length
   ·
    rw [List.getElem?_append_left hlt] at hj
    rw [List.getElem?_append_left (by omega)] at hy
    exact Is.turn a2.size hok t' y (hv3 j t' y hj hy)
   ·
    rw [List.getElem?_append_right (by omega)] at hj
    rw [List.getElem?_append_right (by omega), hv1] at hy
    exact Is.turn a2.size hok t' y (hy3 _ t' y hj hy)
/-- Trees that lie in a row of their own, put behind those that the call owns. -/
theorem wpList_append_rkr {ops : Array Oper} {rest : List Oper} {o : Oper} {a : Act} {Q : Exit → Act → World → Prop} (W : World) (hgd : o.guard = none) (s x : Operand)
  (ho : o.op = .call { callee := .builtin .append, args := #[s, x], argTypes := #[25, 25] })
  (ok : Nat → Prop) (base : Nat) (v u : Value) (ts us : List Rx) (hs : a.eval s = v) (hnew : ∀ b, W.heap.size ≤ b → ok b) (hK : Hid (RK ok base W v ts)) (hne : 0 < us.length)
  (hU : Hid (∃ ys : List Value, ys.length = us.length ∧ W.ownsRow base 27 9 u us.length (rowOf ys) ∧ ∀ (j : Nat) t y, us[j]? = some t → ys[j]? = some y → Is W (fun b => ok b ∧ v.ownBlock ≠ some b) t y))
  (hx : a.eval x = u) (h63 : ts.length + us.length ≤ 1000000) (hbase : base ≤ W.heap.size)
  (h : ∀ v' w', RK ok base w' v' (ts ++ us) → W.grownBy w' v.ownBlock → wpList Tryz.prog ops Q rest (a.put o.dst v') w') :
  wpList Tryz.prog ops Q (o :: rest) a W := by
 obtain ⟨i, hi, hz, hsz, hby⟩ := info27
 obtain ⟨vs, hv1, hv2, hv0, hv3⟩ := hK.out.ex
 obtain ⟨ys, hy1, hy2, hy3⟩ := hU.out
 obtain ⟨g, cap, hu, hcap, hbg, hgl, hcell⟩ := owns_cells hy2 hne
 have hform : ∀ y ∈ ys, ∃ k mn mx m t ad l c, y = rxv k mn mx m t (.slice ad l c) := by
  intro y hy
  obtain ⟨q, hq⟩ := List.mem_iff_getElem?.1 hy
  have hq' : q < us.length := by rw [← hy1]; exact (List.getElem?_eq_some_iff.1 hq).1
  exact (hy3 q _ y (List.getElem?_eq_getElem hq') hq).form
 obtain ⟨o1, o2⟩ := rowOf_one9 ys hform
 refine wpList_append_own_at W hgd s x 25 ho base 27 i rz 9 88 Tryz.underlying25 hi hz hsz hby rfl (by omega) v ts.length (rowOf vs) hs hv2 ⟨g, 0, none⟩ us.length cap (rowOf ys) (hx.trans hu) (by rw [o2, hy1]) ?_ o1 (by unfold maxLen; omega) (by omega) hbase ?_
 ·
  intro j y hj
  rw [show (⟨g, 0, none⟩ : Addr).add j = ⟨g, j, none⟩ by simp [Addr.add]; exact Eq.symm]
  exact hcell j y hj
 ·
  intro v' w' a1 a2 _ a4
  refine h v' w' ⟨vs ++ ys, by simp [hv1, hy1], ?_, ?_, ?_⟩ a2
  ·
   rw [List.length_append, rowOf_append]; exact a1
  ·
   intro b hb
   rcases a4 with a4 | a4
   ·
    rw [a4] at hb; exact hv0 b hb
   ·
    rw [a4] at hb; injection hb with hb; exact hnew b (by omega)
  ·
   have hok : ∀ b, (ok b ∧ v.ownBlock ≠ some b) → b < W.heap.size → (ok b ∧ v'.ownBlock ≠ some b) ∧ w'.heap[b]? = W.heap[b]? := by
    intro b hb hl
    refine ⟨⟨hb.1, ?_⟩, a2.block b hl (Ne.symm hb.2)⟩
    rcases a4 with a4 | a4
    ·
     rw [a4]; exact hb.2
    ·
     rw [a4]; intro he; injection he with he; omega
   intro j t' y hj hy
   by_cases hlt : j < ts.length
   ·
    rw [List.getElem?_append_left hlt] at hj
    rw [List.getElem?_append_left (by omega)] at hy
    exact Is.turn a2.size hok t' y (hv3 j t' y hj hy)
   ·
    rw [List.getElem?_append_right (by omega)] at hj
    rw [List.getElem?_append_right (by omega), hv1] at hy
    exact Is.turn a2.size hok t' y (hy3 _ t' y hj hy)
end Go.Proofs.YtikmgckefbjbkaaGreatDoor

/-! ### MakR -/

namespace Go.Proofs.YtikmgckefbjbkaaGreatDoor
open Go.RowKit

/-- What stands in the row's variable: so many parts. -/
structure RMid (ere : Bool) (B d g x : Nat) (z : Int) (w : World) (v : Value) (w' : World) : Prop where
 ex : ∃ V T g' m k mn mx mm t ad l c, v = .pointer (some ⟨V, 0, none⟩) ∧ w.heap.size + 1 < V ∧ 1 ≤ m ∧ m ≤ 3 ∧ w'.heap[V]? = some (rxo k mn mx mm t (.slice ad l c)) ∧ Is w' (fun b => w.heap.size + 1 < b ∧ b ≠ V) T (rxv k mn mx mm t (.slice ad l c)) ∧
  (m = 1 → Trip.PGood ere 2 T d g g') ∧ (2 ≤ m → ∃ ks, k = 2 ∧ mn = 0 ∧ mx = 0 ∧ mm = 0 ∧ t = W4.z ∧ T = .mk 2 0 0 0 W4.z ks ∧ RK (fun b => w.heap.size + 1 < b ∧ b ≠ V) (w.heap.size + 2) w' (.slice ad l c) ks ∧ ks.length = m ∧ Trip.LG ere d ks g g') ∧
  w'.heap[w.heap.size + 1]? = some rzo ∧ Gone B 4 7 x g z w w' g'

/-- The row's variable behind the parts. -/
theorem rmid_of {ere : Bool} {B d g x m V : Nat} {z : Int} {w W2 cur Yp Yq Wf : World} {T : Rx} {g' : Nat} {k mn mx mm : Int} {t : W4} {ad : Option Addr} {l c : Nat} (hBw : B + 2 < w.heap.size) (_hg3 : g ≤ 3) (h1 : 1 ≤ m) (h3 : m ≤ 3)
  (hs : w.heap.size + 1 < W2.heap.size) (K2 : Km B w W2) (kc : Kp W2 cur) (hV : w.heap.size + 1 < V) (hVY : V < cur.heap.size + 2 ∨ Yp.heap.size ≤ V) (R2 : W2.heap[w.heap.size + 1]? = some rzo)
  (hI : Is Yp (fun b => cur.heap.size + 2 ≤ b) T (rxv k mn mx mm t (.slice ad l c))) (hP : m = 1 → Trip.PGood ere 2 T d g g')
  (hL : 2 ≤ m → ∃ ks kv, rxv k mn mx mm t (.slice ad l c) = rxv 2 0 0 0 W4.z kv ∧ T = .mk 2 0 0 0 W4.z ks ∧ RKids (cur.heap.size + 2) Yp kv ks ∧ ks.length = m ∧ Trip.LG ere d ks g g')
  (hG : Gone B m (2 * m) (x + 1) g (z - 1) cur Yp g') (_hgg : g ≤ g') (kq : Kp Yp Yq) (kf : Ks V Yq Wf) (hf : Wf.heap[V]? = some (rxo k mn mx mm t (.slice ad l c))) : RMid ere B d g x z w (.pointer (some ⟨V, 0, none⟩)) Wf := by
 have hsc := kc.size
 have hsy := hG.km.size
 have hsq := kq.size
 refine ⟨V, T, g', m, k, mn, mx, mm, t, ad, l, c, rfl, hV, h1, h3, hf, ?_, hP, ?_, ?_, ?_⟩
 ·
  refine Is.turn (Nat.le_trans hsq kf.size) (fun b hb hl => ⟨⟨by omega, by omega⟩, (kf.block b (by omega) (by omega)).trans (kq.block b hl)⟩) _ _ hI
 ·
  intro h2
  obtain ⟨ks, kv, he, hT, hR, hl, hLG⟩ := hL h2
  injection he with he
  injection he with he
  simp at he
  obtain ⟨rfl, rfl, rfl, rfl, e1, e2, e3, e4, rfl⟩ := he
  refine ⟨ks, rfl, rfl, rfl, rfl, ?_, hT, ?_, hl, hLG⟩
  ·
   obtain ⟨t1, t2, t3, t4⟩ := t
   unfold W4.z at e1 e2 e3 e4 ⊢
   simp at e1 e2 e3 e4
   rw [e1, e2, e3, e4]
  ·
   obtain ⟨vs, i1, i2, i3⟩ := hR.ex
   have hlt : ∀ b, (Value.slice ad l c).ownBlock = some b → cur.heap.size + 2 ≤ b ∧ b < Yp.heap.size := hR.block
   refine ⟨vs, i1, ?_, fun b hb => ?_, fun j t' u hj hu => ?_⟩
   ·
    obtain ⟨j1, j2⟩ := i2
    refine ⟨j1, ?_⟩
    rcases j2 with j2 | ⟨g0, cap, cu, hv, hb, hg, hr⟩
    ·
     exact .inl j2
    ·
     have hgl := (Array.getElem?_eq_some_iff.1 hg).1
     exact .inr ⟨g0, cap, cu, hv, by omega, ((kf.block g0 (by omega) (by omega)).trans (kq.block g0 hgl)).trans hg, hr⟩
   ·
    have := hlt b hb
    exact ⟨by omega, by omega⟩
   ·
    refine Is.turn (Nat.le_trans hsq kf.size) (fun b hb hl => ⟨⟨⟨by omega, by omega⟩, hb.2⟩, (kf.block b (by omega) (by omega)).trans (kq.block b hl)⟩) _ _ (i3 j t' u hj hu)
 ·
  exact bl_ks (bl_kp (bl_km (bl_kp R2 kc) (by omega) hG.km) kq) (by omega) kf
 ·
  obtain ⟨x', z', hm, q1, q2, q3⟩ := hG.ex
  exact ⟨⟨x', z', (hm.kp kq).ks kf (by omega), by omega, by omega, by omega⟩, (((K2.kp kc (by omega)).trans hG.km).kp kq (by omega)).new kf (by omega) (by omega)⟩
end Go.Proofs.YtikmgckefbjbkaaGreatDoor

/-! ### MakD -/

namespace Go.Proofs.YtikmgckefbjbkaaGreatDoor
open Go.RowKit

theorem row_deep (ere : Bool) (H : ∀ d, PartSaid ere d → RowSaid ere d) : RowSaid ere 0 := by
 have p3 : PartSaid ere 3 := ⟨fun aK lK cK aN lN cN B x g z w hA => kpart_any aK lK cK aN lN cN ere B 3 x g z w (by omega) (fun h => absurd h (by omega)) hA⟩
 have p2 : PartSaid ere 2 := ⟨fun aK lK cK aN lN cN B x g z w hA => kpart_any aK lK cK aN lN cN ere B 2 x g z w (by omega) (fun _ => H 3 p3) hA⟩
 have p1 : PartSaid ere 1 := ⟨fun aK lK cK aN lN cN B x g z w hA => kpart_any aK lK cK aN lN cN ere B 1 x g z w (by omega) (fun _ => H 2 p2) hA⟩
 have p0 : PartSaid ere 0 := ⟨fun aK lK cK aN lN cN B x g z w hA => kpart_any aK lK cK aN lN cN ere B 0 x g z w (by omega) (fun _ => H 1 p1) hA⟩
 exact H 0 p0
theorem Nums.up {w : World} {B B' : Nat} {a : Option Addr} {l : Nat} (h : Nums w B a l) (hB : B ≤ B') : Nums w B' a l := ⟨fun hl => by
 obtain ⟨b, o, h1, h2, h3⟩ := h.ex hl
 exact ⟨b, o, h1, by omega, h3⟩⟩
/-- What the maker makes. -/
structure Made (ere : Bool) (w : World) (e : Ending) (w' : World) : Prop where
 ex : ∃ T v, e = .returned v ∧ Is w' (fun b => w.heap.size ≤ b) T v ∧ right ere T = true ∧ RxOk T ∧ Kp w w'
set_option maxHeartbeats 2000000 in
set_option maxRecDepth 100000 in
theorem made_any (ere : Bool) (HR : RowSaid ere 0) (aK : Option Addr) (lK cK : Nat) (aN : Option Addr) (lN cN : Nat) (w : World) (hK : Nums w w.heap.size aK lK) (hN : Nums w w.heap.size aN lN) :
  Calls Tryz.prog 13 #[.agg #[.slice aK lK cK, .slice aN lN cN], .bool ere] w fun e w' => Made ere w e w' := by
 have HRS := hid HR
 have HK := hid hK
 have HN := hid hN
 clear HR hK hN
 go_enter Tryz.func13, Tryz.ntmps13
 go_upto_region 2 with fail
 refine opq (fun W0 => W0.heap[w.heap.size]? = some (.cells #[.slice aK lK cK, .slice aN lN cN] 36) ∧ W0.heap[w.heap.size + 1]? = some rzo ∧ Mk W0 (w.heap.size + 1 + 1) ((0 : Nat) : Int) ((0 : Nat) : Int) 14 ∧ Kp w W0) ⟨bl_alloc (bl_alloc (bl_alloc (bl_alloc (last_of _ _) _) _) _) _, bl_alloc (bl_alloc (bl_alloc (last_at _ _ _ (by simp)) _) _) _, ⟨bl_alloc (bl_alloc (last_at _ _ _ (by simp)) _) _, bl_alloc (last_at _ _ _ (by simp)) _, last_at _ _ _ (by simp)⟩, by repeat (first | exact Kp.refl _ | refine Kp.alloc ?_ _)⟩ ?_
 rintro W0 ⟨xA, xR, xM, xK⟩
 have A0 := hid xA
 have R0 := hid xR
 have M0 := hid xM
 have K0 := hid xK
 have hs0 : w.heap.size + 1 < W0.heap.size := bl_lt xR
 clear xA xR xM xK
 have p0 := bl_cell A0.out 0 _ rfl
 have p1 := bl_cell A0.out 1 _ rfl
 go_upto_region 3 with fail
 refine opq (fun W1 => W1.heap[W0.heap.size]? = some (mko aK lK cK aN lN cN ere (w.heap.size + 1 + 1)) ∧ Kp W0 W1) ⟨last_of _ _, (Kp.refl _).alloc _⟩ ?_
 rintro W1 ⟨xA, xK⟩
 have A1 := hid xA
 have R1 := hid (bl_kp R0.out xK)
 have M1 := hid (M0.out.kp xK)
 have K1 := hid (K0.out.trans xK)
 have NK := hid ((HK.out.km (K1.out.km (Nat.le_refl _))).up (B' := w.heap.size + 1 + 1) (by omega))
 have NN := hid ((HN.out.km (K1.out.km (Nat.le_refl _))).up (B' := w.heap.size + 1 + 1) (by omega))
 have hs1 := xK.size
 clear xA xK p0 p1 A0 R0 M0 K0
 have p0 := bl_cell A1.out 0 _ rfl
 have p1 := bl_cell A1.out 1 _ rfl
 have p2 := bl_cell A1.out 2 _ rfl
 have p3 := bl_cell A1.out 3 _ rfl
 have p4 := bl_cell A1.out 4 _ rfl
 have p5 := bl_cell A1.out 5 _ rfl
 go_wp2_with fail
 refine (HRS.out.all aK lK cK aN lN cN (w.heap.size + 1 + 1) 0 0 14 W1 ⟨M1.out, NK.out, NN.out, by omega, by omega, by omega, by omega⟩).mono ?_
 rintro e W2 ⟨⟨T, v, g', rfl, hI, hG, hGo⟩⟩
 obtain ⟨kk, mn, mx, mm, tt, ad, ll, cc, rfl⟩ := hI.form
 have hm1 := M1.out.lt
 have hs2 := hGo.km.size
 have hR2 : W2.heap[w.heap.size + 1]? = some rzo := (hGo.km.block _ (by omega) (by omega) (by omega) (by omega)).trans R1.out
 have R2 := hid hR2
 have I2 := hid hI
 have G2 := hid hG
 have K2 := hid (hGo.km.up K1.out (by omega))
 clear hI hG hGo hR2 p0 p1 p2 p3 p4 p5
 have r0 := bl_cell R2.out 0 _ rfl
 have fr0 := bl_frozen R2.out 0
 have r1 := bl_cell R2.out 1 _ rfl
 have fr1 := bl_frozen R2.out 1
 have r2 := bl_cell R2.out 2 _ rfl
 have fr2 := bl_frozen R2.out 2
 have r3 := bl_cell R2.out 3 _ rfl
 have fr3 := bl_frozen R2.out 3
 have r4 := bl_cell R2.out 4 _ rfl
 have fr4 := bl_frozen R2.out 4
 have r5 := bl_cell R2.out 5 _ rfl
 have fr5 := bl_frozen R2.out 5
 have r6 := bl_cell R2.out 6 _ rfl
 have fr6 := bl_frozen R2.out 6
 have r7 := bl_cell R2.out 7 _ rfl
 have fr7 := bl_frozen R2.out 7
 have r8 := bl_cell R2.out 8 _ rfl
 have fr8 := bl_frozen R2.out 8
 go_wp2_with fail
 refine bodyPost_ret (v := rxv kk mn mx mm tt (.slice ad ll cc)) (rx_ret rfl _ _ _ _ rfl (bl_set9 R2.out _ _ _ _ _ _ _ _ _) rfl) rfl ⟨⟨T, _, rfl, ?_, G2.out.right, G2.out.ok, ?_⟩⟩
 ·
  exact (I2.out.ks (ks_set9 _ _ _ _ _ _ _ _ _) (fun b hb _ => by omega)).weak (fun b hb _ => by omega)
 ·
  exact Ks.up (P := w.heap.size + 1) (ks_set9 _ _ _ _ _ _ _ _ _) K2.out (by omega)
end Go.Proofs.YtikmgckefbjbkaaGreatDoor

/-! ### And1 -/

namespace Go.Proofs.YtikmgckefbjbkaaGreatDoor
open Go.RowKit

theorem i64_and1 (n : Int) : bits .and .i64 n 1 = n % 2 := by
 have h1 : (BitVec.ofInt 64 1).toNat = 2 ^ 1 - 1 := by decide
 have key : (BitVec.ofInt 64 n &&& BitVec.ofInt 64 1).toNat = (n % ((2 ^ 64 : Nat) : Int)).toNat % 2 ^ 1 := by
  rw [BitVec.toNat_and, BitVec.toNat_ofInt, h1, Nat.and_two_pow_sub_one_eq_mod]
 show IntKind.i64.wrap ((BitVec.ofInt 64 n &&& BitVec.ofInt 64 1).toNat : Nat) = n % 2
 rw [key, IntKind.wrap_i64]
 omega
/-- One, and one more where a number is odd. -/
theorem one_or_two (n : Int) : ∃ m : Nat, 1 + bits .and .i64 n 1 = (m : Int) ∧ 1 ≤ m ∧ m ≤ 2 := by
 rw [i64_and1]
 exact ⟨(1 + n % 2).toNat, by omega, by omega, by omega⟩
end Go.Proofs.YtikmgckefbjbkaaGreatDoor
