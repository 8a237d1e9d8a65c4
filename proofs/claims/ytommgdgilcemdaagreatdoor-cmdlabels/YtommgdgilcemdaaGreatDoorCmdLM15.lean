/-
  Texts of this claim: Choice.
-/
import Derived.Test.YtommgdgilcemdaaGreatDoorCmdLM14

/-! ### Choice -/

namespace Go.Proofs.YtommgdgilcemdaaGreatDoor
open Go.RowKit
attribute [local go_sem] field91

/-- In the loop of a choice. -/
structure Cw (c : St → Out) (s : ByteArray) (ere : Bool) (P A : Nat) (w : World) (t0 : St) (k : Nat) (v : Value) (wr : World) (ks : List Rx) (t : St) : Prop where
 kids : RK (fun b => w.heap.size + 1 ≤ b ∧ b ≠ A) (w.heap.size + 1) wr v ks
 rd : Rd wr P s ere t.i t.n t.g t.d
 i : t.i ≤ s.size
 n : t.n ≤ 3 * t.i + 2
 g : t.g ≤ t.i
 d : t.d = t0.d
 f : s.size < k + t.i
 len : ks.length ≤ t.i + 1
 eq : pChL c s ere k ks t = pCh1 c s ere t0
 a : ∃ k mn mx m t ad l c, wr.heap[A]? = some (rxo k mn mx m t (.slice ad l c))
 b : wr.heap[w.heap.size]? = some rzo
 ks : Ks P w wr

set_option maxHeartbeats 2000000 in
set_option maxRecDepth 100000 in
theorem choice_any (c : St → Out) (D : Nat) (s : ByteArray) (ere : Bool) (i n g d P : Nat) (w : World) (HC : ChSaid c s ere D) (HGd : CGood c s) (h : Rd w P s ere i n g d) (hv : Inv s ⟨i, n, g, d⟩) (hD : d + D = 6) (hs : s.size ≤ 1000000) :
  Calls Tryz.prog 58 #[.pointer (some ⟨P, 0, none⟩)] w fun e w' => RetE w P s ere (pCh1 c s ere ⟨i, n, g, d⟩) e w' := by
 have R : Hid (Rd w P s ere i n g d) := h
 have hP : P < w.heap.size := h.lt
 clear h
 have hi : i ≤ s.size := hv.i
 obtain ⟨o, ho⟩ : ∃ o, pRow c s ere ⟨i, n, g, d⟩ = o := ⟨_, rfl⟩
 have hgood := pRow_good (ere := ere) HGd hv
 have RA : Hid (∀ w, Rd w P s ere i n g d → Calls Tryz.prog 84 #[.pointer (some ⟨P, 0, none⟩)] w fun e w' => RetE w P s ere o e w') := by
  intro w h
  have := row_any c D s ere i n g d P w HC HGd h hv hD hs
  rw [ho] at this
  exact this
 have E0 : Hid (pCh1 c s ere ⟨i, n, g, d⟩ = if o.e ≠ 0 ∨ (sgn s ere o.st.i).1 ≠ 9 then o else pChL c s ere (s.size + 1) [o.r] o.st) := by
  show _ = _
  unfold pCh1
  rw [ho]
 rw [ho] at hgood
 have HGO := hid hgood
 have ho1 : o.st.i ≤ s.size := hgood.le
 clear ho hgood
 obtain ⟨r, er, ⟨i1, n1, g1, d1⟩⟩ := o
 simp only at ho1
 go_enter Tryz.func58, Tryz.ntmps58
 go_upto_region 1 with fail
 refine opq (fun W0 => Rd W0 P s ere i n g d ∧ W0.heap[w.heap.size]? = some rzo ∧ Ks P w W0) ⟨by exact R.out.kp (by repeat (first | exact Kp.refl _ | refine Kp.alloc ?_ _ | refine Kp.drew ?_ | refine Kp.drewN _ ?_)), by (first | exact last_at _ _ _ (by simp) | (refine bl_alloc ?_ _; first | exact last_at _ _ _ (by simp) | (refine bl_alloc ?_ _; first | exact last_at _ _ _ (by simp) | (refine bl_alloc ?_ _; exact last_at _ _ _ (by simp))))), by exact (Kp.ks (by repeat (first | exact Kp.refl _ | refine Kp.alloc ?_ _ | refine Kp.drew ?_ | refine Kp.drewN _ ?_)) (Nat.le_of_lt hP))⟩ ?_
 rintro W0 ⟨xR0, xB0, xK0⟩
 have R0 : Hid (Rd W0 P s ere i n g d) := xR0
 have B0 : Hid (W0.heap[w.heap.size]? = some rzo) := xB0
 have K0 : Hid (Ks P w W0) := xK0
 clear xR0 xB0 xK0
 clear R
 have hs0 : w.heap.size < W0.heap.size := bl_lt B0.out
 go_wp2_with fail
 refine (RA.out _ R0.out).mono ?_
 rintro e W1 ⟨⟨v, rfl, rr⟩⟩
 obtain ⟨kk, mn, mx, mm, tt, ad, ll, cc, rfl⟩ := rr.is.form
 have hs1 := rr.ks.size
 have R1 : Hid (Rd W1 P s ere i1 n1 g1 d1) := rr.rd
 have I1 : Hid (Is W1 (fun b => W0.heap.size ≤ b) r (rxv kk mn mx mm tt (.slice ad ll cc))) := rr.is
 have B1 := hid (bl_ks B0.out (by omega) rr.ks)
 have K1 := hid (K0.out.trans rr.ks)
 clear rr R0 B0 K0 RA
 dsimp only
 go_upto_region 2 with fail
 refine opq (fun W2 => Rd W2 P s ere i1 n1 g1 d1 ∧ W2.heap[W1.heap.size]? = some (rxo kk mn mx mm tt (.slice ad ll cc)) ∧ Is W2 (fun b => w.heap.size ≤ b ∧ b ≠ w.heap.size) r (rxv kk mn mx mm tt (.slice ad ll cc)) ∧ Is W2 (fun b => w.heap.size + 1 ≤ b ∧ b ≠ W1.heap.size) r (rxv kk mn mx mm tt (.slice ad ll cc)) ∧ W2.heap[w.heap.size]? = some rzo ∧ Ks P w W2) ⟨by exact R1.out.kp (by repeat (first | exact Kp.refl _ | refine Kp.alloc ?_ _ | refine Kp.drew ?_ | refine Kp.drewN _ ?_)), by (first | exact last_at _ _ _ (by simp) | (refine bl_alloc ?_ _; first | exact last_at _ _ _ (by simp) | (refine bl_alloc ?_ _; first | exact last_at _ _ _ (by simp) | (refine bl_alloc ?_ _; exact last_at _ _ _ (by simp))))), by exact (I1.out.weak (ok' := fun b => w.heap.size ≤ b ∧ b ≠ w.heap.size) (fun _ hb _ => ⟨by omega, by omega⟩)).kp (by repeat (first | exact Kp.refl _ | refine Kp.alloc ?_ _ | refine Kp.drew ?_ | refine Kp.drewN _ ?_)), by exact (I1.out.weak (ok' := fun b => w.heap.size + 1 ≤ b ∧ b ≠ W1.heap.size) (fun _ hb hl => ⟨by omega, by omega⟩)).kp (by repeat (first | exact Kp.refl _ | refine Kp.alloc ?_ _ | refine Kp.drew ?_ | refine Kp.drewN _ ?_)), by exact bl_kp B1.out (by repeat (first | exact Kp.refl _ | refine Kp.alloc ?_ _ | refine Kp.drew ?_ | refine Kp.drewN _ ?_)), by exact K1.out.kpt (by repeat (first | exact Kp.refl _ | refine Kp.alloc ?_ _ | refine Kp.drew ?_ | refine Kp.drewN _ ?_)) hP⟩ ?_
 rintro W2 ⟨xR2, xA2, xI2, xJ2, xB2, xK2⟩
 have R2 : Hid (Rd W2 P s ere i1 n1 g1 d1) := xR2
 have A2 : Hid (W2.heap[W1.heap.size]? = some (rxo kk mn mx mm tt (.slice ad ll cc))) := xA2
 have I2 : Hid (Is W2 (fun b => w.heap.size ≤ b ∧ b ≠ w.heap.size) r (rxv kk mn mx mm tt (.slice ad ll cc))) := xI2
 have J2 : Hid (Is W2 (fun b => w.heap.size + 1 ≤ b ∧ b ≠ W1.heap.size) r (rxv kk mn mx mm tt (.slice ad ll cc))) := xJ2
 have B2 : Hid (W2.heap[w.heap.size]? = some rzo) := xB2
 have K2 : Hid (Ks P w W2) := xK2
 clear xR2 xA2 xI2 xJ2 xB2 xK2
 clear R1 I1 B1 K1
 have hs2 : W1.heap.size < W2.heap.size := bl_lt A2.out
 by_cases he : er = 0
 ·
  subst he
  obtain ⟨j1, j2, j3, j4⟩ := HGO.out.ok rfl
  simp only at j1 j2 j3 j4
  subst j4
  obtain ⟨x, y, z, hg⟩ : ∃ x y z, sgn s ere i1 = (x, y, z) := ⟨_, _, _, rfl⟩
  have HG := hid hg
  have E1 : Hid (pCh1 c s ere ⟨i, n, g, d1⟩ = if x ≠ 9 then ⟨r, 0, ⟨i1, n1, g1, d1⟩⟩ else pChL c s ere (s.size + 1) [r] ⟨i1, n1, g1, d1⟩) := by
   show _ = _
   rw [E0.out]
   rw [hg]
   by_cases h9 : x ≠ 9
   ·
    rw [if_pos (Or.inr h9), if_pos h9]
   ·
    rw [if_neg (by simp; omega), if_neg h9]
  clear hg
  go_wp2_with fail
  refine (sign_any s ere i1 n1 g1 d1 P _ R2.out ho1 hs).mono ?_
  rintro e W3 ⟨rfl, k3⟩
  rw [HG.out, sg3]
  have R3 := hid (R2.out.kp k3)
  have A3 := hid (bl_kp A2.out k3)
  have I3 := hid (I2.out.kp k3)
  have J3 := hid (J2.out.kp k3)
  have B3 := hid (bl_kp B2.out k3)
  have K3 := hid (K2.out.kpt k3 hP)
  have hs3 := k3.size
  clear k3 R2 A2 I2 J2 B2 K2
  by_cases h9 : x = 9
  ·
   subst h9
   have E2 : Hid (pChL c s ere (s.size + 1) [r] ⟨i1, n1, g1, d1⟩ = pCh1 c s ere ⟨i, n, g, d1⟩) := by show _ = _; rw [E1.out]; rfl
   have a0 := bl_cell (A3.out) 0 _ rfl
   have a1 := bl_cell (A3.out) 1 _ rfl
   have a2 := bl_cell (A3.out) 2 _ rfl
   have a3 := bl_cell (A3.out) 3 _ rfl
   have a4 := bl_cell (A3.out) 4 _ rfl
   have a5 := bl_cell (A3.out) 5 _ rfl
   have a6 := bl_cell (A3.out) 6 _ rfl
   have a7 := bl_cell (A3.out) 7 _ rfl
   have a8 := bl_cell (A3.out) 8 _ rfl
   go_wp2_with fail
   clear a0 a1 a2 a3 a4 a5 a6 a7 a8
   go_loopg [5, 6] (s.size + 1) (fun k v5 v wr => v5 = .int .i64 0 ∧ ∃ (ks : List Rx) (t : St), Cw c s ere P W1.heap.size w ⟨i, n, g, d1⟩ k v wr ks t)
   case atStart =>
    refine ⟨rfl, [r], ⟨i1, n1, g1, d1⟩, RK.single kk mn mx mm tt ad ll cc J3.out (by omega) ⟨by omega, by omega⟩, R3.out.kp ((Kp.refl _).alloc _), ho1, j2, j3, rfl, by show s.size < s.size + 1 + i1; omega, by simp, E2.out, ⟨_, _, _, _, _, _, _, _, bl_alloc A3.out _⟩, bl_alloc B3.out _, K3.out.kpt ((Kp.refl _).alloc _) hP⟩
   case round =>
    obtain ⟨rfl, ks, ⟨i2, n2, g2, d2⟩, hcw⟩ := hrel
    have CW := hid hcw
    have hi2 : i2 ≤ s.size := hcw.i
    have hn2 : n2 ≤ 3 * i2 + 2 := hcw.n
    have hg2 : g2 ≤ i2 := hcw.g
    have hd2 : d2 = d1 := hcw.d
    have hf : s.size < gk + i2 := hcw.f
    have hlen : ks.length ≤ i2 + 1 := hcw.len
    have hA := bl_lt hcw.a.choose_spec.choose_spec.choose_spec.choose_spec.choose_spec.choose_spec.choose_spec.choose_spec
    subst hd2
    obtain ⟨k, rfl⟩ : ∃ k, gk = k + 1 := ⟨gk - 1, by omega⟩
    clear hcw R3 A3 I3 J3 B3 K3 E2
    obtain ⟨x, y, z, hg⟩ : ∃ x y z, sgn s ere i2 = (x, y, z) := ⟨_, _, _, rfl⟩
    have HG2 := hid hg
    clear hg
    go_wp2_with fail
    refine (sign_any s ere i2 n2 g2 d2 P _ CW.out.rd hi2 hs).mono ?_
    rintro e V4 ⟨rfl, k4⟩
    rw [HG2.out, sg3]
    have R4 := hid (CW.out.rd.kp k4)
    have L4 := hid (CW.out.kids.kp k4)
    have A4 : Hid (∃ k mn mx m t ad l c, V4.heap[W1.heap.size]? = some (rxo k mn mx m t (.slice ad l c))) := by
     obtain ⟨q1, q2, q3, q4, q5, q6, q7, q8, hq⟩ := CW.out.a
     exact ⟨q1, q2, q3, q4, q5, q6, q7, q8, bl_kp hq k4⟩
    have B4 := hid (bl_kp CW.out.b k4)
    have K4 := hid (CW.out.ks.kpt k4 hP)
    have EQ := hid CW.out.eq
    have hs4 := k4.size
    have hs4' : w.heap.size < V4.heap.size := bl_lt B4.out
    clear k4 CW
    by_cases x9 : x = 9
    ·
     subst x9
     have hlt : i2 < s.size := sgn_lt HG2.out hi2 (by omega)
     have gi : IntKind.i64.wrap ((i2 : Int) + 1) = (i2 : Int) + 1 := by rw [IntKind.wrap_i64]; omega
     obtain ⟨q1, q2, q3, q4, q5, q6, q7, q8, hq⟩ := A4.out
     have A4' := hid hq
     clear hq A4
     have p2 := R4.out.cells.2.2.1
     have fp2 := bl_frozen R4.out.b 2
     go_upto_region 7 with fail
     refine opq (fun W5 => Rd W5 P s ere (i2 + 1) n2 g2 d2 ∧ RK (fun b => w.heap.size + 1 ≤ b ∧ b ≠ W1.heap.size) (w.heap.size + 1) W5 u6 ks ∧ W5.heap[W1.heap.size]? = some (rxo q1 q2 q3 q4 q5 (.slice q6 q7 q8)) ∧ W5.heap[w.heap.size]? = some rzo ∧ Ks P w W5) ⟨by exact R4.out.at (i2 + 1), by exact L4.out.ks ((Ks.refl _ _).set 2 _) (fun _ hb => by omega), by exact bl_set A4'.out (by omega) _, by exact bl_set B4.out (by omega) _, by exact K4.out.set 2 _⟩ ?_
     rintro W5 ⟨xR5, xL5, xA5, xB5, xK5⟩
     have R5 : Hid (Rd W5 P s ere (i2 + 1) n2 g2 d2) := xR5
     have L5 : Hid (RK (fun b => w.heap.size + 1 ≤ b ∧ b ≠ W1.heap.size) (w.heap.size + 1) W5 u6 ks) := xL5
     have A5 : Hid (W5.heap[W1.heap.size]? = some (rxo q1 q2 q3 q4 q5 (.slice q6 q7 q8))) := xA5
     have B5 : Hid (W5.heap[w.heap.size]? = some rzo) := xB5
     have K5 : Hid (Ks P w W5) := xK5
     clear xR5 xL5 xA5 xB5 xK5
     have hs5 : W1.heap.size < W5.heap.size := bl_lt A5.out
     have hs5' : w.heap.size < W5.heap.size := bl_lt B5.out
     clear p2 fp2 R4 L4 A4' B4 K4
     have hinv : Inv s ⟨i2 + 1, n2, g2, d2⟩ := ⟨hlt, by show n2 ≤ 3 * (i2 + 1) + 1; omega, by show g2 ≤ i2 + 1; omega⟩
     obtain ⟨o, ho⟩ : ∃ o, pRow c s ere ⟨i2 + 1, n2, g2, d2⟩ = o := ⟨_, rfl⟩
     have hgood := pRow_good (ere := ere) HGd hinv
     have RA := hid (row_any c D s ere (i2 + 1) n2 g2 d2 P W5 HC HGd R5.out hinv hD hs)
     rw [ho] at hgood RA
     have HGO2 := hid hgood
     have E3 : Hid (pCh1 c s ere ⟨i, n, g, d2⟩ = if o.e ≠ 0 then ⟨rx0, o.e, o.st⟩ else pChL c s ere k (keepL o.st.n ks o.r) o.st) := by
      have := EQ.out
      unfold pChL at this
      rw [HG2.out] at this
      rw [if_pos rfl, ho] at this
      exact this.symm
     clear ho hgood hinv
     obtain ⟨r5, er5, ⟨i5, n5, g5, d5⟩⟩ := o
     go_wp2_with fail
     refine RA.out.mono ?_
     rintro e W6 ⟨⟨v, rfl, rr⟩⟩
     obtain ⟨kx, mn', mx', mm', tt', ad', ll', cc', rfl⟩ := rr.is.form
     have hs6 := rr.ks.size
     have R6 : Hid (Rd W6 P s ere i5 n5 g5 d5) := rr.rd
     have OWN : Hid (∀ b, u6.ownBlock = some b → (w.heap.size + 1 ≤ b ∧ b ≠ W1.heap.size) ∧ b < W5.heap.size) := L5.out.block
     have I6 : Hid (Is W6 (fun b => (w.heap.size + 1 ≤ b ∧ b ≠ W1.heap.size) ∧ u6.ownBlock ≠ some b) r5 (rxv kx mn' mx' mm' tt' (.slice ad' ll' cc'))) := rr.is.weak (fun b hb _ => ⟨⟨by omega, by omega⟩, fun he => by have := OWN.out b he; omega⟩)
     have L6 := hid (L5.out.ks rr.ks (fun _ hb => by omega))
     have A6 := hid (bl_ks A5.out (by omega) rr.ks)
     have B6 := hid (bl_ks B5.out (by omega) rr.ks)
     have K6 := hid (K5.out.trans rr.ks)
     clear rr R5 L5 A5 B5 K5 RA
     dsimp only
     have a0 := bl_cell (A6.out) 0 _ rfl
     have fa0 := bl_frozen (A6.out) 0
     have a1 := bl_cell (A6.out) 1 _ rfl
     have fa1 := bl_frozen (A6.out) 1
     have a2 := bl_cell (A6.out) 2 _ rfl
     have fa2 := bl_frozen (A6.out) 2
     have a3 := bl_cell (A6.out) 3 _ rfl
     have fa3 := bl_frozen (A6.out) 3
     have a4 := bl_cell (A6.out) 4 _ rfl
     have fa4 := bl_frozen (A6.out) 4
     have a5 := bl_cell (A6.out) 5 _ rfl
     have fa5 := bl_frozen (A6.out) 5
     have a6 := bl_cell (A6.out) 6 _ rfl
     have fa6 := bl_frozen (A6.out) 6
     have a7 := bl_cell (A6.out) 7 _ rfl
     have fa7 := bl_frozen (A6.out) 7
     have a8 := bl_cell (A6.out) 8 _ rfl
     have fa8 := bl_frozen (A6.out) 8
     go_upto_region 8 with fail
     clear a0 fa0 a1 fa1 a2 fa2 a3 fa3 a4 fa4 a5 fa5 a6 fa6 a7 fa7 a8 fa8
     refine opq (fun W7 => Rd W7 P s ere i5 n5 g5 d5 ∧ RK (fun b => w.heap.size + 1 ≤ b ∧ b ≠ W1.heap.size) (w.heap.size + 1) W7 u6 ks ∧ W7.heap[W1.heap.size]? = some (rxo kx mn' mx' mm' tt' (.slice ad' ll' cc')) ∧ W7.heap[w.heap.size]? = some rzo ∧ Is W7 (fun b => (w.heap.size + 1 ≤ b ∧ b ≠ W1.heap.size) ∧ u6.ownBlock ≠ some b) r5 (rxv kx mn' mx' mm' tt' (.slice ad' ll' cc')) ∧ Ks P w W7) ⟨by exact R6.out.ks (ks_set9 _ _ _ _ _ _ _ _ _) (by omega) (by omega), by exact L6.out.ks (ks_set9 _ _ _ _ _ _ _ _ _) (fun _ hb => by omega), by exact bl_set9 A6.out _ _ _ _ _ _ _ _ _, by exact bl_ks B6.out (by omega) (ks_set9 _ _ _ _ _ _ _ _ _), by exact I6.out.ks (ks_set9 _ _ _ _ _ _ _ _ _) (fun _ hb _ => by omega), by exact K6.out.off (ks_set9 _ _ _ _ _ _ _ _ _) (by omega) hP⟩ ?_
     rintro W7 ⟨xR7, xL7, xA7, xB7, xI7, xK7⟩
     have R7 : Hid (Rd W7 P s ere i5 n5 g5 d5) := xR7
     have L7 : Hid (RK (fun b => w.heap.size + 1 ≤ b ∧ b ≠ W1.heap.size) (w.heap.size + 1) W7 u6 ks) := xL7
     have A7 : Hid (W7.heap[W1.heap.size]? = some (rxo kx mn' mx' mm' tt' (.slice ad' ll' cc'))) := xA7
     have B7 : Hid (W7.heap[w.heap.size]? = some rzo) := xB7
     have I7 : Hid (Is W7 (fun b => (w.heap.size + 1 ≤ b ∧ b ≠ W1.heap.size) ∧ u6.ownBlock ≠ some b) r5 (rxv kx mn' mx' mm' tt' (.slice ad' ll' cc'))) := xI7
     have K7 : Hid (Ks P w W7) := xK7
     clear xR7 xL7 xA7 xB7 xI7 xK7
     have hs7 : W1.heap.size < W7.heap.size := bl_lt A7.out
     have hs7' : w.heap.size < W7.heap.size := bl_lt B7.out
     clear R6 L6 A6 B6 I6 K6
     by_cases he : er5 = 0
     ·
      subst he
      obtain ⟨m1, m2, m3, m4⟩ := HGO2.out.ok rfl
      simp only at m1 m2 m3 m4
      have m0 : i5 ≤ s.size := HGO2.out.le
      have E4 : Hid (pChL c s ere k (keepL n5 ks r5) ⟨i5, n5, g5, d5⟩ = pCh1 c s ere ⟨i, n, g, d2⟩) := by show _ = _; rw [E3.out]; rfl
      have a0 := bl_cell (A7.out) 0 _ rfl
      have a1 := bl_cell (A7.out) 1 _ rfl
      have a2 := bl_cell (A7.out) 2 _ rfl
      have a3 := bl_cell (A7.out) 3 _ rfl
      have a4 := bl_cell (A7.out) 4 _ rfl
      have a5 := bl_cell (A7.out) 5 _ rfl
      have a6 := bl_cell (A7.out) 6 _ rfl
      have a7 := bl_cell (A7.out) 7 _ rfl
      have a8 := bl_cell (A7.out) 8 _ rfl
      go_wp2_with fail
      refine (keep_rk (fun b => w.heap.size + 1 ≤ b ∧ b ≠ W1.heap.size) (w.heap.size + 1) u6 ks r5 kx mn' mx' mm' tt' ad' ll' cc' s ere i5 n5 g5 d5 P _ R7.out L7.out I7.out (fun _ hb => ⟨by omega, by omega⟩) (by omega) (by omega)).mono ?_
      rintro e W8 ⟨v', rfl, l8, g8⟩
      have R8 := hid (R7.out.grown g8 (fun he => by have := OWN.out P he; omega) (fun he => by have := OWN.out 1 he; have := R7.out.p; omega))
      have L8 := hid l8
      have A8 := hid (bl_grown A7.out g8 (fun he => by have := OWN.out _ he; omega))
      have B8 := hid (bl_grown B7.out g8 (fun he => by have := OWN.out _ he; omega))
      have K8 := hid (K7.out.grown g8 (fun k hk => by have := OWN.out k hk; omega) hP)
      clear l8 g8 R7 A7 I7 L7 B7 K7 a0 a1 a2 a3 a4 a5 a6 a7 a8
      have HL : Hid ((keepL n5 ks r5).length ≤ i5 + 1) := by
       show _ ≤ _
       unfold keepL
       split
       ·
        omega
       ·
        simp; omega
      go_wp2_with fail
      go_roundg k
      case measure => omega
      case rel => exact ⟨rfl, _, ⟨i5, n5, g5, d5⟩, L8.out, R8.out, m0, m2, m3, m4, by show s.size < k + i5; omega, HL.out, E4.out, ⟨_, _, _, _, _, _, _, _, A8.out⟩, B8.out, K8.out⟩
     ·
      have ge : ((er5 : Int) != 0) = true := by simp; omega
      have E : Hid (pCh1 c s ere ⟨i, n, g, d2⟩ = ⟨rx0, er5, ⟨i5, n5, g5, d5⟩⟩) := by show _ = _; rw [E3.out]; exact if_pos he
      have b0 := bl_cell (B7.out) 0 _ rfl
      have fb0 := bl_frozen (B7.out) 0
      have b1 := bl_cell (B7.out) 1 _ rfl
      have fb1 := bl_frozen (B7.out) 1
      have b2 := bl_cell (B7.out) 2 _ rfl
      have fb2 := bl_frozen (B7.out) 2
      have b3 := bl_cell (B7.out) 3 _ rfl
      have fb3 := bl_frozen (B7.out) 3
      have b4 := bl_cell (B7.out) 4 _ rfl
      have fb4 := bl_frozen (B7.out) 4
      have b5 := bl_cell (B7.out) 5 _ rfl
      have fb5 := bl_frozen (B7.out) 5
      have b6 := bl_cell (B7.out) 6 _ rfl
      have fb6 := bl_frozen (B7.out) 6
      have b7 := bl_cell (B7.out) 7 _ rfl
      have fb7 := bl_frozen (B7.out) 7
      have b8 := bl_cell (B7.out) 8 _ rfl
      have fb8 := bl_frozen (B7.out) 8
      go_wp2_with fail
      refine bodyPost_ret (v := .tuple #[rz, .int .i64 (er5 : Int)]) (rx_ret2 rfl _ _ _ _ _ rfl rfl (bl_set9 B7.out _ _ _ _ _ _ _ _ _) rfl) rfl ?_
      rw [E.out]
      exact ⟨_, rfl, Ret.fail R7.out K7.out (ks_set9 _ _ _ _ _ _ _ _ _) hP (Nat.le_refl _)⟩
    ·
     have g9 : ((x : Int) == 9) = false := by simp; omega
     have E : Hid (pCh1 c s ere ⟨i, n, g, d2⟩ = ⟨.mk 3 0 0 0 W4.z ks, 0, ⟨i2, n2 + 1, g2, d2⟩⟩) := by
      have := EQ.out
      unfold pChL at this
      rw [HG2.out] at this
      rw [if_neg x9] at this
      exact this.symm
     obtain ⟨ad9, cap, hv6, hcap⟩ := L4.out.form
     have IS := hid (L4.out.is 3 0 0 0 W4.z)
     subst hv6
     go_wp2_with fail
     refine (node_any0 3 0 0 0 ad9 ks.length cap s ere i2 n2 g2 d2 P _ R4.out (by omega)).mono ?_
     rintro e W9 ⟨rfl, r9, k9⟩
     have R9 := hid r9
     have I9 := hid (IS.out.ks k9 (fun _ hb _ => by omega))
     have B9 := hid (bl_ks B4.out (by omega) k9)
     have K9 := hid (K4.out.trans k9)
     clear r9 k9 R4 L4 A4 B4 K4 IS
     have b0 := bl_cell (B9.out) 0 _ rfl
     have fb0 := bl_frozen (B9.out) 0
     have b1 := bl_cell (B9.out) 1 _ rfl
     have fb1 := bl_frozen (B9.out) 1
     have b2 := bl_cell (B9.out) 2 _ rfl
     have fb2 := bl_frozen (B9.out) 2
     have b3 := bl_cell (B9.out) 3 _ rfl
     have fb3 := bl_frozen (B9.out) 3
     have b4 := bl_cell (B9.out) 4 _ rfl
     have fb4 := bl_frozen (B9.out) 4
     have b5 := bl_cell (B9.out) 5 _ rfl
     have fb5 := bl_frozen (B9.out) 5
     have b6 := bl_cell (B9.out) 6 _ rfl
     have fb6 := bl_frozen (B9.out) 6
     have b7 := bl_cell (B9.out) 7 _ rfl
     have fb7 := bl_frozen (B9.out) 7
     have b8 := bl_cell (B9.out) 8 _ rfl
     have fb8 := bl_frozen (B9.out) 8
     go_wp2_with fail
     refine bodyPost_ret (v := .tuple #[rxv 3 0 0 0 W4.z (.slice ad9 ks.length cap), .int .i64 0]) (rx_ret2 rfl _ _ _ _ _ rfl rfl (bl_set9 B9.out _ _ _ _ _ _ _ _ _) rfl) rfl ?_
     rw [E.out]
     exact ⟨_, rfl, Ret.fin (I9.out.weak (fun _ hb _ => ⟨by omega, by omega⟩)) R9.out K9.out (ks_set9 _ _ _ _ _ _ _ _ _) hP (Nat.le_refl _)⟩
  ·
   have g9 : ((x : Int) != 9) = true := by simp; omega
   have E : Hid (pCh1 c s ere ⟨i, n, g, d1⟩ = ⟨r, 0, ⟨i1, n1, g1, d1⟩⟩) := by show _ = _; rw [E1.out, if_pos h9]
   have a0 := bl_cell (A3.out) 0 _ rfl
   have a1 := bl_cell (A3.out) 1 _ rfl
   have a2 := bl_cell (A3.out) 2 _ rfl
   have a3 := bl_cell (A3.out) 3 _ rfl
   have a4 := bl_cell (A3.out) 4 _ rfl
   have a5 := bl_cell (A3.out) 5 _ rfl
   have a6 := bl_cell (A3.out) 6 _ rfl
   have a7 := bl_cell (A3.out) 7 _ rfl
   have a8 := bl_cell (A3.out) 8 _ rfl
   have b0 := bl_cell (B3.out) 0 _ rfl
   have fb0 := bl_frozen (B3.out) 0
   have b1 := bl_cell (B3.out) 1 _ rfl
   have fb1 := bl_frozen (B3.out) 1
   have b2 := bl_cell (B3.out) 2 _ rfl
   have fb2 := bl_frozen (B3.out) 2
   have b3 := bl_cell (B3.out) 3 _ rfl
   have fb3 := bl_frozen (B3.out) 3
   have b4 := bl_cell (B3.out) 4 _ rfl
   have fb4 := bl_frozen (B3.out) 4
   have b5 := bl_cell (B3.out) 5 _ rfl
   have fb5 := bl_frozen (B3.out) 5
   have b6 := bl_cell (B3.out) 6 _ rfl
   have fb6 := bl_frozen (B3.out) 6
   have b7 := bl_cell (B3.out) 7 _ rfl
   have fb7 := bl_frozen (B3.out) 7
   have b8 := bl_cell (B3.out) 8 _ rfl
   have fb8 := bl_frozen (B3.out) 8
   go_wp2_with fail
   refine bodyPost_ret (v := .tuple #[rxv kk mn mx mm tt (.slice ad ll cc), .int .i64 0]) (rx_ret2 rfl _ _ _ _ _ rfl rfl (bl_set9 B3.out _ _ _ _ _ _ _ _ _) rfl) rfl ?_
   rw [E.out]
   exact ⟨_, rfl, Ret.fin I3.out R3.out K3.out (ks_set9 _ _ _ _ _ _ _ _ _) hP (Nat.le_refl _)⟩
 ·
  have ge : ((er : Int) != 0) = true := by simp; omega
  have E : Hid (pCh1 c s ere ⟨i, n, g, d⟩ = ⟨r, er, ⟨i1, n1, g1, d1⟩⟩) := by show _ = _; rw [E0.out, if_pos (Or.inl he)]
  have a0 := bl_cell (A2.out) 0 _ rfl
  have a1 := bl_cell (A2.out) 1 _ rfl
  have a2 := bl_cell (A2.out) 2 _ rfl
  have a3 := bl_cell (A2.out) 3 _ rfl
  have a4 := bl_cell (A2.out) 4 _ rfl
  have a5 := bl_cell (A2.out) 5 _ rfl
  have a6 := bl_cell (A2.out) 6 _ rfl
  have a7 := bl_cell (A2.out) 7 _ rfl
  have a8 := bl_cell (A2.out) 8 _ rfl
  have b0 := bl_cell (B2.out) 0 _ rfl
  have fb0 := bl_frozen (B2.out) 0
  have b1 := bl_cell (B2.out) 1 _ rfl
  have fb1 := bl_frozen (B2.out) 1
  have b2 := bl_cell (B2.out) 2 _ rfl
  have fb2 := bl_frozen (B2.out) 2
  have b3 := bl_cell (B2.out) 3 _ rfl
  have fb3 := bl_frozen (B2.out) 3
  have b4 := bl_cell (B2.out) 4 _ rfl
  have fb4 := bl_frozen (B2.out) 4
  have b5 := bl_cell (B2.out) 5 _ rfl
  have fb5 := bl_frozen (B2.out) 5
  have b6 := bl_cell (B2.out) 6 _ rfl
  have fb6 := bl_frozen (B2.out) 6
  have b7 := bl_cell (B2.out) 7 _ rfl
  have fb7 := bl_frozen (B2.out) 7
  have b8 := bl_cell (B2.out) 8 _ rfl
  have fb8 := bl_frozen (B2.out) 8
  go_wp2_with fail
  refine bodyPost_ret (v := .tuple #[rxv kk mn mx mm tt (.slice ad ll cc), .int .i64 (er : Int)]) (rx_ret2 rfl _ _ _ _ _ rfl rfl (bl_set9 B2.out _ _ _ _ _ _ _ _ _) rfl) rfl ?_
  rw [E.out]
  exact ⟨_, rfl, Ret.fin I2.out R2.out K2.out (ks_set9 _ _ _ _ _ _ _ _ _) hP (Nat.le_refl _)⟩
end Go.Proofs.YtommgdgilcemdaaGreatDoor
