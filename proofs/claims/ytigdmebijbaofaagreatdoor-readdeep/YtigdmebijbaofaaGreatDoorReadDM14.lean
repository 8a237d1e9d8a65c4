/-
  Texts of this claim: Rep, Cls.
-/
import Derived.Test.YtigdmebijbaofaaGreatDoorReadDM4
import Derived.Test.YtigdmebijbaofaaGreatDoorReadDM9
import Derived.Test.YtigdmebijbaofaaGreatDoorReadDM13
import Derived.Test.YtigdmebijbaofaaGreatDoorReadDM6
/-! ### Rep -/
namespace Go.Proofs.YtigdmebijbaofaaGreatDoor
set_option maxHeartbeats 2000000
set_option maxRecDepth 100000
open Go.RowKit
attribute [local go_sem] field91
def repInt (r : Rx) (o : Option (Int × Int) × Nat) (n g d : Nat) : Out := match o with
 | (none, j) => ⟨rx0, 1, ⟨j, n, g, d⟩⟩
 | (some (a, b), j) => pTake 0 (rrep a b r) ⟨j, n, g, d⟩
theorem pInt_le (s : ByteArray) (ere : Bool) (i z : Nat) (h : i + z ≤ s.size) : (pInt s ere i z).2 ≤ s.size := by
 have h1 := pNum_le s (i + z) h
 unfold pInt
 dsimp only
 split
 ·
  have h2 := pHigh_le s (pNum s (i + z)).1 (pNum s (i + z)).2.2 h1.2.1 h1.2.2
  split
  ·
   rename_i hp
   have h3 := pfx_le hp h2.2.1
   split
   ·
    exact h3
   ·
    show i ≤ s.size; omega
  ·
   exact h2.2.1
 ·
  exact h1.2.1
theorem repeated_any (r : Rx) (k mn mx m : Int) (t : W4) (ad : Option Addr) (l c : Nat) (s : ByteArray) (ere : Bool) (i n g d P : Nat) (w0 w : World) (h : Rd w P s ere i n g d) (hI : Is w (fun b => w0.heap.size ≤ b) r (rxv k mn mx m t (.slice ad l c))) (hk : Ks P w0 w) (hP : P < w0.heap.size) (hi : i ≤ s.size) (hs : s.size ≤ 1000000) (hn : n ≤ 1000000000) :
  Calls Tryz.prog 207 #[.pointer (some ⟨P, 0, none⟩), rxv k mn mx m t (.slice ad l c)] w fun e w' => RetE w0 P s ere (pRep s ere r ⟨i, n, g, d⟩) e w' := by
 have R : Hid (Rd w P s ere i n g d) := h
 have HI : Hid (Is w (fun b => w0.heap.size ≤ b ∧ b < w.heap.size) r (rxv k mn mx m t (.slice ad l c))) := hI.weak (fun _ hb hl => ⟨hb, hl⟩)
 have HK := hid hk
 have hsw := hk.size
 clear h hI hk
 obtain ⟨x, y, z, hg⟩ : ∃ x y z, sgn s ere i = (x, y, z) := ⟨_, _, _, rfl⟩
 have hz := sgn_sz s ere i hi
 rw [hg] at hz
 obtain ⟨hz1, hz2, _⟩ := hz
 simp only at hz1 hz2
 have HG := hid hg
 have hpr : pRep s ere r ⟨i, n, g, d⟩ = if x = 10 then pTake z (rrep 0 (-1) r) ⟨i, n, g, d⟩ else if x = 11 then pTake z (rrep 1 (-1) r) ⟨i, n, g, d⟩ else if x = 12 then pTake z (rrep 0 1 r) ⟨i, n, g, d⟩ else if x = 13 then repInt r (pInt s ere i z) n g d else ⟨r, 0, ⟨i, n, g, d⟩⟩ := by
  unfold pRep; rw [hg]; rfl
 have HPR := hid hpr
 clear hg hpr
 go_enter Tryz.func207, Tryz.ntmps207
 go_upto_region 1 with fail
 refine opq (fun W0 => Rd W0 P s ere i n g d ∧ W0.heap[w.heap.size]? = some (rxo k mn mx m t (.slice ad l c)) ∧ W0.heap[(w.heap.size + 1)]? = some rzo ∧ Is W0 (fun b => w0.heap.size ≤ b ∧ b < w.heap.size) r (rxv k mn mx m t (.slice ad l c)) ∧ Ks P w0 W0) ⟨by exact R.out.kp kpt, by (first | exact last_at _ _ _ (by simp) | (refine bl_alloc ?_ _; first | exact last_at _ _ _ (by simp) | (refine bl_alloc ?_ _; first | exact last_at _ _ _ (by simp) | (refine bl_alloc ?_ _; exact last_at _ _ _ (by simp))))), by (first | exact last_at _ _ _ (by simp) | (refine bl_alloc ?_ _; first | exact last_at _ _ _ (by simp) | (refine bl_alloc ?_ _; first | exact last_at _ _ _ (by simp) | (refine bl_alloc ?_ _; exact last_at _ _ _ (by simp))))), by exact HI.out.kp kpt, by exact HK.out.kpt kpt hP⟩ ?_
 rintro W0 ⟨xR0, xA0, xB0, xI0, xK0⟩
 have R0 := hidT xR0
 have A0 := hidT xA0
 have B0 := hidT xB0
 have I0 := hidT xI0
 have K0 := hidT xK0
 clear xR0 xA0 xB0 xI0 xK0
 clear R HI HK
 go_wp2_with fail
 refine (sign_any s ere i n g d P _ R0.out hi hs).mono ?_
 rintro e w1 ⟨rfl, kq⟩
 rw [HG.out, sg3]
 have hs1 : w.heap.size + 1 < w1.heap.size := bl_lt (bl_kp B0.out kq)
 have KQ : Hid (Kp W0 w1) := kq
 clear kq
 go_upto_region 2 with fail
 refine opq (fun W1 => Rd W1 P s ere i n g d ∧ W1.heap[w.heap.size]? = some (rxo k mn mx m t (.slice ad l c)) ∧ W1.heap[(w.heap.size + 1)]? = some rzo ∧ W1.heap[w1.heap.size]? = some (sgo x y z) ∧ Is W1 (fun b => w0.heap.size ≤ b ∧ b < w.heap.size) r (rxv k mn mx m t (.slice ad l c)) ∧ Ks P w0 W1) ⟨by exact R0.out.kp (KQ.out.trans kpt), by exact bl_kp A0.out (KQ.out.trans kpt), by exact bl_kp B0.out (KQ.out.trans kpt), by (first | exact last_at _ _ _ (by simp) | (refine bl_alloc ?_ _; first | exact last_at _ _ _ (by simp) | (refine bl_alloc ?_ _; first | exact last_at _ _ _ (by simp) | (refine bl_alloc ?_ _; exact last_at _ _ _ (by simp))))), by exact I0.out.kp (KQ.out.trans kpt), by exact K0.out.kpt (KQ.out.trans kpt) hP⟩ ?_
 rintro W1 ⟨xR1, xA1, xB1, xG1, xI1, xK1⟩
 have R1 := hidT xR1
 have A1 := hidT xA1
 have B1 := hidT xB1
 have G1 := hidT xG1
 have I1 := hidT xI1
 have K1 := hidT xK1
 clear xR1 xA1 xB1 xG1 xI1 xK1
 clear R0 A0 B0 I0 K0 KQ
 have hs2 : w1.heap.size < W1.heap.size := bl_lt G1.out
 by_cases x10 : x = 10
 ·
  subst x10
  have E : Hid (pRep s ere r ⟨i, n, g, d⟩ = pTake z (rrep 0 (-1) r) ⟨i, n, g, d⟩) := by show _ = _; rw [HPR.out, if_pos rfl]
  obtain ⟨qq0, qq1, qq2⟩ := cells3 G1.out
  obtain ⟨a0, a1, a2, a3, a4, a5, a6, a7, a8⟩ := cells9 (A1.out)
  go_wp2_with fail
  refine (take_any0 10 y z 4 0 (-1) 0 (some ⟨W1.heap.size, 0, none⟩) 1 1 s ere i n g d P _ (R1.out.kp ((Kp.refl _).alloc _)) (by omega) (by omega) hn).mono ?_
  rintro e w2 ⟨rfl, r2, k2⟩
  have hsW : w.heap.size + 1 < W1.heap.size := bl_lt B1.out
  have hsP : w0.heap.size ≤ W1.heap.size := K1.out.size
  have R2 := hid r2
  have K2 : Hid (Ks P w0 w2) := (K1.out.kpt ((Kp.refl _).alloc _) hP).trans k2
  have B2 : Hid (w2.heap[w.heap.size + 1]? = some rzo) := bl_ks (bl_alloc B1.out _) (by omega) k2
  have I2 : Hid (Is w2 (fun b => w0.heap.size ≤ b ∧ b ≠ w.heap.size + 1) (rrep 0 (-1) r) (rxv 4 0 (-1) 0 W4.z (.slice (some ⟨W1.heap.size, 0, none⟩) 1 1))) :=
   ((((I1.out.weak (ok' := fun b => w0.heap.size ≤ b ∧ b ≠ w.heap.size + 1) (fun _ hb _ => ⟨hb.1, by omega⟩)).kp ((Kp.refl _).alloc _)).one (cells_new _ _ _ _ _ _ _ _ _) ⟨hsP, by omega⟩ (by simp) 4 0 (-1) 0 W4.z).ks k2 (fun _ hb _ => by omega))
  clear r2 k2
  clear qq0 qq1 qq2 a0 a1 a2 a3 a4 a5 a6 a7 a8
  obtain ⟨b0, fb0, b1, fb1, b2, fb2, b3, fb3, b4, fb4, b5, fb5, b6, fb6, b7, fb7, b8, fb8⟩ := cellf9 (B2.out)
  go_wp2_with fail
  refine bodyPost_ret (v := .tuple #[rxv 4 0 (-1) 0 W4.z (.slice (some ⟨W1.heap.size, 0, none⟩) 1 1), .int .i64 0]) (rx_ret2 rfl _ _ _ _ _ rfl rfl (bl_set9 B2.out _ _ _ _ _ _ _ _ _) rfl) rfl ?_
  rw [E.out]
  exact ⟨_, rfl, Ret.fin I2.out R2.out K2.out (ks_set9 _ _ _ _ _ _ _ _ _) hP (by omega)⟩
 by_cases x11 : x = 11
 ·
  subst x11
  have E : Hid (pRep s ere r ⟨i, n, g, d⟩ = pTake z (rrep 1 (-1) r) ⟨i, n, g, d⟩) := by show _ = _; rw [HPR.out, if_neg (by omega), if_pos rfl]
  obtain ⟨qq0, qq1, qq2⟩ := cells3 G1.out
  obtain ⟨a0, a1, a2, a3, a4, a5, a6, a7, a8⟩ := cells9 (A1.out)
  go_wp2_with fail
  refine (take_any0 11 y z 4 1 (-1) 0 (some ⟨W1.heap.size, 0, none⟩) 1 1 s ere i n g d P _ (R1.out.kp ((Kp.refl _).alloc _)) (by omega) (by omega) hn).mono ?_
  rintro e w2 ⟨rfl, r2, k2⟩
  have hsW : w.heap.size + 1 < W1.heap.size := bl_lt B1.out
  have hsP : w0.heap.size ≤ W1.heap.size := K1.out.size
  have R2 := hid r2
  have K2 : Hid (Ks P w0 w2) := (K1.out.kpt ((Kp.refl _).alloc _) hP).trans k2
  have B2 : Hid (w2.heap[w.heap.size + 1]? = some rzo) := bl_ks (bl_alloc B1.out _) (by omega) k2
  have I2 : Hid (Is w2 (fun b => w0.heap.size ≤ b ∧ b ≠ w.heap.size + 1) (rrep 1 (-1) r) (rxv 4 1 (-1) 0 W4.z (.slice (some ⟨W1.heap.size, 0, none⟩) 1 1))) :=
   ((((I1.out.weak (ok' := fun b => w0.heap.size ≤ b ∧ b ≠ w.heap.size + 1) (fun _ hb _ => ⟨hb.1, by omega⟩)).kp ((Kp.refl _).alloc _)).one (cells_new _ _ _ _ _ _ _ _ _) ⟨hsP, by omega⟩ (by simp) 4 1 (-1) 0 W4.z).ks k2 (fun _ hb _ => by omega))
  clear r2 k2
  clear qq0 qq1 qq2 a0 a1 a2 a3 a4 a5 a6 a7 a8
  obtain ⟨b0, fb0, b1, fb1, b2, fb2, b3, fb3, b4, fb4, b5, fb5, b6, fb6, b7, fb7, b8, fb8⟩ := cellf9 (B2.out)
  go_wp2_with fail
  refine bodyPost_ret (v := .tuple #[rxv 4 1 (-1) 0 W4.z (.slice (some ⟨W1.heap.size, 0, none⟩) 1 1), .int .i64 0]) (rx_ret2 rfl _ _ _ _ _ rfl rfl (bl_set9 B2.out _ _ _ _ _ _ _ _ _) rfl) rfl ?_
  rw [E.out]
  exact ⟨_, rfl, Ret.fin I2.out R2.out K2.out (ks_set9 _ _ _ _ _ _ _ _ _) hP (by omega)⟩
 by_cases x12 : x = 12
 ·
  subst x12
  have E : Hid (pRep s ere r ⟨i, n, g, d⟩ = pTake z (rrep 0 1 r) ⟨i, n, g, d⟩) := by show _ = _; rw [HPR.out, if_neg (by omega), if_neg (by omega), if_pos rfl]
  obtain ⟨qq0, qq1, qq2⟩ := cells3 G1.out
  obtain ⟨a0, a1, a2, a3, a4, a5, a6, a7, a8⟩ := cells9 (A1.out)
  go_wp2_with fail
  refine (take_any0 12 y z 4 0 1 0 (some ⟨W1.heap.size, 0, none⟩) 1 1 s ere i n g d P _ (R1.out.kp ((Kp.refl _).alloc _)) (by omega) (by omega) hn).mono ?_
  rintro e w2 ⟨rfl, r2, k2⟩
  have hsW : w.heap.size + 1 < W1.heap.size := bl_lt B1.out
  have hsP : w0.heap.size ≤ W1.heap.size := K1.out.size
  have R2 := hid r2
  have K2 : Hid (Ks P w0 w2) := (K1.out.kpt ((Kp.refl _).alloc _) hP).trans k2
  have B2 : Hid (w2.heap[w.heap.size + 1]? = some rzo) := bl_ks (bl_alloc B1.out _) (by omega) k2
  have I2 : Hid (Is w2 (fun b => w0.heap.size ≤ b ∧ b ≠ w.heap.size + 1) (rrep 0 1 r) (rxv 4 0 1 0 W4.z (.slice (some ⟨W1.heap.size, 0, none⟩) 1 1))) :=
   ((((I1.out.weak (ok' := fun b => w0.heap.size ≤ b ∧ b ≠ w.heap.size + 1) (fun _ hb _ => ⟨hb.1, by omega⟩)).kp ((Kp.refl _).alloc _)).one (cells_new _ _ _ _ _ _ _ _ _) ⟨hsP, by omega⟩ (by simp) 4 0 1 0 W4.z).ks k2 (fun _ hb _ => by omega))
  clear r2 k2
  clear qq0 qq1 qq2 a0 a1 a2 a3 a4 a5 a6 a7 a8
  obtain ⟨b0, fb0, b1, fb1, b2, fb2, b3, fb3, b4, fb4, b5, fb5, b6, fb6, b7, fb7, b8, fb8⟩ := cellf9 (B2.out)
  go_wp2_with fail
  refine bodyPost_ret (v := .tuple #[rxv 4 0 1 0 W4.z (.slice (some ⟨W1.heap.size, 0, none⟩) 1 1), .int .i64 0]) (rx_ret2 rfl _ _ _ _ _ rfl rfl (bl_set9 B2.out _ _ _ _ _ _ _ _ _) rfl) rfl ?_
  rw [E.out]
  exact ⟨_, rfl, Ret.fin I2.out R2.out K2.out (ks_set9 _ _ _ _ _ _ _ _ _) hP (by omega)⟩
 by_cases x13 : x = 13
 ·
  subst x13
  obtain ⟨oi, oj, ho⟩ : ∃ oi oj, pInt s ere i z = (oi, oj) := ⟨_, _, rfl⟩
  have HO := hid ho
  clear ho
  have E0 : Hid (pRep s ere r ⟨i, n, g, d⟩ = repInt r (oi, oj) n g d) := by
   show _ = _
   rw [HPR.out, if_neg (by omega), if_neg (by omega), if_neg (by omega), if_pos rfl, HO.out]
  have hoj : Hid (oj ≤ s.size) := by
   have := pInt_le s ere i z hz1
   rw [HO.out] at this
   exact this
  obtain ⟨qq0, qq1, qq2⟩ := cells3 G1.out
  obtain ⟨a0, a1, a2, a3, a4, a5, a6, a7, a8⟩ := cells9 (A1.out)
  go_wp2_with fail
  refine (interval_any 13 y z s ere i n g d P _ R1.out hz1 hs).mono ?_
  rintro e W2 ⟨⟨a, b, ok, rfl, r2⟩⟩
  rw [HO.out] at r2
  have EQ := hid r2.eq
  have R2 : Hid (Rd W2 P s ere oj n g d) := r2.rd
  have k2 := r2.ks
  have hsz0 := K1.out.size
  have A2 : Hid (W2.heap[w.heap.size]? = some (rxo k mn mx m t (.slice ad l c))) := bl_ks A1.out (by omega) k2
  have B2 : Hid (W2.heap[w.heap.size + 1]? = some rzo) := bl_ks B1.out (by omega) k2
  have G2 : Hid (W2.heap[w1.heap.size]? = some (sgo 13 y z)) := bl_ks G1.out (by omega) k2
  have I2 : Hid (Is W2 (fun b => w0.heap.size ≤ b ∧ b < w.heap.size) r (rxv k mn mx m t (.slice ad l c))) := I1.out.ks k2 (fun _ hb _ => by omega)
  have K2 : Hid (Ks P w0 W2) := K1.out.trans k2
  clear r2 k2 R1 A1 B1 G1 I1 K1
  clear qq0 qq1 qq2 a0 a1 a2 a3 a4 a5 a6 a7 a8
  have gq2 := bl_frozen G2.out 2
  have gc2 := bl_cell G2.out 2 _ rfl
  go_upto_region 13 with fail
  clear gq2 gc2
  refine opq (fun W3 => Rd W3 P s ere oj n g d ∧ W3.heap[w.heap.size]? = some (rxo k mn mx m t (.slice ad l c)) ∧ W3.heap[(w.heap.size + 1)]? = some rzo ∧ W3.heap[w1.heap.size]? = some (sgo 13 y 0) ∧ Is W3 (fun b => w0.heap.size ≤ b ∧ b < w.heap.size) r (rxv k mn mx m t (.slice ad l c)) ∧ Ks P w0 W3) ⟨by exact R2.out.ks ((Ks.refl _ _).set 2 _) (by omega) (by omega), by exact bl_set A2.out (by omega) _, by exact bl_set B2.out (by omega) _, by exact bl_put G2.out _, by exact I2.out.ks ((Ks.refl _ _).set 2 _) (fun _ hb _ => by omega), by exact K2.out.off ((Ks.refl _ _).set 2 _) (by omega) hP⟩ ?_
  rintro W3 ⟨xR3, xA3, xB3, xG1, xI3, xK3⟩
  have R3 := hidT xR3
  have A3 := hidT xA3
  have B3 := hidT xB3
  have G1 := hidT xG1
  have I3 := hidT xI3
  have K3 := hidT xK3
  clear xR3 xA3 xB3 xG1 xI3 xK3
  clear R2 A2 B2 G2 I2 K2
  cases ok with
  | false =>
   have E : Hid (pRep s ere r ⟨i, n, g, d⟩ = ⟨rx0, 1, ⟨oj, n, g, d⟩⟩) := by show _ = _; rw [E0.out, show oi = none from EQ.out]; rfl
   obtain ⟨b0, fb0, b1, fb1, b2, fb2, b3, fb3, b4, fb4, b5, fb5, b6, fb6, b7, fb7, b8, fb8⟩ := cellf9 (B3.out)
   go_wp2_with fail
   refine bodyPost_ret (v := .tuple #[rz, .int .i64 1]) (rx_ret2 rfl _ _ _ _ _ rfl rfl (bl_set9 B3.out _ _ _ _ _ _ _ _ _) rfl) rfl ?_
   rw [E.out]
   exact ⟨_, rfl, Ret.fail R3.out K3.out (ks_set9 _ _ _ _ _ _ _ _ _) hP (by omega)⟩
  | true =>
   have E : Hid (pRep s ere r ⟨i, n, g, d⟩ = pTake 0 (rrep a b r) ⟨oj, n, g, d⟩) := by show _ = _; rw [E0.out, show oi = some (a, b) from EQ.out]; rfl
   have hoj' := hoj.out
   obtain ⟨qq0, qq1, qq2⟩ := cells3 G1.out
   obtain ⟨a0, a1, a2, a3, a4, a5, a6, a7, a8⟩ := cells9 (A3.out)
   go_wp2_with fail
   refine (take_any0 13 y 0 4 a b 0 (some ⟨W3.heap.size, 0, none⟩) 1 1 s ere oj n g d P _ (R3.out.kp ((Kp.refl _).alloc _)) (by omega) (by omega) hn).mono ?_
   rintro e w2 ⟨rfl, r2, k2⟩
   have hsW : w.heap.size + 1 < W3.heap.size := bl_lt B3.out
   have hsP : w0.heap.size ≤ W3.heap.size := K3.out.size
   have R2 := hid r2
   have K2 : Hid (Ks P w0 w2) := (K3.out.kpt ((Kp.refl _).alloc _) hP).trans k2
   have B2 : Hid (w2.heap[w.heap.size + 1]? = some rzo) := bl_ks (bl_alloc B3.out _) (by omega) k2
   have I2 : Hid (Is w2 (fun b => w0.heap.size ≤ b ∧ b ≠ w.heap.size + 1) (rrep a b r) (rxv 4 a b 0 W4.z (.slice (some ⟨W3.heap.size, 0, none⟩) 1 1))) :=
    ((((I3.out.weak (ok' := fun b => w0.heap.size ≤ b ∧ b ≠ w.heap.size + 1) (fun _ hb _ => ⟨hb.1, by omega⟩)).kp ((Kp.refl _).alloc _)).one (cells_new _ _ _ _ _ _ _ _ _) ⟨hsP, by omega⟩ (by simp) 4 a b 0 W4.z).ks k2 (fun _ hb _ => by omega))
   clear r2 k2
   clear qq0 qq1 qq2 a0 a1 a2 a3 a4 a5 a6 a7 a8
   obtain ⟨b0, fb0, b1, fb1, b2, fb2, b3, fb3, b4, fb4, b5, fb5, b6, fb6, b7, fb7, b8, fb8⟩ := cellf9 (B2.out)
   go_wp2_with fail
   refine bodyPost_ret (v := .tuple #[rxv 4 a b 0 W4.z (.slice (some ⟨W3.heap.size, 0, none⟩) 1 1), .int .i64 0]) (rx_ret2 rfl _ _ _ _ _ rfl rfl (bl_set9 B2.out _ _ _ _ _ _ _ _ _) rfl) rfl ?_
   rw [E.out]
   exact ⟨_, rfl, Ret.fin I2.out R2.out K2.out (ks_set9 _ _ _ _ _ _ _ _ _) hP (by omega)⟩
 have E : Hid (pRep s ere r ⟨i, n, g, d⟩ = ⟨r, 0, ⟨i, n, g, d⟩⟩) := by show _ = _; rw [HPR.out, if_neg x10, if_neg x11, if_neg x12, if_neg x13]
 have g10 : ((x : Int) == 10) = false := by simp; omega
 have g11 : ((x : Int) == 11) = false := by simp; omega
 have g12 : ((x : Int) == 12) = false := by simp; omega
 have g13 : ((x : Int) == 13) = false := by simp; omega
 obtain ⟨qq0, qq1, qq2⟩ := cells3 G1.out
 obtain ⟨a0, a1, a2, a3, a4, a5, a6, a7, a8⟩ := cells9 (A1.out)
 obtain ⟨b0, fb0, b1, fb1, b2, fb2, b3, fb3, b4, fb4, b5, fb5, b6, fb6, b7, fb7, b8, fb8⟩ := cellf9 (B1.out)
 go_wp2_with fail
 refine bodyPost_ret (v := .tuple #[rxv k mn mx m t (.slice ad l c), .int .i64 0]) (rx_ret2 rfl _ _ _ _ _ rfl rfl (bl_set9 B1.out _ _ _ _ _ _ _ _ _) rfl) rfl ?_
 rw [E.out]
 exact ⟨_, rfl, Ret.fin (I1.out.weak (fun _ hb _ => ⟨hb.1, by omega⟩)) R1.out K1.out (ks_set9 _ _ _ _ _ _ _ _ _) hP (by omega)⟩
theorem cls_any (l : List UInt8) (w : World) : Calls Tryz.prog 265 #[.string ⟨l.toArray⟩] w fun e w' => ∃ q ok, e = .returned (.tuple #[sv q, .bool ok]) ∧ cls l = (if ok = true then some q else none) ∧ Kp w w' := by
 by_cases halpha : l = [97, 108, 112, 104, 97]
 ·
  subst halpha
  refine (class_alpha w).mono ?_
  rintro e w' ⟨rfl, k⟩
  exact ⟨_, true, rfl, rfl, k⟩
 by_cases hdigit : l = [100, 105, 103, 105, 116]
 ·
  subst hdigit
  refine (class_digit w).mono ?_
  rintro e w' ⟨rfl, k⟩
  exact ⟨_, true, rfl, rfl, k⟩
 by_cases halnum : l = [97, 108, 110, 117, 109]
 ·
  subst halnum
  refine (class_alnum w).mono ?_
  rintro e w' ⟨rfl, k⟩
  exact ⟨_, true, rfl, rfl, k⟩
 by_cases hupper : l = [117, 112, 112, 101, 114]
 ·
  subst hupper
  refine (class_upper w).mono ?_
  rintro e w' ⟨rfl, k⟩
  exact ⟨_, true, rfl, rfl, k⟩
 by_cases hlower : l = [108, 111, 119, 101, 114]
 ·
  subst hlower
  refine (class_lower w).mono ?_
  rintro e w' ⟨rfl, k⟩
  exact ⟨_, true, rfl, rfl, k⟩
 by_cases hspace : l = [115, 112, 97, 99, 101]
 ·
  subst hspace
  refine (class_space w).mono ?_
  rintro e w' ⟨rfl, k⟩
  exact ⟨_, true, rfl, rfl, k⟩
 by_cases hblank : l = [98, 108, 97, 110, 107]
 ·
  subst hblank
  refine (class_blank w).mono ?_
  rintro e w' ⟨rfl, k⟩
  exact ⟨_, true, rfl, rfl, k⟩
 by_cases hpunct : l = [112, 117, 110, 99, 116]
 ·
  subst hpunct
  refine (class_punct w).mono ?_
  rintro e w' ⟨rfl, k⟩
  exact ⟨_, true, rfl, rfl, k⟩
 by_cases hprint : l = [112, 114, 105, 110, 116]
 ·
  subst hprint
  refine (class_print w).mono ?_
  rintro e w' ⟨rfl, k⟩
  exact ⟨_, true, rfl, rfl, k⟩
 by_cases hgraph : l = [103, 114, 97, 112, 104]
 ·
  subst hgraph
  refine (class_graph w).mono ?_
  rintro e w' ⟨rfl, k⟩
  exact ⟨_, true, rfl, rfl, k⟩
 by_cases hcntrl : l = [99, 110, 116, 114, 108]
 ·
  subst hcntrl
  refine (class_cntrl w).mono ?_
  rintro e w' ⟨rfl, k⟩
  exact ⟨_, true, rfl, rfl, k⟩
 by_cases hxdigit : l = [120, 100, 105, 103, 105, 116]
 ·
  subst hxdigit
  refine (class_xdigit w).mono ?_
  rintro e w' ⟨rfl, k⟩
  exact ⟨_, true, rfl, rfl, k⟩
 refine (class_other ⟨l.toArray⟩ ?_ w).mono ?_
 ·
  unfold named
  rw [ByteArray.toList_mk]
  simp only [not_or]
  exact ⟨halpha, hdigit, halnum, hupper, hlower, hspace, hblank, hpunct, hprint, hgraph, hcntrl, hxdigit⟩
 rintro e w' ⟨rfl, k⟩
 refine ⟨_, false, rfl, ?_, k⟩
 unfold cls
 rw [if_neg halpha, if_neg hdigit, if_neg halnum, if_neg hupper, if_neg hlower, if_neg hspace, if_neg hblank, if_neg hpunct, if_neg hprint, if_neg hgraph, if_neg hcntrl, if_neg hxdigit]
 rfl
structure RetS (w0 : World) (P : Nat) (s : ByteArray) (ere : Bool) (o : Option (Nat → Bool) × Nat) (n g d : Nat) (q : Nat → Bool) (ok : Bool) (w' : World) : Prop where
 eq : o.1 = if ok = true then some q else none
 rd : Rd w' P s ere o.2 n g d
 ks : Ks P w0 w'
structure RetSE (w0 : World) (P : Nat) (s : ByteArray) (ere : Bool) (o : Option (Nat → Bool) × Nat) (n g d : Nat) (e : Ending) (w' : World) : Prop where
 ex : ∃ q ok, e = .returned (.tuple #[sv q, .bool ok]) ∧ RetS w0 P s ere o n g d q ok w'
theorem pClass_eq {s : ByteArray} {i : Nat} {nm bh : List UInt8} {cl ok : Bool} {q : Nat → Bool} (hc : Lib.cut (s.data.toList.drop (i + 2)) [58, 93] = (nm, bh, cl)) (hq : cls nm = if ok = true then some q else none) : pClass s i = if cl && ok then (some q, s.size - bh.length) else (none, i) := by
 unfold pClass
 rw [hc]
 cases cl <;> cases ok <;> simp_all
theorem ret2_set {fn : Func} {p u : Tmp} (h : fn.results = #[.cell p 24, .tmp u]) (tmps : Array Value) (w : World) (S : Nat) (q : Nat → Bool) (x : Value)
  (hp : tmps.getD p undef = .pointer (some ⟨S, 0, none⟩)) (hu : tmps.getD u undef = x) (hA : At w S q) : (results fn tmps).run Tryz.prog w = .ok (.tuple #[sv q, x]) w := by
 rw [← hu]; exact ret2_at h tmps w S q hp hA
theorem At.set4z {w : World} {S : Nat} {q : Nat → Bool} (h : At w S q) : At ((((w.setCell ⟨S, 0, none⟩ (.int .u64 0)).setCell ⟨S, 1, none⟩ (.int .u64 0)).setCell ⟨S, 2, none⟩ (.int .u64 0)).setCell ⟨S, 3, none⟩ (.int .u64 0)) S (fun _ => false) := by
 have := h.set4 (fun _ => false)
 simp only [wd_none] at this
 exact this
theorem rclass_any (s : ByteArray) (ere : Bool) (i n g d P : Nat) (w : World) (h : Rd w P s ere i n g d) (hi : i + 2 ≤ s.size) (hs : s.size ≤ 1000000) :
  Calls Tryz.prog 258 #[.pointer (some ⟨P, 0, none⟩)] w fun e w' => RetSE w P s ere (pClass s i) n g d e w' := by
 have R : Hid (Rd w P s ere i n g d) := h
 have hP : P < w.heap.size := h.lt
 clear h
 have gw : IntKind.i64.wrap ((i : Int) + 2) = (i : Int) + 2 := by rw [IntKind.wrap_i64]; omega
 have gl1 : (0 : Int) ≤ (i : Int) + 2 := by omega
 have gl2 : (i : Int) + 2 ≤ (s.size : Int) := by omega
 have es : ∀ w, (Instr.slice 9 (.string s) (some (.int .i64 ((i : Int) + 2))) none none).run Tryz.prog w = .ok (.string (s.extract (i + 2) s.size)) w := by
  intro w
  rw [run_slice_string_from_if w 9 s .i64 ((i : Int) + 2) (by kernel_rfl), if_pos ⟨by omega, by omega⟩, show ((i : Int) + 2).toNat = i + 2 by omega]
 obtain ⟨nm, bh, cl, hc⟩ : ∃ nm bh cl, Lib.cut (s.data.toList.drop (i + 2)) [58, 93] = (nm, bh, cl) := ⟨_, _, _, rfl⟩
 have hbh : bh.length ≤ s.size := by
  have z : s.data.toList.length = s.size := Array.length_toList
  unfold Lib.cut at hc
  split at hc
  ·
   injection hc with _ h2; injection h2 with h3 _; rw [← h3, List.length_drop, List.length_drop]; omega
  ·
   injection hc with _ h2; injection h2 with h3 _; rw [← h3]; exact Nat.zero_le _
 have SC : Hid (∀ (m : Int) (w : World), w.cell? ⟨1, 0, none⟩ = some (.int .i64 m) → Calls Tryz.prog 264 #[.string (s.extract (i + 2) s.size), .string ⟨#[58, 93]⟩] w fun e w' => e = .returned (.tuple #[.string ⟨nm.toArray⟩, .string ⟨bh.toArray⟩, .bool cl]) ∧ ∃ n, w' = w.drewN n) := by
  intro m w hm
  have := Tryz.strings_Cut (s.extract (i + 2) s.size) ⟨#[58, 93]⟩ m w (by rw [ext_size s (i + 2) hi]; omega) hm
  rw [Lib.extract_to_end] at this
  rw [show (⟨#[58, 93]⟩ : ByteArray).data.toList = [58, 93] from rfl, hc] at this
  exact this
 have HC := hid hc
 clear hc
 go_enter Tryz.func258, Tryz.ntmps258
 go_upto_region 1 with fail
 refine opq (fun W0 => Rd W0 P s ere i n g d ∧ At W0 w.heap.size (fun _ => false) ∧ Kp w W0) ⟨by exact R.out.kp kpt, by exact At.zero _, by exact kpt⟩ ?_
 rintro W0 ⟨xR0, xB0, xK0⟩
 have R0 := hidT xR0
 have B0 := hidT xB0
 have K0 := hidT xK0
 clear xR0 xB0 xK0
 clear R
 go_cut [4, 5, 6] (fun a b c wc => a = .string ⟨nm.toArray⟩ ∧ b = .string ⟨bh.toArray⟩ ∧ c = .bool cl ∧ Kp W0 wc)
 case first =>
  have Q0 : Kp W0 W0.drew := (Kp.refl _).drew
  have MK : Hid (∀ W, Kp W0 W → W.cell? ⟨P, 0, none⟩ = some (.string s) ∧ W.cell? ⟨P, 2, none⟩ = some (.int .i64 (i : Int)) ∧ Hid (Kp W0 W)) := fun W k => ⟨(R0.out.kp k).cells.1, (R0.out.kp k).cells.2.2.1, k⟩
  refine wp_region_noPanic ?_
  refine hdrew MK Q0 (fun hH => ?_)
  have KQ := Q0
  refine tk 0 (some 10) (.move (.tmp 0)) 142 (v := ?v0a1) rfl ?h0a1 hH ?_
  case h0a1 => intro _ _; go_simp; try with_reducible rfl
  try simp only [ps]
  refine tk 1 (some 11) (.nilCheck (.tmp 10)) 0 (v := ?v1a2) rfl ?h1a2 hH ?_
  case h1a2 => intro _ _; go_simp; try with_reducible rfl
  try simp only [ps]
  refine tk 2 (some 12) (.fieldAddr 99 (.tmp 11) 0) 0 (v := ?v2a3) rfl ?h2a3 hH ?_
  case h2a3 => intro _ _; go_simp; try with_reducible rfl
  try simp only [ps]
  refine tk 3 (some 13) (.load 9 (.tmp 12)) 9 (v := ?v3a4) rfl ?h3a4 hH ?_
  case h3a4 => intro _ _; go_simp; try with_reducible rfl
  try simp only [ps]
  refine tk 4 (some 14) (.move (.tmp 0)) 142 (v := ?v4a5) rfl ?h4a5 hH ?_
  case h4a5 => intro _ _; go_simp; try with_reducible rfl
  try simp only [ps]
  refine tk 5 (some 15) (.nilCheck (.tmp 14)) 0 (v := ?v5a6) rfl ?h5a6 hH ?_
  case h5a6 => intro _ _; go_simp; try with_reducible rfl
  try simp only [ps]
  refine tk 6 (some 16) (.fieldAddr 99 (.tmp 15) 2) 0 (v := ?v6a7) rfl ?h6a7 hH ?_
  case h6a7 => intro _ _; go_simp; try with_reducible rfl
  try simp only [ps]
  refine tk 7 (some 17) (.load 3 (.tmp 16)) 3 (v := ?v7a8) rfl ?h7a8 hH ?_
  case h7a8 => intro _ _; go_simp; try with_reducible rfl
  try simp only [ps]
  refine tk 8 (some 18) (.binOp .add 3 (.tmp 17) (.const (.int .i64 2)) 3) 3 (v := ?v8a9) rfl ?h8a9 hH ?_
  case h8a9 => intro _ _; go_simp; try with_reducible rfl
  try simp only [ps]
  refine tk 9 (some 19) (.slice 9 (.tmp 13) (some (.tmp 18)) none none) 9 (v := ?v9a10) rfl ?h9a10 hH ?_
  case h9a10 => intro _ _; go_simp; try with_reducible rfl
  try simp only [ps]
  refine wpAnyH_ready (rs := [10]) (by kernel_rfl) (by simp) ?_
  refine AllReadyH.cons (o := { dst := some 20, op := .call { callee := .value (.func 264), args := #[.tmp 19, .const (.string { data := #[58, 93] })], argTypes := #[9, 9] }, type := 272, pos := "bracket.go:59", after := _, guard := none }) rfl (fun K hKq => ?_) AllReadyH.nil
  obtain ⟨mm, hmm⟩ := (R0.out.kp KQ).v
  have HM := hid hmm
  clear hmm
  go_simp
  refine (SC.out mm _ HM.out).mono ?_
  rintro e yy ⟨rfl, nn, rfl⟩
  refine hKq.out _ _ (MK.out _ (KQ.drewN nn)) (fun hN => ?_)
  clear HM mm
  clear hKq K hH KQ
  have hH := hN
  clear hN
  have KQ := hH.2.2.out
  try simp only [ps]
  refine tk 11 (some 9) (.move (.tmp 20)) 272 (v := ?v11a11) rfl ?h11a11 hH ?_
  case h11a11 => intro _ _; go_simp; try with_reducible rfl
  try simp only [ps]
  refine tk 12 (some 21) (.extract (.tmp 9) 0) 9 (v := ?v12a12) rfl ?h12a12 hH ?_
  case h12a12 => intro _ _; go_simp; try with_reducible rfl
  try simp only [ps]
  refine tk 13 (some 22) (.extract (.tmp 9) 1) 9 (v := ?v13a13) rfl ?h13a13 hH ?_
  case h13a13 => intro _ _; go_simp; try with_reducible rfl
  try simp only [ps]
  refine tk 14 (some 23) (.extract (.tmp 9) 2) 4 (v := ?v14a14) rfl ?h14a14 hH ?_
  case h14a14 => intro _ _; go_simp; try with_reducible rfl
  try simp only [ps]
  refine tk 15 (some 4) (.assign (.tmp 21)) 9 (v := ?v15a15) rfl ?h15a15 hH ?_
  case h15a15 => intro _ _; go_simp; try with_reducible rfl
  try simp only [ps]
  refine tk 16 (some 5) (.assign (.tmp 22)) 9 (v := ?v16a16) rfl ?h16a16 hH ?_
  case h16a16 => intro _ _; go_simp; try with_reducible rfl
  try simp only [ps]
  refine tk 17 (some 6) (.assign (.tmp 23)) 4 (v := ?v17a17) rfl ?h17a17 hH ?_
  case h17a17 => intro _ _; go_simp; try with_reducible rfl
  try simp only [ps]
  refine wpAnyH_done (by kernel_rfl) ?_ _
  refine NoPanic.normal ?_
  go_wp2_with fail
  go_meet
  case rel => exact ⟨rfl, rfl, rfl, KQ⟩
 case rest =>
  obtain ⟨rfl, rfl, rfl, k1⟩ := hcut
  rename World => W1
  have hsz : w.heap.size < W0.heap.size := B0.out.lt
  have R1 : Hid (Rd W1 P s ere i n g d) := R0.out.kp k1
  have B1 : Hid (At W1 w.heap.size (fun _ => false)) := B0.out.kp k1
  have K1 : Hid (Kp w W1) := K0.out.trans k1
  have hsz1 := k1.size
  clear k1 R0 B0 K0 es
  go_wp2_with fail
  refine (cls_any nm _).mono ?_
  rintro e w2 ⟨q, ok, rfl, hq, k2⟩
  have hsz2 := k2.size
  have HQ := hid hq
  have KQ2 := hid k2
  clear hq k2
  go_upto_region 3 with fail
  refine opq (fun W2 => Rd W2 P s ere i n g d ∧ At W2 w.heap.size (fun _ => false) ∧ At W2 w2.heap.size q ∧ Kp w W2) ⟨by exact R1.out.kp (KQ2.out.trans kpt), by exact B1.out.kp (KQ2.out.trans kpt), by exact At.new _ _, by exact K1.out.trans (KQ2.out.trans kpt)⟩ ?_
  rintro W2 ⟨xR2, xB2, xQ2, xK2⟩
  have R2 := hidT xR2
  have B2 := hidT xB2
  have Q2 := hidT xQ2
  have K2 := hidT xK2
  clear xR2 xB2 xQ2 xK2
  clear R1 B1 K1 KQ2
  have hsz3 : w2.heap.size < W2.heap.size := Q2.out.lt
  obtain ⟨b0, b1, b2, b3⟩ := B2.out.cells
  have fb0 := B2.out.frozen 0
  have fb1 := B2.out.frozen 1
  have fb2 := B2.out.frozen 2
  have fb3 := B2.out.frozen 3
  obtain ⟨q0, q1, q2, q3⟩ := Q2.out.cells
  have p0 := R2.out.cells.1
  have p2 := R2.out.cells.2.2.1
  have fp2 := bl_frozen R2.out.b 2
  have gs : IntKind.i64.wrap ((s.size : Int) - (bh.length : Int)) = (s.size : Int) - (bh.length : Int) := by rw [IntKind.wrap_i64]; omega
  cases cl with
  | false =>
   have E : Hid (pClass s i = (none, i)) := by show _ = _; rw [pClass_eq HC.out HQ.out]; rfl
   go_wp2_with fail
   refine bodyPost_ret (v := .tuple #[sv (fun _ => false), .bool false]) (ret2_set rfl _ _ _ _ _ rfl rfl (B2.out.set4z)) rfl ?_
   refine ⟨fun _ => false, false, rfl, by rw [E.out]; rfl, by rw [E.out]; exact R2.out.ks (ks_set4 _ _ _ _) (by omega) (by omega), (K2.out.ks (Nat.le_of_lt hP)).off (ks_set4 _ _ _ _) (by omega) hP⟩
  | true =>
   cases ok with
   | false =>
    have E : Hid (pClass s i = (none, i)) := by show _ = _; rw [pClass_eq HC.out HQ.out]; rfl
    go_wp2_with fail
    refine bodyPost_ret (v := .tuple #[sv (fun _ => false), .bool false]) (ret2_set rfl _ _ _ _ _ rfl rfl (B2.out.set4z)) rfl ?_
    refine ⟨fun _ => false, false, rfl, by rw [E.out]; rfl, by rw [E.out]; exact R2.out.ks (ks_set4 _ _ _ _) (by omega) (by omega), (K2.out.ks (Nat.le_of_lt hP)).off (ks_set4 _ _ _ _) (by omega) hP⟩
   | true =>
    have E : Hid (pClass s i = (some q, s.size - bh.length)) := by show _ = _; rw [pClass_eq HC.out HQ.out]; rfl
    have ge : ((s.size - bh.length : Nat) : Int) = (s.size : Int) - (bh.length : Int) := by omega
    go_wp2_with fail
    refine bodyPost_ret (v := .tuple #[sv q, .bool true]) (ret2_set rfl _ _ _ _ _ rfl rfl (At.set4 (bl_set B2.out (by omega) _) q)) rfl ?_
    refine ⟨q, true, rfl, by rw [E.out]; rfl, ?_, (((K2.out.ks (Nat.le_of_lt hP)).set 2 _).off (ks_set4 _ _ _ _) (by omega) hP)⟩
    rw [E.out]
    refine Rd.ks ?_ (ks_set4 _ _ _ _) (by omega) (by omega)
    have := R2.out.at (s.size - bh.length)
    rw [ge] at this
    exact this
end Go.Proofs.YtigdmebijbaofaaGreatDoor
