/-
  A repetition behind an expression.
-/
import Derived.Test.YtikmgckefbjbkaaGreatDoorRetE
import Derived.Test.YtikmgckefbjbkaaGreatDoorInt
namespace Go.Proofs.YtikmgckefbjbkaaGreatDoor
open Go.RowKit
attribute [local go_sem] field91

def repInt (r : Rx) (o : Option (Int × Int) × Nat) (n g d : Nat) : Out := match o with
  | (none, j) => ⟨rx0, 1, ⟨j, n, g, d⟩⟩
  | (some (a, b), j) => pTake 0 (rrep a b r) ⟨j, n, g, d⟩
theorem pInt_le (s : ByteArray) (ere : Bool) (i z : Nat) (h : i + z ≤ s.size) : (pInt s ere i z).2 ≤ s.size := by
  have h1 := pNum_le s (i + z) h
  unfold pInt
  dsimp only
  split
  · have h2 := pHigh_le s (pNum s (i + z)).1 (pNum s (i + z)).2.2 h1.2.1 h1.2.2
    split
    · rename_i hp
      have h3 := pfx_le hp h2.2.1
      split
      · exact h3
      · show i ≤ s.size; omega
    · exact h2.2.1
  · exact h1.2.1

set_option maxHeartbeats 2000000 in
set_option maxRecDepth 100000 in
theorem repeated_any (r : Rx) (k mn mx m : Int) (t : W4) (ad : Option Addr) (l c : Nat) (s : ByteArray) (ere : Bool) (i n g d P : Nat) (w0 w : World) (h : Rd w P s ere i n g d) (hI : Is w (fun b => w0.heap.size ≤ b) r (rxv k mn mx m t (.slice ad l c))) (hk : Ks P w0 w) (hP : P < w0.heap.size) (hi : i ≤ s.size) (hs : s.size ≤ 1000000) (hn : n ≤ 1000000000) :
    Calls Tryz.prog 81 #[.pointer (some ⟨P, 0, none⟩), rxv k mn mx m t (.slice ad l c)] w fun e w' => RetE w0 P s ere (pRep s ere r ⟨i, n, g, d⟩) e w' := by
  have R : Hid (Rd w P s ere i n g d) := h
  have HI : Hid (Is w (fun b => w0.heap.size ≤ b ∧ b < w.heap.size) r (rxv k mn mx m t (.slice ad l c))) := hI.weak (fun _ hb hl => ⟨hb, hl⟩)
  have HK := hid hk
  have hsw := hk.size
  clear h hI hk
  obtain ⟨x, y, z, hg⟩ : ∃ x y z, sgn s ere i = (x, y, z) := ⟨_, _, _, rfl⟩
  have hz := sgn_sz s ere i hi
  rw [hg] at hz
  obtain ⟨hz1, hz2, _⟩ := hz
  simp only at hz1 hz2
  have HG := hid hg
  have hpr : pRep s ere r ⟨i, n, g, d⟩ = if x = 10 then pTake z (rrep 0 (-1) r) ⟨i, n, g, d⟩ else if x = 11 then pTake z (rrep 1 (-1) r) ⟨i, n, g, d⟩ else if x = 12 then pTake z (rrep 0 1 r) ⟨i, n, g, d⟩ else if x = 13 then repInt r (pInt s ere i z) n g d else ⟨r, 0, ⟨i, n, g, d⟩⟩ := by
    unfold pRep; rw [hg]; rfl
  have HPR := hid hpr
  clear hg hpr
  go_enter Tryz.func81, Tryz.ntmps81
  go_upto_region 1 with fail
  refine opq (fun W0 => Rd W0 P s ere i n g d ∧ W0.heap[w.heap.size]? = some (rxo k mn mx m t (.slice ad l c)) ∧ W0.heap[(w.heap.size + 1)]? = some rzo ∧ Is W0 (fun b => w0.heap.size ≤ b ∧ b < w.heap.size) r (rxv k mn mx m t (.slice ad l c)) ∧ Ks P w0 W0) ⟨by exact R.out.kp (by repeat (first | exact Kp.refl _ | refine Kp.alloc ?_ _ | refine Kp.drew ?_ | refine Kp.drewN _ ?_)), by (first | exact last_at _ _ _ (by simp) | (refine bl_alloc ?_ _; first | exact last_at _ _ _ (by simp) | (refine bl_alloc ?_ _; first | exact last_at _ _ _ (by simp) | (refine bl_alloc ?_ _; exact last_at _ _ _ (by simp))))), by (first | exact last_at _ _ _ (by simp) | (refine bl_alloc ?_ _; first | exact last_at _ _ _ (by simp) | (refine bl_alloc ?_ _; first | exact last_at _ _ _ (by simp) | (refine bl_alloc ?_ _; exact last_at _ _ _ (by simp))))), by exact HI.out.kp (by repeat (first | exact Kp.refl _ | refine Kp.alloc ?_ _ | refine Kp.drew ?_ | refine Kp.drewN _ ?_)), by exact HK.out.kpt (by repeat (first | exact Kp.refl _ | refine Kp.alloc ?_ _ | refine Kp.drew ?_ | refine Kp.drewN _ ?_)) hP⟩ ?_
  rintro W0 ⟨xR0, xA0, xB0, xI0, xK0⟩
  have R0 : Hid (Rd W0 P s ere i n g d) := xR0
  have A0 : Hid (W0.heap[w.heap.size]? = some (rxo k mn mx m t (.slice ad l c))) := xA0
  have B0 : Hid (W0.heap[(w.heap.size + 1)]? = some rzo) := xB0
  have I0 : Hid (Is W0 (fun b => w0.heap.size ≤ b ∧ b < w.heap.size) r (rxv k mn mx m t (.slice ad l c))) := xI0
  have K0 : Hid (Ks P w0 W0) := xK0
  clear xR0 xA0 xB0 xI0 xK0
  clear R HI HK
  go_wp2_with fail
  refine (sign_any s ere i n g d P _ R0.out hi hs).mono ?_
  rintro e w1 ⟨rfl, kq⟩
  rw [HG.out, sg3]
  have hs1 : w.heap.size + 1 < w1.heap.size := bl_lt (bl_kp B0.out kq)
  have KQ : Hid (Kp W0 w1) := kq
  clear kq
  go_upto_region 2 with fail
  refine opq (fun W1 => Rd W1 P s ere i n g d ∧ W1.heap[w.heap.size]? = some (rxo k mn mx m t (.slice ad l c)) ∧ W1.heap[(w.heap.size + 1)]? = some rzo ∧ W1.heap[w1.heap.size]? = some (sgo x y z) ∧ Is W1 (fun b => w0.heap.size ≤ b ∧ b < w.heap.size) r (rxv k mn mx m t (.slice ad l c)) ∧ Ks P w0 W1) ⟨by exact R0.out.kp (KQ.out.trans (by repeat (first | exact Kp.refl _ | refine Kp.alloc ?_ _ | refine Kp.drew ?_ | refine Kp.drewN _ ?_))), by exact bl_kp A0.out (KQ.out.trans (by repeat (first | exact Kp.refl _ | refine Kp.alloc ?_ _ | refine Kp.drew ?_ | refine Kp.drewN _ ?_))), by exact bl_kp B0.out (KQ.out.trans (by repeat (first | exact Kp.refl _ | refine Kp.alloc ?_ _ | refine Kp.drew ?_ | refine Kp.drewN _ ?_))), by (first | exact last_at _ _ _ (by simp) | (refine bl_alloc ?_ _; first | exact last_at _ _ _ (by simp) | (refine bl_alloc ?_ _; first | exact last_at _ _ _ (by simp) | (refine bl_alloc ?_ _; exact last_at _ _ _ (by simp))))), by exact I0.out.kp (KQ.out.trans (by repeat (first | exact Kp.refl _ | refine Kp.alloc ?_ _ | refine Kp.drew ?_ | refine Kp.drewN _ ?_))), by exact K0.out.kpt (KQ.out.trans (by repeat (first | exact Kp.refl _ | refine Kp.alloc ?_ _ | refine Kp.drew ?_ | refine Kp.drewN _ ?_))) hP⟩ ?_
  rintro W1 ⟨xR1, xA1, xB1, xG1, xI1, xK1⟩
  have R1 : Hid (Rd W1 P s ere i n g d) := xR1
  have A1 : Hid (W1.heap[w.heap.size]? = some (rxo k mn mx m t (.slice ad l c))) := xA1
  have B1 : Hid (W1.heap[(w.heap.size + 1)]? = some rzo) := xB1
  have G1 : Hid (W1.heap[w1.heap.size]? = some (sgo x y z)) := xG1
  have I1 : Hid (Is W1 (fun b => w0.heap.size ≤ b ∧ b < w.heap.size) r (rxv k mn mx m t (.slice ad l c))) := xI1
  have K1 : Hid (Ks P w0 W1) := xK1
  clear xR1 xA1 xB1 xG1 xI1 xK1
  clear R0 A0 B0 I0 K0 KQ
  have hs2 : w1.heap.size < W1.heap.size := bl_lt G1.out
  by_cases x10 : x = 10
  · subst x10
    have E : Hid (pRep s ere r ⟨i, n, g, d⟩ = pTake z (rrep 0 (-1) r) ⟨i, n, g, d⟩) := by show _ = _; rw [HPR.out, if_pos rfl]
    have qq0 := bl_cell G1.out 0 _ rfl
    have qq1 := bl_cell G1.out 1 _ rfl
    have qq2 := bl_cell G1.out 2 _ rfl
    have a0 := bl_cell (A1.out) 0 _ rfl
    have a1 := bl_cell (A1.out) 1 _ rfl
    have a2 := bl_cell (A1.out) 2 _ rfl
    have a3 := bl_cell (A1.out) 3 _ rfl
    have a4 := bl_cell (A1.out) 4 _ rfl
    have a5 := bl_cell (A1.out) 5 _ rfl
    have a6 := bl_cell (A1.out) 6 _ rfl
    have a7 := bl_cell (A1.out) 7 _ rfl
    have a8 := bl_cell (A1.out) 8 _ rfl
    go_wp2_with fail
    refine (take_any0 10 y z 4 0 (-1) 0 (some ⟨W1.heap.size, 0, none⟩) 1 1 s ere i n g d P _ (R1.out.kp ((Kp.refl _).alloc _)) (by omega) (by omega) hn).mono ?_
    rintro e w2 ⟨rfl, r2, k2⟩
    have hsW : w.heap.size + 1 < W1.heap.size := bl_lt B1.out
    have hsP : w0.heap.size ≤ W1.heap.size := K1.out.size
    have R2 := hid r2
    have K2 : Hid (Ks P w0 w2) := (K1.out.kpt ((Kp.refl _).alloc _) hP).trans k2
    have B2 : Hid (w2.heap[w.heap.size + 1]? = some rzo) := bl_ks (bl_alloc B1.out _) (by omega) k2
    have I2 : Hid (Is w2 (fun b => w0.heap.size ≤ b ∧ b ≠ w.heap.size + 1) (rrep 0 (-1) r) (rxv 4 0 (-1) 0 W4.z (.slice (some ⟨W1.heap.size, 0, none⟩) 1 1))) :=
      ((((I1.out.weak (ok' := fun b => w0.heap.size ≤ b ∧ b ≠ w.heap.size + 1) (fun _ hb _ => ⟨hb.1, by omega⟩)).kp ((Kp.refl _).alloc _)).one (cells_new _ _ _ _ _ _ _ _ _) ⟨hsP, by omega⟩ (by simp) 4 0 (-1) 0 W4.z).ks k2 (fun _ hb _ => by omega))
    clear r2 k2
    clear qq0 qq1 qq2 a0 a1 a2 a3 a4 a5 a6 a7 a8
    have b0 := bl_cell (B2.out) 0 _ rfl
    have fb0 := bl_frozen (B2.out) 0
    have b1 := bl_cell (B2.out) 1 _ rfl
    have fb1 := bl_frozen (B2.out) 1
    have b2 := bl_cell (B2.out) 2 _ rfl
    have fb2 := bl_frozen (B2.out) 2
    have b3 := bl_cell (B2.out) 3 _ rfl
    have fb3 := bl_frozen (B2.out) 3
    have b4 := bl_cell (B2.out) 4 _ rfl
    have fb4 := bl_frozen (B2.out) 4
    have b5 := bl_cell (B2.out) 5 _ rfl
    have fb5 := bl_frozen (B2.out) 5
    have b6 := bl_cell (B2.out) 6 _ rfl
    have fb6 := bl_frozen (B2.out) 6
    have b7 := bl_cell (B2.out) 7 _ rfl
    have fb7 := bl_frozen (B2.out) 7
    have b8 := bl_cell (B2.out) 8 _ rfl
    have fb8 := bl_frozen (B2.out) 8
    go_wp2_with fail
    refine bodyPost_ret (v := .tuple #[rxv 4 0 (-1) 0 W4.z (.slice (some ⟨W1.heap.size, 0, none⟩) 1 1), .int .i64 0]) (rx_ret2 rfl _ _ _ _ _ rfl rfl (bl_set9 B2.out _ _ _ _ _ _ _ _ _) rfl) rfl ?_
    rw [E.out]
    exact ⟨_, rfl, Ret.fin I2.out R2.out K2.out (ks_set9 _ _ _ _ _ _ _ _ _) hP (by omega)⟩
  by_cases x11 : x = 11
  · subst x11
    have E : Hid (pRep s ere r ⟨i, n, g, d⟩ = pTake z (rrep 1 (-1) r) ⟨i, n, g, d⟩) := by show _ = _; rw [HPR.out, if_neg (by omega), if_pos rfl]
    have qq0 := bl_cell G1.out 0 _ rfl
    have qq1 := bl_cell G1.out 1 _ rfl
    have qq2 := bl_cell G1.out 2 _ rfl
    have a0 := bl_cell (A1.out) 0 _ rfl
    have a1 := bl_cell (A1.out) 1 _ rfl
    have a2 := bl_cell (A1.out) 2 _ rfl
    have a3 := bl_cell (A1.out) 3 _ rfl
    have a4 := bl_cell (A1.out) 4 _ rfl
    have a5 := bl_cell (A1.out) 5 _ rfl
    have a6 := bl_cell (A1.out) 6 _ rfl
    have a7 := bl_cell (A1.out) 7 _ rfl
    have a8 := bl_cell (A1.out) 8 _ rfl
    go_wp2_with fail
    refine (take_any0 11 y z 4 1 (-1) 0 (some ⟨W1.heap.size, 0, none⟩) 1 1 s ere i n g d P _ (R1.out.kp ((Kp.refl _).alloc _)) (by omega) (by omega) hn).mono ?_
    rintro e w2 ⟨rfl, r2, k2⟩
    have hsW : w.heap.size + 1 < W1.heap.size := bl_lt B1.out
    have hsP : w0.heap.size ≤ W1.heap.size := K1.out.size
    have R2 := hid r2
    have K2 : Hid (Ks P w0 w2) := (K1.out.kpt ((Kp.refl _).alloc _) hP).trans k2
    have B2 : Hid (w2.heap[w.heap.size + 1]? = some rzo) := bl_ks (bl_alloc B1.out _) (by omega) k2
    have I2 : Hid (Is w2 (fun b => w0.heap.size ≤ b ∧ b ≠ w.heap.size + 1) (rrep 1 (-1) r) (rxv 4 1 (-1) 0 W4.z (.slice (some ⟨W1.heap.size, 0, none⟩) 1 1))) :=
      ((((I1.out.weak (ok' := fun b => w0.heap.size ≤ b ∧ b ≠ w.heap.size + 1) (fun _ hb _ => ⟨hb.1, by omega⟩)).kp ((Kp.refl _).alloc _)).one (cells_new _ _ _ _ _ _ _ _ _) ⟨hsP, by omega⟩ (by simp) 4 1 (-1) 0 W4.z).ks k2 (fun _ hb _ => by omega))
    clear r2 k2
    clear qq0 qq1 qq2 a0 a1 a2 a3 a4 a5 a6 a7 a8
    have b0 := bl_cell (B2.out) 0 _ rfl
    have fb0 := bl_frozen (B2.out) 0
    have b1 := bl_cell (B2.out) 1 _ rfl
    have fb1 := bl_frozen (B2.out) 1
    have b2 := bl_cell (B2.out) 2 _ rfl
    have fb2 := bl_frozen (B2.out) 2
    have b3 := bl_cell (B2.out) 3 _ rfl
    have fb3 := bl_frozen (B2.out) 3
    have b4 := bl_cell (B2.out) 4 _ rfl
    have fb4 := bl_frozen (B2.out) 4
    have b5 := bl_cell (B2.out) 5 _ rfl
    have fb5 := bl_frozen (B2.out) 5
    have b6 := bl_cell (B2.out) 6 _ rfl
    have fb6 := bl_frozen (B2.out) 6
    have b7 := bl_cell (B2.out) 7 _ rfl
    have fb7 := bl_frozen (B2.out) 7
    have b8 := bl_cell (B2.out) 8 _ rfl
    have fb8 := bl_frozen (B2.out) 8
    go_wp2_with fail
    refine bodyPost_ret (v := .tuple #[rxv 4 1 (-1) 0 W4.z (.slice (some ⟨W1.heap.size, 0, none⟩) 1 1), .int .i64 0]) (rx_ret2 rfl _ _ _ _ _ rfl rfl (bl_set9 B2.out _ _ _ _ _ _ _ _ _) rfl) rfl ?_
    rw [E.out]
    exact ⟨_, rfl, Ret.fin I2.out R2.out K2.out (ks_set9 _ _ _ _ _ _ _ _ _) hP (by omega)⟩
  by_cases x12 : x = 12
  · subst x12
    have E : Hid (pRep s ere r ⟨i, n, g, d⟩ = pTake z (rrep 0 1 r) ⟨i, n, g, d⟩) := by show _ = _; rw [HPR.out, if_neg (by omega), if_neg (by omega), if_pos rfl]
    have qq0 := bl_cell G1.out 0 _ rfl
    have qq1 := bl_cell G1.out 1 _ rfl
    have qq2 := bl_cell G1.out 2 _ rfl
    have a0 := bl_cell (A1.out) 0 _ rfl
    have a1 := bl_cell (A1.out) 1 _ rfl
    have a2 := bl_cell (A1.out) 2 _ rfl
    have a3 := bl_cell (A1.out) 3 _ rfl
    have a4 := bl_cell (A1.out) 4 _ rfl
    have a5 := bl_cell (A1.out) 5 _ rfl
    have a6 := bl_cell (A1.out) 6 _ rfl
    have a7 := bl_cell (A1.out) 7 _ rfl
    have a8 := bl_cell (A1.out) 8 _ rfl
    go_wp2_with fail
    refine (take_any0 12 y z 4 0 1 0 (some ⟨W1.heap.size, 0, none⟩) 1 1 s ere i n g d P _ (R1.out.kp ((Kp.refl _).alloc _)) (by omega) (by omega) hn).mono ?_
    rintro e w2 ⟨rfl, r2, k2⟩
    have hsW : w.heap.size + 1 < W1.heap.size := bl_lt B1.out
    have hsP : w0.heap.size ≤ W1.heap.size := K1.out.size
    have R2 := hid r2
    have K2 : Hid (Ks P w0 w2) := (K1.out.kpt ((Kp.refl _).alloc _) hP).trans k2
    have B2 : Hid (w2.heap[w.heap.size + 1]? = some rzo) := bl_ks (bl_alloc B1.out _) (by omega) k2
    have I2 : Hid (Is w2 (fun b => w0.heap.size ≤ b ∧ b ≠ w.heap.size + 1) (rrep 0 1 r) (rxv 4 0 1 0 W4.z (.slice (some ⟨W1.heap.size, 0, none⟩) 1 1))) :=
      ((((I1.out.weak (ok' := fun b => w0.heap.size ≤ b ∧ b ≠ w.heap.size + 1) (fun _ hb _ => ⟨hb.1, by omega⟩)).kp ((Kp.refl _).alloc _)).one (cells_new _ _ _ _ _ _ _ _ _) ⟨hsP, by omega⟩ (by simp) 4 0 1 0 W4.z).ks k2 (fun _ hb _ => by omega))
    clear r2 k2
    clear qq0 qq1 qq2 a0 a1 a2 a3 a4 a5 a6 a7 a8
    have b0 := bl_cell (B2.out) 0 _ rfl
    have fb0 := bl_frozen (B2.out) 0
    have b1 := bl_cell (B2.out) 1 _ rfl
    have fb1 := bl_frozen (B2.out) 1
    have b2 := bl_cell (B2.out) 2 _ rfl
    have fb2 := bl_frozen (B2.out) 2
    have b3 := bl_cell (B2.out) 3 _ rfl
    have fb3 := bl_frozen (B2.out) 3
    have b4 := bl_cell (B2.out) 4 _ rfl
    have fb4 := bl_frozen (B2.out) 4
    have b5 := bl_cell (B2.out) 5 _ rfl
    have fb5 := bl_frozen (B2.out) 5
    have b6 := bl_cell (B2.out) 6 _ rfl
    have fb6 := bl_frozen (B2.out) 6
    have b7 := bl_cell (B2.out) 7 _ rfl
    have fb7 := bl_frozen (B2.out) 7
    have b8 := bl_cell (B2.out) 8 _ rfl
    have fb8 := bl_frozen (B2.out) 8
    go_wp2_with fail
    refine bodyPost_ret (v := .tuple #[rxv 4 0 1 0 W4.z (.slice (some ⟨W1.heap.size, 0, none⟩) 1 1), .int .i64 0]) (rx_ret2 rfl _ _ _ _ _ rfl rfl (bl_set9 B2.out _ _ _ _ _ _ _ _ _) rfl) rfl ?_
    rw [E.out]
    exact ⟨_, rfl, Ret.fin I2.out R2.out K2.out (ks_set9 _ _ _ _ _ _ _ _ _) hP (by omega)⟩
  by_cases x13 : x = 13
  · subst x13
    obtain ⟨oi, oj, ho⟩ : ∃ oi oj, pInt s ere i z = (oi, oj) := ⟨_, _, rfl⟩
    have HO := hid ho
    clear ho
    have E0 : Hid (pRep s ere r ⟨i, n, g, d⟩ = repInt r (oi, oj) n g d) := by
      show _ = _
      rw [HPR.out, if_neg (by omega), if_neg (by omega), if_neg (by omega), if_pos rfl, HO.out]
    have hoj : Hid (oj ≤ s.size) := by
      have := pInt_le s ere i z hz1
      rw [HO.out] at this
      exact this
    have qq0 := bl_cell G1.out 0 _ rfl
    have qq1 := bl_cell G1.out 1 _ rfl
    have qq2 := bl_cell G1.out 2 _ rfl
    have a0 := bl_cell (A1.out) 0 _ rfl
    have a1 := bl_cell (A1.out) 1 _ rfl
    have a2 := bl_cell (A1.out) 2 _ rfl
    have a3 := bl_cell (A1.out) 3 _ rfl
    have a4 := bl_cell (A1.out) 4 _ rfl
    have a5 := bl_cell (A1.out) 5 _ rfl
    have a6 := bl_cell (A1.out) 6 _ rfl
    have a7 := bl_cell (A1.out) 7 _ rfl
    have a8 := bl_cell (A1.out) 8 _ rfl
    go_wp2_with fail
    refine (interval_any 13 y z s ere i n g d P _ R1.out hz1 hs).mono ?_
    rintro e W2 ⟨⟨a, b, ok, rfl, r2⟩⟩
    rw [HO.out] at r2
    have EQ := hid r2.eq
    have R2 : Hid (Rd W2 P s ere oj n g d) := r2.rd
    have k2 := r2.ks
    have hsz0 := K1.out.size
    have A2 : Hid (W2.heap[w.heap.size]? = some (rxo k mn mx m t (.slice ad l c))) := bl_ks A1.out (by omega) k2
    have B2 : Hid (W2.heap[w.heap.size + 1]? = some rzo) := bl_ks B1.out (by omega) k2
    have G2 : Hid (W2.heap[w1.heap.size]? = some (sgo 13 y z)) := bl_ks G1.out (by omega) k2
    have I2 : Hid (Is W2 (fun b => w0.heap.size ≤ b ∧ b < w.heap.size) r (rxv k mn mx m t (.slice ad l c))) := I1.out.ks k2 (fun _ hb _ => by omega)
    have K2 : Hid (Ks P w0 W2) := K1.out.trans k2
    clear r2 k2 R1 A1 B1 G1 I1 K1
    clear qq0 qq1 qq2 a0 a1 a2 a3 a4 a5 a6 a7 a8
    have gq2 := bl_frozen G2.out 2
    have gc2 := bl_cell G2.out 2 _ rfl
    go_upto_region 13 with fail
    clear gq2 gc2
    refine opq (fun W3 => Rd W3 P s ere oj n g d ∧ W3.heap[w.heap.size]? = some (rxo k mn mx m t (.slice ad l c)) ∧ W3.heap[(w.heap.size + 1)]? = some rzo ∧ W3.heap[w1.heap.size]? = some (sgo 13 y 0) ∧ Is W3 (fun b => w0.heap.size ≤ b ∧ b < w.heap.size) r (rxv k mn mx m t (.slice ad l c)) ∧ Ks P w0 W3) ⟨by exact R2.out.ks ((Ks.refl _ _).set 2 _) (by omega) (by omega), by exact bl_set A2.out (by omega) _, by exact bl_set B2.out (by omega) _, by exact bl_put G2.out _, by exact I2.out.ks ((Ks.refl _ _).set 2 _) (fun _ hb _ => by omega), by exact K2.out.off ((Ks.refl _ _).set 2 _) (by omega) hP⟩ ?_
    rintro W3 ⟨xR3, xA3, xB3, xG1, xI3, xK3⟩
    have R3 : Hid (Rd W3 P s ere oj n g d) := xR3
    have A3 : Hid (W3.heap[w.heap.size]? = some (rxo k mn mx m t (.slice ad l c))) := xA3
    have B3 : Hid (W3.heap[(w.heap.size + 1)]? = some rzo) := xB3
    have G1 : Hid (W3.heap[w1.heap.size]? = some (sgo 13 y 0)) := xG1
    have I3 : Hid (Is W3 (fun b => w0.heap.size ≤ b ∧ b < w.heap.size) r (rxv k mn mx m t (.slice ad l c))) := xI3
    have K3 : Hid (Ks P w0 W3) := xK3
    clear xR3 xA3 xB3 xG1 xI3 xK3
    clear R2 A2 B2 G2 I2 K2
    cases ok with
    | false =>
      have E : Hid (pRep s ere r ⟨i, n, g, d⟩ = ⟨rx0, 1, ⟨oj, n, g, d⟩⟩) := by show _ = _; rw [E0.out, show oi = none from EQ.out]; rfl
      have b0 := bl_cell (B3.out) 0 _ rfl
      have fb0 := bl_frozen (B3.out) 0
      have b1 := bl_cell (B3.out) 1 _ rfl
      have fb1 := bl_frozen (B3.out) 1
      have b2 := bl_cell (B3.out) 2 _ rfl
      have fb2 := bl_frozen (B3.out) 2
      have b3 := bl_cell (B3.out) 3 _ rfl
      have fb3 := bl_frozen (B3.out) 3
      have b4 := bl_cell (B3.out) 4 _ rfl
      have fb4 := bl_frozen (B3.out) 4
      have b5 := bl_cell (B3.out) 5 _ rfl
      have fb5 := bl_frozen (B3.out) 5
      have b6 := bl_cell (B3.out) 6 _ rfl
      have fb6 := bl_frozen (B3.out) 6
      have b7 := bl_cell (B3.out) 7 _ rfl
      have fb7 := bl_frozen (B3.out) 7
      have b8 := bl_cell (B3.out) 8 _ rfl
      have fb8 := bl_frozen (B3.out) 8
      go_wp2_with fail
      refine bodyPost_ret (v := .tuple #[rz, .int .i64 1]) (rx_ret2 rfl _ _ _ _ _ rfl rfl (bl_set9 B3.out _ _ _ _ _ _ _ _ _) rfl) rfl ?_
      rw [E.out]
      exact ⟨_, rfl, Ret.fail R3.out K3.out (ks_set9 _ _ _ _ _ _ _ _ _) hP (by omega)⟩
    | true =>
      have E : Hid (pRep s ere r ⟨i, n, g, d⟩ = pTake 0 (rrep a b r) ⟨oj, n, g, d⟩) := by show _ = _; rw [E0.out, show oi = some (a, b) from EQ.out]; rfl
      have hoj' := hoj.out
      have qq0 := bl_cell G1.out 0 _ rfl
      have qq1 := bl_cell G1.out 1 _ rfl
      have qq2 := bl_cell G1.out 2 _ rfl
      have a0 := bl_cell (A3.out) 0 _ rfl
      have a1 := bl_cell (A3.out) 1 _ rfl
      have a2 := bl_cell (A3.out) 2 _ rfl
      have a3 := bl_cell (A3.out) 3 _ rfl
      have a4 := bl_cell (A3.out) 4 _ rfl
      have a5 := bl_cell (A3.out) 5 _ rfl
      have a6 := bl_cell (A3.out) 6 _ rfl
      have a7 := bl_cell (A3.out) 7 _ rfl
      have a8 := bl_cell (A3.out) 8 _ rfl
      go_wp2_with fail
      refine (take_any0 13 y 0 4 a b 0 (some ⟨W3.heap.size, 0, none⟩) 1 1 s ere oj n g d P _ (R3.out.kp ((Kp.refl _).alloc _)) (by omega) (by omega) hn).mono ?_
      rintro e w2 ⟨rfl, r2, k2⟩
      have hsW : w.heap.size + 1 < W3.heap.size := bl_lt B3.out
      have hsP : w0.heap.size ≤ W3.heap.size := K3.out.size
      have R2 := hid r2
      have K2 : Hid (Ks P w0 w2) := (K3.out.kpt ((Kp.refl _).alloc _) hP).trans k2
      have B2 : Hid (w2.heap[w.heap.size + 1]? = some rzo) := bl_ks (bl_alloc B3.out _) (by omega) k2
      have I2 : Hid (Is w2 (fun b => w0.heap.size ≤ b ∧ b ≠ w.heap.size + 1) (rrep a b r) (rxv 4 a b 0 W4.z (.slice (some ⟨W3.heap.size, 0, none⟩) 1 1))) :=
        ((((I3.out.weak (ok' := fun b => w0.heap.size ≤ b ∧ b ≠ w.heap.size + 1) (fun _ hb _ => ⟨hb.1, by omega⟩)).kp ((Kp.refl _).alloc _)).one (cells_new _ _ _ _ _ _ _ _ _) ⟨hsP, by omega⟩ (by simp) 4 a b 0 W4.z).ks k2 (fun _ hb _ => by omega))
      clear r2 k2
      clear qq0 qq1 qq2 a0 a1 a2 a3 a4 a5 a6 a7 a8
      have b0 := bl_cell (B2.out) 0 _ rfl
      have fb0 := bl_frozen (B2.out) 0
      have b1 := bl_cell (B2.out) 1 _ rfl
      have fb1 := bl_frozen (B2.out) 1
      have b2 := bl_cell (B2.out) 2 _ rfl
      have fb2 := bl_frozen (B2.out) 2
      have b3 := bl_cell (B2.out) 3 _ rfl
      have fb3 := bl_frozen (B2.out) 3
      have b4 := bl_cell (B2.out) 4 _ rfl
      have fb4 := bl_frozen (B2.out) 4
      have b5 := bl_cell (B2.out) 5 _ rfl
      have fb5 := bl_frozen (B2.out) 5
      have b6 := bl_cell (B2.out) 6 _ rfl
      have fb6 := bl_frozen (B2.out) 6
      have b7 := bl_cell (B2.out) 7 _ rfl
      have fb7 := bl_frozen (B2.out) 7
      have b8 := bl_cell (B2.out) 8 _ rfl
      have fb8 := bl_frozen (B2.out) 8
      go_wp2_with fail
      refine bodyPost_ret (v := .tuple #[rxv 4 a b 0 W4.z (.slice (some ⟨W3.heap.size, 0, none⟩) 1 1), .int .i64 0]) (rx_ret2 rfl _ _ _ _ _ rfl rfl (bl_set9 B2.out _ _ _ _ _ _ _ _ _) rfl) rfl ?_
      rw [E.out]
      exact ⟨_, rfl, Ret.fin I2.out R2.out K2.out (ks_set9 _ _ _ _ _ _ _ _ _) hP (by omega)⟩
  have E : Hid (pRep s ere r ⟨i, n, g, d⟩ = ⟨r, 0, ⟨i, n, g, d⟩⟩) := by show _ = _; rw [HPR.out, if_neg x10, if_neg x11, if_neg x12, if_neg x13]
  have g10 : ((x : Int) == 10) = false := by simp; omega
  have g11 : ((x : Int) == 11) = false := by simp; omega
  have g12 : ((x : Int) == 12) = false := by simp; omega
  have g13 : ((x : Int) == 13) = false := by simp; omega
  have qq0 := bl_cell G1.out 0 _ rfl
  have qq1 := bl_cell G1.out 1 _ rfl
  have qq2 := bl_cell G1.out 2 _ rfl
  have a0 := bl_cell (A1.out) 0 _ rfl
  have a1 := bl_cell (A1.out) 1 _ rfl
  have a2 := bl_cell (A1.out) 2 _ rfl
  have a3 := bl_cell (A1.out) 3 _ rfl
  have a4 := bl_cell (A1.out) 4 _ rfl
  have a5 := bl_cell (A1.out) 5 _ rfl
  have a6 := bl_cell (A1.out) 6 _ rfl
  have a7 := bl_cell (A1.out) 7 _ rfl
  have a8 := bl_cell (A1.out) 8 _ rfl
  have b0 := bl_cell (B1.out) 0 _ rfl
  have fb0 := bl_frozen (B1.out) 0
  have b1 := bl_cell (B1.out) 1 _ rfl
  have fb1 := bl_frozen (B1.out) 1
  have b2 := bl_cell (B1.out) 2 _ rfl
  have fb2 := bl_frozen (B1.out) 2
  have b3 := bl_cell (B1.out) 3 _ rfl
  have fb3 := bl_frozen (B1.out) 3
  have b4 := bl_cell (B1.out) 4 _ rfl
  have fb4 := bl_frozen (B1.out) 4
  have b5 := bl_cell (B1.out) 5 _ rfl
  have fb5 := bl_frozen (B1.out) 5
  have b6 := bl_cell (B1.out) 6 _ rfl
  have fb6 := bl_frozen (B1.out) 6
  have b7 := bl_cell (B1.out) 7 _ rfl
  have fb7 := bl_frozen (B1.out) 7
  have b8 := bl_cell (B1.out) 8 _ rfl
  have fb8 := bl_frozen (B1.out) 8
  go_wp2_with fail
  refine bodyPost_ret (v := .tuple #[rxv k mn mx m t (.slice ad l c), .int .i64 0]) (rx_ret2 rfl _ _ _ _ _ rfl rfl (bl_set9 B1.out _ _ _ _ _ _ _ _ _) rfl) rfl ?_
  rw [E.out]
  exact ⟨_, rfl, Ret.fin (I1.out.weak (fun _ hb _ => ⟨hb.1, by omega⟩)) R1.out K1.out (ks_set9 _ _ _ _ _ _ _ _ _) hP (by omega)⟩
end Go.Proofs.YtikmgckefbjbkaaGreatDoor
