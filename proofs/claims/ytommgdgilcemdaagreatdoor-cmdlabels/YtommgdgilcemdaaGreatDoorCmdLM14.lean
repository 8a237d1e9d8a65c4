/-
  Texts of this claim: Row, Kids2.
-/
import Derived.Test.YtommgdgilcemdaaGreatDoorCmdLM13
import Derived.OwnWalk
import Derived.Deep.LoopGhost
import Derived.Test.YtommgdgilcemdaaGreatDoorCmdLM8

/-! ### Row -/

namespace Go.Proofs.YtommgdgilcemdaaGreatDoor
open Go.RowKit
attribute [local go_sem] field91

set_option maxHeartbeats 2000000 in
set_option maxRecDepth 100000 in
theorem keep_any2 (base : Nat) (v : Value) (ts : List Rx) (r : Rx) (k mn mx m : Int) (t : W4) (ad : Option Addr) (l c : Nat) (s : ByteArray) (ere : Bool) (i n g d P : Nat) (w : World) (h : Rd w P s ere i n g d) (hK : RKids base w v ts) (hI : Is w (fun b => base ≤ b ∧ v.ownBlock ≠ some b) r (rxv k mn mx m t (.slice ad l c))) (hb : base ≤ w.heap.size) (ht : ts.length ≤ 1000000) :
  Calls Tryz.prog 86 #[.pointer (some ⟨P, 0, none⟩), v, rxv k mn mx m t (.slice ad l c)] w fun e w' => ∃ v', e = .returned v' ∧ RKids base w' v' (keepL n ts r) ∧ w.grownBy w' v.ownBlock := by
 have R : Hid (Rd w P s ere i n g d) := h
 have HK : Hid (RKids base w v ts) := hK
 have HI : Hid (Is w (fun b => base ≤ b ∧ v.ownBlock ≠ some b) r (rxv k mn mx m t (.slice ad l c))) := hI
 clear h hK hI
 by_cases hc : n > 40
 ·
  have E : Hid (keepL n ts r = ts) := by show _ = _; unfold keepL; rw [if_pos hc]
  have c1 : (40 : Int) < (n : Int) := by omega
  go_enter Tryz.func86, Tryz.ntmps86
  go_upto_region 1 with fail
  refine opq (fun W0 => Rd W0 P s ere i n g d ∧ W0.heap[w.heap.size]? = some (rxo k mn mx m t (.slice ad l c)) ∧ RKids base W0 v ts ∧ Is W0 (fun b => base ≤ b ∧ v.ownBlock ≠ some b) r (rxv k mn mx m t (.slice ad l c)) ∧ Kp w W0) ⟨by exact R.out.kp (by repeat (first | exact Kp.refl _ | refine Kp.alloc ?_ _ | refine Kp.drew ?_ | refine Kp.drewN _ ?_)), by (first | exact last_at _ _ _ (by simp) | (refine bl_alloc ?_ _; first | exact last_at _ _ _ (by simp) | (refine bl_alloc ?_ _; first | exact last_at _ _ _ (by simp) | (refine bl_alloc ?_ _; exact last_at _ _ _ (by simp))))), by exact HK.out.kp (by repeat (first | exact Kp.refl _ | refine Kp.alloc ?_ _ | refine Kp.drew ?_ | refine Kp.drewN _ ?_)), by exact HI.out.kp (by repeat (first | exact Kp.refl _ | refine Kp.alloc ?_ _ | refine Kp.drew ?_ | refine Kp.drewN _ ?_)), by exact (by repeat (first | exact Kp.refl _ | refine Kp.alloc ?_ _ | refine Kp.drew ?_ | refine Kp.drewN _ ?_))⟩ ?_
  rintro W0 ⟨xR0, xA0, xHK0, xHI0, xK0⟩
  have R0 : Hid (Rd W0 P s ere i n g d) := xR0
  have A0 : Hid (W0.heap[w.heap.size]? = some (rxo k mn mx m t (.slice ad l c))) := xA0
  have HK0 : Hid (RKids base W0 v ts) := xHK0
  have HI0 : Hid (Is W0 (fun b => base ≤ b ∧ v.ownBlock ≠ some b) r (rxv k mn mx m t (.slice ad l c))) := xHI0
  have K0 : Hid (Kp w W0) := xK0
  clear xR0 xA0 xHK0 xHI0 xK0
  have p3 := R0.out.cells.2.2.2.1
  have hs0 := K0.out.size
  go_wp2
  go_ret
  exact ⟨_, rfl, by rw [E.out]; exact HK0.out, K0.out.grown _⟩
 ·
  have E : Hid (keepL n ts r = ts ++ [r]) := by show _ = _; unfold keepL; rw [if_neg hc]
  have c1 : ¬ (40 : Int) < (n : Int) := by omega
  go_enter Tryz.func86, Tryz.ntmps86
  go_upto_region 1 with fail
  refine opq (fun W0 => Rd W0 P s ere i n g d ∧ W0.heap[w.heap.size]? = some (rxo k mn mx m t (.slice ad l c)) ∧ RKids base W0 v ts ∧ Is W0 (fun b => base ≤ b ∧ v.ownBlock ≠ some b) r (rxv k mn mx m t (.slice ad l c)) ∧ Kp w W0) ⟨by exact R.out.kp (by repeat (first | exact Kp.refl _ | refine Kp.alloc ?_ _ | refine Kp.drew ?_ | refine Kp.drewN _ ?_)), by (first | exact last_at _ _ _ (by simp) | (refine bl_alloc ?_ _; first | exact last_at _ _ _ (by simp) | (refine bl_alloc ?_ _; first | exact last_at _ _ _ (by simp) | (refine bl_alloc ?_ _; exact last_at _ _ _ (by simp))))), by exact HK.out.kp (by repeat (first | exact Kp.refl _ | refine Kp.alloc ?_ _ | refine Kp.drew ?_ | refine Kp.drewN _ ?_)), by exact HI.out.kp (by repeat (first | exact Kp.refl _ | refine Kp.alloc ?_ _ | refine Kp.drew ?_ | refine Kp.drewN _ ?_)), by exact (by repeat (first | exact Kp.refl _ | refine Kp.alloc ?_ _ | refine Kp.drew ?_ | refine Kp.drewN _ ?_))⟩ ?_
  rintro W0 ⟨xR0, xA0, xHK0, xHI0, xK0⟩
  have R0 : Hid (Rd W0 P s ere i n g d) := xR0
  have A0 : Hid (W0.heap[w.heap.size]? = some (rxo k mn mx m t (.slice ad l c))) := xA0
  have HK0 : Hid (RKids base W0 v ts) := xHK0
  have HI0 : Hid (Is W0 (fun b => base ≤ b ∧ v.ownBlock ≠ some b) r (rxv k mn mx m t (.slice ad l c))) := xHI0
  have K0 : Hid (Kp w W0) := xK0
  clear xR0 xA0 xHK0 xHI0 xK0
  have p3 := R0.out.cells.2.2.2.1
  have hs0 := K0.out.size
  have a0 := bl_cell (A0.out) 0 _ rfl
  have a1 := bl_cell (A0.out) 1 _ rfl
  have a2 := bl_cell (A0.out) 2 _ rfl
  have a3 := bl_cell (A0.out) 3 _ rfl
  have a4 := bl_cell (A0.out) 4 _ rfl
  have a5 := bl_cell (A0.out) 5 _ rfl
  have a6 := bl_cell (A0.out) 6 _ rfl
  have a7 := bl_cell (A0.out) 7 _ rfl
  have a8 := bl_cell (A0.out) 8 _ rfl
  go_wp2_with (at_builtin; go_must (refine wpList_append_rx W0 (by rfl) _ _ (by rfl) base v ts r (by rfl) HK0 k mn mx m t ad l c HI0 _ (by rfl) (by rfl) ?h1 ?h2 ?_))
  case h2 => omega
  intro v' w' hk' hg'
  have HK' : Hid (RKids base w' v' (ts ++ [r])) := hk'
  have HG' : Hid (w.grownBy w' v.ownBlock) := ⟨hg'.os.trans K0.out.os, hg'.tape.trans K0.out.tape, hg'.output.trans K0.out.output, Nat.le_trans K0.out.size hg'.size, fun b hb hne => (hg'.block b (Nat.lt_of_lt_of_le hb K0.out.size) hne).trans (K0.out.block b hb)⟩
  clear hk' hg'
  go_wp2_with fail
  go_ret
  exact ⟨_, rfl, by rw [E.out]; exact HK'.out, HG'.out⟩


theorem Ks.grown {P : Nat} {a b c : World} {row : Option Nat} (h : Ks P a b) (g : b.grownBy c row) (hr : ∀ k, row = some k → a.heap.size ≤ k) (hP : P < a.heap.size) : Ks P a c :=
 ⟨⟨g.os.trans h.lo.os, g.tape.trans h.lo.tape, g.output.trans h.lo.output, Nat.le_trans h.size g.size, fun x hx => (g.block x (by have := h.size; omega) (fun e => by have := hr x e.symm; omega)).trans (h.lo.block x hx)⟩,
  fun x hx hne => (g.block x (Nat.lt_of_lt_of_le hx h.size) (fun e => by have := hr x e.symm; omega)).trans (h.block x hx hne)⟩
theorem bl_grown {w w' : World} {row : Option Nat} {B : Nat} {o : Obj} (h : w.heap[B]? = some o) (g : w.grownBy w' row) (hr : row ≠ some B) : w'.heap[B]? = some o := (g.block B (bl_lt h) (Ne.symm hr)).trans h
theorem Rd.grown {w w' : World} {row : Option Nat} {P : Nat} {s : ByteArray} {ere : Bool} {i n g d : Nat} (h : Rd w P s ere i n g d) (k : w.grownBy w' row) (h1 : row ≠ some P) (h0 : row ≠ some 1) : Rd w' P s ere i n g d :=
 ⟨bl_grown h.b k h1, h.p, by
  obtain ⟨m, hm⟩ := h.v
  exact ⟨m, (World.cell?_of_block (w := w) (k.block 1 (Nat.lt_trans h.p h.lt) (Ne.symm h0))).trans hm⟩⟩
theorem node_any0 (k mn mx m : Int) (ad : Option Addr) (l c : Nat) (s : ByteArray) (ere : Bool) (i n g d P : Nat) (w : World) (h : Rd w P s ere i n g d) (hn : n ≤ 1000000000) :
  Calls Tryz.prog 87 #[.pointer (some ⟨P, 0, none⟩), .agg #[.int .i64 k, .int .i64 mn, .int .i64 mx, .int .i64 m, .int .u64 0, .int .u64 0, .int .u64 0, .int .u64 0, .slice ad l c]] w fun e w' => e = .returned (.agg #[.int .i64 k, .int .i64 mn, .int .i64 mx, .int .i64 m, .int .u64 0, .int .u64 0, .int .u64 0, .int .u64 0, .slice ad l c]) ∧ Rd w' P s ere i (n + 1) g d ∧ Ks P w w' :=
 node_any k mn mx m W4.z ad l c s ere i n g d P w h hn

/-- In the loop of a row. -/
structure Rw (c : St → Out) (s : ByteArray) (ere : Bool) (P : Nat) (w : World) (t0 : St) (k : Nat) (v : Value) (wr : World) (ks : List Rx) (t : St) : Prop where
 kids : RKids (w.heap.size + 1) wr v ks
 rd : Rd wr P s ere t.i t.n t.g t.d
 inv : Inv s t
 d : t.d = t0.d
 i : t0.i ≤ t.i
 f : s.size < k + t.i
 len : ks.length ≤ t.i
 eq : pRowL c s ere t0.i k ks t = pRow c s ere t0
 b : wr.heap[w.heap.size]? = some rzo
 ks : Ks P w wr

set_option maxHeartbeats 2000000 in
set_option maxRecDepth 100000 in
theorem row_any (c : St → Out) (D : Nat) (s : ByteArray) (ere : Bool) (i n g d P : Nat) (w : World) (HC : ChSaid c s ere D) (HGd : CGood c s) (h : Rd w P s ere i n g d) (hv : Inv s ⟨i, n, g, d⟩) (hD : d + D = 6) (hs : s.size ≤ 1000000) :
  Calls Tryz.prog 84 #[.pointer (some ⟨P, 0, none⟩)] w fun e w' => RetE w P s ere (pRow c s ere ⟨i, n, g, d⟩) e w' := by
 have R : Hid (Rd w P s ere i n g d) := h
 have hP : P < w.heap.size := h.lt
 clear h
 have hi : i ≤ s.size := hv.i
 go_enter Tryz.func84, Tryz.ntmps84
 go_upto_region 1 with fail
 refine opq (fun W0 => Rd W0 P s ere i n g d ∧ W0.heap[w.heap.size]? = some rzo ∧ Ks P w W0) ⟨by exact R.out.kp (by repeat (first | exact Kp.refl _ | refine Kp.alloc ?_ _ | refine Kp.drew ?_ | refine Kp.drewN _ ?_)), by (first | exact last_at _ _ _ (by simp) | (refine bl_alloc ?_ _; first | exact last_at _ _ _ (by simp) | (refine bl_alloc ?_ _; first | exact last_at _ _ _ (by simp) | (refine bl_alloc ?_ _; exact last_at _ _ _ (by simp))))), by exact (Kp.ks (by repeat (first | exact Kp.refl _ | refine Kp.alloc ?_ _ | refine Kp.drew ?_ | refine Kp.drewN _ ?_)) (Nat.le_of_lt hP))⟩ ?_
 rintro W0 ⟨xR0, xB0, xK0⟩
 have R0 : Hid (Rd W0 P s ere i n g d) := xR0
 have B0 : Hid (W0.heap[w.heap.size]? = some rzo) := xB0
 have K0 : Hid (Ks P w W0) := xK0
 clear xR0 xB0 xK0
 clear R
 have p2 := R0.out.cells.2.2.1
 go_wp2_with fail
 clear p2
 go_loopg [4] (s.size + 1) (fun k v wr => ∃ (ks : List Rx) (t : St), Rw c s ere P w ⟨i, n, g, d⟩ k v wr ks t)
 case atStart => exact ⟨[], ⟨i, n, g, d⟩, RKids.nil _ _, R0.out, hv, rfl, Nat.le_refl _, by show s.size < s.size + 1 + i; omega, Nat.zero_le _, rfl, B0.out, K0.out⟩
 case round =>
  obtain ⟨ks, ⟨i', n', g', d'⟩, hrw⟩ := hrel
  have RW := hid hrw
  have hi' : i' ≤ s.size := hrw.inv.i
  have hn' : n' ≤ 3 * i' + 1 := hrw.inv.n
  have hd' : d' = d := hrw.d
  have hii : i ≤ i' := hrw.i
  have hf : s.size < gk + i' := hrw.f
  subst hd'
  obtain ⟨k, rfl⟩ : ∃ k, gk = k + 1 := ⟨gk - 1, by omega⟩
  have hlen : ks.length ≤ i' := hrw.len
  clear hrw R0 B0 K0
  have hB := bl_lt RW.out.b
  obtain ⟨en, hen⟩ : ∃ en, ends (sgn s ere i').1 = en := ⟨_, rfl⟩
  have HEN := hid hen
  clear hen
  go_wp2_with fail
  refine (rowEnds_any s ere i' n' g' d' P _ RW.out.rd hi' hs).mono ?_
  rintro e W1 ⟨rfl, k1⟩
  rw [HEN.out]
  have R1 := hid (RW.out.rd.kp k1)
  have L1 := hid (RW.out.kids.kp k1)
  have B1 := hid (bl_kp RW.out.b k1)
  have K1 := hid (RW.out.ks.kpt k1 hP)
  have hs1 : w.heap.size < W1.heap.size := bl_lt B1.out
  have EQ := hid RW.out.eq
  have INV := hid RW.out.inv
  clear k1 RW
  have OWN : Hid (∀ b, u4.ownBlock = some b → w.heap.size + 1 ≤ b ∧ b < W1.heap.size) := L1.out.block
  cases en with
  | true =>
   have E0 : Hid (pRow c s ere ⟨i, n, g, d'⟩ = rowOut ks ⟨i', n', g', d'⟩) := by
    have := EQ.out
    unfold pRowL at this
    rw [HEN.out] at this
    exact this.symm
   by_cases h1 : ks.length = 1
   ·
    obtain ⟨r, rfl⟩ : ∃ r, ks = [r] := List.length_eq_one_iff.1 h1
    obtain ⟨gb, cap, hv4, hcap, hb1, hb2, hcells⟩ := L1.out.get (by simp)
    obtain ⟨u, hIs, hCe⟩ := hcells 0 r rfl
    obtain ⟨kk, mn, mx, mm, tt, ad, ll, cc, rfl⟩ := hIs.form
    have IS := hid hIs
    have a0 := hCe 0 _ rfl
    have a1 := hCe 1 _ rfl
    have a2 := hCe 2 _ rfl
    have a3 := hCe 3 _ rfl
    have a4 := hCe 4 _ rfl
    have a5 := hCe 5 _ rfl
    have a6 := hCe 6 _ rfl
    have a7 := hCe 7 _ rfl
    have a8 := hCe 8 _ rfl
    simp only [Nat.mul_zero, Nat.zero_add] at a0 a1 a2 a3 a4 a5 a6 a7 a8
    have hv4' : u4 = .slice (some ⟨gb, 0, none⟩) 1 cap := hv4
    clear hv4 hCe hcells hIs
    subst hv4'
    have E : Hid (pRow c s ere ⟨i, n, g, d'⟩ = ⟨r, 0, ⟨i', n', g', d'⟩⟩) := E0.out
    have b0 := bl_cell (B1.out) 0 _ rfl
    have fb0 := bl_frozen (B1.out) 0
    have b1 := bl_cell (B1.out) 1 _ rfl
    have fb1 := bl_frozen (B1.out) 1
    have b2 := bl_cell (B1.out) 2 _ rfl
    have fb2 := bl_frozen (B1.out) 2
    have b3 := bl_cell (B1.out) 3 _ rfl
    have fb3 := bl_frozen (B1.out) 3
    have b4 := bl_cell (B1.out) 4 _ rfl
    have fb4 := bl_frozen (B1.out) 4
    have b5 := bl_cell (B1.out) 5 _ rfl
    have fb5 := bl_frozen (B1.out) 5
    have b6 := bl_cell (B1.out) 6 _ rfl
    have fb6 := bl_frozen (B1.out) 6
    have b7 := bl_cell (B1.out) 7 _ rfl
    have fb7 := bl_frozen (B1.out) 7
    have b8 := bl_cell (B1.out) 8 _ rfl
    have fb8 := bl_frozen (B1.out) 8
    go_wp2_with fail
    refine bodyPost_ret (v := .tuple #[rxv kk mn mx mm tt (.slice ad ll cc), .int .i64 0]) (rx_ret2 rfl _ _ _ _ _ rfl rfl (bl_set9 B1.out _ _ _ _ _ _ _ _ _) rfl) rfl ?_
    rw [E.out]
    exact ⟨_, rfl, Ret.fin (IS.out.weak (fun _ hb _ => ⟨by omega, by omega⟩)) R1.out K1.out (ks_set9 _ _ _ _ _ _ _ _ _) hP (Nat.le_refl _)⟩
   ·
    have E : Hid (pRow c s ere ⟨i, n, g, d'⟩ = ⟨.mk 2 0 0 0 W4.z ks, 0, ⟨i', n' + 1, g', d'⟩⟩) := by
     show _ = _
     rw [E0.out]
     unfold rowOut
     split
     ·
      exact absurd rfl h1
     ·
      rfl
    obtain ⟨ad, cap, hv4, hcap⟩ := L1.out.form
    have g1 : ((ks.length : Int) == 1) = false := by simp; omega
    have g1' : ¬ (ks.length : Int) = 1 := by omega
    have IS := hid (L1.out.is 2 0 0 0 W4.z)
    subst hv4
    go_wp2_with fail
    refine (node_any0 2 0 0 0 ad ks.length cap s ere i' n' g' d' P _ R1.out (by omega)).mono ?_
    rintro e W2 ⟨rfl, r2, k2⟩
    have R2 := hid r2
    have I2 := hid (IS.out.ks k2 (fun _ hb _ => by omega))
    have B2 := hid (bl_ks B1.out (by omega) k2)
    have K2 := hid (K1.out.trans k2)
    clear r2 k2 R1 L1 B1 K1 IS
    have b0 := bl_cell (B2.out) 0 _ rfl
    have fb0 := bl_frozen (B2.out) 0
    have b1 := bl_cell (B2.out) 1 _ rfl
    have fb1 := bl_frozen (B2.out) 1
    have b2 := bl_cell (B2.out) 2 _ rfl
    have fb2 := bl_frozen (B2.out) 2
    have b3 := bl_cell (B2.out) 3 _ rfl
    have fb3 := bl_frozen (B2.out) 3
    have b4 := bl_cell (B2.out) 4 _ rfl
    have fb4 := bl_frozen (B2.out) 4
    have b5 := bl_cell (B2.out) 5 _ rfl
    have fb5 := bl_frozen (B2.out) 5
    have b6 := bl_cell (B2.out) 6 _ rfl
    have fb6 := bl_frozen (B2.out) 6
    have b7 := bl_cell (B2.out) 7 _ rfl
    have fb7 := bl_frozen (B2.out) 7
    have b8 := bl_cell (B2.out) 8 _ rfl
    have fb8 := bl_frozen (B2.out) 8
    go_wp2_with fail
    refine bodyPost_ret (v := .tuple #[rxv 2 0 0 0 W4.z (.slice ad ks.length cap), .int .i64 0]) (rx_ret2 rfl _ _ _ _ _ rfl rfl (bl_set9 B2.out _ _ _ _ _ _ _ _ _) rfl) rfl ?_
    rw [E.out]
    exact ⟨_, rfl, Ret.fin (I2.out.weak (fun _ hb _ => ⟨by omega, by omega⟩)) R2.out K2.out (ks_set9 _ _ _ _ _ _ _ _ _) hP (Nat.le_refl _)⟩
  | false =>
   obtain ⟨o, ho⟩ : ∃ o, pPart c s ere i ⟨i', n', g', d'⟩ = o := ⟨_, rfl⟩
   have hgood := pPart_good (ere := ere) (began := i) HGd INV.out
   have PA := hid (part_any c D i s ere i' n' g' d' P W1 HC HGd R1.out INV.out hD hii hs)
   rw [ho] at hgood PA
   have HGO := hid hgood
   have E0 : Hid (pRow c s ere ⟨i, n, g, d'⟩ = if o.e ≠ 0 then ⟨rx0, o.e, o.st⟩ else pRowL c s ere i k (keepL o.st.n ks o.r) o.st) := by
    have := EQ.out
    unfold pRowL at this
    rw [HEN.out, ho] at this
    exact this.symm
   clear ho hgood
   obtain ⟨r, er, ⟨i2, n2, g2, d2⟩⟩ := o
   go_wp2_with fail
   refine PA.out.mono ?_
   rintro e W2 ⟨⟨v, rfl, rr⟩⟩
   obtain ⟨kk, mn, mx, mm, tt, ad, ll, cc, rfl⟩ := rr.is.form
   have hs2 := rr.ks.size
   have R2 : Hid (Rd W2 P s ere i2 n2 g2 d2) := rr.rd
   have I2 : Hid (Is W2 (fun b => w.heap.size + 1 ≤ b ∧ u4.ownBlock ≠ some b) r (rxv kk mn mx mm tt (.slice ad ll cc))) := rr.is.weak (fun b hb _ => ⟨by omega, fun he => by have := OWN.out b he; omega⟩)
   have L2 := hid (L1.out.ks rr.ks (by omega))
   have B2 := hid (bl_ks B1.out (by omega) rr.ks)
   have K2 := hid (K1.out.trans rr.ks)
   clear rr R1 L1 B1 K1 PA
   dsimp only
   go_upto_region 5 with fail
   refine opq (fun W3 => Rd W3 P s ere i2 n2 g2 d2 ∧ W3.heap[W2.heap.size]? = some (rxo kk mn mx mm tt (.slice ad ll cc)) ∧ Is W3 (fun b => w.heap.size + 1 ≤ b ∧ u4.ownBlock ≠ some b) r (rxv kk mn mx mm tt (.slice ad ll cc)) ∧ RKids (w.heap.size + 1) W3 u4 ks ∧ W3.heap[w.heap.size]? = some rzo ∧ Ks P w W3) ⟨by exact R2.out.kp (by repeat (first | exact Kp.refl _ | refine Kp.alloc ?_ _ | refine Kp.drew ?_ | refine Kp.drewN _ ?_)), by (first | exact last_at _ _ _ (by simp) | (refine bl_alloc ?_ _; first | exact last_at _ _ _ (by simp) | (refine bl_alloc ?_ _; first | exact last_at _ _ _ (by simp) | (refine bl_alloc ?_ _; exact last_at _ _ _ (by simp))))), by exact I2.out.kp (by repeat (first | exact Kp.refl _ | refine Kp.alloc ?_ _ | refine Kp.drew ?_ | refine Kp.drewN _ ?_)), by exact L2.out.kp (by repeat (first | exact Kp.refl _ | refine Kp.alloc ?_ _ | refine Kp.drew ?_ | refine Kp.drewN _ ?_)), by exact bl_kp B2.out (by repeat (first | exact Kp.refl _ | refine Kp.alloc ?_ _ | refine Kp.drew ?_ | refine Kp.drewN _ ?_)), by exact K2.out.kpt (by repeat (first | exact Kp.refl _ | refine Kp.alloc ?_ _ | refine Kp.drew ?_ | refine Kp.drewN _ ?_)) hP⟩ ?_
   rintro W3 ⟨xR3, xA3, xI3, xL3, xB3, xK3⟩
   have R3 : Hid (Rd W3 P s ere i2 n2 g2 d2) := xR3
   have A3 : Hid (W3.heap[W2.heap.size]? = some (rxo kk mn mx mm tt (.slice ad ll cc))) := xA3
   have I3 : Hid (Is W3 (fun b => w.heap.size + 1 ≤ b ∧ u4.ownBlock ≠ some b) r (rxv kk mn mx mm tt (.slice ad ll cc))) := xI3
   have L3 : Hid (RKids (w.heap.size + 1) W3 u4 ks) := xL3
   have B3 : Hid (W3.heap[w.heap.size]? = some rzo) := xB3
   have K3 : Hid (Ks P w W3) := xK3
   clear xR3 xA3 xI3 xL3 xB3 xK3
   clear R2 I2 L2 B2 K2
   have hs3 : W2.heap.size < W3.heap.size := bl_lt A3.out
   by_cases he : er = 0
   ·
    subst he
    obtain ⟨j1, j2, j3⟩ := HGO.out.ok rfl
    have j1' : i' + 1 ≤ i2 := j1
    have E1 : Hid (pRowL c s ere i k (keepL n2 ks r) ⟨i2, n2, g2, d2⟩ = pRow c s ere ⟨i, n, g, d'⟩) := by show _ = _; rw [E0.out]; rfl
    have J2 := hid j2
    have J3 := hid j3
    clear j1 j2 j3
    have a0 := bl_cell (A3.out) 0 _ rfl
    have a1 := bl_cell (A3.out) 1 _ rfl
    have a2 := bl_cell (A3.out) 2 _ rfl
    have a3 := bl_cell (A3.out) 3 _ rfl
    have a4 := bl_cell (A3.out) 4 _ rfl
    have a5 := bl_cell (A3.out) 5 _ rfl
    have a6 := bl_cell (A3.out) 6 _ rfl
    have a7 := bl_cell (A3.out) 7 _ rfl
    have a8 := bl_cell (A3.out) 8 _ rfl
    go_wp2_with fail
    refine (keep_any2 (w.heap.size + 1) u4 ks r kk mn mx mm tt ad ll cc s ere i2 n2 g2 d2 P _ R3.out L3.out I3.out (by omega) (by omega)).mono ?_
    rintro e W4 ⟨v', rfl, l4, g4⟩
    have R4 := hid (R3.out.grown g4 (fun he => by have := OWN.out P he; omega) (fun he => by have := OWN.out 1 he; have := R3.out.p; omega))
    have L4 := hid l4
    have B4 := hid (bl_grown B3.out g4 (fun he => by have := OWN.out _ he; omega))
    have K4 := hid (K3.out.grown g4 (fun k hk => by have := OWN.out k hk; omega) hP)
    clear l4 g4 R3 A3 I3 L3 B3 K3 a0 a1 a2 a3 a4 a5 a6 a7 a8
    have HL : Hid ((keepL n2 ks r).length ≤ i2) := by
     show _ ≤ _
     unfold keepL
     split
     ·
      omega
     ·
      simp; omega
    go_wp2_with fail
    go_roundg k
    case measure => omega
    case rel => exact ⟨_, ⟨i2, n2, g2, d2⟩, L4.out, R4.out, J2.out, J3.out, by show i ≤ i2; omega, by show s.size < k + i2; omega, HL.out, E1.out, B4.out, K4.out⟩
   ·
    have ge : ((er : Int) != 0) = true := by simp; omega
    have E : Hid (pRow c s ere ⟨i, n, g, d'⟩ = ⟨rx0, er, ⟨i2, n2, g2, d2⟩⟩) := by show _ = _; rw [E0.out]; exact if_pos he
    have b0 := bl_cell (B3.out) 0 _ rfl
    have fb0 := bl_frozen (B3.out) 0
    have b1 := bl_cell (B3.out) 1 _ rfl
    have fb1 := bl_frozen (B3.out) 1
    have b2 := bl_cell (B3.out) 2 _ rfl
    have fb2 := bl_frozen (B3.out) 2
    have b3 := bl_cell (B3.out) 3 _ rfl
    have fb3 := bl_frozen (B3.out) 3
    have b4 := bl_cell (B3.out) 4 _ rfl
    have fb4 := bl_frozen (B3.out) 4
    have b5 := bl_cell (B3.out) 5 _ rfl
    have fb5 := bl_frozen (B3.out) 5
    have b6 := bl_cell (B3.out) 6 _ rfl
    have fb6 := bl_frozen (B3.out) 6
    have b7 := bl_cell (B3.out) 7 _ rfl
    have fb7 := bl_frozen (B3.out) 7
    have b8 := bl_cell (B3.out) 8 _ rfl
    have fb8 := bl_frozen (B3.out) 8
    go_wp2_with fail
    refine bodyPost_ret (v := .tuple #[rz, .int .i64 (er : Int)]) (rx_ret2 rfl _ _ _ _ _ rfl rfl (bl_set9 B3.out _ _ _ _ _ _ _ _ _) rfl) rfl ?_
    rw [E.out]
    exact ⟨_, rfl, Ret.fail R3.out K3.out (ks_set9 _ _ _ _ _ _ _ _ _) hP (Nat.le_refl _)⟩
end Go.Proofs.YtommgdgilcemdaaGreatDoor

/-! ### Kids2 -/

namespace Go.Proofs.YtommgdgilcemdaaGreatDoor
open Go.RowKit

structure RK (ok : Nat → Prop) (base : Nat) (w : World) (v : Value) (ts : List Rx) : Prop where
 ex : ∃ vs : List Value, vs.length = ts.length ∧ w.ownsRow base 27 9 v ts.length (rowOf vs) ∧ (∀ b, v.ownBlock = some b → ok b) ∧ ∀ (j : Nat) t u, ts[j]? = some t → vs[j]? = some u → Is w (fun b => ok b ∧ v.ownBlock ≠ some b) t u
theorem RK.turn {ok : Nat → Prop} {base : Nat} {w w' : World} {v : Value} {ts : List Rx} (h : RK ok base w v ts) (hs : w.heap.size ≤ w'.heap.size) (hk : ∀ b, ok b → b < w.heap.size → w'.heap[b]? = w.heap[b]?) : RK ok base w' v ts := by
 obtain ⟨vs, h1, h2, h0, h3⟩ := h.ex
 exact ⟨vs, h1, owns_same h2 (fun b hb hl => hk b (h0 b hb) hl), h0, fun j t u hj hu => Is.turn hs (fun b hb hl => ⟨hb, hk b hb.1 hl⟩) t u (h3 j t u hj hu)⟩
theorem RK.kp {ok : Nat → Prop} {base : Nat} {w w' : World} {v : Value} {ts : List Rx} (h : RK ok base w v ts) (k : Kp w w') : RK ok base w' v ts := h.turn k.size (fun b _ hl => k.block b hl)
theorem RK.ks {ok : Nat → Prop} {P base : Nat} {w w' : World} {v : Value} {ts : List Rx} (h : RK ok base w v ts) (k : Ks P w w') (hP : ∀ b, ok b → b ≠ P) : RK ok base w' v ts := h.turn k.size (fun b hb hl => k.block b hl (hP b hb))
theorem RK.block {ok : Nat → Prop} {base : Nat} {w : World} {v : Value} {ts : List Rx} (h : RK ok base w v ts) : ∀ b, v.ownBlock = some b → ok b ∧ b < w.heap.size := by
 obtain ⟨vs, _, h2, h0, _⟩ := h.ex
 exact fun b hb => ⟨h0 b hb, (h2.lt b hb).2⟩
theorem RK.base {ok : Nat → Prop} {base : Nat} {w : World} {v : Value} {ts : List Rx} (h : RK ok base w v ts) (hb : ∀ b, ok b → base ≤ b) : RKids base w v ts := by
 obtain ⟨vs, h1, h2, h0, h3⟩ := h.ex
 exact ⟨vs, h1, h2, fun j t u hj hu => (h3 j t u hj hu).weak (fun b hx _ => ⟨hb b hx.1, hx.2⟩)⟩
theorem RK.form {ok : Nat → Prop} {base : Nat} {w : World} {v : Value} {ts : List Rx} (h : RK ok base w v ts) : ∃ ad c, v = .slice ad ts.length c ∧ ts.length ≤ c := by
 obtain ⟨vs, _, h2, _, _⟩ := h.ex
 rcases h2.2 with ⟨rfl, h0⟩ | ⟨g, cap, cur, hv, _, _, hc, _⟩
 ·
  exact ⟨none, 0, by rw [h0], by omega⟩
 ·
  exact ⟨_, cap, hv, hc⟩
/-- A tree whose kids they are. -/
theorem RK.is {ok : Nat → Prop} {base : Nat} {w : World} {v : Value} {ts : List Rx} (h : RK ok base w v ts) (k mn mx n : Int) (s : W4) : Is w ok (.mk k mn mx n s ts) (rxv k mn mx n s v) := by
 obtain ⟨vs, h1, h2, h0, h3⟩ := h.ex
 unfold Is
 by_cases hn : 0 < ts.length
 ·
  obtain ⟨g, cap, rfl, hc, hb, hl, hcell⟩ := owns_cells h2 hn
  refine ⟨_, _, cap, rfl, rfl, hc, fun _ => ⟨g, 0, rfl, h0 g rfl, hl, IsL.put fun j t hj => ?_⟩⟩
  have hjl : j < vs.length := by rw [h1]; exact (List.getElem?_eq_some_iff.1 hj).1
  have hu : vs[j]? = some vs[j] := List.getElem?_eq_getElem hjl
  refine ⟨vs[j], (h3 j t _ hj hu).weak (fun _ hb _ => hb.1), fun i x hi => ?_⟩
  rw [Nat.zero_add]
  refine hcell _ _ (rowOf_at vs ?_ j _ hu i x hi)
  intro y hy
  obtain ⟨q, hq⟩ := List.mem_iff_getElem?.1 hy
  have hq' : q < ts.length := by rw [← h1]; exact (List.getElem?_eq_some_iff.1 hq).1
  obtain ⟨k, mn, mx, n, s, ad, l, c, rfl⟩ := (h3 q _ y (List.getElem?_eq_getElem hq') hq).form
  rfl
 ·
  obtain ⟨ad, c, rfl, hc⟩ := h.form
  exact ⟨ad, _, c, rfl, rfl, hc, fun hne => absurd (List.eq_nil_of_length_eq_zero (by omega)) hne⟩
/-- One tree in a block of its own. -/
theorem RK.single {ok : Nat → Prop} {base : Nat} {w : World} {r : Rx} (k mn mx m : Int) (t : W4) (ad : Option Addr) (l c : Nat) (hI : Is w ok r (rxv k mn mx m t (.slice ad l c))) (hb : base ≤ w.heap.size) (ho : ok w.heap.size) :
  RK ok base (w.alloc (rxo k mn mx m t (.slice ad l c))) (.slice (some ⟨w.heap.size, 0, none⟩) 1 1) [r] := by
 refine ⟨[rxv k mn mx m t (.slice ad l c)], rfl, ⟨rfl, .inr ⟨w.heap.size, 1, _, rfl, hb, last_of w _, Nat.le_refl _, by unfold maxLen; omega, rfl, rfl⟩⟩, ?_, ?_⟩
 ·
  intro b hb'
  injection hb' with hb'
  rw [← hb']; exact ho
 intro j t' u hj hu
 match j, hj, hu with
 | 0, hj, hu =>
  simp at hj hu
  subst hj
  subst hu
  refine (hI.weak (ok' := fun b => ok b ∧ (Value.slice (some ⟨w.heap.size, 0, none⟩) 1 1).ownBlock ≠ some b) (fun b hb hl => ⟨hb, ?_⟩)).kp ((Kp.refl _).alloc _)
  show some w.heap.size ≠ some b
  intro he; injection he with he; omega
 | j + 1, hj, _ => simp at hj

/-- A tree put behind those that the call owns. -/
theorem wpList_append_rk {ops : Array Oper} {rest : List Oper} {o : Oper} {a : Act} {Q : Exit → Act → World → Prop} (W : World) (hgd : o.guard = none) (s x : Operand)
  (ho : o.op = .call { callee := .builtin .append, args := #[s, x], argTypes := #[25, 25] })
  (base : Nat) (v : Value) (ts : List Rx) (r : Rx) (hs : a.eval s = v) (ok : Nat → Prop) (hnew : ∀ b, W.heap.size ≤ b → ok b) (hK : Hid (RK ok base W v ts)) (k mn mx m : Int) (t : W4) (ad : Option Addr) (l c : Nat)
  (hI : Hid (Is W (fun b => ok b ∧ v.ownBlock ≠ some b) r (rxv k mn mx m t (.slice ad l c)))) (B : Nat) (hB : B = W.heap.size)
  (hx : a.eval x = .slice (some ⟨B, 0, none⟩) 1 1) (h63 : ts.length ≤ 1000000) (hbase : base ≤ W.heap.size)
  (h : ∀ v' w', RK ok base w' v' (ts ++ [r]) → W.grownBy w' v.ownBlock → wpList Tryz.prog ops Q rest (a.put o.dst v') w') :
  wpList Tryz.prog ops Q (o :: rest) a (W.alloc (rxo k mn mx m t (.slice ad l c))) := by
 obtain ⟨i, hi, hz, hsz, hby⟩ := info27
 obtain ⟨vs, hv1, hv2, hv0, hv3⟩ := hK.out.ex
 have kal : Kp W (W.alloc (rxo k mn mx m t (.slice ad l c))) := (Kp.refl _).alloc _
 subst hB
 refine wpList_append_own_at (W.alloc (rxo k mn mx m t (.slice ad l c))) hgd s x 25 ho base 27 i rz 9 88 Tryz.underlying25 hi hz hsz hby rfl (by omega) v ts.length (rowOf vs) hs (owns_same hv2 fun b _ hl => kal.block b hl) ⟨W.heap.size, 0, none⟩ 1 1 (cellsOf (rxv k mn mx m t (.slice ad l c))) hx rfl ?_ (rx_one _ _ _ _ _ _ _ _) (by unfold maxLen; omega) (by omega) (by simp; omega) ?_
 ·
  intro j y hj
  have hn := last_of W (rxo k mn mx m t (.slice ad l c))
  rw [show (⟨W.heap.size, 0, none⟩ : Addr).add j = ⟨W.heap.size, j, none⟩ by simp [Addr.add]; exact Eq.symm]
  refine bl_cell hn j y ?_
  rw [← Array.getElem?_toList]; exact hj
 ·
  intro v' w' a1 a2 _ a4
  have hgr : W.grownBy w' v.ownBlock := ⟨a2.os.trans rfl, a2.tape.trans rfl, a2.output.trans rfl, Nat.le_trans kal.size a2.size, fun b hb hne => (a2.block b (Nat.lt_of_lt_of_le hb kal.size) hne).trans (kal.block b hb)⟩
  refine h v' w' ⟨vs ++ [rxv k mn mx m t (.slice ad l c)], by simp [hv1], ?_, ?_, ?_⟩ hgr
  ·
   rw [List.length_append, rowOf_append, rowOf_one]; exact a1
  ·
   intro b hb
   rcases a4 with a4 | a4
   ·
    rw [a4] at hb; exact hv0 b hb
   ·
    rw [a4] at hb; injection hb with hb; exact hnew b (by rw [← hb]; simp)
  ·
   have hok : ∀ b, (ok b ∧ v.ownBlock ≠ some b) → b < W.heap.size → (ok b ∧ v'.ownBlock ≠ some b) ∧ w'.heap[b]? = W.heap[b]? := by
    intro b hb hl
    refine ⟨⟨hb.1, ?_⟩, hgr.block b hl (Ne.symm hb.2)⟩
    rcases a4 with a4 | a4
    ·
     rw [a4]; exact hb.2
    ·
     rw [a4]; intro he; injection he with he; simp at he; omega
   intro j t' u hj hu
   by_cases hlt : j < ts.length
   ·
    rw [List.getElem?_append_left hlt] at hj
    rw [List.getElem?_append_left (by omega)] at hu
    exact Is.turn hgr.size hok t' u (hv3 j t' u hj hu)
   ·
    have hj0 : j = ts.length := by
     have := (List.getElem?_eq_some_iff.1 hj).1
     simp at this; omega
    subst hj0
    rw [List.getElem?_append_right (Nat.le_refl _)] at hj
    rw [List.getElem?_append_right (by omega), hv1] at hu
    simp at hj hu
    subst hj
    subst hu
    exact Is.turn hgr.size hok _ _ hI.out

set_option maxHeartbeats 2000000 in
set_option maxRecDepth 100000 in
theorem keep_rk (ok : Nat → Prop) (base : Nat) (v : Value) (ts : List Rx) (r : Rx) (k mn mx m : Int) (t : W4) (ad : Option Addr) (l c : Nat) (s : ByteArray) (ere : Bool) (i n g d P : Nat) (w : World) (h : Rd w P s ere i n g d) (hK : RK ok base w v ts) (hI : Is w (fun b => ok b ∧ v.ownBlock ≠ some b) r (rxv k mn mx m t (.slice ad l c))) (hnew : ∀ b, w.heap.size ≤ b → ok b) (hb : base ≤ w.heap.size) (ht : ts.length ≤ 1000000) :
  Calls Tryz.prog 86 #[.pointer (some ⟨P, 0, none⟩), v, rxv k mn mx m t (.slice ad l c)] w fun e w' => ∃ v', e = .returned v' ∧ RK ok base w' v' (keepL n ts r) ∧ w.grownBy w' v.ownBlock := by
 have R : Hid (Rd w P s ere i n g d) := h
 have HK : Hid (RK ok base w v ts) := hK
 have HI : Hid (Is w (fun b => ok b ∧ v.ownBlock ≠ some b) r (rxv k mn mx m t (.slice ad l c))) := hI
 have HN := hid hnew
 clear h hK hI hnew
 by_cases hc : n > 40
 ·
  have E : Hid (keepL n ts r = ts) := by show _ = _; unfold keepL; rw [if_pos hc]
  have c1 : (40 : Int) < (n : Int) := by omega
  go_enter Tryz.func86, Tryz.ntmps86
  go_upto_region 1 with fail
  refine opq (fun W0 => Rd W0 P s ere i n g d ∧ W0.heap[w.heap.size]? = some (rxo k mn mx m t (.slice ad l c)) ∧ RK ok base W0 v ts ∧ Is W0 (fun b => ok b ∧ v.ownBlock ≠ some b) r (rxv k mn mx m t (.slice ad l c)) ∧ Kp w W0) ⟨by exact R.out.kp (by repeat (first | exact Kp.refl _ | refine Kp.alloc ?_ _ | refine Kp.drew ?_ | refine Kp.drewN _ ?_)), by (first | exact last_at _ _ _ (by simp) | (refine bl_alloc ?_ _; first | exact last_at _ _ _ (by simp) | (refine bl_alloc ?_ _; first | exact last_at _ _ _ (by simp) | (refine bl_alloc ?_ _; exact last_at _ _ _ (by simp))))), by exact HK.out.kp (by repeat (first | exact Kp.refl _ | refine Kp.alloc ?_ _ | refine Kp.drew ?_ | refine Kp.drewN _ ?_)), by exact HI.out.kp (by repeat (first | exact Kp.refl _ | refine Kp.alloc ?_ _ | refine Kp.drew ?_ | refine Kp.drewN _ ?_)), by exact (by repeat (first | exact Kp.refl _ | refine Kp.alloc ?_ _ | refine Kp.drew ?_ | refine Kp.drewN _ ?_))⟩ ?_
  rintro W0 ⟨xR0, xA0, xHK0, xHI0, xK0⟩
  have R0 : Hid (Rd W0 P s ere i n g d) := xR0
  have A0 : Hid (W0.heap[w.heap.size]? = some (rxo k mn mx m t (.slice ad l c))) := xA0
  have HK0 : Hid (RK ok base W0 v ts) := xHK0
  have HI0 : Hid (Is W0 (fun b => ok b ∧ v.ownBlock ≠ some b) r (rxv k mn mx m t (.slice ad l c))) := xHI0
  have K0 : Hid (Kp w W0) := xK0
  clear xR0 xA0 xHK0 xHI0 xK0
  have p3 := R0.out.cells.2.2.2.1
  have hs0 := K0.out.size
  go_wp2
  go_ret
  exact ⟨_, rfl, by rw [E.out]; exact HK0.out, K0.out.grown _⟩
 ·
  have E : Hid (keepL n ts r = ts ++ [r]) := by show _ = _; unfold keepL; rw [if_neg hc]
  have c1 : ¬ (40 : Int) < (n : Int) := by omega
  go_enter Tryz.func86, Tryz.ntmps86
  go_upto_region 1 with fail
  refine opq (fun W0 => Rd W0 P s ere i n g d ∧ W0.heap[w.heap.size]? = some (rxo k mn mx m t (.slice ad l c)) ∧ RK ok base W0 v ts ∧ Is W0 (fun b => ok b ∧ v.ownBlock ≠ some b) r (rxv k mn mx m t (.slice ad l c)) ∧ Kp w W0) ⟨by exact R.out.kp (by repeat (first | exact Kp.refl _ | refine Kp.alloc ?_ _ | refine Kp.drew ?_ | refine Kp.drewN _ ?_)), by (first | exact last_at _ _ _ (by simp) | (refine bl_alloc ?_ _; first | exact last_at _ _ _ (by simp) | (refine bl_alloc ?_ _; first | exact last_at _ _ _ (by simp) | (refine bl_alloc ?_ _; exact last_at _ _ _ (by simp))))), by exact HK.out.kp (by repeat (first | exact Kp.refl _ | refine Kp.alloc ?_ _ | refine Kp.drew ?_ | refine Kp.drewN _ ?_)), by exact HI.out.kp (by repeat (first | exact Kp.refl _ | refine Kp.alloc ?_ _ | refine Kp.drew ?_ | refine Kp.drewN _ ?_)), by exact (by repeat (first | exact Kp.refl _ | refine Kp.alloc ?_ _ | refine Kp.drew ?_ | refine Kp.drewN _ ?_))⟩ ?_
  rintro W0 ⟨xR0, xA0, xHK0, xHI0, xK0⟩
  have R0 : Hid (Rd W0 P s ere i n g d) := xR0
  have A0 : Hid (W0.heap[w.heap.size]? = some (rxo k mn mx m t (.slice ad l c))) := xA0
  have HK0 : Hid (RK ok base W0 v ts) := xHK0
  have HI0 : Hid (Is W0 (fun b => ok b ∧ v.ownBlock ≠ some b) r (rxv k mn mx m t (.slice ad l c))) := xHI0
  have K0 : Hid (Kp w W0) := xK0
  clear xR0 xA0 xHK0 xHI0 xK0
  have p3 := R0.out.cells.2.2.2.1
  have hs0 := K0.out.size
  have a0 := bl_cell (A0.out) 0 _ rfl
  have a1 := bl_cell (A0.out) 1 _ rfl
  have a2 := bl_cell (A0.out) 2 _ rfl
  have a3 := bl_cell (A0.out) 3 _ rfl
  have a4 := bl_cell (A0.out) 4 _ rfl
  have a5 := bl_cell (A0.out) 5 _ rfl
  have a6 := bl_cell (A0.out) 6 _ rfl
  have a7 := bl_cell (A0.out) 7 _ rfl
  have a8 := bl_cell (A0.out) 8 _ rfl
  go_wp2_with (at_builtin; go_must (refine wpList_append_rk W0 (by rfl) _ _ (by rfl) base v ts r (by rfl) ok (fun b hb => HN.out b (Nat.le_trans hs0 hb)) HK0 k mn mx m t ad l c HI0 _ (by rfl) (by rfl) ?h1 ?h2 ?_))
  case h2 => omega
  intro v' w' hk' hg'
  have HK' : Hid (RK ok base w' v' (ts ++ [r])) := hk'
  have HG' : Hid (w.grownBy w' v.ownBlock) := ⟨hg'.os.trans K0.out.os, hg'.tape.trans K0.out.tape, hg'.output.trans K0.out.output, Nat.le_trans K0.out.size hg'.size, fun b hb hne => (hg'.block b (Nat.lt_of_lt_of_le hb K0.out.size) hne).trans (K0.out.block b hb)⟩
  clear hk' hg'
  go_wp2_with fail
  go_ret
  exact ⟨_, rfl, by rw [E.out]; exact HK'.out, HG'.out⟩

end Go.Proofs.YtommgdgilcemdaaGreatDoor
