/-
  Texts of this claim: MakD, And1, Mak8, KSame, SameEq, Talk.
-/
import Derived.Test.YtikmgckefbjbkaaGreatDoorM5
import Derived.Test.YtikmgckefbjbkaaGreatDoorM1
import Derived.Test.YtikmgckefbjbkaaGreatDoorM2
import Derived.Test.YtikmgckefbjbkaaGreatDoorM3

/-! ### MakD -/

namespace Go.Proofs.YtikmgckefbjbkaaGreatDoor
open Go.RowKit

theorem row_deep (ere : Bool) (H : ∀ d, PartSaid ere d → RowSaid ere d) : RowSaid ere 0 := by
  have p3 : PartSaid ere 3 := ⟨fun aK lK cK aN lN cN B x g z w hA => kpart_any aK lK cK aN lN cN ere B 3 x g z w (by omega) (fun h => absurd h (by omega)) hA⟩
  have p2 : PartSaid ere 2 := ⟨fun aK lK cK aN lN cN B x g z w hA => kpart_any aK lK cK aN lN cN ere B 2 x g z w (by omega) (fun _ => H 3 p3) hA⟩
  have p1 : PartSaid ere 1 := ⟨fun aK lK cK aN lN cN B x g z w hA => kpart_any aK lK cK aN lN cN ere B 1 x g z w (by omega) (fun _ => H 2 p2) hA⟩
  have p0 : PartSaid ere 0 := ⟨fun aK lK cK aN lN cN B x g z w hA => kpart_any aK lK cK aN lN cN ere B 0 x g z w (by omega) (fun _ => H 1 p1) hA⟩
  exact H 0 p0
theorem Nums.up {w : World} {B B' : Nat} {a : Option Addr} {l : Nat} (h : Nums w B a l) (hB : B ≤ B') : Nums w B' a l := ⟨fun hl => by
  obtain ⟨b, o, h1, h2, h3⟩ := h.ex hl
  exact ⟨b, o, h1, by omega, h3⟩⟩
/-- What the maker makes. -/
structure Made (ere : Bool) (w : World) (e : Ending) (w' : World) : Prop where
  ex : ∃ T v, e = .returned v ∧ Is w' (fun b => w.heap.size ≤ b) T v ∧ right ere T = true ∧ RxOk T ∧ Kp w w'
set_option maxHeartbeats 2000000 in
set_option maxRecDepth 100000 in
theorem made_any (ere : Bool) (HR : RowSaid ere 0) (aK : Option Addr) (lK cK : Nat) (aN : Option Addr) (lN cN : Nat) (w : World) (hK : Nums w w.heap.size aK lK) (hN : Nums w w.heap.size aN lN) :
    Calls Tryz.prog 13 #[.agg #[.slice aK lK cK, .slice aN lN cN], .bool ere] w fun e w' => Made ere w e w' := by
  have HRS := hid HR
  have HK := hid hK
  have HN := hid hN
  clear HR hK hN
  go_enter Tryz.func13, Tryz.ntmps13
  go_upto_region 2 with fail
  refine opq (fun W0 => W0.heap[w.heap.size]? = some (.cells #[.slice aK lK cK, .slice aN lN cN] 36) ∧ W0.heap[w.heap.size + 1]? = some rzo ∧ Mk W0 (w.heap.size + 1 + 1) ((0 : Nat) : Int) ((0 : Nat) : Int) 14 ∧ Kp w W0) ⟨bl_alloc (bl_alloc (bl_alloc (bl_alloc (last_of _ _) _) _) _) _, bl_alloc (bl_alloc (bl_alloc (last_at _ _ _ (by simp)) _) _) _, ⟨bl_alloc (bl_alloc (last_at _ _ _ (by simp)) _) _, bl_alloc (last_at _ _ _ (by simp)) _, last_at _ _ _ (by simp)⟩, by repeat (first | exact Kp.refl _ | refine Kp.alloc ?_ _)⟩ ?_
  rintro W0 ⟨xA, xR, xM, xK⟩
  have A0 := hid xA
  have R0 := hid xR
  have M0 := hid xM
  have K0 := hid xK
  have hs0 : w.heap.size + 1 < W0.heap.size := bl_lt xR
  clear xA xR xM xK
  have p0 := bl_cell A0.out 0 _ rfl
  have p1 := bl_cell A0.out 1 _ rfl
  go_upto_region 3 with fail
  refine opq (fun W1 => W1.heap[W0.heap.size]? = some (mko aK lK cK aN lN cN ere (w.heap.size + 1 + 1)) ∧ Kp W0 W1) ⟨last_of _ _, (Kp.refl _).alloc _⟩ ?_
  rintro W1 ⟨xA, xK⟩
  have A1 := hid xA
  have R1 := hid (bl_kp R0.out xK)
  have M1 := hid (M0.out.kp xK)
  have K1 := hid (K0.out.trans xK)
  have NK := hid ((HK.out.km (K1.out.km (Nat.le_refl _))).up (B' := w.heap.size + 1 + 1) (by omega))
  have NN := hid ((HN.out.km (K1.out.km (Nat.le_refl _))).up (B' := w.heap.size + 1 + 1) (by omega))
  have hs1 := xK.size
  clear xA xK p0 p1 A0 R0 M0 K0
  have p0 := bl_cell A1.out 0 _ rfl
  have p1 := bl_cell A1.out 1 _ rfl
  have p2 := bl_cell A1.out 2 _ rfl
  have p3 := bl_cell A1.out 3 _ rfl
  have p4 := bl_cell A1.out 4 _ rfl
  have p5 := bl_cell A1.out 5 _ rfl
  go_wp2_with fail
  refine (HRS.out.all aK lK cK aN lN cN (w.heap.size + 1 + 1) 0 0 14 W1 ⟨M1.out, NK.out, NN.out, by omega, by omega, by omega, by omega⟩).mono ?_
  rintro e W2 ⟨⟨T, v, g', rfl, hI, hG, hGo⟩⟩
  obtain ⟨kk, mn, mx, mm, tt, ad, ll, cc, rfl⟩ := hI.form
  have hm1 := M1.out.lt
  have hs2 := hGo.km.size
  have hR2 : W2.heap[w.heap.size + 1]? = some rzo := (hGo.km.block _ (by omega) (by omega) (by omega) (by omega)).trans R1.out
  have R2 := hid hR2
  have I2 := hid hI
  have G2 := hid hG
  have K2 := hid (hGo.km.up K1.out (by omega))
  clear hI hG hGo hR2 p0 p1 p2 p3 p4 p5
  have r0 := bl_cell R2.out 0 _ rfl
  have fr0 := bl_frozen R2.out 0
  have r1 := bl_cell R2.out 1 _ rfl
  have fr1 := bl_frozen R2.out 1
  have r2 := bl_cell R2.out 2 _ rfl
  have fr2 := bl_frozen R2.out 2
  have r3 := bl_cell R2.out 3 _ rfl
  have fr3 := bl_frozen R2.out 3
  have r4 := bl_cell R2.out 4 _ rfl
  have fr4 := bl_frozen R2.out 4
  have r5 := bl_cell R2.out 5 _ rfl
  have fr5 := bl_frozen R2.out 5
  have r6 := bl_cell R2.out 6 _ rfl
  have fr6 := bl_frozen R2.out 6
  have r7 := bl_cell R2.out 7 _ rfl
  have fr7 := bl_frozen R2.out 7
  have r8 := bl_cell R2.out 8 _ rfl
  have fr8 := bl_frozen R2.out 8
  go_wp2_with fail
  refine bodyPost_ret (v := rxv kk mn mx mm tt (.slice ad ll cc)) (rx_ret rfl _ _ _ _ rfl (bl_set9 R2.out _ _ _ _ _ _ _ _ _) rfl) rfl ⟨⟨T, _, rfl, ?_, G2.out.right, G2.out.ok, ?_⟩⟩
  · exact (I2.out.ks (ks_set9 _ _ _ _ _ _ _ _ _) (fun b hb _ => by omega)).weak (fun b hb _ => by omega)
  · exact Ks.up (P := w.heap.size + 1) (ks_set9 _ _ _ _ _ _ _ _ _) K2.out (by omega)
end Go.Proofs.YtikmgckefbjbkaaGreatDoor

/-! ### And1 -/

namespace Go.Proofs.YtikmgckefbjbkaaGreatDoor
open Go.RowKit

theorem i64_and1 (n : Int) : bits .and .i64 n 1 = n % 2 := by
  have h1 : (BitVec.ofInt 64 1).toNat = 2 ^ 1 - 1 := by decide
  have key : (BitVec.ofInt 64 n &&& BitVec.ofInt 64 1).toNat = (n % ((2 ^ 64 : Nat) : Int)).toNat % 2 ^ 1 := by
    rw [BitVec.toNat_and, BitVec.toNat_ofInt, h1, Nat.and_two_pow_sub_one_eq_mod]
  show IntKind.i64.wrap ((BitVec.ofInt 64 n &&& BitVec.ofInt 64 1).toNat : Nat) = n % 2
  rw [key, IntKind.wrap_i64]
  omega
/-- One, and one more where a number is odd. -/
theorem one_or_two (n : Int) : ∃ m : Nat, 1 + bits .and .i64 n 1 = (m : Int) ∧ 1 ≤ m ∧ m ≤ 2 := by
  rw [i64_and1]
  exact ⟨(1 + n % 2).toNat, by omega, by omega, by omega⟩
end Go.Proofs.YtikmgckefbjbkaaGreatDoor

/-! ### Mak8 -/

namespace Go.Proofs.YtikmgckefbjbkaaGreatDoor
open Go.RowKit

theorem RK.pair {ok : Nat → Prop} {base : Nat} {w : World} {r r' : Rx} (k1 mn1 mx1 mm1 : Int) (t1 : W4) (ad1 : Option Addr) (l1 c1 : Nat) (k2 mn2 mx2 mm2 : Int) (t2 : W4) (ad2 : Option Addr) (l2 c2 : Nat)
    (hI : Is w ok r (rxv k1 mn1 mx1 mm1 t1 (.slice ad1 l1 c1))) (hJ : Is w ok r' (rxv k2 mn2 mx2 mm2 t2 (.slice ad2 l2 c2))) (hb : base ≤ w.heap.size) (ho : ok w.heap.size) :
    RK ok base (w.alloc (.cells #[.int .i64 k1, .int .i64 mn1, .int .i64 mx1, .int .i64 mm1, .int .u64 (t1.a : Int), .int .u64 (t1.b : Int), .int .u64 (t1.c : Int), .int .u64 (t1.d : Int), .slice ad1 l1 c1, .int .i64 k2, .int .i64 mn2, .int .i64 mx2, .int .i64 mm2, .int .u64 (t2.a : Int), .int .u64 (t2.b : Int), .int .u64 (t2.c : Int), .int .u64 (t2.d : Int), .slice ad2 l2 c2] 27)) (.slice (some ⟨w.heap.size, 0, none⟩) 2 2) [r, r'] := by
  refine ⟨[rxv k1 mn1 mx1 mm1 t1 (.slice ad1 l1 c1), rxv k2 mn2 mx2 mm2 t2 (.slice ad2 l2 c2)], rfl, ⟨rfl, .inr ⟨w.heap.size, 2, _, rfl, hb, last_of w _, Nat.le_refl _, by unfold maxLen; omega, rfl, rfl⟩⟩, ?_, ?_⟩
  · intro b hb'
    injection hb' with hb'
    rw [← hb']; exact ho
  intro j t' u hj hu
  have key : ∀ (q : Rx) (v : Value), Is w ok q v → Is (w.alloc (.cells #[.int .i64 k1, .int .i64 mn1, .int .i64 mx1, .int .i64 mm1, .int .u64 (t1.a : Int), .int .u64 (t1.b : Int), .int .u64 (t1.c : Int), .int .u64 (t1.d : Int), .slice ad1 l1 c1, .int .i64 k2, .int .i64 mn2, .int .i64 mx2, .int .i64 mm2, .int .u64 (t2.a : Int), .int .u64 (t2.b : Int), .int .u64 (t2.c : Int), .int .u64 (t2.d : Int), .slice ad2 l2 c2] 27)) (fun b => ok b ∧ (Value.slice (some ⟨w.heap.size, 0, none⟩) 2 2).ownBlock ≠ some b) q v := fun q v h => by
    refine (h.weak (fun b hb hl => ⟨hb, ?_⟩)).kp ((Kp.refl _).alloc _)
    show some w.heap.size ≠ some b
    intro he; injection he with he; omega
  match j, hj, hu with
  | 0, hj, hu =>
    simp at hj hu
    subst hj
    subst hu
    exact key _ _ hI
  | 1, hj, hu =>
    simp at hj hu
    subst hj
    subst hu
    exact key _ _ hJ
  | j + 2, hj, _ => simp at hj
theorem sg_of {m : Nat} {T : Rx} {d g g' : Nat} {v : Value} {base : Nat} {w : World} (hg : g ≤ 3) (h1 : 1 ≤ m) (h2 : m ≤ 2) (hp : m = 1 → Trip.PGood true 2 T d g g')
    (hL : 2 ≤ m → ∃ ks kv, v = rxv 2 0 0 0 W4.z kv ∧ T = .mk 2 0 0 0 W4.z ks ∧ RKids base w kv ks ∧ ks.length = m ∧ Trip.LG true d ks g g') : Trip.SGood true 5 T d g g' := by
  by_cases hm : m = 1
  · exact ((hp hm).more (by omega)).part
  · obtain ⟨ks, kv, _, rfl, _, hl, hLG⟩ := hL (by omega)
    have := Trip.cat_good true d g g' hg ks hLG (by omega) (by omega)
    rw [show 1 + 2 * ks.length = 5 by omega] at this
    exact this
/-- What stands in the two variables. -/
structure AMid (B d g x : Nat) (z : Int) (w : World) (v v' : Value) (w' : World) : Prop where
  ex : ∃ V1 V2 T1 T2 g1 g2, ∃ (k1 mn1 mx1 mm1 : Int) (t1 : W4) (ad1 : Option Addr) (l1 c1 : Nat), ∃ (k2 mn2 mx2 mm2 : Int) (t2 : W4) (ad2 : Option Addr) (l2 c2 : Nat), v = .pointer (some ⟨V1, 0, none⟩) ∧ v' = .pointer (some ⟨V2, 0, none⟩) ∧ w.heap.size + 1 < V1 ∧ w.heap.size + 1 < V2 ∧
    w'.heap[V1]? = some (rxo k1 mn1 mx1 mm1 t1 (.slice ad1 l1 c1)) ∧ w'.heap[V2]? = some (rxo k2 mn2 mx2 mm2 t2 (.slice ad2 l2 c2)) ∧ Is w' (fun b => w.heap.size + 1 < b) T1 (rxv k1 mn1 mx1 mm1 t1 (.slice ad1 l1 c1)) ∧ Is w' (fun b => w.heap.size + 1 < b) T2 (rxv k2 mn2 mx2 mm2 t2 (.slice ad2 l2 c2)) ∧
    Trip.SGood true 5 T1 d g g1 ∧ Trip.SGood true 2 T2 d g1 g2 ∧ w'.heap[w.heap.size + 1]? = some rzo ∧ Gone B 4 7 x g z w w' g2
theorem amid_of {B d g x m x' V1 V2 g1 g2 : Nat} {z z' : Int} {w W5 u1 Y1 u2 Y2 u3 Z Wf : World} {T1 T2 : Rx} {k1 mn1 mx1 mm1 : Int} {t1 : W4} {ad1 : Option Addr} {l1 c1 : Nat} {k2 mn2 mx2 mm2 : Int} {t2 : W4} {ad2 : Option Addr} {l2 c2 : Nat}
    (hBw : B + 2 < w.heap.size) (h2 : m ≤ 2) (hs : w.heap.size + 1 < W5.heap.size) (K5 : Km B w W5) (kc1 : Kp W5 u1) (km1 : Km B u1 Y1) (kc2 : Kp Y1 u2) (kc3 : Kp Y2 u3)
    (hV1 : w.heap.size + 1 < V1) (hV2 : w.heap.size + 1 < V2) (o11 : V1 < u1.heap.size + 2 ∨ Y1.heap.size ≤ V1) (o12 : V1 < u2.heap.size + 2 ∨ Y2.heap.size ≤ V1) (o21 : V2 < u1.heap.size + 2 ∨ Y1.heap.size ≤ V2) (o22 : V2 < u2.heap.size + 2 ∨ Y2.heap.size ≤ V2)
    (R5 : W5.heap[w.heap.size + 1]? = some rzo) (I1 : Is Y1 (fun b => u1.heap.size + 2 ≤ b) T1 (rxv k1 mn1 mx1 mm1 t1 (.slice ad1 l1 c1))) (q1 : x' + 8 * (4 - g1) ≤ x + 1 + 8 * (4 - g) + m) (q2 : z - 1 + 8 * g ≤ z' + 8 * g1 + (2 * m : Nat)) (q3 : z' ≤ z - 1) (S1 : Trip.SGood true 5 T1 d g g1)
    (I2 : Is Y2 (fun b => u2.heap.size + 2 ≤ b) T2 (rxv k2 mn2 mx2 mm2 t2 (.slice ad2 l2 c2))) (G2 : Gone B 1 (2 * 1) x' g1 z' u2 Y2 g2) (S2 : Trip.SGood true 2 T2 d g1 g2)
    (f1 : Ks V1 u3 Z) (f2 : Ks V2 Z Wf) (b1 : Wf.heap[V1]? = some (rxo k1 mn1 mx1 mm1 t1 (.slice ad1 l1 c1))) (b2 : Wf.heap[V2]? = some (rxo k2 mn2 mx2 mm2 t2 (.slice ad2 l2 c2))) : AMid B d g x z w (.pointer (some ⟨V1, 0, none⟩)) (.pointer (some ⟨V2, 0, none⟩)) Wf := by
  have s1 := kc1.size
  have s2 := km1.size
  have s3 := kc2.size
  have s4 := G2.km.size
  have s5 := kc3.size
  have s6 := f1.size
  have s7 := f2.size
  refine ⟨V1, V2, T1, T2, g1, g2, k1, mn1, mx1, mm1, t1, ad1, l1, c1, k2, mn2, mx2, mm2, t2, ad2, l2, c2, rfl, rfl, hV1, hV2, b1, b2, ?_, ?_, S1, S2, ?_, ?_⟩
  · refine Is.turn (by omega) (fun b hb hl => ⟨by omega, ?_⟩) _ _ I1
    exact (f2.block b (by omega) (by omega)).trans ((f1.block b (by omega) (by omega)).trans ((kc3.block b (by omega)).trans ((G2.km.block b (by omega) (by omega) (by omega) (by omega)).trans (kc2.block b hl))))
  · refine Is.turn (by omega) (fun b hb hl => ⟨by omega, ?_⟩) _ _ I2
    exact (f2.block b (by omega) (by omega)).trans ((f1.block b (by omega) (by omega)).trans (kc3.block b hl))
  · exact bl_ks (bl_ks (bl_kp (bl_km (bl_kp (bl_km (bl_kp R5 kc1) (by omega) km1) kc2) (by omega) G2.km) kc3) (by omega) f1) (by omega) f2
  · obtain ⟨x'', z'', hm, p1, p2, p3⟩ := G2.ex
    exact ⟨⟨x'', z'', ((hm.kp kc3).ks f1 (by omega)).ks f2 (by omega), by omega, by omega, by omega⟩, ((((((K5.kp kc1 (by omega)).trans km1).kp kc2 (by omega)).trans G2.km).kp kc3 (by omega)).new f1 (by omega) (by omega)).new f2 (by omega) (by omega)⟩

set_option maxHeartbeats 8000000 in
set_option maxRecDepth 100000 in
theorem krow_any (ere : Bool) (aK : Option Addr) (lK cK : Nat) (aN : Option Addr) (lN cN : Nat) (B : Nat) (d x g : Nat) (z : Int) (w : World) (HP : PartSaid ere d) (hA : Asks w aK lK aN lN B 4 7 x g z) :
    Calls Tryz.prog 28 #[(mkv aK lK cK aN lN cN ere B), .int .i64 (d : Int)] w fun e w' => RowD ere B d x g z w e w' := by
  have HA := hid hA
  have hBw := hA.mm.lt
  have hg3 := hA.g3
  have hbx := hA.bx
  have hbz := hA.bz
  have hz14 := hA.z14
  have HPS := hid HP
  clear hA HP
  go_enter Tryz.func28, Tryz.ntmps28
  go_upto_region 1 with fail
  refine opq (fun W0 => W0.heap[w.heap.size]? = some (mko aK lK cK aN lN cN ere B) ∧ W0.heap[(w.heap.size + 1)]? = some rzo ∧ Kp w W0) ⟨by exact bl_alloc (last_of _ _) _, by exact last_at _ _ _ (by simp), by exact (by repeat (first | exact Kp.refl _ | refine Kp.alloc ?_ _ | refine Kp.drew ?_ | refine Kp.drewN _ ?_))⟩ ?_
  rintro W0 ⟨xA0, xR0, xK0⟩
  have A0 : Hid (W0.heap[w.heap.size]? = some (mko aK lK cK aN lN cN ere B)) := xA0
  have R0 : Hid (W0.heap[(w.heap.size + 1)]? = some rzo) := xR0
  have K0 : Hid (Kp w W0) := xK0
  clear xA0 xR0 xK0
  have AS0 := hid (HA.out.mm.kp K0.out)
  have NK0 := hid (HA.out.nk.km (K0.out.km (B := B) (by omega)))
  have NN0 := hid (HA.out.nn.km (K0.out.km (B := B) (by omega)))
  have p0 := bl_cell (A0.out) 0 _ rfl
  have p1 := bl_cell (A0.out) 1 _ rfl
  have p2 := bl_cell (A0.out) 2 _ rfl
  have p3 := bl_cell (A0.out) 3 _ rfl
  have p4 := bl_cell (A0.out) 4 _ rfl
  have p5 := bl_cell (A0.out) 5 _ rfl
  go_wp2_with fail
  refine (next_any aK lK cK aN lN cN ere B x (g : Int) z _ AS0.out NK0.out NN0.out (by omega)).mono ?_
  rintro e W1 ⟨kd, n, rfl, m1, k1⟩
  have hs0 := K0.out.size
  have hs0' : w.heap.size + 1 < W0.heap.size := bl_lt R0.out
  have hs1 := k1.size
  have M1 := hid m1
  have A1 := hid (bl_km A0.out (by omega) k1)
  have R1 := hid (bl_km R0.out (by omega) k1)
  have K1 : Hid (Km B w W1) := (K0.out.km (by omega)).trans k1
  clear m1 k1 AS0 NK0 NN0 A0 R0 p0 p1 p2 p3 p4 p5
  go_upto_region 2 with fail
  have gz : IntKind.i64.wrap (z - 1) = z - 1 := by rw [IntKind.wrap_i64]; omega
  go_cut [] (fun wc => Mk wc B ((x + 1 : Nat) : Int) (g : Int) (z - 1) ∧ wc.heap[w.heap.size]? = some (mko aK lK cK aN lN cN ere B) ∧ wc.heap[w.heap.size + 1]? = some rzo ∧ Km B w wc ∧ W1.heap.size ≤ wc.heap.size)
  case first =>
    have Q0 : Kp W1 W1.drew := (Kp.refl _).drew
    have MK : Hid (∀ W, Kp W1 W → W.cell? ⟨w.heap.size, 5, none⟩ = some (.pointer (some ⟨B + 2, 0, none⟩)) ∧ W.cell? ⟨(B + 2), 0, none⟩ = some (.int .i64 z) ∧ Hid (Kp W1 W)) := fun W k => ⟨bl_cell (bl_kp A1.out k) 5 _ rfl, bl_cell (M1.out.kp k).lf 0 _ rfl, k⟩
    refine wp_region_noPanic ?_
    refine region_Z (z := 8) (S := (fun W => W.cell? ⟨w.heap.size, 5, none⟩ = some (.pointer (some ⟨B + 2, 0, none⟩)) ∧ W.cell? ⟨(B + 2), 0, none⟩ = some (.int .i64 z) ∧ Hid (Kp W1 W))) (by kernel_rfl) ?_ (fun hH => ?_)
    · exact MK.out _ Q0
    have KQ := Q0
    refine anyZ_take (z := 8) (ks := []) (i := 0) (v := ?v0a1) rfl (by kernel_rfl) (by kernel_rfl) (by kernel_rfl) (by kernel_rfl) (by kernel_rfl) (fun _ _ _ h => h) (Or.inl ⟨by rfl, ?hy0a1⟩) hH ?r0a1
    case hy0a1 => (intro W hSw; (try dsimp only at hSw); go_simp; try (with_reducible rfl))
    try simp only [Act.put, List.setIfInBounds_toArray, List.set_cons_zero, List.set_cons_succ]
    refine anyZ_take (z := 8) (ks := []) (i := 1) (v := ?v1a2) rfl (by kernel_rfl) (by kernel_rfl) (by kernel_rfl) (by kernel_rfl) (by kernel_rfl) (fun _ _ _ h => h) (Or.inl ⟨by rfl, ?hy1a2⟩) hH ?r1a2
    case hy1a2 => (intro W hSw; (try dsimp only at hSw); go_simp; try (with_reducible rfl))
    try simp only [Act.put, List.setIfInBounds_toArray, List.set_cons_zero, List.set_cons_succ]
    refine anyZ_take (z := 8) (ks := []) (i := 2) (v := ?v2a3) rfl (by kernel_rfl) (by kernel_rfl) (by kernel_rfl) (by kernel_rfl) (by kernel_rfl) (fun _ _ _ h => h) (Or.inl ⟨by rfl, ?hy2a3⟩) hH ?r2a3
    case hy2a3 => (intro W hSw; (try dsimp only at hSw); go_simp; try (with_reducible rfl))
    try simp only [Act.put, List.setIfInBounds_toArray, List.set_cons_zero, List.set_cons_succ]
    refine anyZ_take (z := 8) (ks := []) (i := 3) (v := ?v3a4) rfl (by kernel_rfl) (by kernel_rfl) (by kernel_rfl) (by kernel_rfl) (by kernel_rfl) (fun _ _ _ h => h) (Or.inl ⟨by rfl, ?hy3a4⟩) hH ?r3a4
    case hy3a4 => (intro W hSw; (try dsimp only at hSw); go_simp; try (with_reducible rfl))
    try simp only [Act.put, List.setIfInBounds_toArray, List.set_cons_zero, List.set_cons_succ]
    refine anyZ_take (z := 8) (ks := []) (i := 4) (v := ?v4a5) rfl (by kernel_rfl) (by kernel_rfl) (by kernel_rfl) (by kernel_rfl) (by kernel_rfl) (fun _ _ _ h => h) (Or.inl ⟨by rfl, ?hy4a5⟩) hH ?r4a5
    case hy4a5 => (intro W hSw; (try dsimp only at hSw); go_simp; try (with_reducible rfl))
    try simp only [Act.put, List.setIfInBounds_toArray, List.set_cons_zero, List.set_cons_succ]
    refine anyZ_take (z := 8) (ks := []) (i := 5) (v := ?v5a6) rfl (by kernel_rfl) (by kernel_rfl) (by kernel_rfl) (by kernel_rfl) (by kernel_rfl) (fun _ _ _ h => h) (Or.inl ⟨by rfl, ?hy5a6⟩) hH ?r5a6
    case hy5a6 => (intro W hSw; (try dsimp only at hSw); go_simp; try (with_reducible rfl))
    try simp only [Act.put, List.setIfInBounds_toArray, List.set_cons_zero, List.set_cons_succ]
    refine anyZ_take (z := 8) (ks := []) (i := 6) (v := ?v6a7) rfl (by kernel_rfl) (by kernel_rfl) (by kernel_rfl) (by kernel_rfl) (by kernel_rfl) (fun _ _ _ h => h) (Or.inl ⟨by rfl, ?hy6a7⟩) hH ?r6a7
    case hy6a7 => (intro W hSw; (try dsimp only at hSw); go_simp; try (with_reducible rfl))
    try simp only [Act.put, List.setIfInBounds_toArray, List.set_cons_zero, List.set_cons_succ]
    refine anyZ_take (z := 8) (ks := []) (i := 7) (v := ?v7a8) rfl (by kernel_rfl) (by kernel_rfl) (by kernel_rfl) (by kernel_rfl) (by kernel_rfl) (fun _ _ _ h => h) (Or.inl ⟨by rfl, ?hy7a8⟩) hH ?r7a8
    case hy7a8 => (intro W hSw; (try dsimp only at hSw); go_simp; try (with_reducible rfl))
    try simp only [Act.put, List.setIfInBounds_toArray, List.set_cons_zero, List.set_cons_succ]
    refine anyZ_ready (rs := [8]) (by kernel_rfl) (by simp) ?_
    refine AllZ.last rfl (Or.inl rfl) (fun K hKq => ?_) AllZ.nil
    have fq2 := bl_frozen (M1.out.kp KQ).lf 0
    have cq2 := bl_cell (M1.out.kp KQ).lf 0 _ rfl
    go_simp
    refine hKq.out _ _ ?_
    clear fq2 cq2
    clear hKq K
    try simp only [Act.put, List.setIfInBounds_toArray, List.set_cons_zero, List.set_cons_succ]
    refine anyZ_done (by kernel_rfl) ?_ _
    refine NoPanic.normal ?_
    go_wp2_with fail
    go_meet
    case rel => exact ⟨(M1.out.kp KQ).setL _, bl_set (bl_kp A1.out KQ) (by omega) _, bl_set (bl_kp R1.out KQ) (by omega) _, (K1.out.kp KQ (by omega)).set 2 (by omega) 0 _, by simp⟩
  case rest =>
  obtain ⟨m2, a2, r2, k2, hs2⟩ := hcut
  rename World => W2
  have M2 := hid m2
  have A2 := hid a2
  have R2 := hid r2
  have K2 := hid k2
  clear m2 a2 r2 k2 M1 A1 R1 K1 gz
  go_wp2_with fail
  refine (within_nat _ 9 (by omega) _).mono ?_
  rintro e W2 ⟨c, hc9, rfl, rfl⟩
  have p0 := bl_cell (A2.out) 0 _ rfl
  have p1 := bl_cell (A2.out) 1 _ rfl
  have p2 := bl_cell (A2.out) 2 _ rfl
  have p3 := bl_cell (A2.out) 3 _ rfl
  have p4 := bl_cell (A2.out) 4 _ rfl
  have p5 := bl_cell (A2.out) 5 _ rfl
  have q0 := bl_cell M2.out.lf 0 _ rfl
  go_upto_region 4 with fail
  go_cut [42] (fun v wc => Bq (ere = true ∧ d < 3) v ∧ Kp W2 wc)
  case first =>
    cases ere with
    | false =>
      go_wp2_with fail
      go_meet
      case rel => exact ⟨⟨_, rfl, fun h => by cases h⟩, Kp.refl _⟩
    | true =>
    by_cases h9 : c = 9
    · subst h9
      by_cases hl : 4 < z - 1
      · have hli : (4 : Int) < z - 1 := hl
        by_cases hd3 : d < 3
        · have hd3i : (d : Int) < 3 := by omega
          go_wp2_with fail
          go_meet
          case rel => exact ⟨⟨_, rfl, fun _ => ⟨by trivial, hd3⟩⟩, Kp.refl _⟩
        · have hd3i : ¬ (d : Int) < 3 := by omega
          go_wp2_with fail
          go_meet
          case rel => exact ⟨⟨_, rfl, fun h => by cases h⟩, Kp.refl _⟩
      · have hli : ¬ (4 : Int) < z - 1 := hl
        go_wp2_with fail
        go_meet
        case rel => exact ⟨⟨_, rfl, fun h => by cases h⟩, Kp.refl _⟩
    · have h9i : ((c : Int) == 9) = false := by simp; omega
      have h9j : ¬ (c : Int) = 9 := by omega
      go_wp2_with fail
      go_meet
      case rel => exact ⟨⟨_, rfl, fun h => by cases h⟩, Kp.refl _⟩
  case rest =>
  obtain ⟨⟨⟨q4, rfl, hq4⟩⟩, k4⟩ := hcut
  rename World => W5
  have hs4 := k4.size
  have M5 := hid (M2.out.kp k4)
  have A5 := hid (bl_kp A2.out k4)
  have R5 := hid (bl_kp R2.out k4)
  have K5 := hid (K2.out.kp k4 (by omega))
  have hs5 : w.heap.size + 1 < W5.heap.size := bl_lt R5.out
  clear k4 q0 M2 A2 R2 K2 p0 p1 p2 p3 p4 p5
  have M2 := M5
  have A2 := A5
  have R2 := R5
  have K2 := K5
  clear M5 A5 R5 K5
  cases q4
  case true =>
    obtain ⟨rfl, _⟩ := hq4 rfl
    go_upto_region 5 with fail
    have NKW := hid (fun (W : World) (k : Km B W5 W) => HA.out.nk.km (K2.out.trans k))
    have NNW := hid (fun (W : World) (k : Km B W5 W) => HA.out.nn.km (K2.out.trans k))
    obtain ⟨m, hm, hm1, hm2⟩ := one_or_two n
    have hmc : 1 + bits .and .i64 n 1 = (m : Int) := hm
    have gw : IntKind.i64.wrap (m : Int) = (m : Int) := by rw [IntKind.wrap_i64]; omega
    clear hm
    have PS := hid (fun (m : Nat) (h1 : 1 ≤ m) (h3 : m ≤ 2) (W : World) (k : Kp W5 W) => parts_any aK lK cK aN lN cN true B d m (x + 1) g (z - 1) W h1 (by omega) HPS.out ⟨M2.out.kp k, NKW.out _ (k.km (by omega)), NNW.out _ (k.km (by omega)), hg3, by omega, by omega, by omega⟩)
    go_cut [8, 9] (fun v v' wc => AMid B d g x z w v v' wc)
    case first =>
      have Q0 : Km B W5 W5.drew := (Km.refl B W5).kp ((Kp.refl _).drew) (by omega)
      have MK : Hid (∀ W, Km B W5 W → W.cell? ⟨w.heap.size, 0, none⟩ = some (.slice aK lK cK) ∧ W.cell? ⟨w.heap.size, 1, none⟩ = some (.slice aN lN cN) ∧ W.cell? ⟨w.heap.size, 2, none⟩ = some (.bool true) ∧ W.cell? ⟨w.heap.size, 3, none⟩ = some (.pointer (some ⟨B, 0, none⟩)) ∧ W.cell? ⟨w.heap.size, 4, none⟩ = some (.pointer (some ⟨B + 1, 0, none⟩)) ∧ W.cell? ⟨w.heap.size, 5, none⟩ = some (.pointer (some ⟨B + 2, 0, none⟩)) ∧ Hid (Km B W5 W)) := fun W k => ⟨bl_cell (bl_km A2.out (by omega) k) 0 _ rfl, bl_cell (bl_km A2.out (by omega) k) 1 _ rfl, bl_cell (bl_km A2.out (by omega) k) 2 _ rfl, bl_cell (bl_km A2.out (by omega) k) 3 _ rfl, bl_cell (bl_km A2.out (by omega) k) 4 _ rfl, bl_cell (bl_km A2.out (by omega) k) 5 _ rfl, k⟩
      refine wp_region_noPanic ?_
      refine wp_region_held_drew (S := (fun W => W.cell? ⟨w.heap.size, 0, none⟩ = some (.slice aK lK cK) ∧ W.cell? ⟨w.heap.size, 1, none⟩ = some (.slice aN lN cN) ∧ W.cell? ⟨w.heap.size, 2, none⟩ = some (.bool true) ∧ W.cell? ⟨w.heap.size, 3, none⟩ = some (.pointer (some ⟨B, 0, none⟩)) ∧ W.cell? ⟨w.heap.size, 4, none⟩ = some (.pointer (some ⟨B + 1, 0, none⟩)) ∧ W.cell? ⟨w.heap.size, 5, none⟩ = some (.pointer (some ⟨B + 2, 0, none⟩)) ∧ Hid (Km B W5 W))) (by kernel_rfl) ?_ (fun hH => ?_)
      · exact MK.out _ Q0
      have KQ := Q0
      refine wpAnyH_take (i := 0) (v := ?v0e1) rfl (by kernel_rfl) (by kernel_rfl) (by kernel_rfl) (fun _ _ _ h => h) (Or.inl ⟨by rfl, ?hy0e1⟩) hH ?r0e1
      case hy0e1 => (intro W hSw; (try dsimp only at hSw); go_simp; try (with_reducible rfl))
      try simp only [Act.put, List.setIfInBounds_toArray, List.set_cons_zero, List.set_cons_succ]
      refine wpAnyH_take (i := 1) (v := ?v1e2) rfl (by kernel_rfl) (by kernel_rfl) (by kernel_rfl) (fun _ _ _ h => h) (Or.inl ⟨by rfl, ?hy1e2⟩) hH ?r1e2
      case hy1e2 => (intro W hSw; (try dsimp only at hSw); go_simp; try (with_reducible rfl))
      try simp only [Act.put, List.setIfInBounds_toArray, List.set_cons_zero, List.set_cons_succ]
      refine wpAnyH_take (i := 2) (v := ?v2e3) rfl (by kernel_rfl) (by kernel_rfl) (by kernel_rfl) (fun _ _ _ h => h) (Or.inl ⟨by rfl, ?hy2e3⟩) hH ?r2e3
      case hy2e3 => (intro W hSw; (try dsimp only at hSw); go_simp; try (with_reducible rfl))
      try simp only [Act.put, List.setIfInBounds_toArray, List.set_cons_zero, List.set_cons_succ]
      refine wpAnyH_take (i := 3) (v := ?v3e4) rfl (by kernel_rfl) (by kernel_rfl) (by kernel_rfl) (fun _ _ _ h => h) (Or.inl ⟨by rfl, ?hy3e4⟩) hH ?r3e4
      case hy3e4 => (intro W hSw; (try dsimp only at hSw); go_simp; try (with_reducible rfl))
      try simp only [Act.put, List.setIfInBounds_toArray, List.set_cons_zero, List.set_cons_succ]
      refine wpAnyH_take (i := 4) (v := ?v4e5) rfl (by kernel_rfl) (by kernel_rfl) (by kernel_rfl) (fun _ _ _ h => h) (Or.inl ⟨by rfl, ?hy4e5⟩) hH ?r4e5
      case hy4e5 => (intro W hSw; (try dsimp only at hSw); go_simp; try (with_reducible rfl))
      try simp only [Act.put, List.setIfInBounds_toArray, List.set_cons_zero, List.set_cons_succ]
      refine wpAnyH_take (i := 6) (v := ?v6e6) rfl (by kernel_rfl) (by kernel_rfl) (by kernel_rfl) (fun _ _ _ h => h) (Or.inl ⟨by rfl, ?hy6e6⟩) hH ?r6e6
      case hy6e6 => (intro W hSw; (try dsimp only at hSw); go_simp; try (with_reducible rfl))
      try simp only [Act.put, List.setIfInBounds_toArray, List.set_cons_zero, List.set_cons_succ]
      refine wpAnyH_take (i := 7) (v := ?v7e7) rfl (by kernel_rfl) (by kernel_rfl) (by kernel_rfl) (fun _ _ _ h => h) (Or.inl ⟨by rfl, ?hy7e7⟩) hH ?r7e7
      case hy7e7 => (intro W hSw; (try dsimp only at hSw); go_simp; try (with_reducible rfl))
      try simp only [Act.put, List.setIfInBounds_toArray, List.set_cons_zero, List.set_cons_succ]
      refine wpAnyH_ready (rs := [5, 9, 10]) (by kernel_rfl) (by simp) ?_
      refine AllReadyH.cons rfl (fun K hKq => ?_) ?_
      ·
        go_simp
        refine (PS.out m hm1 hm2 _ (by repeat (first | exact Kp.refl _ | refine Kp.alloc ?_ _ | refine Kp.drew ?_))).mono ?_
        rintro e Y1 ⟨⟨T1, v1, g1, rfl, hI, hp1, hp2, hGn⟩⟩
        obtain ⟨k1, mn1, mx1, mm1, t1, ad1, l1, c1, rfl⟩ := hI.form
        have SG1 := hid (sg_of hg3 hm1 hm2 hp1 hp2)
        have I1 := hid hI
        have KM1 := hid hGn.km
        have hy1 := hGn.km.size
        try simp at hy1
        obtain ⟨x', z', hmk, q1, q2, q3⟩ := hGn.ex
        have hgg := SG1.out.g3
        have PS2 := hid (fun (W : World) (k : Kp Y1 W) => parts_any aK lK cK aN lN cN true B d 1 x' g1 z' W (by omega) (by omega) HPS.out ⟨hmk.kp k, NKW.out _ ((Kp.km (B := B) (a := W5) (by repeat (first | exact Kp.refl _ | refine Kp.alloc ?_ _ | refine Kp.drew ?_)) (by omega)).trans (KM1.out.kp k (by first | omega | (simp; omega) | simp))), NNW.out _ ((Kp.km (B := B) (a := W5) (by repeat (first | exact Kp.refl _ | refine Kp.alloc ?_ _ | refine Kp.drew ?_)) (by omega)).trans (KM1.out.kp k (by first | omega | (simp; omega) | simp))), hgg, by omega, by omega, by omega⟩)
        clear hI hp1 hp2 hGn hmk
        refine hKq.out _ _ (MK.out _ (KQ.trans KM1.out)) (fun hN => ?_)
        clear hKq K hH KQ
        have hH := hN
        clear hN
        have KQ := hH.2.2.2.2.2.2.out
        try simp only [Act.put, List.setIfInBounds_toArray, List.set_cons_zero, List.set_cons_succ]
        refine wpAnyH_ready (rs := [8, 9, 10]) (by kernel_rfl) (by simp) ?_
        refine AllReadyH.cons rfl (fun K hKq => ?_) ?_
        ·
          go_simp
          refine (PS2.out _ (by repeat (first | exact Kp.refl _ | refine Kp.alloc ?_ _ | refine Kp.drew ?_))).mono ?_
          rintro e Y2 ⟨⟨T2, v2, g2, rfl, hI, hp1, hp2, hGn⟩⟩
          obtain ⟨k2, mn2, mx2, mm2, t2, ad2, l2, c2, rfl⟩ := hI.form
          have SG2 := hid (hp1 rfl).part
          have I2 := hid hI
          have G2 := hid hGn
          have hy2 := hGn.km.size
          try simp at hy2
          clear hI hp1 hp2 hGn PS2
          refine hKq.out _ _ (MK.out _ (KQ.trans G2.out.km)) (fun hN => ?_)
          clear hKq K hH KQ
          have hH := hN
          clear hN
          have KQ := hH.2.2.2.2.2.2.out
          try simp only [Act.put, List.setIfInBounds_toArray, List.set_cons_zero, List.set_cons_succ]
          refine wpAnyH_ready (rs := [9, 10]) (by kernel_rfl) (by simp) ?_
          refine AllReadyH.cons rfl (fun K hKq => ?_) ?_
          ·
            go_simp
            refine hKq.out _ _ (MK.out _ (KQ.kp ((Kp.refl _).alloc _) (by omega))) (fun hN => ?_)
            have B1n3 : Hid ((Y2.alloc rzo).heap[Y2.heap.size]? = some rzo) := last_at _ _ _ (by simp)
            clear hKq K hH KQ
            have hH := hN
            clear hN
            have KQ := hH.2.2.2.2.2.2.out
            try simp only [Act.put, List.setIfInBounds_toArray, List.set_cons_zero, List.set_cons_succ]
            refine wpAnyH_ready (rs := [10]) (by kernel_rfl) (by simp) ?_
            refine AllReadyH.cons rfl (fun K hKq => ?_) AllReadyH.nil
            go_simp
            refine hKq.out _ _ (MK.out _ (KQ.kp ((Kp.refl _).alloc _) (by omega))) (fun hN => ?_)
            have B1n4 : Hid (((Y2.alloc rzo).alloc rzo).heap[Y2.heap.size]? = some rzo) := bl_alloc B1n3.out _
            have B2n4 : Hid (((Y2.alloc rzo).alloc rzo).heap[Y2.heap.size + 1]? = some rzo) := last_at _ _ _ (by simp)
            clear hKq K hH KQ
            have hH := hN
            clear hN
            have KQ := hH.2.2.2.2.2.2.out
            try simp only [Act.put, List.setIfInBounds_toArray, List.set_cons_zero, List.set_cons_succ]
            refine wpAnyH_ready (rs := [11]) (by kernel_rfl) (by simp) ?_
            refine AllReadyH.cons rfl (fun K hKq => ?_) AllReadyH.nil
            obtain ⟨U, hU⟩ : ∃ U, ((Y2.alloc rzo).alloc rzo) = U := ⟨_, rfl⟩
            rw [hU] at hH KQ B1n4 B2n4 ⊢
            have KU : Hid (Kp Y2 U) := by subst hU; exact (by repeat (first | exact Kp.refl _ | refine Kp.alloc ?_ _ | refine Kp.drew ?_))
            clear hU
            have v0 := bl_cell (B1n4.out) 0 _ rfl
            have fv0 := bl_frozen (B1n4.out) 0
            have v1 := bl_cell (B1n4.out) 1 _ rfl
            have fv1 := bl_frozen (B1n4.out) 1
            have v2 := bl_cell (B1n4.out) 2 _ rfl
            have fv2 := bl_frozen (B1n4.out) 2
            have v3 := bl_cell (B1n4.out) 3 _ rfl
            have fv3 := bl_frozen (B1n4.out) 3
            have v4 := bl_cell (B1n4.out) 4 _ rfl
            have fv4 := bl_frozen (B1n4.out) 4
            have v5 := bl_cell (B1n4.out) 5 _ rfl
            have fv5 := bl_frozen (B1n4.out) 5
            have v6 := bl_cell (B1n4.out) 6 _ rfl
            have fv6 := bl_frozen (B1n4.out) 6
            have v7 := bl_cell (B1n4.out) 7 _ rfl
            have fv7 := bl_frozen (B1n4.out) 7
            have v8 := bl_cell (B1n4.out) 8 _ rfl
            have fv8 := bl_frozen (B1n4.out) 8
            go_simp
            refine hKq.out _ _ (MK.out _ (Km.new (S := Y2.heap.size) KQ (ks_set9 _ _ _ _ _ _ _ _ _) (by omega) (by omega))) (fun hN => ?_)
            clear v0 fv0 v1 fv1 v2 fv2 v3 fv3 v4 fv4 v5 fv5 v6 fv6 v7 fv7 v8 fv8
            have B1s := hid (bl_set9 B1n4.out (.int .i64 k1) (.int .i64 mn1) (.int .i64 mx1) (.int .i64 mm1) (.int .u64 (t1.a : Int)) (.int .u64 (t1.b : Int)) (.int .u64 (t1.c : Int)) (.int .u64 (t1.d : Int)) (.slice ad1 l1 c1))
            have F1s := hid (ks_set9 (w := U) (B := Y2.heap.size) (.int .i64 k1) (.int .i64 mn1) (.int .i64 mx1) (.int .i64 mm1) (.int .u64 (t1.a : Int)) (.int .u64 (t1.b : Int)) (.int .u64 (t1.c : Int)) (.int .u64 (t1.d : Int)) (.slice ad1 l1 c1))
            have B2s := hid (bl_ks B2n4.out (by omega) F1s.out)
            clear hKq K hH KQ
            have hH := hN
            clear hN
            have KQ := hH.2.2.2.2.2.2.out
            try simp only [Act.put, List.setIfInBounds_toArray, List.set_cons_zero, List.set_cons_succ]
            refine wpAnyH_ready (rs := [12]) (by kernel_rfl) (by simp) ?_
            refine AllReadyH.cons rfl (fun K hKq => ?_) AllReadyH.nil
            have u0 := bl_cell (B2s.out) 0 _ rfl
            have fu0 := bl_frozen (B2s.out) 0
            have u1 := bl_cell (B2s.out) 1 _ rfl
            have fu1 := bl_frozen (B2s.out) 1
            have u2 := bl_cell (B2s.out) 2 _ rfl
            have fu2 := bl_frozen (B2s.out) 2
            have u3 := bl_cell (B2s.out) 3 _ rfl
            have fu3 := bl_frozen (B2s.out) 3
            have u4 := bl_cell (B2s.out) 4 _ rfl
            have fu4 := bl_frozen (B2s.out) 4
            have u5 := bl_cell (B2s.out) 5 _ rfl
            have fu5 := bl_frozen (B2s.out) 5
            have u6 := bl_cell (B2s.out) 6 _ rfl
            have fu6 := bl_frozen (B2s.out) 6
            have u7 := bl_cell (B2s.out) 7 _ rfl
            have fu7 := bl_frozen (B2s.out) 7
            have u8 := bl_cell (B2s.out) 8 _ rfl
            have fu8 := bl_frozen (B2s.out) 8
            go_simp
            refine hKq.out _ _ (MK.out _ (Km.new (S := Y2.heap.size + 1) KQ (ks_set9 _ _ _ _ _ _ _ _ _) (by omega) (by omega))) (fun hN => ?_)
            clear u0 fu0 u1 fu1 u2 fu2 u3 fu3 u4 fu4 u5 fu5 u6 fu6 u7 fu7 u8 fu8
            clear hKq K hH KQ
            have hH := hN
            clear hN
            have KQ := hH.2.2.2.2.2.2.out
            try simp only [Act.put, List.setIfInBounds_toArray, List.set_cons_zero, List.set_cons_succ]
            refine wpAnyH_done (by kernel_rfl) ?_ _
            refine NoPanic.normal ?_
            go_wp2_with fail
            go_meet
            case rel => exact amid_of (u1 := W5.drew) (u2 := Y1) (u3 := U) hBw hm2 (by omega) K2.out (by repeat (first | exact Kp.refl _ | refine Kp.alloc ?_ _ | refine Kp.drew ?_)) KM1.out (by repeat (first | exact Kp.refl _ | refine Kp.alloc ?_ _ | refine Kp.drew ?_)) KU.out (by omega) (by omega) (by first | omega | (simp; omega) | simp) (by first | omega | (simp; omega) | simp) (by first | omega | (simp; omega) | simp) (by first | omega | (simp; omega) | simp) R2.out I1.out q1 q2 q3 SG1.out I2.out G2.out SG2.out F1s.out (ks_set9 _ _ _ _ _ _ _ _ _) (bl_ks B1s.out (by omega) (ks_set9 _ _ _ _ _ _ _ _ _)) (bl_set9 B2s.out _ _ _ _ _ _ _ _ _)
          refine AllReadyH.cons rfl (fun K hKq => ?_) ?_
          ·
            go_simp
            refine hKq.out _ _ (MK.out _ (KQ.kp ((Kp.refl _).alloc _) (by omega))) (fun hN => ?_)
            have B2n3 : Hid ((Y2.alloc rzo).heap[Y2.heap.size]? = some rzo) := last_at _ _ _ (by simp)
            clear hKq K hH KQ
            have hH := hN
            clear hN
            have KQ := hH.2.2.2.2.2.2.out
            try simp only [Act.put, List.setIfInBounds_toArray, List.set_cons_zero, List.set_cons_succ]
            refine wpAnyH_ready (rs := [9]) (by kernel_rfl) (by simp) ?_
            refine AllReadyH.cons rfl (fun K hKq => ?_) AllReadyH.nil
            go_simp
            refine hKq.out _ _ (MK.out _ (KQ.kp ((Kp.refl _).alloc _) (by omega))) (fun hN => ?_)
            have B2n4 : Hid (((Y2.alloc rzo).alloc rzo).heap[Y2.heap.size]? = some rzo) := bl_alloc B2n3.out _
            have B1n4 : Hid (((Y2.alloc rzo).alloc rzo).heap[Y2.heap.size + 1]? = some rzo) := last_at _ _ _ (by simp)
            clear hKq K hH KQ
            have hH := hN
            clear hN
            have KQ := hH.2.2.2.2.2.2.out
            try simp only [Act.put, List.setIfInBounds_toArray, List.set_cons_zero, List.set_cons_succ]
            refine wpAnyH_ready (rs := [11]) (by kernel_rfl) (by simp) ?_
            refine AllReadyH.cons rfl (fun K hKq => ?_) AllReadyH.nil
            obtain ⟨U, hU⟩ : ∃ U, ((Y2.alloc rzo).alloc rzo) = U := ⟨_, rfl⟩
            rw [hU] at hH KQ B1n4 B2n4 ⊢
            have KU : Hid (Kp Y2 U) := by subst hU; exact (by repeat (first | exact Kp.refl _ | refine Kp.alloc ?_ _ | refine Kp.drew ?_))
            clear hU
            have v0 := bl_cell (B1n4.out) 0 _ rfl
            have fv0 := bl_frozen (B1n4.out) 0
            have v1 := bl_cell (B1n4.out) 1 _ rfl
            have fv1 := bl_frozen (B1n4.out) 1
            have v2 := bl_cell (B1n4.out) 2 _ rfl
            have fv2 := bl_frozen (B1n4.out) 2
            have v3 := bl_cell (B1n4.out) 3 _ rfl
            have fv3 := bl_frozen (B1n4.out) 3
            have v4 := bl_cell (B1n4.out) 4 _ rfl
            have fv4 := bl_frozen (B1n4.out) 4
            have v5 := bl_cell (B1n4.out) 5 _ rfl
            have fv5 := bl_frozen (B1n4.out) 5
            have v6 := bl_cell (B1n4.out) 6 _ rfl
            have fv6 := bl_frozen (B1n4.out) 6
            have v7 := bl_cell (B1n4.out) 7 _ rfl
            have fv7 := bl_frozen (B1n4.out) 7
            have v8 := bl_cell (B1n4.out) 8 _ rfl
            have fv8 := bl_frozen (B1n4.out) 8
            go_simp
            refine hKq.out _ _ (MK.out _ (Km.new (S := Y2.heap.size + 1) KQ (ks_set9 _ _ _ _ _ _ _ _ _) (by omega) (by omega))) (fun hN => ?_)
            clear v0 fv0 v1 fv1 v2 fv2 v3 fv3 v4 fv4 v5 fv5 v6 fv6 v7 fv7 v8 fv8
            have B1s := hid (bl_set9 B1n4.out (.int .i64 k1) (.int .i64 mn1) (.int .i64 mx1) (.int .i64 mm1) (.int .u64 (t1.a : Int)) (.int .u64 (t1.b : Int)) (.int .u64 (t1.c : Int)) (.int .u64 (t1.d : Int)) (.slice ad1 l1 c1))
            have F1s := hid (ks_set9 (w := U) (B := Y2.heap.size + 1) (.int .i64 k1) (.int .i64 mn1) (.int .i64 mx1) (.int .i64 mm1) (.int .u64 (t1.a : Int)) (.int .u64 (t1.b : Int)) (.int .u64 (t1.c : Int)) (.int .u64 (t1.d : Int)) (.slice ad1 l1 c1))
            have B2s := hid (bl_ks B2n4.out (by omega) F1s.out)
            clear hKq K hH KQ
            have hH := hN
            clear hN
            have KQ := hH.2.2.2.2.2.2.out
            try simp only [Act.put, List.setIfInBounds_toArray, List.set_cons_zero, List.set_cons_succ]
            refine wpAnyH_ready (rs := [12]) (by kernel_rfl) (by simp) ?_
            refine AllReadyH.cons rfl (fun K hKq => ?_) AllReadyH.nil
            have u0 := bl_cell (B2s.out) 0 _ rfl
            have fu0 := bl_frozen (B2s.out) 0
            have u1 := bl_cell (B2s.out) 1 _ rfl
            have fu1 := bl_frozen (B2s.out) 1
            have u2 := bl_cell (B2s.out) 2 _ rfl
            have fu2 := bl_frozen (B2s.out) 2
            have u3 := bl_cell (B2s.out) 3 _ rfl
            have fu3 := bl_frozen (B2s.out) 3
            have u4 := bl_cell (B2s.out) 4 _ rfl
            have fu4 := bl_frozen (B2s.out) 4
            have u5 := bl_cell (B2s.out) 5 _ rfl
            have fu5 := bl_frozen (B2s.out) 5
            have u6 := bl_cell (B2s.out) 6 _ rfl
            have fu6 := bl_frozen (B2s.out) 6
            have u7 := bl_cell (B2s.out) 7 _ rfl
            have fu7 := bl_frozen (B2s.out) 7
            have u8 := bl_cell (B2s.out) 8 _ rfl
            have fu8 := bl_frozen (B2s.out) 8
            go_simp
            refine hKq.out _ _ (MK.out _ (Km.new (S := Y2.heap.size) KQ (ks_set9 _ _ _ _ _ _ _ _ _) (by omega) (by omega))) (fun hN => ?_)
            clear u0 fu0 u1 fu1 u2 fu2 u3 fu3 u4 fu4 u5 fu5 u6 fu6 u7 fu7 u8 fu8
            clear hKq K hH KQ
            have hH := hN
            clear hN
            have KQ := hH.2.2.2.2.2.2.out
            try simp only [Act.put, List.setIfInBounds_toArray, List.set_cons_zero, List.set_cons_succ]
            refine wpAnyH_done (by kernel_rfl) ?_ _
            refine NoPanic.normal ?_
            go_wp2_with fail
            go_meet
            case rel => exact amid_of (u1 := W5.drew) (u2 := Y1) (u3 := U) hBw hm2 (by omega) K2.out (by repeat (first | exact Kp.refl _ | refine Kp.alloc ?_ _ | refine Kp.drew ?_)) KM1.out (by repeat (first | exact Kp.refl _ | refine Kp.alloc ?_ _ | refine Kp.drew ?_)) KU.out (by omega) (by omega) (by first | omega | (simp; omega) | simp) (by first | omega | (simp; omega) | simp) (by first | omega | (simp; omega) | simp) (by first | omega | (simp; omega) | simp) R2.out I1.out q1 q2 q3 SG1.out I2.out G2.out SG2.out F1s.out (ks_set9 _ _ _ _ _ _ _ _ _) (bl_ks B1s.out (by omega) (ks_set9 _ _ _ _ _ _ _ _ _)) (bl_set9 B2s.out _ _ _ _ _ _ _ _ _)
          exact AllReadyH.nil
        refine AllReadyH.cons rfl (fun K hKq => ?_) ?_
        ·
          go_simp
          refine hKq.out _ _ (MK.out _ (KQ.kp ((Kp.refl _).alloc _) (by omega))) (fun hN => ?_)
          have B1n2 : Hid ((Y1.alloc rzo).heap[Y1.heap.size]? = some rzo) := last_at _ _ _ (by simp)
          clear hKq K hH KQ
          have hH := hN
          clear hN
          have KQ := hH.2.2.2.2.2.2.out
          try simp only [Act.put, List.setIfInBounds_toArray, List.set_cons_zero, List.set_cons_succ]
          refine wpAnyH_ready (rs := [8, 10]) (by kernel_rfl) (by simp) ?_
          refine AllReadyH.cons rfl (fun K hKq => ?_) ?_
          ·
            go_simp
            refine (PS2.out _ (by repeat (first | exact Kp.refl _ | refine Kp.alloc ?_ _ | refine Kp.drew ?_))).mono ?_
            rintro e Y2 ⟨⟨T2, v2, g2, rfl, hI, hp1, hp2, hGn⟩⟩
            obtain ⟨k2, mn2, mx2, mm2, t2, ad2, l2, c2, rfl⟩ := hI.form
            have SG2 := hid (hp1 rfl).part
            have I2 := hid hI
            have G2 := hid hGn
            have hy2 := hGn.km.size
            try simp at hy2
            have B1n3 : Hid (Y2.heap[Y1.heap.size]? = some rzo) := bl_km B1n2.out (by omega) G2.out.km
            clear hI hp1 hp2 hGn PS2
            refine hKq.out _ _ (MK.out _ (KQ.trans G2.out.km)) (fun hN => ?_)
            clear hKq K hH KQ
            have hH := hN
            clear hN
            have KQ := hH.2.2.2.2.2.2.out
            try simp only [Act.put, List.setIfInBounds_toArray, List.set_cons_zero, List.set_cons_succ]
            refine wpAnyH_ready (rs := [10]) (by kernel_rfl) (by simp) ?_
            refine AllReadyH.cons rfl (fun K hKq => ?_) AllReadyH.nil
            go_simp
            refine hKq.out _ _ (MK.out _ (KQ.kp ((Kp.refl _).alloc _) (by omega))) (fun hN => ?_)
            have B1n4 : Hid ((Y2.alloc rzo).heap[Y1.heap.size]? = some rzo) := bl_alloc B1n3.out _
            have B2n4 : Hid ((Y2.alloc rzo).heap[Y2.heap.size]? = some rzo) := last_at _ _ _ (by simp)
            clear hKq K hH KQ
            have hH := hN
            clear hN
            have KQ := hH.2.2.2.2.2.2.out
            try simp only [Act.put, List.setIfInBounds_toArray, List.set_cons_zero, List.set_cons_succ]
            refine wpAnyH_ready (rs := [11]) (by kernel_rfl) (by simp) ?_
            refine AllReadyH.cons rfl (fun K hKq => ?_) AllReadyH.nil
            obtain ⟨U, hU⟩ : ∃ U, (Y2.alloc rzo) = U := ⟨_, rfl⟩
            rw [hU] at hH KQ B1n4 B2n4 ⊢
            have KU : Hid (Kp Y2 U) := by subst hU; exact (by repeat (first | exact Kp.refl _ | refine Kp.alloc ?_ _ | refine Kp.drew ?_))
            clear hU
            have v0 := bl_cell (B1n4.out) 0 _ rfl
            have fv0 := bl_frozen (B1n4.out) 0
            have v1 := bl_cell (B1n4.out) 1 _ rfl
            have fv1 := bl_frozen (B1n4.out) 1
            have v2 := bl_cell (B1n4.out) 2 _ rfl
            have fv2 := bl_frozen (B1n4.out) 2
            have v3 := bl_cell (B1n4.out) 3 _ rfl
            have fv3 := bl_frozen (B1n4.out) 3
            have v4 := bl_cell (B1n4.out) 4 _ rfl
            have fv4 := bl_frozen (B1n4.out) 4
            have v5 := bl_cell (B1n4.out) 5 _ rfl
            have fv5 := bl_frozen (B1n4.out) 5
            have v6 := bl_cell (B1n4.out) 6 _ rfl
            have fv6 := bl_frozen (B1n4.out) 6
            have v7 := bl_cell (B1n4.out) 7 _ rfl
            have fv7 := bl_frozen (B1n4.out) 7
            have v8 := bl_cell (B1n4.out) 8 _ rfl
            have fv8 := bl_frozen (B1n4.out) 8
            go_simp
            refine hKq.out _ _ (MK.out _ (Km.new (S := Y1.heap.size) KQ (ks_set9 _ _ _ _ _ _ _ _ _) (by omega) (by omega))) (fun hN => ?_)
            clear v0 fv0 v1 fv1 v2 fv2 v3 fv3 v4 fv4 v5 fv5 v6 fv6 v7 fv7 v8 fv8
            have B1s := hid (bl_set9 B1n4.out (.int .i64 k1) (.int .i64 mn1) (.int .i64 mx1) (.int .i64 mm1) (.int .u64 (t1.a : Int)) (.int .u64 (t1.b : Int)) (.int .u64 (t1.c : Int)) (.int .u64 (t1.d : Int)) (.slice ad1 l1 c1))
            have F1s := hid (ks_set9 (w := U) (B := Y1.heap.size) (.int .i64 k1) (.int .i64 mn1) (.int .i64 mx1) (.int .i64 mm1) (.int .u64 (t1.a : Int)) (.int .u64 (t1.b : Int)) (.int .u64 (t1.c : Int)) (.int .u64 (t1.d : Int)) (.slice ad1 l1 c1))
            have B2s := hid (bl_ks B2n4.out (by omega) F1s.out)
            clear hKq K hH KQ
            have hH := hN
            clear hN
            have KQ := hH.2.2.2.2.2.2.out
            try simp only [Act.put, List.setIfInBounds_toArray, List.set_cons_zero, List.set_cons_succ]
            refine wpAnyH_ready (rs := [12]) (by kernel_rfl) (by simp) ?_
            refine AllReadyH.cons rfl (fun K hKq => ?_) AllReadyH.nil
            have u0 := bl_cell (B2s.out) 0 _ rfl
            have fu0 := bl_frozen (B2s.out) 0
            have u1 := bl_cell (B2s.out) 1 _ rfl
            have fu1 := bl_frozen (B2s.out) 1
            have u2 := bl_cell (B2s.out) 2 _ rfl
            have fu2 := bl_frozen (B2s.out) 2
            have u3 := bl_cell (B2s.out) 3 _ rfl
            have fu3 := bl_frozen (B2s.out) 3
            have u4 := bl_cell (B2s.out) 4 _ rfl
            have fu4 := bl_frozen (B2s.out) 4
            have u5 := bl_cell (B2s.out) 5 _ rfl
            have fu5 := bl_frozen (B2s.out) 5
            have u6 := bl_cell (B2s.out) 6 _ rfl
            have fu6 := bl_frozen (B2s.out) 6
            have u7 := bl_cell (B2s.out) 7 _ rfl
            have fu7 := bl_frozen (B2s.out) 7
            have u8 := bl_cell (B2s.out) 8 _ rfl
            have fu8 := bl_frozen (B2s.out) 8
            go_simp
            refine hKq.out _ _ (MK.out _ (Km.new (S := Y2.heap.size) KQ (ks_set9 _ _ _ _ _ _ _ _ _) (by omega) (by omega))) (fun hN => ?_)
            clear u0 fu0 u1 fu1 u2 fu2 u3 fu3 u4 fu4 u5 fu5 u6 fu6 u7 fu7 u8 fu8
            clear hKq K hH KQ
            have hH := hN
            clear hN
            have KQ := hH.2.2.2.2.2.2.out
            try simp only [Act.put, List.setIfInBounds_toArray, List.set_cons_zero, List.set_cons_succ]
            refine wpAnyH_done (by kernel_rfl) ?_ _
            refine NoPanic.normal ?_
            go_wp2_with fail
            go_meet
            case rel => exact amid_of (u1 := W5.drew) (u2 := (Y1.alloc rzo)) (u3 := U) hBw hm2 (by omega) K2.out (by repeat (first | exact Kp.refl _ | refine Kp.alloc ?_ _ | refine Kp.drew ?_)) KM1.out (by repeat (first | exact Kp.refl _ | refine Kp.alloc ?_ _ | refine Kp.drew ?_)) KU.out (by omega) (by omega) (by first | omega | (simp; omega) | simp) (by first | omega | (simp; omega) | simp) (by first | omega | (simp; omega) | simp) (by first | omega | (simp; omega) | simp) R2.out I1.out q1 q2 q3 SG1.out I2.out G2.out SG2.out F1s.out (ks_set9 _ _ _ _ _ _ _ _ _) (bl_ks B1s.out (by omega) (ks_set9 _ _ _ _ _ _ _ _ _)) (bl_set9 B2s.out _ _ _ _ _ _ _ _ _)
          refine AllReadyH.cons rfl (fun K hKq => ?_) ?_
          ·
            go_simp
            refine hKq.out _ _ (MK.out _ (KQ.kp ((Kp.refl _).alloc _) (by omega))) (fun hN => ?_)
            have B1n3 : Hid (((Y1.alloc rzo).alloc rzo).heap[Y1.heap.size]? = some rzo) := bl_alloc B1n2.out _
            have B2n3 : Hid (((Y1.alloc rzo).alloc rzo).heap[Y1.heap.size + 1]? = some rzo) := last_at _ _ _ (by simp)
            clear hKq K hH KQ
            have hH := hN
            clear hN
            have KQ := hH.2.2.2.2.2.2.out
            try simp only [Act.put, List.setIfInBounds_toArray, List.set_cons_zero, List.set_cons_succ]
            refine wpAnyH_ready (rs := [8]) (by kernel_rfl) (by simp) ?_
            refine AllReadyH.cons rfl (fun K hKq => ?_) AllReadyH.nil
            go_simp
            refine (PS2.out _ (by repeat (first | exact Kp.refl _ | refine Kp.alloc ?_ _ | refine Kp.drew ?_))).mono ?_
            rintro e Y2 ⟨⟨T2, v2, g2, rfl, hI, hp1, hp2, hGn⟩⟩
            obtain ⟨k2, mn2, mx2, mm2, t2, ad2, l2, c2, rfl⟩ := hI.form
            have SG2 := hid (hp1 rfl).part
            have I2 := hid hI
            have G2 := hid hGn
            have hy2 := hGn.km.size
            try simp at hy2
            have B1n4 : Hid (Y2.heap[Y1.heap.size]? = some rzo) := bl_km B1n3.out (by omega) G2.out.km
            have B2n4 : Hid (Y2.heap[Y1.heap.size + 1]? = some rzo) := bl_km B2n3.out (by omega) G2.out.km
            clear hI hp1 hp2 hGn PS2
            refine hKq.out _ _ (MK.out _ (KQ.trans G2.out.km)) (fun hN => ?_)
            clear hKq K hH KQ
            have hH := hN
            clear hN
            have KQ := hH.2.2.2.2.2.2.out
            try simp only [Act.put, List.setIfInBounds_toArray, List.set_cons_zero, List.set_cons_succ]
            refine wpAnyH_ready (rs := [11]) (by kernel_rfl) (by simp) ?_
            refine AllReadyH.cons rfl (fun K hKq => ?_) AllReadyH.nil
            have v0 := bl_cell (B1n4.out) 0 _ rfl
            have fv0 := bl_frozen (B1n4.out) 0
            have v1 := bl_cell (B1n4.out) 1 _ rfl
            have fv1 := bl_frozen (B1n4.out) 1
            have v2 := bl_cell (B1n4.out) 2 _ rfl
            have fv2 := bl_frozen (B1n4.out) 2
            have v3 := bl_cell (B1n4.out) 3 _ rfl
            have fv3 := bl_frozen (B1n4.out) 3
            have v4 := bl_cell (B1n4.out) 4 _ rfl
            have fv4 := bl_frozen (B1n4.out) 4
            have v5 := bl_cell (B1n4.out) 5 _ rfl
            have fv5 := bl_frozen (B1n4.out) 5
            have v6 := bl_cell (B1n4.out) 6 _ rfl
            have fv6 := bl_frozen (B1n4.out) 6
            have v7 := bl_cell (B1n4.out) 7 _ rfl
            have fv7 := bl_frozen (B1n4.out) 7
            have v8 := bl_cell (B1n4.out) 8 _ rfl
            have fv8 := bl_frozen (B1n4.out) 8
            go_simp
            refine hKq.out _ _ (MK.out _ (Km.new (S := Y1.heap.size) KQ (ks_set9 _ _ _ _ _ _ _ _ _) (by omega) (by omega))) (fun hN => ?_)
            clear v0 fv0 v1 fv1 v2 fv2 v3 fv3 v4 fv4 v5 fv5 v6 fv6 v7 fv7 v8 fv8
            have B1s := hid (bl_set9 B1n4.out (.int .i64 k1) (.int .i64 mn1) (.int .i64 mx1) (.int .i64 mm1) (.int .u64 (t1.a : Int)) (.int .u64 (t1.b : Int)) (.int .u64 (t1.c : Int)) (.int .u64 (t1.d : Int)) (.slice ad1 l1 c1))
            have F1s := hid (ks_set9 (w := Y2) (B := Y1.heap.size) (.int .i64 k1) (.int .i64 mn1) (.int .i64 mx1) (.int .i64 mm1) (.int .u64 (t1.a : Int)) (.int .u64 (t1.b : Int)) (.int .u64 (t1.c : Int)) (.int .u64 (t1.d : Int)) (.slice ad1 l1 c1))
            have B2s := hid (bl_ks B2n4.out (by omega) F1s.out)
            clear hKq K hH KQ
            have hH := hN
            clear hN
            have KQ := hH.2.2.2.2.2.2.out
            try simp only [Act.put, List.setIfInBounds_toArray, List.set_cons_zero, List.set_cons_succ]
            refine wpAnyH_ready (rs := [12]) (by kernel_rfl) (by simp) ?_
            refine AllReadyH.cons rfl (fun K hKq => ?_) AllReadyH.nil
            have u0 := bl_cell (B2s.out) 0 _ rfl
            have fu0 := bl_frozen (B2s.out) 0
            have u1 := bl_cell (B2s.out) 1 _ rfl
            have fu1 := bl_frozen (B2s.out) 1
            have u2 := bl_cell (B2s.out) 2 _ rfl
            have fu2 := bl_frozen (B2s.out) 2
            have u3 := bl_cell (B2s.out) 3 _ rfl
            have fu3 := bl_frozen (B2s.out) 3
            have u4 := bl_cell (B2s.out) 4 _ rfl
            have fu4 := bl_frozen (B2s.out) 4
            have u5 := bl_cell (B2s.out) 5 _ rfl
            have fu5 := bl_frozen (B2s.out) 5
            have u6 := bl_cell (B2s.out) 6 _ rfl
            have fu6 := bl_frozen (B2s.out) 6
            have u7 := bl_cell (B2s.out) 7 _ rfl
            have fu7 := bl_frozen (B2s.out) 7
            have u8 := bl_cell (B2s.out) 8 _ rfl
            have fu8 := bl_frozen (B2s.out) 8
            go_simp
            refine hKq.out _ _ (MK.out _ (Km.new (S := Y1.heap.size + 1) KQ (ks_set9 _ _ _ _ _ _ _ _ _) (by omega) (by omega))) (fun hN => ?_)
            clear u0 fu0 u1 fu1 u2 fu2 u3 fu3 u4 fu4 u5 fu5 u6 fu6 u7 fu7 u8 fu8
            clear hKq K hH KQ
            have hH := hN
            clear hN
            have KQ := hH.2.2.2.2.2.2.out
            try simp only [Act.put, List.setIfInBounds_toArray, List.set_cons_zero, List.set_cons_succ]
            refine wpAnyH_done (by kernel_rfl) ?_ _
            refine NoPanic.normal ?_
            go_wp2_with fail
            go_meet
            case rel => exact amid_of (u1 := W5.drew) (u2 := ((Y1.alloc rzo).alloc rzo)) (u3 := Y2) hBw hm2 (by omega) K2.out (by repeat (first | exact Kp.refl _ | refine Kp.alloc ?_ _ | refine Kp.drew ?_)) KM1.out (by repeat (first | exact Kp.refl _ | refine Kp.alloc ?_ _ | refine Kp.drew ?_)) (Kp.refl _) (by omega) (by omega) (by first | omega | (simp; omega) | simp) (by first | omega | (simp; omega) | simp) (by first | omega | (simp; omega) | simp) (by first | omega | (simp; omega) | simp) R2.out I1.out q1 q2 q3 SG1.out I2.out G2.out SG2.out F1s.out (ks_set9 _ _ _ _ _ _ _ _ _) (bl_ks B1s.out (by omega) (ks_set9 _ _ _ _ _ _ _ _ _)) (bl_set9 B2s.out _ _ _ _ _ _ _ _ _)
          exact AllReadyH.nil
        refine AllReadyH.cons rfl (fun K hKq => ?_) ?_
        ·
          go_simp
          refine hKq.out _ _ (MK.out _ (KQ.kp ((Kp.refl _).alloc _) (by omega))) (fun hN => ?_)
          have B2n2 : Hid ((Y1.alloc rzo).heap[Y1.heap.size]? = some rzo) := last_at _ _ _ (by simp)
          clear hKq K hH KQ
          have hH := hN
          clear hN
          have KQ := hH.2.2.2.2.2.2.out
          try simp only [Act.put, List.setIfInBounds_toArray, List.set_cons_zero, List.set_cons_succ]
          refine wpAnyH_ready (rs := [8, 9]) (by kernel_rfl) (by simp) ?_
          refine AllReadyH.cons rfl (fun K hKq => ?_) ?_
          ·
            go_simp
            refine (PS2.out _ (by repeat (first | exact Kp.refl _ | refine Kp.alloc ?_ _ | refine Kp.drew ?_))).mono ?_
            rintro e Y2 ⟨⟨T2, v2, g2, rfl, hI, hp1, hp2, hGn⟩⟩
            obtain ⟨k2, mn2, mx2, mm2, t2, ad2, l2, c2, rfl⟩ := hI.form
            have SG2 := hid (hp1 rfl).part
            have I2 := hid hI
            have G2 := hid hGn
            have hy2 := hGn.km.size
            try simp at hy2
            have B2n3 : Hid (Y2.heap[Y1.heap.size]? = some rzo) := bl_km B2n2.out (by omega) G2.out.km
            clear hI hp1 hp2 hGn PS2
            refine hKq.out _ _ (MK.out _ (KQ.trans G2.out.km)) (fun hN => ?_)
            clear hKq K hH KQ
            have hH := hN
            clear hN
            have KQ := hH.2.2.2.2.2.2.out
            try simp only [Act.put, List.setIfInBounds_toArray, List.set_cons_zero, List.set_cons_succ]
            refine wpAnyH_ready (rs := [9]) (by kernel_rfl) (by simp) ?_
            refine AllReadyH.cons rfl (fun K hKq => ?_) AllReadyH.nil
            go_simp
            refine hKq.out _ _ (MK.out _ (KQ.kp ((Kp.refl _).alloc _) (by omega))) (fun hN => ?_)
            have B2n4 : Hid ((Y2.alloc rzo).heap[Y1.heap.size]? = some rzo) := bl_alloc B2n3.out _
            have B1n4 : Hid ((Y2.alloc rzo).heap[Y2.heap.size]? = some rzo) := last_at _ _ _ (by simp)
            clear hKq K hH KQ
            have hH := hN
            clear hN
            have KQ := hH.2.2.2.2.2.2.out
            try simp only [Act.put, List.setIfInBounds_toArray, List.set_cons_zero, List.set_cons_succ]
            refine wpAnyH_ready (rs := [11]) (by kernel_rfl) (by simp) ?_
            refine AllReadyH.cons rfl (fun K hKq => ?_) AllReadyH.nil
            obtain ⟨U, hU⟩ : ∃ U, (Y2.alloc rzo) = U := ⟨_, rfl⟩
            rw [hU] at hH KQ B1n4 B2n4 ⊢
            have KU : Hid (Kp Y2 U) := by subst hU; exact (by repeat (first | exact Kp.refl _ | refine Kp.alloc ?_ _ | refine Kp.drew ?_))
            clear hU
            have v0 := bl_cell (B1n4.out) 0 _ rfl
            have fv0 := bl_frozen (B1n4.out) 0
            have v1 := bl_cell (B1n4.out) 1 _ rfl
            have fv1 := bl_frozen (B1n4.out) 1
            have v2 := bl_cell (B1n4.out) 2 _ rfl
            have fv2 := bl_frozen (B1n4.out) 2
            have v3 := bl_cell (B1n4.out) 3 _ rfl
            have fv3 := bl_frozen (B1n4.out) 3
            have v4 := bl_cell (B1n4.out) 4 _ rfl
            have fv4 := bl_frozen (B1n4.out) 4
            have v5 := bl_cell (B1n4.out) 5 _ rfl
            have fv5 := bl_frozen (B1n4.out) 5
            have v6 := bl_cell (B1n4.out) 6 _ rfl
            have fv6 := bl_frozen (B1n4.out) 6
            have v7 := bl_cell (B1n4.out) 7 _ rfl
            have fv7 := bl_frozen (B1n4.out) 7
            have v8 := bl_cell (B1n4.out) 8 _ rfl
            have fv8 := bl_frozen (B1n4.out) 8
            go_simp
            refine hKq.out _ _ (MK.out _ (Km.new (S := Y2.heap.size) KQ (ks_set9 _ _ _ _ _ _ _ _ _) (by omega) (by omega))) (fun hN => ?_)
            clear v0 fv0 v1 fv1 v2 fv2 v3 fv3 v4 fv4 v5 fv5 v6 fv6 v7 fv7 v8 fv8
            have B1s := hid (bl_set9 B1n4.out (.int .i64 k1) (.int .i64 mn1) (.int .i64 mx1) (.int .i64 mm1) (.int .u64 (t1.a : Int)) (.int .u64 (t1.b : Int)) (.int .u64 (t1.c : Int)) (.int .u64 (t1.d : Int)) (.slice ad1 l1 c1))
            have F1s := hid (ks_set9 (w := U) (B := Y2.heap.size) (.int .i64 k1) (.int .i64 mn1) (.int .i64 mx1) (.int .i64 mm1) (.int .u64 (t1.a : Int)) (.int .u64 (t1.b : Int)) (.int .u64 (t1.c : Int)) (.int .u64 (t1.d : Int)) (.slice ad1 l1 c1))
            have B2s := hid (bl_ks B2n4.out (by omega) F1s.out)
            clear hKq K hH KQ
            have hH := hN
            clear hN
            have KQ := hH.2.2.2.2.2.2.out
            try simp only [Act.put, List.setIfInBounds_toArray, List.set_cons_zero, List.set_cons_succ]
            refine wpAnyH_ready (rs := [12]) (by kernel_rfl) (by simp) ?_
            refine AllReadyH.cons rfl (fun K hKq => ?_) AllReadyH.nil
            have u0 := bl_cell (B2s.out) 0 _ rfl
            have fu0 := bl_frozen (B2s.out) 0
            have u1 := bl_cell (B2s.out) 1 _ rfl
            have fu1 := bl_frozen (B2s.out) 1
            have u2 := bl_cell (B2s.out) 2 _ rfl
            have fu2 := bl_frozen (B2s.out) 2
            have u3 := bl_cell (B2s.out) 3 _ rfl
            have fu3 := bl_frozen (B2s.out) 3
            have u4 := bl_cell (B2s.out) 4 _ rfl
            have fu4 := bl_frozen (B2s.out) 4
            have u5 := bl_cell (B2s.out) 5 _ rfl
            have fu5 := bl_frozen (B2s.out) 5
            have u6 := bl_cell (B2s.out) 6 _ rfl
            have fu6 := bl_frozen (B2s.out) 6
            have u7 := bl_cell (B2s.out) 7 _ rfl
            have fu7 := bl_frozen (B2s.out) 7
            have u8 := bl_cell (B2s.out) 8 _ rfl
            have fu8 := bl_frozen (B2s.out) 8
            go_simp
            refine hKq.out _ _ (MK.out _ (Km.new (S := Y1.heap.size) KQ (ks_set9 _ _ _ _ _ _ _ _ _) (by omega) (by omega))) (fun hN => ?_)
            clear u0 fu0 u1 fu1 u2 fu2 u3 fu3 u4 fu4 u5 fu5 u6 fu6 u7 fu7 u8 fu8
            clear hKq K hH KQ
            have hH := hN
            clear hN
            have KQ := hH.2.2.2.2.2.2.out
            try simp only [Act.put, List.setIfInBounds_toArray, List.set_cons_zero, List.set_cons_succ]
            refine wpAnyH_done (by kernel_rfl) ?_ _
            refine NoPanic.normal ?_
            go_wp2_with fail
            go_meet
            case rel => exact amid_of (u1 := W5.drew) (u2 := (Y1.alloc rzo)) (u3 := U) hBw hm2 (by omega) K2.out (by repeat (first | exact Kp.refl _ | refine Kp.alloc ?_ _ | refine Kp.drew ?_)) KM1.out (by repeat (first | exact Kp.refl _ | refine Kp.alloc ?_ _ | refine Kp.drew ?_)) KU.out (by omega) (by omega) (by first | omega | (simp; omega) | simp) (by first | omega | (simp; omega) | simp) (by first | omega | (simp; omega) | simp) (by first | omega | (simp; omega) | simp) R2.out I1.out q1 q2 q3 SG1.out I2.out G2.out SG2.out F1s.out (ks_set9 _ _ _ _ _ _ _ _ _) (bl_ks B1s.out (by omega) (ks_set9 _ _ _ _ _ _ _ _ _)) (bl_set9 B2s.out _ _ _ _ _ _ _ _ _)
          refine AllReadyH.cons rfl (fun K hKq => ?_) ?_
          ·
            go_simp
            refine hKq.out _ _ (MK.out _ (KQ.kp ((Kp.refl _).alloc _) (by omega))) (fun hN => ?_)
            have B2n3 : Hid (((Y1.alloc rzo).alloc rzo).heap[Y1.heap.size]? = some rzo) := bl_alloc B2n2.out _
            have B1n3 : Hid (((Y1.alloc rzo).alloc rzo).heap[Y1.heap.size + 1]? = some rzo) := last_at _ _ _ (by simp)
            clear hKq K hH KQ
            have hH := hN
            clear hN
            have KQ := hH.2.2.2.2.2.2.out
            try simp only [Act.put, List.setIfInBounds_toArray, List.set_cons_zero, List.set_cons_succ]
            refine wpAnyH_ready (rs := [8]) (by kernel_rfl) (by simp) ?_
            refine AllReadyH.cons rfl (fun K hKq => ?_) AllReadyH.nil
            go_simp
            refine (PS2.out _ (by repeat (first | exact Kp.refl _ | refine Kp.alloc ?_ _ | refine Kp.drew ?_))).mono ?_
            rintro e Y2 ⟨⟨T2, v2, g2, rfl, hI, hp1, hp2, hGn⟩⟩
            obtain ⟨k2, mn2, mx2, mm2, t2, ad2, l2, c2, rfl⟩ := hI.form
            have SG2 := hid (hp1 rfl).part
            have I2 := hid hI
            have G2 := hid hGn
            have hy2 := hGn.km.size
            try simp at hy2
            have B1n4 : Hid (Y2.heap[Y1.heap.size + 1]? = some rzo) := bl_km B1n3.out (by omega) G2.out.km
            have B2n4 : Hid (Y2.heap[Y1.heap.size]? = some rzo) := bl_km B2n3.out (by omega) G2.out.km
            clear hI hp1 hp2 hGn PS2
            refine hKq.out _ _ (MK.out _ (KQ.trans G2.out.km)) (fun hN => ?_)
            clear hKq K hH KQ
            have hH := hN
            clear hN
            have KQ := hH.2.2.2.2.2.2.out
            try simp only [Act.put, List.setIfInBounds_toArray, List.set_cons_zero, List.set_cons_succ]
            refine wpAnyH_ready (rs := [11]) (by kernel_rfl) (by simp) ?_
            refine AllReadyH.cons rfl (fun K hKq => ?_) AllReadyH.nil
            have v0 := bl_cell (B1n4.out) 0 _ rfl
            have fv0 := bl_frozen (B1n4.out) 0
            have v1 := bl_cell (B1n4.out) 1 _ rfl
            have fv1 := bl_frozen (B1n4.out) 1
            have v2 := bl_cell (B1n4.out) 2 _ rfl
            have fv2 := bl_frozen (B1n4.out) 2
            have v3 := bl_cell (B1n4.out) 3 _ rfl
            have fv3 := bl_frozen (B1n4.out) 3
            have v4 := bl_cell (B1n4.out) 4 _ rfl
            have fv4 := bl_frozen (B1n4.out) 4
            have v5 := bl_cell (B1n4.out) 5 _ rfl
            have fv5 := bl_frozen (B1n4.out) 5
            have v6 := bl_cell (B1n4.out) 6 _ rfl
            have fv6 := bl_frozen (B1n4.out) 6
            have v7 := bl_cell (B1n4.out) 7 _ rfl
            have fv7 := bl_frozen (B1n4.out) 7
            have v8 := bl_cell (B1n4.out) 8 _ rfl
            have fv8 := bl_frozen (B1n4.out) 8
            go_simp
            refine hKq.out _ _ (MK.out _ (Km.new (S := Y1.heap.size + 1) KQ (ks_set9 _ _ _ _ _ _ _ _ _) (by omega) (by omega))) (fun hN => ?_)
            clear v0 fv0 v1 fv1 v2 fv2 v3 fv3 v4 fv4 v5 fv5 v6 fv6 v7 fv7 v8 fv8
            have B1s := hid (bl_set9 B1n4.out (.int .i64 k1) (.int .i64 mn1) (.int .i64 mx1) (.int .i64 mm1) (.int .u64 (t1.a : Int)) (.int .u64 (t1.b : Int)) (.int .u64 (t1.c : Int)) (.int .u64 (t1.d : Int)) (.slice ad1 l1 c1))
            have F1s := hid (ks_set9 (w := Y2) (B := Y1.heap.size + 1) (.int .i64 k1) (.int .i64 mn1) (.int .i64 mx1) (.int .i64 mm1) (.int .u64 (t1.a : Int)) (.int .u64 (t1.b : Int)) (.int .u64 (t1.c : Int)) (.int .u64 (t1.d : Int)) (.slice ad1 l1 c1))
            have B2s := hid (bl_ks B2n4.out (by omega) F1s.out)
            clear hKq K hH KQ
            have hH := hN
            clear hN
            have KQ := hH.2.2.2.2.2.2.out
            try simp only [Act.put, List.setIfInBounds_toArray, List.set_cons_zero, List.set_cons_succ]
            refine wpAnyH_ready (rs := [12]) (by kernel_rfl) (by simp) ?_
            refine AllReadyH.cons rfl (fun K hKq => ?_) AllReadyH.nil
            have u0 := bl_cell (B2s.out) 0 _ rfl
            have fu0 := bl_frozen (B2s.out) 0
            have u1 := bl_cell (B2s.out) 1 _ rfl
            have fu1 := bl_frozen (B2s.out) 1
            have u2 := bl_cell (B2s.out) 2 _ rfl
            have fu2 := bl_frozen (B2s.out) 2
            have u3 := bl_cell (B2s.out) 3 _ rfl
            have fu3 := bl_frozen (B2s.out) 3
            have u4 := bl_cell (B2s.out) 4 _ rfl
            have fu4 := bl_frozen (B2s.out) 4
            have u5 := bl_cell (B2s.out) 5 _ rfl
            have fu5 := bl_frozen (B2s.out) 5
            have u6 := bl_cell (B2s.out) 6 _ rfl
            have fu6 := bl_frozen (B2s.out) 6
            have u7 := bl_cell (B2s.out) 7 _ rfl
            have fu7 := bl_frozen (B2s.out) 7
            have u8 := bl_cell (B2s.out) 8 _ rfl
            have fu8 := bl_frozen (B2s.out) 8
            go_simp
            refine hKq.out _ _ (MK.out _ (Km.new (S := Y1.heap.size) KQ (ks_set9 _ _ _ _ _ _ _ _ _) (by omega) (by omega))) (fun hN => ?_)
            clear u0 fu0 u1 fu1 u2 fu2 u3 fu3 u4 fu4 u5 fu5 u6 fu6 u7 fu7 u8 fu8
            clear hKq K hH KQ
            have hH := hN
            clear hN
            have KQ := hH.2.2.2.2.2.2.out
            try simp only [Act.put, List.setIfInBounds_toArray, List.set_cons_zero, List.set_cons_succ]
            refine wpAnyH_done (by kernel_rfl) ?_ _
            refine NoPanic.normal ?_
            go_wp2_with fail
            go_meet
            case rel => exact amid_of (u1 := W5.drew) (u2 := ((Y1.alloc rzo).alloc rzo)) (u3 := Y2) hBw hm2 (by omega) K2.out (by repeat (first | exact Kp.refl _ | refine Kp.alloc ?_ _ | refine Kp.drew ?_)) KM1.out (by repeat (first | exact Kp.refl _ | refine Kp.alloc ?_ _ | refine Kp.drew ?_)) (Kp.refl _) (by omega) (by omega) (by first | omega | (simp; omega) | simp) (by first | omega | (simp; omega) | simp) (by first | omega | (simp; omega) | simp) (by first | omega | (simp; omega) | simp) R2.out I1.out q1 q2 q3 SG1.out I2.out G2.out SG2.out F1s.out (ks_set9 _ _ _ _ _ _ _ _ _) (bl_ks B1s.out (by omega) (ks_set9 _ _ _ _ _ _ _ _ _)) (bl_set9 B2s.out _ _ _ _ _ _ _ _ _)
          exact AllReadyH.nil
        exact AllReadyH.nil
      refine AllReadyH.cons rfl (fun K hKq => ?_) ?_
      ·
        go_simp
        refine hKq.out _ _ (MK.out _ (KQ.kp ((Kp.refl _).alloc _) (by omega))) (fun hN => ?_)
        have B1n1 : Hid ((W5.alloc rzo).heap[W5.heap.size]? = some rzo) := last_at _ _ _ (by simp)
        clear hKq K hH KQ
        have hH := hN
        clear hN
        have KQ := hH.2.2.2.2.2.2.out
        try simp only [Act.put, List.setIfInBounds_toArray, List.set_cons_zero, List.set_cons_succ]
        refine wpAnyH_ready (rs := [5, 10]) (by kernel_rfl) (by simp) ?_
        refine AllReadyH.cons rfl (fun K hKq => ?_) ?_
        ·
          go_simp
          refine (PS.out m hm1 hm2 _ (by repeat (first | exact Kp.refl _ | refine Kp.alloc ?_ _ | refine Kp.drew ?_))).mono ?_
          rintro e Y1 ⟨⟨T1, v1, g1, rfl, hI, hp1, hp2, hGn⟩⟩
          obtain ⟨k1, mn1, mx1, mm1, t1, ad1, l1, c1, rfl⟩ := hI.form
          have SG1 := hid (sg_of hg3 hm1 hm2 hp1 hp2)
          have I1 := hid hI
          have KM1 := hid hGn.km
          have hy1 := hGn.km.size
          try simp at hy1
          obtain ⟨x', z', hmk, q1, q2, q3⟩ := hGn.ex
          have hgg := SG1.out.g3
          have B1n2 : Hid (Y1.heap[W5.heap.size]? = some rzo) := bl_km (w := (W5.alloc rzo).drew) B1n1.out (by omega) KM1.out
          have PS2 := hid (fun (W : World) (k : Kp Y1 W) => parts_any aK lK cK aN lN cN true B d 1 x' g1 z' W (by omega) (by omega) HPS.out ⟨hmk.kp k, NKW.out _ ((Kp.km (B := B) (a := W5) (by repeat (first | exact Kp.refl _ | refine Kp.alloc ?_ _ | refine Kp.drew ?_)) (by omega)).trans (KM1.out.kp k (by first | omega | (simp; omega) | simp))), NNW.out _ ((Kp.km (B := B) (a := W5) (by repeat (first | exact Kp.refl _ | refine Kp.alloc ?_ _ | refine Kp.drew ?_)) (by omega)).trans (KM1.out.kp k (by first | omega | (simp; omega) | simp))), hgg, by omega, by omega, by omega⟩)
          clear hI hp1 hp2 hGn hmk
          refine hKq.out _ _ (MK.out _ (KQ.trans KM1.out)) (fun hN => ?_)
          clear hKq K hH KQ
          have hH := hN
          clear hN
          have KQ := hH.2.2.2.2.2.2.out
          try simp only [Act.put, List.setIfInBounds_toArray, List.set_cons_zero, List.set_cons_succ]
          refine wpAnyH_ready (rs := [8, 10]) (by kernel_rfl) (by simp) ?_
          refine AllReadyH.cons rfl (fun K hKq => ?_) ?_
          ·
            go_simp
            refine (PS2.out _ (by repeat (first | exact Kp.refl _ | refine Kp.alloc ?_ _ | refine Kp.drew ?_))).mono ?_
            rintro e Y2 ⟨⟨T2, v2, g2, rfl, hI, hp1, hp2, hGn⟩⟩
            obtain ⟨k2, mn2, mx2, mm2, t2, ad2, l2, c2, rfl⟩ := hI.form
            have SG2 := hid (hp1 rfl).part
            have I2 := hid hI
            have G2 := hid hGn
            have hy2 := hGn.km.size
            try simp at hy2
            have B1n3 : Hid (Y2.heap[W5.heap.size]? = some rzo) := bl_km B1n2.out (by omega) G2.out.km
            clear hI hp1 hp2 hGn PS2
            refine hKq.out _ _ (MK.out _ (KQ.trans G2.out.km)) (fun hN => ?_)
            clear hKq K hH KQ
            have hH := hN
            clear hN
            have KQ := hH.2.2.2.2.2.2.out
            try simp only [Act.put, List.setIfInBounds_toArray, List.set_cons_zero, List.set_cons_succ]
            refine wpAnyH_ready (rs := [10]) (by kernel_rfl) (by simp) ?_
            refine AllReadyH.cons rfl (fun K hKq => ?_) AllReadyH.nil
            go_simp
            refine hKq.out _ _ (MK.out _ (KQ.kp ((Kp.refl _).alloc _) (by omega))) (fun hN => ?_)
            have B1n4 : Hid ((Y2.alloc rzo).heap[W5.heap.size]? = some rzo) := bl_alloc B1n3.out _
            have B2n4 : Hid ((Y2.alloc rzo).heap[Y2.heap.size]? = some rzo) := last_at _ _ _ (by simp)
            clear hKq K hH KQ
            have hH := hN
            clear hN
            have KQ := hH.2.2.2.2.2.2.out
            try simp only [Act.put, List.setIfInBounds_toArray, List.set_cons_zero, List.set_cons_succ]
            refine wpAnyH_ready (rs := [11]) (by kernel_rfl) (by simp) ?_
            refine AllReadyH.cons rfl (fun K hKq => ?_) AllReadyH.nil
            obtain ⟨U, hU⟩ : ∃ U, (Y2.alloc rzo) = U := ⟨_, rfl⟩
            rw [hU] at hH KQ B1n4 B2n4 ⊢
            have KU : Hid (Kp Y2 U) := by subst hU; exact (by repeat (first | exact Kp.refl _ | refine Kp.alloc ?_ _ | refine Kp.drew ?_))
            clear hU
            have v0 := bl_cell (B1n4.out) 0 _ rfl
            have fv0 := bl_frozen (B1n4.out) 0
            have v1 := bl_cell (B1n4.out) 1 _ rfl
            have fv1 := bl_frozen (B1n4.out) 1
            have v2 := bl_cell (B1n4.out) 2 _ rfl
            have fv2 := bl_frozen (B1n4.out) 2
            have v3 := bl_cell (B1n4.out) 3 _ rfl
            have fv3 := bl_frozen (B1n4.out) 3
            have v4 := bl_cell (B1n4.out) 4 _ rfl
            have fv4 := bl_frozen (B1n4.out) 4
            have v5 := bl_cell (B1n4.out) 5 _ rfl
            have fv5 := bl_frozen (B1n4.out) 5
            have v6 := bl_cell (B1n4.out) 6 _ rfl
            have fv6 := bl_frozen (B1n4.out) 6
            have v7 := bl_cell (B1n4.out) 7 _ rfl
            have fv7 := bl_frozen (B1n4.out) 7
            have v8 := bl_cell (B1n4.out) 8 _ rfl
            have fv8 := bl_frozen (B1n4.out) 8
            go_simp
            refine hKq.out _ _ (MK.out _ (Km.new (S := W5.heap.size) KQ (ks_set9 _ _ _ _ _ _ _ _ _) (by omega) (by omega))) (fun hN => ?_)
            clear v0 fv0 v1 fv1 v2 fv2 v3 fv3 v4 fv4 v5 fv5 v6 fv6 v7 fv7 v8 fv8
            have B1s := hid (bl_set9 B1n4.out (.int .i64 k1) (.int .i64 mn1) (.int .i64 mx1) (.int .i64 mm1) (.int .u64 (t1.a : Int)) (.int .u64 (t1.b : Int)) (.int .u64 (t1.c : Int)) (.int .u64 (t1.d : Int)) (.slice ad1 l1 c1))
            have F1s := hid (ks_set9 (w := U) (B := W5.heap.size) (.int .i64 k1) (.int .i64 mn1) (.int .i64 mx1) (.int .i64 mm1) (.int .u64 (t1.a : Int)) (.int .u64 (t1.b : Int)) (.int .u64 (t1.c : Int)) (.int .u64 (t1.d : Int)) (.slice ad1 l1 c1))
            have B2s := hid (bl_ks B2n4.out (by omega) F1s.out)
            clear hKq K hH KQ
            have hH := hN
            clear hN
            have KQ := hH.2.2.2.2.2.2.out
            try simp only [Act.put, List.setIfInBounds_toArray, List.set_cons_zero, List.set_cons_succ]
            refine wpAnyH_ready (rs := [12]) (by kernel_rfl) (by simp) ?_
            refine AllReadyH.cons rfl (fun K hKq => ?_) AllReadyH.nil
            have u0 := bl_cell (B2s.out) 0 _ rfl
            have fu0 := bl_frozen (B2s.out) 0
            have u1 := bl_cell (B2s.out) 1 _ rfl
            have fu1 := bl_frozen (B2s.out) 1
            have u2 := bl_cell (B2s.out) 2 _ rfl
            have fu2 := bl_frozen (B2s.out) 2
            have u3 := bl_cell (B2s.out) 3 _ rfl
            have fu3 := bl_frozen (B2s.out) 3
            have u4 := bl_cell (B2s.out) 4 _ rfl
            have fu4 := bl_frozen (B2s.out) 4
            have u5 := bl_cell (B2s.out) 5 _ rfl
            have fu5 := bl_frozen (B2s.out) 5
            have u6 := bl_cell (B2s.out) 6 _ rfl
            have fu6 := bl_frozen (B2s.out) 6
            have u7 := bl_cell (B2s.out) 7 _ rfl
            have fu7 := bl_frozen (B2s.out) 7
            have u8 := bl_cell (B2s.out) 8 _ rfl
            have fu8 := bl_frozen (B2s.out) 8
            go_simp
            refine hKq.out _ _ (MK.out _ (Km.new (S := Y2.heap.size) KQ (ks_set9 _ _ _ _ _ _ _ _ _) (by omega) (by omega))) (fun hN => ?_)
            clear u0 fu0 u1 fu1 u2 fu2 u3 fu3 u4 fu4 u5 fu5 u6 fu6 u7 fu7 u8 fu8
            clear hKq K hH KQ
            have hH := hN
            clear hN
            have KQ := hH.2.2.2.2.2.2.out
            try simp only [Act.put, List.setIfInBounds_toArray, List.set_cons_zero, List.set_cons_succ]
            refine wpAnyH_done (by kernel_rfl) ?_ _
            refine NoPanic.normal ?_
            go_wp2_with fail
            go_meet
            case rel => exact amid_of (u1 := (W5.alloc rzo).drew) (u2 := Y1) (u3 := U) hBw hm2 (by omega) K2.out (by repeat (first | exact Kp.refl _ | refine Kp.alloc ?_ _ | refine Kp.drew ?_)) KM1.out (by repeat (first | exact Kp.refl _ | refine Kp.alloc ?_ _ | refine Kp.drew ?_)) KU.out (by omega) (by omega) (by first | omega | (simp; omega) | simp) (by first | omega | (simp; omega) | simp) (by first | omega | (simp; omega) | simp) (by first | omega | (simp; omega) | simp) R2.out I1.out q1 q2 q3 SG1.out I2.out G2.out SG2.out F1s.out (ks_set9 _ _ _ _ _ _ _ _ _) (bl_ks B1s.out (by omega) (ks_set9 _ _ _ _ _ _ _ _ _)) (bl_set9 B2s.out _ _ _ _ _ _ _ _ _)
          refine AllReadyH.cons rfl (fun K hKq => ?_) ?_
          ·
            go_simp
            refine hKq.out _ _ (MK.out _ (KQ.kp ((Kp.refl _).alloc _) (by omega))) (fun hN => ?_)
            have B1n3 : Hid ((Y1.alloc rzo).heap[W5.heap.size]? = some rzo) := bl_alloc B1n2.out _
            have B2n3 : Hid ((Y1.alloc rzo).heap[Y1.heap.size]? = some rzo) := last_at _ _ _ (by simp)
            clear hKq K hH KQ
            have hH := hN
            clear hN
            have KQ := hH.2.2.2.2.2.2.out
            try simp only [Act.put, List.setIfInBounds_toArray, List.set_cons_zero, List.set_cons_succ]
            refine wpAnyH_ready (rs := [8]) (by kernel_rfl) (by simp) ?_
            refine AllReadyH.cons rfl (fun K hKq => ?_) AllReadyH.nil
            go_simp
            refine (PS2.out _ (by repeat (first | exact Kp.refl _ | refine Kp.alloc ?_ _ | refine Kp.drew ?_))).mono ?_
            rintro e Y2 ⟨⟨T2, v2, g2, rfl, hI, hp1, hp2, hGn⟩⟩
            obtain ⟨k2, mn2, mx2, mm2, t2, ad2, l2, c2, rfl⟩ := hI.form
            have SG2 := hid (hp1 rfl).part
            have I2 := hid hI
            have G2 := hid hGn
            have hy2 := hGn.km.size
            try simp at hy2
            have B1n4 : Hid (Y2.heap[W5.heap.size]? = some rzo) := bl_km B1n3.out (by omega) G2.out.km
            have B2n4 : Hid (Y2.heap[Y1.heap.size]? = some rzo) := bl_km B2n3.out (by omega) G2.out.km
            clear hI hp1 hp2 hGn PS2
            refine hKq.out _ _ (MK.out _ (KQ.trans G2.out.km)) (fun hN => ?_)
            clear hKq K hH KQ
            have hH := hN
            clear hN
            have KQ := hH.2.2.2.2.2.2.out
            try simp only [Act.put, List.setIfInBounds_toArray, List.set_cons_zero, List.set_cons_succ]
            refine wpAnyH_ready (rs := [11]) (by kernel_rfl) (by simp) ?_
            refine AllReadyH.cons rfl (fun K hKq => ?_) AllReadyH.nil
            have v0 := bl_cell (B1n4.out) 0 _ rfl
            have fv0 := bl_frozen (B1n4.out) 0
            have v1 := bl_cell (B1n4.out) 1 _ rfl
            have fv1 := bl_frozen (B1n4.out) 1
            have v2 := bl_cell (B1n4.out) 2 _ rfl
            have fv2 := bl_frozen (B1n4.out) 2
            have v3 := bl_cell (B1n4.out) 3 _ rfl
            have fv3 := bl_frozen (B1n4.out) 3
            have v4 := bl_cell (B1n4.out) 4 _ rfl
            have fv4 := bl_frozen (B1n4.out) 4
            have v5 := bl_cell (B1n4.out) 5 _ rfl
            have fv5 := bl_frozen (B1n4.out) 5
            have v6 := bl_cell (B1n4.out) 6 _ rfl
            have fv6 := bl_frozen (B1n4.out) 6
            have v7 := bl_cell (B1n4.out) 7 _ rfl
            have fv7 := bl_frozen (B1n4.out) 7
            have v8 := bl_cell (B1n4.out) 8 _ rfl
            have fv8 := bl_frozen (B1n4.out) 8
            go_simp
            refine hKq.out _ _ (MK.out _ (Km.new (S := W5.heap.size) KQ (ks_set9 _ _ _ _ _ _ _ _ _) (by omega) (by omega))) (fun hN => ?_)
            clear v0 fv0 v1 fv1 v2 fv2 v3 fv3 v4 fv4 v5 fv5 v6 fv6 v7 fv7 v8 fv8
            have B1s := hid (bl_set9 B1n4.out (.int .i64 k1) (.int .i64 mn1) (.int .i64 mx1) (.int .i64 mm1) (.int .u64 (t1.a : Int)) (.int .u64 (t1.b : Int)) (.int .u64 (t1.c : Int)) (.int .u64 (t1.d : Int)) (.slice ad1 l1 c1))
            have F1s := hid (ks_set9 (w := Y2) (B := W5.heap.size) (.int .i64 k1) (.int .i64 mn1) (.int .i64 mx1) (.int .i64 mm1) (.int .u64 (t1.a : Int)) (.int .u64 (t1.b : Int)) (.int .u64 (t1.c : Int)) (.int .u64 (t1.d : Int)) (.slice ad1 l1 c1))
            have B2s := hid (bl_ks B2n4.out (by omega) F1s.out)
            clear hKq K hH KQ
            have hH := hN
            clear hN
            have KQ := hH.2.2.2.2.2.2.out
            try simp only [Act.put, List.setIfInBounds_toArray, List.set_cons_zero, List.set_cons_succ]
            refine wpAnyH_ready (rs := [12]) (by kernel_rfl) (by simp) ?_
            refine AllReadyH.cons rfl (fun K hKq => ?_) AllReadyH.nil
            have u0 := bl_cell (B2s.out) 0 _ rfl
            have fu0 := bl_frozen (B2s.out) 0
            have u1 := bl_cell (B2s.out) 1 _ rfl
            have fu1 := bl_frozen (B2s.out) 1
            have u2 := bl_cell (B2s.out) 2 _ rfl
            have fu2 := bl_frozen (B2s.out) 2
            have u3 := bl_cell (B2s.out) 3 _ rfl
            have fu3 := bl_frozen (B2s.out) 3
            have u4 := bl_cell (B2s.out) 4 _ rfl
            have fu4 := bl_frozen (B2s.out) 4
            have u5 := bl_cell (B2s.out) 5 _ rfl
            have fu5 := bl_frozen (B2s.out) 5
            have u6 := bl_cell (B2s.out) 6 _ rfl
            have fu6 := bl_frozen (B2s.out) 6
            have u7 := bl_cell (B2s.out) 7 _ rfl
            have fu7 := bl_frozen (B2s.out) 7
            have u8 := bl_cell (B2s.out) 8 _ rfl
            have fu8 := bl_frozen (B2s.out) 8
            go_simp
            refine hKq.out _ _ (MK.out _ (Km.new (S := Y1.heap.size) KQ (ks_set9 _ _ _ _ _ _ _ _ _) (by omega) (by omega))) (fun hN => ?_)
            clear u0 fu0 u1 fu1 u2 fu2 u3 fu3 u4 fu4 u5 fu5 u6 fu6 u7 fu7 u8 fu8
            clear hKq K hH KQ
            have hH := hN
            clear hN
            have KQ := hH.2.2.2.2.2.2.out
            try simp only [Act.put, List.setIfInBounds_toArray, List.set_cons_zero, List.set_cons_succ]
            refine wpAnyH_done (by kernel_rfl) ?_ _
            refine NoPanic.normal ?_
            go_wp2_with fail
            go_meet
            case rel => exact amid_of (u1 := (W5.alloc rzo).drew) (u2 := (Y1.alloc rzo)) (u3 := Y2) hBw hm2 (by omega) K2.out (by repeat (first | exact Kp.refl _ | refine Kp.alloc ?_ _ | refine Kp.drew ?_)) KM1.out (by repeat (first | exact Kp.refl _ | refine Kp.alloc ?_ _ | refine Kp.drew ?_)) (Kp.refl _) (by omega) (by omega) (by first | omega | (simp; omega) | simp) (by first | omega | (simp; omega) | simp) (by first | omega | (simp; omega) | simp) (by first | omega | (simp; omega) | simp) R2.out I1.out q1 q2 q3 SG1.out I2.out G2.out SG2.out F1s.out (ks_set9 _ _ _ _ _ _ _ _ _) (bl_ks B1s.out (by omega) (ks_set9 _ _ _ _ _ _ _ _ _)) (bl_set9 B2s.out _ _ _ _ _ _ _ _ _)
          exact AllReadyH.nil
        refine AllReadyH.cons rfl (fun K hKq => ?_) ?_
        ·
          go_simp
          refine hKq.out _ _ (MK.out _ (KQ.kp ((Kp.refl _).alloc _) (by omega))) (fun hN => ?_)
          have B1n2 : Hid (((W5.alloc rzo).alloc rzo).heap[W5.heap.size]? = some rzo) := bl_alloc B1n1.out _
          have B2n2 : Hid (((W5.alloc rzo).alloc rzo).heap[W5.heap.size + 1]? = some rzo) := last_at _ _ _ (by simp)
          clear hKq K hH KQ
          have hH := hN
          clear hN
          have KQ := hH.2.2.2.2.2.2.out
          try simp only [Act.put, List.setIfInBounds_toArray, List.set_cons_zero, List.set_cons_succ]
          refine wpAnyH_ready (rs := [5]) (by kernel_rfl) (by simp) ?_
          refine AllReadyH.cons rfl (fun K hKq => ?_) AllReadyH.nil
          go_simp
          refine (PS.out m hm1 hm2 _ (by repeat (first | exact Kp.refl _ | refine Kp.alloc ?_ _ | refine Kp.drew ?_))).mono ?_
          rintro e Y1 ⟨⟨T1, v1, g1, rfl, hI, hp1, hp2, hGn⟩⟩
          obtain ⟨k1, mn1, mx1, mm1, t1, ad1, l1, c1, rfl⟩ := hI.form
          have SG1 := hid (sg_of hg3 hm1 hm2 hp1 hp2)
          have I1 := hid hI
          have KM1 := hid hGn.km
          have hy1 := hGn.km.size
          try simp at hy1
          obtain ⟨x', z', hmk, q1, q2, q3⟩ := hGn.ex
          have hgg := SG1.out.g3
          have B1n3 : Hid (Y1.heap[W5.heap.size]? = some rzo) := bl_km (w := ((W5.alloc rzo).alloc rzo).drew) B1n2.out (by omega) KM1.out
          have B2n3 : Hid (Y1.heap[W5.heap.size + 1]? = some rzo) := bl_km (w := ((W5.alloc rzo).alloc rzo).drew) B2n2.out (by omega) KM1.out
          have PS2 := hid (fun (W : World) (k : Kp Y1 W) => parts_any aK lK cK aN lN cN true B d 1 x' g1 z' W (by omega) (by omega) HPS.out ⟨hmk.kp k, NKW.out _ ((Kp.km (B := B) (a := W5) (by repeat (first | exact Kp.refl _ | refine Kp.alloc ?_ _ | refine Kp.drew ?_)) (by omega)).trans (KM1.out.kp k (by first | omega | (simp; omega) | simp))), NNW.out _ ((Kp.km (B := B) (a := W5) (by repeat (first | exact Kp.refl _ | refine Kp.alloc ?_ _ | refine Kp.drew ?_)) (by omega)).trans (KM1.out.kp k (by first | omega | (simp; omega) | simp))), hgg, by omega, by omega, by omega⟩)
          clear hI hp1 hp2 hGn hmk
          refine hKq.out _ _ (MK.out _ (KQ.trans KM1.out)) (fun hN => ?_)
          clear hKq K hH KQ
          have hH := hN
          clear hN
          have KQ := hH.2.2.2.2.2.2.out
          try simp only [Act.put, List.setIfInBounds_toArray, List.set_cons_zero, List.set_cons_succ]
          refine wpAnyH_ready (rs := [8]) (by kernel_rfl) (by simp) ?_
          refine AllReadyH.cons rfl (fun K hKq => ?_) AllReadyH.nil
          go_simp
          refine (PS2.out _ (by repeat (first | exact Kp.refl _ | refine Kp.alloc ?_ _ | refine Kp.drew ?_))).mono ?_
          rintro e Y2 ⟨⟨T2, v2, g2, rfl, hI, hp1, hp2, hGn⟩⟩
          obtain ⟨k2, mn2, mx2, mm2, t2, ad2, l2, c2, rfl⟩ := hI.form
          have SG2 := hid (hp1 rfl).part
          have I2 := hid hI
          have G2 := hid hGn
          have hy2 := hGn.km.size
          try simp at hy2
          have B1n4 : Hid (Y2.heap[W5.heap.size]? = some rzo) := bl_km B1n3.out (by omega) G2.out.km
          have B2n4 : Hid (Y2.heap[W5.heap.size + 1]? = some rzo) := bl_km B2n3.out (by omega) G2.out.km
          clear hI hp1 hp2 hGn PS2
          refine hKq.out _ _ (MK.out _ (KQ.trans G2.out.km)) (fun hN => ?_)
          clear hKq K hH KQ
          have hH := hN
          clear hN
          have KQ := hH.2.2.2.2.2.2.out
          try simp only [Act.put, List.setIfInBounds_toArray, List.set_cons_zero, List.set_cons_succ]
          refine wpAnyH_ready (rs := [11]) (by kernel_rfl) (by simp) ?_
          refine AllReadyH.cons rfl (fun K hKq => ?_) AllReadyH.nil
          have v0 := bl_cell (B1n4.out) 0 _ rfl
          have fv0 := bl_frozen (B1n4.out) 0
          have v1 := bl_cell (B1n4.out) 1 _ rfl
          have fv1 := bl_frozen (B1n4.out) 1
          have v2 := bl_cell (B1n4.out) 2 _ rfl
          have fv2 := bl_frozen (B1n4.out) 2
          have v3 := bl_cell (B1n4.out) 3 _ rfl
          have fv3 := bl_frozen (B1n4.out) 3
          have v4 := bl_cell (B1n4.out) 4 _ rfl
          have fv4 := bl_frozen (B1n4.out) 4
          have v5 := bl_cell (B1n4.out) 5 _ rfl
          have fv5 := bl_frozen (B1n4.out) 5
          have v6 := bl_cell (B1n4.out) 6 _ rfl
          have fv6 := bl_frozen (B1n4.out) 6
          have v7 := bl_cell (B1n4.out) 7 _ rfl
          have fv7 := bl_frozen (B1n4.out) 7
          have v8 := bl_cell (B1n4.out) 8 _ rfl
          have fv8 := bl_frozen (B1n4.out) 8
          go_simp
          refine hKq.out _ _ (MK.out _ (Km.new (S := W5.heap.size) KQ (ks_set9 _ _ _ _ _ _ _ _ _) (by omega) (by omega))) (fun hN => ?_)
          clear v0 fv0 v1 fv1 v2 fv2 v3 fv3 v4 fv4 v5 fv5 v6 fv6 v7 fv7 v8 fv8
          have B1s := hid (bl_set9 B1n4.out (.int .i64 k1) (.int .i64 mn1) (.int .i64 mx1) (.int .i64 mm1) (.int .u64 (t1.a : Int)) (.int .u64 (t1.b : Int)) (.int .u64 (t1.c : Int)) (.int .u64 (t1.d : Int)) (.slice ad1 l1 c1))
          have F1s := hid (ks_set9 (w := Y2) (B := W5.heap.size) (.int .i64 k1) (.int .i64 mn1) (.int .i64 mx1) (.int .i64 mm1) (.int .u64 (t1.a : Int)) (.int .u64 (t1.b : Int)) (.int .u64 (t1.c : Int)) (.int .u64 (t1.d : Int)) (.slice ad1 l1 c1))
          have B2s := hid (bl_ks B2n4.out (by omega) F1s.out)
          clear hKq K hH KQ
          have hH := hN
          clear hN
          have KQ := hH.2.2.2.2.2.2.out
          try simp only [Act.put, List.setIfInBounds_toArray, List.set_cons_zero, List.set_cons_succ]
          refine wpAnyH_ready (rs := [12]) (by kernel_rfl) (by simp) ?_
          refine AllReadyH.cons rfl (fun K hKq => ?_) AllReadyH.nil
          have u0 := bl_cell (B2s.out) 0 _ rfl
          have fu0 := bl_frozen (B2s.out) 0
          have u1 := bl_cell (B2s.out) 1 _ rfl
          have fu1 := bl_frozen (B2s.out) 1
          have u2 := bl_cell (B2s.out) 2 _ rfl
          have fu2 := bl_frozen (B2s.out) 2
          have u3 := bl_cell (B2s.out) 3 _ rfl
          have fu3 := bl_frozen (B2s.out) 3
          have u4 := bl_cell (B2s.out) 4 _ rfl
          have fu4 := bl_frozen (B2s.out) 4
          have u5 := bl_cell (B2s.out) 5 _ rfl
          have fu5 := bl_frozen (B2s.out) 5
          have u6 := bl_cell (B2s.out) 6 _ rfl
          have fu6 := bl_frozen (B2s.out) 6
          have u7 := bl_cell (B2s.out) 7 _ rfl
          have fu7 := bl_frozen (B2s.out) 7
          have u8 := bl_cell (B2s.out) 8 _ rfl
          have fu8 := bl_frozen (B2s.out) 8
          go_simp
          refine hKq.out _ _ (MK.out _ (Km.new (S := W5.heap.size + 1) KQ (ks_set9 _ _ _ _ _ _ _ _ _) (by omega) (by omega))) (fun hN => ?_)
          clear u0 fu0 u1 fu1 u2 fu2 u3 fu3 u4 fu4 u5 fu5 u6 fu6 u7 fu7 u8 fu8
          clear hKq K hH KQ
          have hH := hN
          clear hN
          have KQ := hH.2.2.2.2.2.2.out
          try simp only [Act.put, List.setIfInBounds_toArray, List.set_cons_zero, List.set_cons_succ]
          refine wpAnyH_done (by kernel_rfl) ?_ _
          refine NoPanic.normal ?_
          go_wp2_with fail
          go_meet
          case rel => exact amid_of (u1 := ((W5.alloc rzo).alloc rzo).drew) (u2 := Y1) (u3 := Y2) hBw hm2 (by omega) K2.out (by repeat (first | exact Kp.refl _ | refine Kp.alloc ?_ _ | refine Kp.drew ?_)) KM1.out (by repeat (first | exact Kp.refl _ | refine Kp.alloc ?_ _ | refine Kp.drew ?_)) (Kp.refl _) (by omega) (by omega) (by first | omega | (simp; omega) | simp) (by first | omega | (simp; omega) | simp) (by first | omega | (simp; omega) | simp) (by first | omega | (simp; omega) | simp) R2.out I1.out q1 q2 q3 SG1.out I2.out G2.out SG2.out F1s.out (ks_set9 _ _ _ _ _ _ _ _ _) (bl_ks B1s.out (by omega) (ks_set9 _ _ _ _ _ _ _ _ _)) (bl_set9 B2s.out _ _ _ _ _ _ _ _ _)
        exact AllReadyH.nil
      refine AllReadyH.cons rfl (fun K hKq => ?_) ?_
      ·
        go_simp
        refine hKq.out _ _ (MK.out _ (KQ.kp ((Kp.refl _).alloc _) (by omega))) (fun hN => ?_)
        have B2n1 : Hid ((W5.alloc rzo).heap[W5.heap.size]? = some rzo) := last_at _ _ _ (by simp)
        clear hKq K hH KQ
        have hH := hN
        clear hN
        have KQ := hH.2.2.2.2.2.2.out
        try simp only [Act.put, List.setIfInBounds_toArray, List.set_cons_zero, List.set_cons_succ]
        refine wpAnyH_ready (rs := [5, 9]) (by kernel_rfl) (by simp) ?_
        refine AllReadyH.cons rfl (fun K hKq => ?_) ?_
        ·
          go_simp
          refine (PS.out m hm1 hm2 _ (by repeat (first | exact Kp.refl _ | refine Kp.alloc ?_ _ | refine Kp.drew ?_))).mono ?_
          rintro e Y1 ⟨⟨T1, v1, g1, rfl, hI, hp1, hp2, hGn⟩⟩
          obtain ⟨k1, mn1, mx1, mm1, t1, ad1, l1, c1, rfl⟩ := hI.form
          have SG1 := hid (sg_of hg3 hm1 hm2 hp1 hp2)
          have I1 := hid hI
          have KM1 := hid hGn.km
          have hy1 := hGn.km.size
          try simp at hy1
          obtain ⟨x', z', hmk, q1, q2, q3⟩ := hGn.ex
          have hgg := SG1.out.g3
          have B2n2 : Hid (Y1.heap[W5.heap.size]? = some rzo) := bl_km (w := (W5.alloc rzo).drew) B2n1.out (by omega) KM1.out
          have PS2 := hid (fun (W : World) (k : Kp Y1 W) => parts_any aK lK cK aN lN cN true B d 1 x' g1 z' W (by omega) (by omega) HPS.out ⟨hmk.kp k, NKW.out _ ((Kp.km (B := B) (a := W5) (by repeat (first | exact Kp.refl _ | refine Kp.alloc ?_ _ | refine Kp.drew ?_)) (by omega)).trans (KM1.out.kp k (by first | omega | (simp; omega) | simp))), NNW.out _ ((Kp.km (B := B) (a := W5) (by repeat (first | exact Kp.refl _ | refine Kp.alloc ?_ _ | refine Kp.drew ?_)) (by omega)).trans (KM1.out.kp k (by first | omega | (simp; omega) | simp))), hgg, by omega, by omega, by omega⟩)
          clear hI hp1 hp2 hGn hmk
          refine hKq.out _ _ (MK.out _ (KQ.trans KM1.out)) (fun hN => ?_)
          clear hKq K hH KQ
          have hH := hN
          clear hN
          have KQ := hH.2.2.2.2.2.2.out
          try simp only [Act.put, List.setIfInBounds_toArray, List.set_cons_zero, List.set_cons_succ]
          refine wpAnyH_ready (rs := [8, 9]) (by kernel_rfl) (by simp) ?_
          refine AllReadyH.cons rfl (fun K hKq => ?_) ?_
          ·
            go_simp
            refine (PS2.out _ (by repeat (first | exact Kp.refl _ | refine Kp.alloc ?_ _ | refine Kp.drew ?_))).mono ?_
            rintro e Y2 ⟨⟨T2, v2, g2, rfl, hI, hp1, hp2, hGn⟩⟩
            obtain ⟨k2, mn2, mx2, mm2, t2, ad2, l2, c2, rfl⟩ := hI.form
            have SG2 := hid (hp1 rfl).part
            have I2 := hid hI
            have G2 := hid hGn
            have hy2 := hGn.km.size
            try simp at hy2
            have B2n3 : Hid (Y2.heap[W5.heap.size]? = some rzo) := bl_km B2n2.out (by omega) G2.out.km
            clear hI hp1 hp2 hGn PS2
            refine hKq.out _ _ (MK.out _ (KQ.trans G2.out.km)) (fun hN => ?_)
            clear hKq K hH KQ
            have hH := hN
            clear hN
            have KQ := hH.2.2.2.2.2.2.out
            try simp only [Act.put, List.setIfInBounds_toArray, List.set_cons_zero, List.set_cons_succ]
            refine wpAnyH_ready (rs := [9]) (by kernel_rfl) (by simp) ?_
            refine AllReadyH.cons rfl (fun K hKq => ?_) AllReadyH.nil
            go_simp
            refine hKq.out _ _ (MK.out _ (KQ.kp ((Kp.refl _).alloc _) (by omega))) (fun hN => ?_)
            have B2n4 : Hid ((Y2.alloc rzo).heap[W5.heap.size]? = some rzo) := bl_alloc B2n3.out _
            have B1n4 : Hid ((Y2.alloc rzo).heap[Y2.heap.size]? = some rzo) := last_at _ _ _ (by simp)
            clear hKq K hH KQ
            have hH := hN
            clear hN
            have KQ := hH.2.2.2.2.2.2.out
            try simp only [Act.put, List.setIfInBounds_toArray, List.set_cons_zero, List.set_cons_succ]
            refine wpAnyH_ready (rs := [11]) (by kernel_rfl) (by simp) ?_
            refine AllReadyH.cons rfl (fun K hKq => ?_) AllReadyH.nil
            obtain ⟨U, hU⟩ : ∃ U, (Y2.alloc rzo) = U := ⟨_, rfl⟩
            rw [hU] at hH KQ B1n4 B2n4 ⊢
            have KU : Hid (Kp Y2 U) := by subst hU; exact (by repeat (first | exact Kp.refl _ | refine Kp.alloc ?_ _ | refine Kp.drew ?_))
            clear hU
            have v0 := bl_cell (B1n4.out) 0 _ rfl
            have fv0 := bl_frozen (B1n4.out) 0
            have v1 := bl_cell (B1n4.out) 1 _ rfl
            have fv1 := bl_frozen (B1n4.out) 1
            have v2 := bl_cell (B1n4.out) 2 _ rfl
            have fv2 := bl_frozen (B1n4.out) 2
            have v3 := bl_cell (B1n4.out) 3 _ rfl
            have fv3 := bl_frozen (B1n4.out) 3
            have v4 := bl_cell (B1n4.out) 4 _ rfl
            have fv4 := bl_frozen (B1n4.out) 4
            have v5 := bl_cell (B1n4.out) 5 _ rfl
            have fv5 := bl_frozen (B1n4.out) 5
            have v6 := bl_cell (B1n4.out) 6 _ rfl
            have fv6 := bl_frozen (B1n4.out) 6
            have v7 := bl_cell (B1n4.out) 7 _ rfl
            have fv7 := bl_frozen (B1n4.out) 7
            have v8 := bl_cell (B1n4.out) 8 _ rfl
            have fv8 := bl_frozen (B1n4.out) 8
            go_simp
            refine hKq.out _ _ (MK.out _ (Km.new (S := Y2.heap.size) KQ (ks_set9 _ _ _ _ _ _ _ _ _) (by omega) (by omega))) (fun hN => ?_)
            clear v0 fv0 v1 fv1 v2 fv2 v3 fv3 v4 fv4 v5 fv5 v6 fv6 v7 fv7 v8 fv8
            have B1s := hid (bl_set9 B1n4.out (.int .i64 k1) (.int .i64 mn1) (.int .i64 mx1) (.int .i64 mm1) (.int .u64 (t1.a : Int)) (.int .u64 (t1.b : Int)) (.int .u64 (t1.c : Int)) (.int .u64 (t1.d : Int)) (.slice ad1 l1 c1))
            have F1s := hid (ks_set9 (w := U) (B := Y2.heap.size) (.int .i64 k1) (.int .i64 mn1) (.int .i64 mx1) (.int .i64 mm1) (.int .u64 (t1.a : Int)) (.int .u64 (t1.b : Int)) (.int .u64 (t1.c : Int)) (.int .u64 (t1.d : Int)) (.slice ad1 l1 c1))
            have B2s := hid (bl_ks B2n4.out (by omega) F1s.out)
            clear hKq K hH KQ
            have hH := hN
            clear hN
            have KQ := hH.2.2.2.2.2.2.out
            try simp only [Act.put, List.setIfInBounds_toArray, List.set_cons_zero, List.set_cons_succ]
            refine wpAnyH_ready (rs := [12]) (by kernel_rfl) (by simp) ?_
            refine AllReadyH.cons rfl (fun K hKq => ?_) AllReadyH.nil
            have u0 := bl_cell (B2s.out) 0 _ rfl
            have fu0 := bl_frozen (B2s.out) 0
            have u1 := bl_cell (B2s.out) 1 _ rfl
            have fu1 := bl_frozen (B2s.out) 1
            have u2 := bl_cell (B2s.out) 2 _ rfl
            have fu2 := bl_frozen (B2s.out) 2
            have u3 := bl_cell (B2s.out) 3 _ rfl
            have fu3 := bl_frozen (B2s.out) 3
            have u4 := bl_cell (B2s.out) 4 _ rfl
            have fu4 := bl_frozen (B2s.out) 4
            have u5 := bl_cell (B2s.out) 5 _ rfl
            have fu5 := bl_frozen (B2s.out) 5
            have u6 := bl_cell (B2s.out) 6 _ rfl
            have fu6 := bl_frozen (B2s.out) 6
            have u7 := bl_cell (B2s.out) 7 _ rfl
            have fu7 := bl_frozen (B2s.out) 7
            have u8 := bl_cell (B2s.out) 8 _ rfl
            have fu8 := bl_frozen (B2s.out) 8
            go_simp
            refine hKq.out _ _ (MK.out _ (Km.new (S := W5.heap.size) KQ (ks_set9 _ _ _ _ _ _ _ _ _) (by omega) (by omega))) (fun hN => ?_)
            clear u0 fu0 u1 fu1 u2 fu2 u3 fu3 u4 fu4 u5 fu5 u6 fu6 u7 fu7 u8 fu8
            clear hKq K hH KQ
            have hH := hN
            clear hN
            have KQ := hH.2.2.2.2.2.2.out
            try simp only [Act.put, List.setIfInBounds_toArray, List.set_cons_zero, List.set_cons_succ]
            refine wpAnyH_done (by kernel_rfl) ?_ _
            refine NoPanic.normal ?_
            go_wp2_with fail
            go_meet
            case rel => exact amid_of (u1 := (W5.alloc rzo).drew) (u2 := Y1) (u3 := U) hBw hm2 (by omega) K2.out (by repeat (first | exact Kp.refl _ | refine Kp.alloc ?_ _ | refine Kp.drew ?_)) KM1.out (by repeat (first | exact Kp.refl _ | refine Kp.alloc ?_ _ | refine Kp.drew ?_)) KU.out (by omega) (by omega) (by first | omega | (simp; omega) | simp) (by first | omega | (simp; omega) | simp) (by first | omega | (simp; omega) | simp) (by first | omega | (simp; omega) | simp) R2.out I1.out q1 q2 q3 SG1.out I2.out G2.out SG2.out F1s.out (ks_set9 _ _ _ _ _ _ _ _ _) (bl_ks B1s.out (by omega) (ks_set9 _ _ _ _ _ _ _ _ _)) (bl_set9 B2s.out _ _ _ _ _ _ _ _ _)
          refine AllReadyH.cons rfl (fun K hKq => ?_) ?_
          ·
            go_simp
            refine hKq.out _ _ (MK.out _ (KQ.kp ((Kp.refl _).alloc _) (by omega))) (fun hN => ?_)
            have B2n3 : Hid ((Y1.alloc rzo).heap[W5.heap.size]? = some rzo) := bl_alloc B2n2.out _
            have B1n3 : Hid ((Y1.alloc rzo).heap[Y1.heap.size]? = some rzo) := last_at _ _ _ (by simp)
            clear hKq K hH KQ
            have hH := hN
            clear hN
            have KQ := hH.2.2.2.2.2.2.out
            try simp only [Act.put, List.setIfInBounds_toArray, List.set_cons_zero, List.set_cons_succ]
            refine wpAnyH_ready (rs := [8]) (by kernel_rfl) (by simp) ?_
            refine AllReadyH.cons rfl (fun K hKq => ?_) AllReadyH.nil
            go_simp
            refine (PS2.out _ (by repeat (first | exact Kp.refl _ | refine Kp.alloc ?_ _ | refine Kp.drew ?_))).mono ?_
            rintro e Y2 ⟨⟨T2, v2, g2, rfl, hI, hp1, hp2, hGn⟩⟩
            obtain ⟨k2, mn2, mx2, mm2, t2, ad2, l2, c2, rfl⟩ := hI.form
            have SG2 := hid (hp1 rfl).part
            have I2 := hid hI
            have G2 := hid hGn
            have hy2 := hGn.km.size
            try simp at hy2
            have B1n4 : Hid (Y2.heap[Y1.heap.size]? = some rzo) := bl_km B1n3.out (by omega) G2.out.km
            have B2n4 : Hid (Y2.heap[W5.heap.size]? = some rzo) := bl_km B2n3.out (by omega) G2.out.km
            clear hI hp1 hp2 hGn PS2
            refine hKq.out _ _ (MK.out _ (KQ.trans G2.out.km)) (fun hN => ?_)
            clear hKq K hH KQ
            have hH := hN
            clear hN
            have KQ := hH.2.2.2.2.2.2.out
            try simp only [Act.put, List.setIfInBounds_toArray, List.set_cons_zero, List.set_cons_succ]
            refine wpAnyH_ready (rs := [11]) (by kernel_rfl) (by simp) ?_
            refine AllReadyH.cons rfl (fun K hKq => ?_) AllReadyH.nil
            have v0 := bl_cell (B1n4.out) 0 _ rfl
            have fv0 := bl_frozen (B1n4.out) 0
            have v1 := bl_cell (B1n4.out) 1 _ rfl
            have fv1 := bl_frozen (B1n4.out) 1
            have v2 := bl_cell (B1n4.out) 2 _ rfl
            have fv2 := bl_frozen (B1n4.out) 2
            have v3 := bl_cell (B1n4.out) 3 _ rfl
            have fv3 := bl_frozen (B1n4.out) 3
            have v4 := bl_cell (B1n4.out) 4 _ rfl
            have fv4 := bl_frozen (B1n4.out) 4
            have v5 := bl_cell (B1n4.out) 5 _ rfl
            have fv5 := bl_frozen (B1n4.out) 5
            have v6 := bl_cell (B1n4.out) 6 _ rfl
            have fv6 := bl_frozen (B1n4.out) 6
            have v7 := bl_cell (B1n4.out) 7 _ rfl
            have fv7 := bl_frozen (B1n4.out) 7
            have v8 := bl_cell (B1n4.out) 8 _ rfl
            have fv8 := bl_frozen (B1n4.out) 8
            go_simp
            refine hKq.out _ _ (MK.out _ (Km.new (S := Y1.heap.size) KQ (ks_set9 _ _ _ _ _ _ _ _ _) (by omega) (by omega))) (fun hN => ?_)
            clear v0 fv0 v1 fv1 v2 fv2 v3 fv3 v4 fv4 v5 fv5 v6 fv6 v7 fv7 v8 fv8
            have B1s := hid (bl_set9 B1n4.out (.int .i64 k1) (.int .i64 mn1) (.int .i64 mx1) (.int .i64 mm1) (.int .u64 (t1.a : Int)) (.int .u64 (t1.b : Int)) (.int .u64 (t1.c : Int)) (.int .u64 (t1.d : Int)) (.slice ad1 l1 c1))
            have F1s := hid (ks_set9 (w := Y2) (B := Y1.heap.size) (.int .i64 k1) (.int .i64 mn1) (.int .i64 mx1) (.int .i64 mm1) (.int .u64 (t1.a : Int)) (.int .u64 (t1.b : Int)) (.int .u64 (t1.c : Int)) (.int .u64 (t1.d : Int)) (.slice ad1 l1 c1))
            have B2s := hid (bl_ks B2n4.out (by omega) F1s.out)
            clear hKq K hH KQ
            have hH := hN
            clear hN
            have KQ := hH.2.2.2.2.2.2.out
            try simp only [Act.put, List.setIfInBounds_toArray, List.set_cons_zero, List.set_cons_succ]
            refine wpAnyH_ready (rs := [12]) (by kernel_rfl) (by simp) ?_
            refine AllReadyH.cons rfl (fun K hKq => ?_) AllReadyH.nil
            have u0 := bl_cell (B2s.out) 0 _ rfl
            have fu0 := bl_frozen (B2s.out) 0
            have u1 := bl_cell (B2s.out) 1 _ rfl
            have fu1 := bl_frozen (B2s.out) 1
            have u2 := bl_cell (B2s.out) 2 _ rfl
            have fu2 := bl_frozen (B2s.out) 2
            have u3 := bl_cell (B2s.out) 3 _ rfl
            have fu3 := bl_frozen (B2s.out) 3
            have u4 := bl_cell (B2s.out) 4 _ rfl
            have fu4 := bl_frozen (B2s.out) 4
            have u5 := bl_cell (B2s.out) 5 _ rfl
            have fu5 := bl_frozen (B2s.out) 5
            have u6 := bl_cell (B2s.out) 6 _ rfl
            have fu6 := bl_frozen (B2s.out) 6
            have u7 := bl_cell (B2s.out) 7 _ rfl
            have fu7 := bl_frozen (B2s.out) 7
            have u8 := bl_cell (B2s.out) 8 _ rfl
            have fu8 := bl_frozen (B2s.out) 8
            go_simp
            refine hKq.out _ _ (MK.out _ (Km.new (S := W5.heap.size) KQ (ks_set9 _ _ _ _ _ _ _ _ _) (by omega) (by omega))) (fun hN => ?_)
            clear u0 fu0 u1 fu1 u2 fu2 u3 fu3 u4 fu4 u5 fu5 u6 fu6 u7 fu7 u8 fu8
            clear hKq K hH KQ
            have hH := hN
            clear hN
            have KQ := hH.2.2.2.2.2.2.out
            try simp only [Act.put, List.setIfInBounds_toArray, List.set_cons_zero, List.set_cons_succ]
            refine wpAnyH_done (by kernel_rfl) ?_ _
            refine NoPanic.normal ?_
            go_wp2_with fail
            go_meet
            case rel => exact amid_of (u1 := (W5.alloc rzo).drew) (u2 := (Y1.alloc rzo)) (u3 := Y2) hBw hm2 (by omega) K2.out (by repeat (first | exact Kp.refl _ | refine Kp.alloc ?_ _ | refine Kp.drew ?_)) KM1.out (by repeat (first | exact Kp.refl _ | refine Kp.alloc ?_ _ | refine Kp.drew ?_)) (Kp.refl _) (by omega) (by omega) (by first | omega | (simp; omega) | simp) (by first | omega | (simp; omega) | simp) (by first | omega | (simp; omega) | simp) (by first | omega | (simp; omega) | simp) R2.out I1.out q1 q2 q3 SG1.out I2.out G2.out SG2.out F1s.out (ks_set9 _ _ _ _ _ _ _ _ _) (bl_ks B1s.out (by omega) (ks_set9 _ _ _ _ _ _ _ _ _)) (bl_set9 B2s.out _ _ _ _ _ _ _ _ _)
          exact AllReadyH.nil
        refine AllReadyH.cons rfl (fun K hKq => ?_) ?_
        ·
          go_simp
          refine hKq.out _ _ (MK.out _ (KQ.kp ((Kp.refl _).alloc _) (by omega))) (fun hN => ?_)
          have B2n2 : Hid (((W5.alloc rzo).alloc rzo).heap[W5.heap.size]? = some rzo) := bl_alloc B2n1.out _
          have B1n2 : Hid (((W5.alloc rzo).alloc rzo).heap[W5.heap.size + 1]? = some rzo) := last_at _ _ _ (by simp)
          clear hKq K hH KQ
          have hH := hN
          clear hN
          have KQ := hH.2.2.2.2.2.2.out
          try simp only [Act.put, List.setIfInBounds_toArray, List.set_cons_zero, List.set_cons_succ]
          refine wpAnyH_ready (rs := [5]) (by kernel_rfl) (by simp) ?_
          refine AllReadyH.cons rfl (fun K hKq => ?_) AllReadyH.nil
          go_simp
          refine (PS.out m hm1 hm2 _ (by repeat (first | exact Kp.refl _ | refine Kp.alloc ?_ _ | refine Kp.drew ?_))).mono ?_
          rintro e Y1 ⟨⟨T1, v1, g1, rfl, hI, hp1, hp2, hGn⟩⟩
          obtain ⟨k1, mn1, mx1, mm1, t1, ad1, l1, c1, rfl⟩ := hI.form
          have SG1 := hid (sg_of hg3 hm1 hm2 hp1 hp2)
          have I1 := hid hI
          have KM1 := hid hGn.km
          have hy1 := hGn.km.size
          try simp at hy1
          obtain ⟨x', z', hmk, q1, q2, q3⟩ := hGn.ex
          have hgg := SG1.out.g3
          have B1n3 : Hid (Y1.heap[W5.heap.size + 1]? = some rzo) := bl_km (w := ((W5.alloc rzo).alloc rzo).drew) B1n2.out (by omega) KM1.out
          have B2n3 : Hid (Y1.heap[W5.heap.size]? = some rzo) := bl_km (w := ((W5.alloc rzo).alloc rzo).drew) B2n2.out (by omega) KM1.out
          have PS2 := hid (fun (W : World) (k : Kp Y1 W) => parts_any aK lK cK aN lN cN true B d 1 x' g1 z' W (by omega) (by omega) HPS.out ⟨hmk.kp k, NKW.out _ ((Kp.km (B := B) (a := W5) (by repeat (first | exact Kp.refl _ | refine Kp.alloc ?_ _ | refine Kp.drew ?_)) (by omega)).trans (KM1.out.kp k (by first | omega | (simp; omega) | simp))), NNW.out _ ((Kp.km (B := B) (a := W5) (by repeat (first | exact Kp.refl _ | refine Kp.alloc ?_ _ | refine Kp.drew ?_)) (by omega)).trans (KM1.out.kp k (by first | omega | (simp; omega) | simp))), hgg, by omega, by omega, by omega⟩)
          clear hI hp1 hp2 hGn hmk
          refine hKq.out _ _ (MK.out _ (KQ.trans KM1.out)) (fun hN => ?_)
          clear hKq K hH KQ
          have hH := hN
          clear hN
          have KQ := hH.2.2.2.2.2.2.out
          try simp only [Act.put, List.setIfInBounds_toArray, List.set_cons_zero, List.set_cons_succ]
          refine wpAnyH_ready (rs := [8]) (by kernel_rfl) (by simp) ?_
          refine AllReadyH.cons rfl (fun K hKq => ?_) AllReadyH.nil
          go_simp
          refine (PS2.out _ (by repeat (first | exact Kp.refl _ | refine Kp.alloc ?_ _ | refine Kp.drew ?_))).mono ?_
          rintro e Y2 ⟨⟨T2, v2, g2, rfl, hI, hp1, hp2, hGn⟩⟩
          obtain ⟨k2, mn2, mx2, mm2, t2, ad2, l2, c2, rfl⟩ := hI.form
          have SG2 := hid (hp1 rfl).part
          have I2 := hid hI
          have G2 := hid hGn
          have hy2 := hGn.km.size
          try simp at hy2
          have B1n4 : Hid (Y2.heap[W5.heap.size + 1]? = some rzo) := bl_km B1n3.out (by omega) G2.out.km
          have B2n4 : Hid (Y2.heap[W5.heap.size]? = some rzo) := bl_km B2n3.out (by omega) G2.out.km
          clear hI hp1 hp2 hGn PS2
          refine hKq.out _ _ (MK.out _ (KQ.trans G2.out.km)) (fun hN => ?_)
          clear hKq K hH KQ
          have hH := hN
          clear hN
          have KQ := hH.2.2.2.2.2.2.out
          try simp only [Act.put, List.setIfInBounds_toArray, List.set_cons_zero, List.set_cons_succ]
          refine wpAnyH_ready (rs := [11]) (by kernel_rfl) (by simp) ?_
          refine AllReadyH.cons rfl (fun K hKq => ?_) AllReadyH.nil
          have v0 := bl_cell (B1n4.out) 0 _ rfl
          have fv0 := bl_frozen (B1n4.out) 0
          have v1 := bl_cell (B1n4.out) 1 _ rfl
          have fv1 := bl_frozen (B1n4.out) 1
          have v2 := bl_cell (B1n4.out) 2 _ rfl
          have fv2 := bl_frozen (B1n4.out) 2
          have v3 := bl_cell (B1n4.out) 3 _ rfl
          have fv3 := bl_frozen (B1n4.out) 3
          have v4 := bl_cell (B1n4.out) 4 _ rfl
          have fv4 := bl_frozen (B1n4.out) 4
          have v5 := bl_cell (B1n4.out) 5 _ rfl
          have fv5 := bl_frozen (B1n4.out) 5
          have v6 := bl_cell (B1n4.out) 6 _ rfl
          have fv6 := bl_frozen (B1n4.out) 6
          have v7 := bl_cell (B1n4.out) 7 _ rfl
          have fv7 := bl_frozen (B1n4.out) 7
          have v8 := bl_cell (B1n4.out) 8 _ rfl
          have fv8 := bl_frozen (B1n4.out) 8
          go_simp
          refine hKq.out _ _ (MK.out _ (Km.new (S := W5.heap.size + 1) KQ (ks_set9 _ _ _ _ _ _ _ _ _) (by omega) (by omega))) (fun hN => ?_)
          clear v0 fv0 v1 fv1 v2 fv2 v3 fv3 v4 fv4 v5 fv5 v6 fv6 v7 fv7 v8 fv8
          have B1s := hid (bl_set9 B1n4.out (.int .i64 k1) (.int .i64 mn1) (.int .i64 mx1) (.int .i64 mm1) (.int .u64 (t1.a : Int)) (.int .u64 (t1.b : Int)) (.int .u64 (t1.c : Int)) (.int .u64 (t1.d : Int)) (.slice ad1 l1 c1))
          have F1s := hid (ks_set9 (w := Y2) (B := W5.heap.size + 1) (.int .i64 k1) (.int .i64 mn1) (.int .i64 mx1) (.int .i64 mm1) (.int .u64 (t1.a : Int)) (.int .u64 (t1.b : Int)) (.int .u64 (t1.c : Int)) (.int .u64 (t1.d : Int)) (.slice ad1 l1 c1))
          have B2s := hid (bl_ks B2n4.out (by omega) F1s.out)
          clear hKq K hH KQ
          have hH := hN
          clear hN
          have KQ := hH.2.2.2.2.2.2.out
          try simp only [Act.put, List.setIfInBounds_toArray, List.set_cons_zero, List.set_cons_succ]
          refine wpAnyH_ready (rs := [12]) (by kernel_rfl) (by simp) ?_
          refine AllReadyH.cons rfl (fun K hKq => ?_) AllReadyH.nil
          have u0 := bl_cell (B2s.out) 0 _ rfl
          have fu0 := bl_frozen (B2s.out) 0
          have u1 := bl_cell (B2s.out) 1 _ rfl
          have fu1 := bl_frozen (B2s.out) 1
          have u2 := bl_cell (B2s.out) 2 _ rfl
          have fu2 := bl_frozen (B2s.out) 2
          have u3 := bl_cell (B2s.out) 3 _ rfl
          have fu3 := bl_frozen (B2s.out) 3
          have u4 := bl_cell (B2s.out) 4 _ rfl
          have fu4 := bl_frozen (B2s.out) 4
          have u5 := bl_cell (B2s.out) 5 _ rfl
          have fu5 := bl_frozen (B2s.out) 5
          have u6 := bl_cell (B2s.out) 6 _ rfl
          have fu6 := bl_frozen (B2s.out) 6
          have u7 := bl_cell (B2s.out) 7 _ rfl
          have fu7 := bl_frozen (B2s.out) 7
          have u8 := bl_cell (B2s.out) 8 _ rfl
          have fu8 := bl_frozen (B2s.out) 8
          go_simp
          refine hKq.out _ _ (MK.out _ (Km.new (S := W5.heap.size) KQ (ks_set9 _ _ _ _ _ _ _ _ _) (by omega) (by omega))) (fun hN => ?_)
          clear u0 fu0 u1 fu1 u2 fu2 u3 fu3 u4 fu4 u5 fu5 u6 fu6 u7 fu7 u8 fu8
          clear hKq K hH KQ
          have hH := hN
          clear hN
          have KQ := hH.2.2.2.2.2.2.out
          try simp only [Act.put, List.setIfInBounds_toArray, List.set_cons_zero, List.set_cons_succ]
          refine wpAnyH_done (by kernel_rfl) ?_ _
          refine NoPanic.normal ?_
          go_wp2_with fail
          go_meet
          case rel => exact amid_of (u1 := ((W5.alloc rzo).alloc rzo).drew) (u2 := Y1) (u3 := Y2) hBw hm2 (by omega) K2.out (by repeat (first | exact Kp.refl _ | refine Kp.alloc ?_ _ | refine Kp.drew ?_)) KM1.out (by repeat (first | exact Kp.refl _ | refine Kp.alloc ?_ _ | refine Kp.drew ?_)) (Kp.refl _) (by omega) (by omega) (by first | omega | (simp; omega) | simp) (by first | omega | (simp; omega) | simp) (by first | omega | (simp; omega) | simp) (by first | omega | (simp; omega) | simp) R2.out I1.out q1 q2 q3 SG1.out I2.out G2.out SG2.out F1s.out (ks_set9 _ _ _ _ _ _ _ _ _) (bl_ks B1s.out (by omega) (ks_set9 _ _ _ _ _ _ _ _ _)) (bl_set9 B2s.out _ _ _ _ _ _ _ _ _)
        exact AllReadyH.nil
      exact AllReadyH.nil
    case rest =>
    obtain ⟨⟨V1, V2, T1, T2, g1, g2, k1, mn1, mx1, mm1, t1, ad1, l1, c1, k2, mn2, mx2, mm2, t2, ad2, l2, c2, rfl, rfl, hV1, hV2, b1, b2, i1, i2, s1, s2, r6, g6⟩⟩ := hcut
    rename World => W6
    have hs6 := g6.km.size
    have P1 := hid b1
    have P2 := hid b2
    have I1 := hid i1
    have I2 := hid i2
    have RG := hid (Trip.alt_good T1 T2 d g g1 g2 s1 s2)
    have hs6' : w.heap.size + 1 < W6.heap.size := bl_lt r6
    have KI := hid ((RK.pair (base := 0) k1 mn1 mx1 mm1 t1 ad1 l1 c1 k2 mn2 mx2 mm2 t2 ad2 l2 c2 I1.out I2.out (by omega) (by omega)).is 3 0 0 0 W4.z)
    have R7 := hid (bl_alloc r6 (.cells #[.int .i64 k1, .int .i64 mn1, .int .i64 mx1, .int .i64 mm1, .int .u64 (t1.a : Int), .int .u64 (t1.b : Int), .int .u64 (t1.c : Int), .int .u64 (t1.d : Int), .slice ad1 l1 c1, .int .i64 k2, .int .i64 mn2, .int .i64 mx2, .int .i64 mm2, .int .u64 (t2.a : Int), .int .u64 (t2.b : Int), .int .u64 (t2.c : Int), .int .u64 (t2.d : Int), .slice ad2 l2 c2] 27))
    have G7 := hid (g6.kp ((Kp.refl _).alloc (.cells #[.int .i64 k1, .int .i64 mn1, .int .i64 mx1, .int .i64 mm1, .int .u64 (t1.a : Int), .int .u64 (t1.b : Int), .int .u64 (t1.c : Int), .int .u64 (t1.d : Int), .slice ad1 l1 c1, .int .i64 k2, .int .i64 mn2, .int .i64 mx2, .int .i64 mm2, .int .u64 (t2.a : Int), .int .u64 (t2.b : Int), .int .u64 (t2.c : Int), .int .u64 (t2.d : Int), .slice ad2 l2 c2] 27)) (by omega))
    clear b1 b2 i1 i2 s1 s2 r6 g6 M2 A2 R2 K2 PS NKW NNW hs6 hs6' hV1 hV2
    have p0 := bl_cell (P1.out) 0 _ rfl
    have p1 := bl_cell (P1.out) 1 _ rfl
    have p2 := bl_cell (P1.out) 2 _ rfl
    have p3 := bl_cell (P1.out) 3 _ rfl
    have p4 := bl_cell (P1.out) 4 _ rfl
    have p5 := bl_cell (P1.out) 5 _ rfl
    have p6 := bl_cell (P1.out) 6 _ rfl
    have p7 := bl_cell (P1.out) 7 _ rfl
    have p8 := bl_cell (P1.out) 8 _ rfl
    have u0 := bl_cell (P2.out) 0 _ rfl
    have u1 := bl_cell (P2.out) 1 _ rfl
    have u2 := bl_cell (P2.out) 2 _ rfl
    have u3 := bl_cell (P2.out) 3 _ rfl
    have u4 := bl_cell (P2.out) 4 _ rfl
    have u5 := bl_cell (P2.out) 5 _ rfl
    have u6 := bl_cell (P2.out) 6 _ rfl
    have u7 := bl_cell (P2.out) 7 _ rfl
    have u8 := bl_cell (P2.out) 8 _ rfl
    have r0 := bl_cell (R7.out) 0 _ rfl
    have fr0 := bl_frozen (R7.out) 0
    have r1 := bl_cell (R7.out) 1 _ rfl
    have fr1 := bl_frozen (R7.out) 1
    have r2 := bl_cell (R7.out) 2 _ rfl
    have fr2 := bl_frozen (R7.out) 2
    have r3 := bl_cell (R7.out) 3 _ rfl
    have fr3 := bl_frozen (R7.out) 3
    have r4 := bl_cell (R7.out) 4 _ rfl
    have fr4 := bl_frozen (R7.out) 4
    have r5 := bl_cell (R7.out) 5 _ rfl
    have fr5 := bl_frozen (R7.out) 5
    have r6 := bl_cell (R7.out) 6 _ rfl
    have fr6 := bl_frozen (R7.out) 6
    have r7 := bl_cell (R7.out) 7 _ rfl
    have fr7 := bl_frozen (R7.out) 7
    have r8 := bl_cell (R7.out) 8 _ rfl
    have fr8 := bl_frozen (R7.out) 8
    go_wp2_with fail
    refine bodyPost_ret (v := rxv 3 0 0 0 W4.z (.slice (some ⟨W6.heap.size, 0, none⟩) 2 2)) (rx_ret rfl _ _ _ _ rfl (bl_set9 R7.out _ _ _ _ _ _ _ _ _) rfl) rfl ⟨⟨.mk 3 0 0 0 W4.z [T1, T2], _, g2, rfl, ?_, RG.out, ?_⟩⟩
    · exact (KI.out.ks (ks_set9 _ _ _ _ _ _ _ _ _) (fun b hb _ => by omega)).weak (fun b hb _ => by omega)
    · exact G7.out.ks (S := w.heap.size + 1) (ks_set9 _ _ _ _ _ _ _ _ _) (by omega) (by omega)
  case false =>
  clear hq4
  go_upto_region 7 with fail
  have PS := hid (fun (m : Nat) (h1 : 1 ≤ m) (h3 : m ≤ 3) (W : World) (k : Kp W5 W) => parts_any aK lK cK aN lN cN ere B d m (x + 1) g (z - 1) W h1 h3 HPS.out ⟨M2.out.kp k, HA.out.nk.km (K2.out.kp k (by omega)), HA.out.nn.km (K2.out.kp k (by omega)), hg3, by omega, by omega, by omega⟩)
  go_cut [10] (fun v wc => RMid ere B d g x z w v wc)
  case first =>
    have Q0 : Km B W5 W5.drew := (Km.refl B W5).kp ((Kp.refl _).drew) (by omega)
    have MK : Hid (∀ W, Km B W5 W → W.cell? ⟨w.heap.size, 0, none⟩ = some (.slice aK lK cK) ∧ W.cell? ⟨w.heap.size, 1, none⟩ = some (.slice aN lN cN) ∧ W.cell? ⟨w.heap.size, 2, none⟩ = some (.bool ere) ∧ W.cell? ⟨w.heap.size, 3, none⟩ = some (.pointer (some ⟨B, 0, none⟩)) ∧ W.cell? ⟨w.heap.size, 4, none⟩ = some (.pointer (some ⟨B + 1, 0, none⟩)) ∧ W.cell? ⟨w.heap.size, 5, none⟩ = some (.pointer (some ⟨B + 2, 0, none⟩)) ∧ Hid (Km B W5 W)) := fun W k => ⟨bl_cell (bl_km A2.out (by omega) k) 0 _ rfl, bl_cell (bl_km A2.out (by omega) k) 1 _ rfl, bl_cell (bl_km A2.out (by omega) k) 2 _ rfl, bl_cell (bl_km A2.out (by omega) k) 3 _ rfl, bl_cell (bl_km A2.out (by omega) k) 4 _ rfl, bl_cell (bl_km A2.out (by omega) k) 5 _ rfl, k⟩
    refine wp_region_noPanic ?_
    refine wp_region_held_drew (S := (fun W => W.cell? ⟨w.heap.size, 0, none⟩ = some (.slice aK lK cK) ∧ W.cell? ⟨w.heap.size, 1, none⟩ = some (.slice aN lN cN) ∧ W.cell? ⟨w.heap.size, 2, none⟩ = some (.bool ere) ∧ W.cell? ⟨w.heap.size, 3, none⟩ = some (.pointer (some ⟨B, 0, none⟩)) ∧ W.cell? ⟨w.heap.size, 4, none⟩ = some (.pointer (some ⟨B + 1, 0, none⟩)) ∧ W.cell? ⟨w.heap.size, 5, none⟩ = some (.pointer (some ⟨B + 2, 0, none⟩)) ∧ Hid (Km B W5 W))) (by kernel_rfl) ?_ (fun hH => ?_)
    · exact MK.out _ Q0
    have KQ := Q0
    refine wpAnyH_take (i := 0) (v := ?v0q1) rfl (by kernel_rfl) (by kernel_rfl) (by kernel_rfl) (fun _ _ _ h => h) (Or.inl ⟨by rfl, ?hy0q1⟩) hH ?r0q1
    case hy0q1 => (intro W hSw; (try dsimp only at hSw); go_simp; try (with_reducible rfl))
    try simp only [Act.put, List.setIfInBounds_toArray, List.set_cons_zero, List.set_cons_succ]
    refine wpAnyH_take (i := 1) (v := ?v1q2) rfl (by kernel_rfl) (by kernel_rfl) (by kernel_rfl) (fun _ _ _ h => h) (Or.inl ⟨by rfl, ?hy1q2⟩) hH ?r1q2
    case hy1q2 => (intro W hSw; (try dsimp only at hSw); go_simp; try (with_reducible rfl))
    try simp only [Act.put, List.setIfInBounds_toArray, List.set_cons_zero, List.set_cons_succ]
    refine wpAnyH_take (i := 2) (v := ?v2q3) rfl (by kernel_rfl) (by kernel_rfl) (by kernel_rfl) (fun _ _ _ h => h) (Or.inl ⟨by rfl, ?hy2q3⟩) hH ?r2q3
    case hy2q3 => (intro W hSw; (try dsimp only at hSw); go_simp; try (with_reducible rfl))
    try simp only [Act.put, List.setIfInBounds_toArray, List.set_cons_zero, List.set_cons_succ]
    refine wpAnyH_ready (rs := [3, 6]) (by kernel_rfl) (by simp) ?_
    refine AllReadyH.cons rfl (fun K hKq => ?_) ?_
    ·
      go_simp
      refine (within_nat _ 2 (by omega) _).mono ?_
      rintro e yy ⟨m2, hm2, rfl, rfl⟩
      obtain ⟨m, hm⟩ : ∃ m, 1 + m2 = m := ⟨_, rfl⟩
      have gm : 1 + (m2 : Int) = (m : Int) := by omega
      have gw : IntKind.i64.wrap (m : Int) = (m : Int) := by rw [IntKind.wrap_i64]; omega
      have hm1 : 1 ≤ m := by omega
      have hm3 : m ≤ 3 := by omega
      clear hm
      refine hKq.out _ _ (MK.out _ KQ) (fun hN => ?_)
      clear hKq K hH KQ
      have hH := hN
      clear hN
      have KQ := hH.2.2.2.2.2.2.out
      try simp only [Act.put, List.setIfInBounds_toArray, List.set_cons_zero, List.set_cons_succ]
      refine wpAnyH_take (i := 4) (v := ?v4q4) rfl (by kernel_rfl) (by kernel_rfl) (by kernel_rfl) (fun _ _ _ h => h) (Or.inl ⟨by rfl, ?hy4q4⟩) hH ?r4q4
      case hy4q4 => (intro W hSw; (try dsimp only at hSw); go_simp; try (with_reducible rfl))
      try simp only [Act.put, List.setIfInBounds_toArray, List.set_cons_zero, List.set_cons_succ]
      refine wpAnyH_ready (rs := [5, 6]) (by kernel_rfl) (by simp) ?_
      refine AllReadyH.cons rfl (fun K hKq => ?_) ?_
      ·
        go_simp
        refine (PS.out m hm1 hm3 _ (by repeat (first | exact Kp.refl _ | refine Kp.alloc ?_ _ | refine Kp.drew ?_))).mono ?_
        rintro e Yp ⟨⟨T, v, g', rfl, hI, hp1, hp2, hGn⟩⟩
        obtain ⟨kk, mn, mx, mm, tt, ad, ll, cc, rfl⟩ := hI.form
        have HI := hid hI
        have HP1 := hid hp1
        have HP2 := hid hp2
        have HGN := hid hGn
        have hsy := hGn.km.size
        simp at hsy
        clear hI hp1 hp2 hGn
        refine hKq.out _ _ (MK.out _ (KQ.trans HGN.out.km)) (fun hN => ?_)
        clear hKq K hH KQ
        have hH := hN
        clear hN
        have KQ := hH.2.2.2.2.2.2.out
        try simp only [Act.put, List.setIfInBounds_toArray, List.set_cons_zero, List.set_cons_succ]
        refine wpAnyH_ready (rs := [6]) (by kernel_rfl) (by simp) ?_
        refine AllReadyH.cons rfl (fun K hKq => ?_) AllReadyH.nil
        go_simp
        refine hKq.out _ _ (MK.out _ (KQ.kp ((Kp.refl _).alloc _) (by omega))) (fun hN => ?_)
        clear hKq K hH KQ
        have hH := hN
        clear hN
        have KQ := hH.2.2.2.2.2.2.out
        try simp only [Act.put, List.setIfInBounds_toArray, List.set_cons_zero, List.set_cons_succ]
        refine wpAnyH_ready (rs := [7]) (by kernel_rfl) (by simp) ?_
        refine AllReadyH.cons rfl (fun K hKq => ?_) AllReadyH.nil
        go_simp
        refine hKq.out _ _ (MK.out _ (((Kp.km (B := B) (a := W5) (by repeat (first | exact Kp.refl _ | refine Kp.alloc ?_ _ | refine Kp.drew ?_)) (by omega)).trans HGN.out.km).kp ((Kp.refl _).alloc _) (by omega))) (fun hN => ?_)
        clear hKq K hH KQ
        have hH := hN
        clear hN
        have KQ := hH.2.2.2.2.2.2.out
        try simp only [Act.put, List.setIfInBounds_toArray, List.set_cons_zero, List.set_cons_succ]
        refine wpAnyH_done (by kernel_rfl) ?_ _
        refine NoPanic.normal ?_
        go_wp2_with fail
        go_meet
        case rel => exact rmid_of hBw hg3 hm1 hm3 (by omega) K2.out (by repeat (first | exact Kp.refl _ | refine Kp.alloc ?_ _ | refine Kp.drew ?_)) (by omega) (Or.inr (Nat.le_refl _)) R2.out HI.out HP1.out HP2.out HGN.out (by by_cases hm : m = 1; exact (HP1.out hm).le; obtain ⟨ks, kv, _, _, _, _, hLG⟩ := HP2.out (by omega); exact hLG.facts.1) (Kp.refl _) (((Kp.refl _).alloc _).ks (Nat.le_refl _)) (last_of _ _)
      refine AllReadyH.cons rfl (fun K hKq => ?_) ?_
      ·
        go_simp
        refine hKq.out _ _ (MK.out _ (KQ.kp ((Kp.refl _).alloc _) (by omega))) (fun hN => ?_)
        clear hKq K hH KQ
        have hH := hN
        clear hN
        have KQ := hH.2.2.2.2.2.2.out
        try simp only [Act.put, List.setIfInBounds_toArray, List.set_cons_zero, List.set_cons_succ]
        refine wpAnyH_ready (rs := [5]) (by kernel_rfl) (by simp) ?_
        refine AllReadyH.cons rfl (fun K hKq => ?_) AllReadyH.nil
        go_simp
        refine (PS.out m hm1 hm3 _ (by repeat (first | exact Kp.refl _ | refine Kp.alloc ?_ _ | refine Kp.drew ?_))).mono ?_
        rintro e Yp ⟨⟨T, v, g', rfl, hI, hp1, hp2, hGn⟩⟩
        obtain ⟨kk, mn, mx, mm, tt, ad, ll, cc, rfl⟩ := hI.form
        have HI := hid hI
        have HP1 := hid hp1
        have HP2 := hid hp2
        have HGN := hid hGn
        have hsy := hGn.km.size
        simp at hsy
        clear hI hp1 hp2 hGn
        refine hKq.out _ _ (MK.out _ (KQ.trans HGN.out.km)) (fun hN => ?_)
        clear hKq K hH KQ
        have hH := hN
        clear hN
        have KQ := hH.2.2.2.2.2.2.out
        try simp only [Act.put, List.setIfInBounds_toArray, List.set_cons_zero, List.set_cons_succ]
        refine wpAnyH_ready (rs := [7]) (by kernel_rfl) (by simp) ?_
        refine AllReadyH.cons rfl (fun K hKq => ?_) AllReadyH.nil
        have VB : Hid (Yp.heap[W5.heap.size]? = some rzo) := bl_km (last_drew W5 rzo) (by omega) HGN.out.km
        have v0 := bl_cell (VB.out) 0 _ rfl
        have fv0 := bl_frozen (VB.out) 0
        have v1 := bl_cell (VB.out) 1 _ rfl
        have fv1 := bl_frozen (VB.out) 1
        have v2 := bl_cell (VB.out) 2 _ rfl
        have fv2 := bl_frozen (VB.out) 2
        have v3 := bl_cell (VB.out) 3 _ rfl
        have fv3 := bl_frozen (VB.out) 3
        have v4 := bl_cell (VB.out) 4 _ rfl
        have fv4 := bl_frozen (VB.out) 4
        have v5 := bl_cell (VB.out) 5 _ rfl
        have fv5 := bl_frozen (VB.out) 5
        have v6 := bl_cell (VB.out) 6 _ rfl
        have fv6 := bl_frozen (VB.out) 6
        have v7 := bl_cell (VB.out) 7 _ rfl
        have fv7 := bl_frozen (VB.out) 7
        have v8 := bl_cell (VB.out) 8 _ rfl
        have fv8 := bl_frozen (VB.out) 8
        go_simp
        refine hKq.out _ _ (MK.out _ (Km.new (S := W5.heap.size) (b := Yp) KQ (ks_set9 _ _ _ _ _ _ _ _ _) (Nat.le_refl _) (by omega))) (fun hN => ?_)
        clear v0 fv0 v1 fv1 v2 fv2 v3 fv3 v4 fv4 v5 fv5 v6 fv6 v7 fv7 v8 fv8
        clear hKq K hH KQ
        have hH := hN
        clear hN
        have KQ := hH.2.2.2.2.2.2.out
        try simp only [Act.put, List.setIfInBounds_toArray, List.set_cons_zero, List.set_cons_succ]
        refine wpAnyH_done (by kernel_rfl) ?_ _
        refine NoPanic.normal ?_
        go_wp2_with fail
        go_meet
        case rel => exact rmid_of hBw hg3 hm1 hm3 (by omega) K2.out (by repeat (first | exact Kp.refl _ | refine Kp.alloc ?_ _ | refine Kp.drew ?_)) (by omega) (Or.inl (by simp; omega)) R2.out HI.out HP1.out HP2.out HGN.out (by by_cases hm : m = 1; exact (HP1.out hm).le; obtain ⟨ks, kv, _, _, _, _, hLG⟩ := HP2.out (by omega); exact hLG.facts.1) (Kp.refl _) (ks_set9 _ _ _ _ _ _ _ _ _) (bl_set9 VB.out _ _ _ _ _ _ _ _ _)
      exact AllReadyH.nil
    refine AllReadyH.cons rfl (fun K hKq => ?_) ?_
    ·
      go_simp
      refine hKq.out _ _ (MK.out _ (KQ.kp ((Kp.refl _).alloc _) (by omega))) (fun hN => ?_)
      clear hKq K hH KQ
      have hH := hN
      clear hN
      have KQ := hH.2.2.2.2.2.2.out
      try simp only [Act.put, List.setIfInBounds_toArray, List.set_cons_zero, List.set_cons_succ]
      refine wpAnyH_ready (rs := [3]) (by kernel_rfl) (by simp) ?_
      refine AllReadyH.cons rfl (fun K hKq => ?_) AllReadyH.nil
      go_simp
      refine (within_nat _ 2 (by omega) _).mono ?_
      rintro e yy ⟨m2, hm2, rfl, rfl⟩
      obtain ⟨m, hm⟩ : ∃ m, 1 + m2 = m := ⟨_, rfl⟩
      have gm : 1 + (m2 : Int) = (m : Int) := by omega
      have gw : IntKind.i64.wrap (m : Int) = (m : Int) := by rw [IntKind.wrap_i64]; omega
      have hm1 : 1 ≤ m := by omega
      have hm3 : m ≤ 3 := by omega
      clear hm
      refine hKq.out _ _ (MK.out _ KQ) (fun hN => ?_)
      clear hKq K hH KQ
      have hH := hN
      clear hN
      have KQ := hH.2.2.2.2.2.2.out
      try simp only [Act.put, List.setIfInBounds_toArray, List.set_cons_zero, List.set_cons_succ]
      refine wpAnyH_take (i := 4) (v := ?v4q5) rfl (by kernel_rfl) (by kernel_rfl) (by kernel_rfl) (fun _ _ _ h => h) (Or.inl ⟨by rfl, ?hy4q5⟩) hH ?r4q5
      case hy4q5 => (intro W hSw; (try dsimp only at hSw); go_simp; try (with_reducible rfl))
      try simp only [Act.put, List.setIfInBounds_toArray, List.set_cons_zero, List.set_cons_succ]
      refine wpAnyH_ready (rs := [5]) (by kernel_rfl) (by simp) ?_
      refine AllReadyH.cons rfl (fun K hKq => ?_) AllReadyH.nil
      go_simp
      refine (PS.out m hm1 hm3 _ (by repeat (first | exact Kp.refl _ | refine Kp.alloc ?_ _ | refine Kp.drew ?_))).mono ?_
      rintro e Yp ⟨⟨T, v, g', rfl, hI, hp1, hp2, hGn⟩⟩
      obtain ⟨kk, mn, mx, mm, tt, ad, ll, cc, rfl⟩ := hI.form
      have HI := hid hI
      have HP1 := hid hp1
      have HP2 := hid hp2
      have HGN := hid hGn
      have hsy := hGn.km.size
      simp at hsy
      clear hI hp1 hp2 hGn
      refine hKq.out _ _ (MK.out _ (KQ.trans HGN.out.km)) (fun hN => ?_)
      clear hKq K hH KQ
      have hH := hN
      clear hN
      have KQ := hH.2.2.2.2.2.2.out
      try simp only [Act.put, List.setIfInBounds_toArray, List.set_cons_zero, List.set_cons_succ]
      refine wpAnyH_ready (rs := [7]) (by kernel_rfl) (by simp) ?_
      refine AllReadyH.cons rfl (fun K hKq => ?_) AllReadyH.nil
      have VB : Hid (Yp.heap[W5.heap.size]? = some rzo) := bl_km (last_drew W5 rzo) (by omega) HGN.out.km
      have v0 := bl_cell (VB.out) 0 _ rfl
      have fv0 := bl_frozen (VB.out) 0
      have v1 := bl_cell (VB.out) 1 _ rfl
      have fv1 := bl_frozen (VB.out) 1
      have v2 := bl_cell (VB.out) 2 _ rfl
      have fv2 := bl_frozen (VB.out) 2
      have v3 := bl_cell (VB.out) 3 _ rfl
      have fv3 := bl_frozen (VB.out) 3
      have v4 := bl_cell (VB.out) 4 _ rfl
      have fv4 := bl_frozen (VB.out) 4
      have v5 := bl_cell (VB.out) 5 _ rfl
      have fv5 := bl_frozen (VB.out) 5
      have v6 := bl_cell (VB.out) 6 _ rfl
      have fv6 := bl_frozen (VB.out) 6
      have v7 := bl_cell (VB.out) 7 _ rfl
      have fv7 := bl_frozen (VB.out) 7
      have v8 := bl_cell (VB.out) 8 _ rfl
      have fv8 := bl_frozen (VB.out) 8
      go_simp
      refine hKq.out _ _ (MK.out _ (Km.new (S := W5.heap.size) (b := Yp) KQ (ks_set9 _ _ _ _ _ _ _ _ _) (Nat.le_refl _) (by omega))) (fun hN => ?_)
      clear v0 fv0 v1 fv1 v2 fv2 v3 fv3 v4 fv4 v5 fv5 v6 fv6 v7 fv7 v8 fv8
      clear hKq K hH KQ
      have hH := hN
      clear hN
      have KQ := hH.2.2.2.2.2.2.out
      try simp only [Act.put, List.setIfInBounds_toArray, List.set_cons_zero, List.set_cons_succ]
      refine wpAnyH_done (by kernel_rfl) ?_ _
      refine NoPanic.normal ?_
      go_wp2_with fail
      go_meet
      case rel => exact rmid_of hBw hg3 hm1 hm3 (by omega) K2.out (by repeat (first | exact Kp.refl _ | refine Kp.alloc ?_ _ | refine Kp.drew ?_)) (by omega) (Or.inl (by simp; omega)) R2.out HI.out HP1.out HP2.out HGN.out (by by_cases hm : m = 1; exact (HP1.out hm).le; obtain ⟨ks, kv, _, _, _, _, hLG⟩ := HP2.out (by omega); exact hLG.facts.1) (Kp.refl _) (ks_set9 _ _ _ _ _ _ _ _ _) (bl_set9 VB.out _ _ _ _ _ _ _ _ _)
    exact AllReadyH.nil
  case rest =>
  obtain ⟨⟨V, T, g', m, k, mn, mx, mm, t, ad, l, cc, rfl, hV, hm1, hm3, hv, hI, hP, hL, hR, hG⟩⟩ := hcut
  rename World => W3
  have V3 := hid hv
  have I3 := hid hI
  have R3 := hid hR
  have G3 := hid hG
  have hkT : k = T.k := by
    have := (Pd.mk (hI.weak (fun _ _ _ => trivial))).all.2.1
    exact this
  have HKT := hid hkT
  have HP3 := hid hP
  have HL3 := hid hL
  have hs3 := hG.km.size
  clear hv hI hP hL hR hG hkT M2 A2 R2 K2 PS
  by_cases hm : m = 1
  · have RG : Hid (Trip.RGood ere T d g g') := (HP3.out hm).part.row (by omega)
    have hk2 : (k == 2) = false := by rw [HKT.out]; simp; exact (HP3.out hm).k2
    have hk2' : ¬ k = 2 := by rw [HKT.out]; exact (HP3.out hm).k2
    have p0 := bl_cell (V3.out) 0 _ rfl
    have p1 := bl_cell (V3.out) 1 _ rfl
    have p2 := bl_cell (V3.out) 2 _ rfl
    have p3 := bl_cell (V3.out) 3 _ rfl
    have p4 := bl_cell (V3.out) 4 _ rfl
    have p5 := bl_cell (V3.out) 5 _ rfl
    have p6 := bl_cell (V3.out) 6 _ rfl
    have p7 := bl_cell (V3.out) 7 _ rfl
    have p8 := bl_cell (V3.out) 8 _ rfl
    have r0 := bl_cell (R3.out) 0 _ rfl
    have fr0 := bl_frozen (R3.out) 0
    have r1 := bl_cell (R3.out) 1 _ rfl
    have fr1 := bl_frozen (R3.out) 1
    have r2 := bl_cell (R3.out) 2 _ rfl
    have fr2 := bl_frozen (R3.out) 2
    have r3 := bl_cell (R3.out) 3 _ rfl
    have fr3 := bl_frozen (R3.out) 3
    have r4 := bl_cell (R3.out) 4 _ rfl
    have fr4 := bl_frozen (R3.out) 4
    have r5 := bl_cell (R3.out) 5 _ rfl
    have fr5 := bl_frozen (R3.out) 5
    have r6 := bl_cell (R3.out) 6 _ rfl
    have fr6 := bl_frozen (R3.out) 6
    have r7 := bl_cell (R3.out) 7 _ rfl
    have fr7 := bl_frozen (R3.out) 7
    have r8 := bl_cell (R3.out) 8 _ rfl
    have fr8 := bl_frozen (R3.out) 8
    by_cases h8 : c = 8
    · subst h8
      go_wp2_with fail
      refine bodyPost_ret (v := rxv k mn mx mm t (.slice ad l cc)) (rx_ret rfl _ _ _ _ rfl (bl_set9 R3.out _ _ _ _ _ _ _ _ _) rfl) rfl ⟨⟨T, _, g', rfl, ?_, RG.out, ?_⟩⟩
      · exact (I3.out.ks (ks_set9 _ _ _ _ _ _ _ _ _) (fun b hb _ => by have := hb.1; omega)).weak (fun b hb _ => by have := hb.1; omega)
      · exact G3.out.ks (S := w.heap.size + 1) (ks_set9 _ _ _ _ _ _ _ _ _) (by omega) (by omega)
    · have h8i : ((c : Int) == 8) = false := by simp; omega
      have h8j : ¬ (c : Int) = 8 := by omega
      by_cases h7 : c = 7
      · subst h7
        go_wp2_with fail
        refine bodyPost_ret (v := rxv k mn mx mm t (.slice ad l cc)) (rx_ret rfl _ _ _ _ rfl (bl_set9 R3.out _ _ _ _ _ _ _ _ _) rfl) rfl ⟨⟨T, _, g', rfl, ?_, RG.out, ?_⟩⟩
        · exact (I3.out.ks (ks_set9 _ _ _ _ _ _ _ _ _) (fun b hb _ => by have := hb.1; omega)).weak (fun b hb _ => by have := hb.1; omega)
        · exact G3.out.ks (S := w.heap.size + 1) (ks_set9 _ _ _ _ _ _ _ _ _) (by omega) (by omega)
      · have h7i : ((c : Int) == 7) = false := by simp; omega
        have h7j : ¬ (c : Int) = 7 := by omega
        go_wp2_with fail
        refine bodyPost_ret (v := rxv k mn mx mm t (.slice ad l cc)) (rx_ret rfl _ _ _ _ rfl (bl_set9 R3.out _ _ _ _ _ _ _ _ _) rfl) rfl ⟨⟨T, _, g', rfl, ?_, RG.out, ?_⟩⟩
        · exact (I3.out.ks (ks_set9 _ _ _ _ _ _ _ _ _) (fun b hb _ => by have := hb.1; omega)).weak (fun b hb _ => by have := hb.1; omega)
        · exact G3.out.ks (S := w.heap.size + 1) (ks_set9 _ _ _ _ _ _ _ _ _) (by omega) (by omega)
  · obtain ⟨ks, rfl, rfl, rfl, rfl, rfl, rfl, hRK, hlen, hLG⟩ := HL3.out (by omega)
    have RK3 := hid hRK
    have LG3 := hid hLG
    have hV3 : V < W3.heap.size := bl_lt V3.out
    clear hRK hLG HL3 HP3 HKT
    by_cases h8 : c = 8
    ·
      subst h8
      have RKB : Hid (RK (fun b => w.heap.size + 1 < b ∧ b ≠ V) (w.heap.size + 2) (W3.alloc (rxo 7 0 0 0 W4.z (.slice none 0 0))) (.slice (some ⟨W3.heap.size, 0, none⟩) 1 1) [Rx.mk 7 0 0 0 W4.z []]) := RK.single 7 0 0 0 W4.z none 0 0 (Is.leaf _ _ _ _ _ _ _) (by omega) ⟨by omega, by omega⟩
      have HU : Hid (∃ ys : List Value, ys.length = ks.length ∧ (W3.alloc (rxo 7 0 0 0 W4.z (.slice none 0 0))).ownsRow (w.heap.size + 2) 27 9 (.slice ad l cc) ks.length (rowOf ys) ∧ ∀ (j : Nat) t y, ks[j]? = some t → ys[j]? = some y → Is (W3.alloc (rxo 7 0 0 0 W4.z (.slice none 0 0))) (fun b => (w.heap.size + 1 < b ∧ b ≠ V) ∧ (Value.slice (some ⟨W3.heap.size, 0, none⟩) 1 1).ownBlock ≠ some b) t y) := by
        obtain ⟨ys, i1, i2, i3, i4⟩ := RK3.out.ex
        have kal : Kp W3 (W3.alloc (rxo 7 0 0 0 W4.z (.slice none 0 0))) := (Kp.refl _).alloc _
        refine ⟨ys, i1, owns_same i2 (fun b _ hl => kal.block b hl), fun j t y hj hy => ?_⟩
        refine ((i4 j t y hj hy).weak (fun b hb hl => ⟨hb.1, ?_⟩)).kp kal
        show some W3.heap.size ≠ some b
        intro e
        injection e with e
        omega
      have p0 := bl_cell (V3.out) 0 _ rfl
      have p1 := bl_cell (V3.out) 1 _ rfl
      have p2 := bl_cell (V3.out) 2 _ rfl
      have p3 := bl_cell (V3.out) 3 _ rfl
      have p4 := bl_cell (V3.out) 4 _ rfl
      have p5 := bl_cell (V3.out) 5 _ rfl
      have p6 := bl_cell (V3.out) 6 _ rfl
      have p7 := bl_cell (V3.out) 7 _ rfl
      have p8 := bl_cell (V3.out) 8 _ rfl
      go_wp2_with (at_builtin; go_must (refine wpList_append_rkr (W3.alloc (rxo 7 0 0 0 W4.z (.slice none 0 0))) (by rfl) _ _ (by rfl) (fun b => w.heap.size + 1 < b ∧ b ≠ V) (w.heap.size + 2) (.slice (some ⟨W3.heap.size, 0, none⟩) 1 1) (.slice ad l cc) [Rx.mk 7 0 0 0 W4.z []] ks (by rfl) ?h0 RKB ?h3 HU (by rfl) ?h1 ?h2 ?_))
      case h0 => intro b hb; simp at hb; exact ⟨by omega, by omega⟩
      case h3 => omega
      case h1 => simp; omega
      case h2 => simp; omega
      intro v' w' hk' hg'
      have hrow : (Value.slice (some ⟨W3.heap.size, 0, none⟩) 1 1).ownBlock = some W3.heap.size := rfl
      rw [hrow] at hg'
      obtain ⟨ad', cc', hf', hc'⟩ := hk'.form
      obtain ⟨L, hLn⟩ : ∃ L, (Rx.mk 7 0 0 0 W4.z [] :: ks).length = L := ⟨_, rfl⟩
      rw [hLn] at hf'
      clear hLn hc'
      have V4 : Hid (w'.heap[V]? = some (rxo 2 0 0 0 W4.z (.slice ad l cc))) := bl_gr (bl_alloc V3.out _) hg' (by intro e; injection e with e; omega)
      have R4 : Hid (w'.heap[w.heap.size + 1]? = some rzo) := bl_gr (bl_alloc R3.out _) hg' (by intro e; injection e with e; omega)
      have G4 : Hid (Gone B 4 7 x g z w w' g') := (G3.out.kp ((Kp.refl _).alloc _) (by omega)).grown hg' (fun k e => by injection e with e; omega) (by omega)
      have RK4 := hid hk'
      clear hk' hg' hrow RKB HU p0 p1 p2 p3 p4 p5 p6 p7 p8
      subst hf'
      have v0 := bl_cell (V4.out) 0 _ rfl
      have fv0 := bl_frozen (V4.out) 0
      have v1 := bl_cell (V4.out) 1 _ rfl
      have fv1 := bl_frozen (V4.out) 1
      have v2 := bl_cell (V4.out) 2 _ rfl
      have fv2 := bl_frozen (V4.out) 2
      have v3 := bl_cell (V4.out) 3 _ rfl
      have fv3 := bl_frozen (V4.out) 3
      have v4 := bl_cell (V4.out) 4 _ rfl
      have fv4 := bl_frozen (V4.out) 4
      have v5 := bl_cell (V4.out) 5 _ rfl
      have fv5 := bl_frozen (V4.out) 5
      have v6 := bl_cell (V4.out) 6 _ rfl
      have fv6 := bl_frozen (V4.out) 6
      have v7 := bl_cell (V4.out) 7 _ rfl
      have fv7 := bl_frozen (V4.out) 7
      have v8 := bl_cell (V4.out) 8 _ rfl
      have fv8 := bl_frozen (V4.out) 8
      go_upto_region 10 with fail
      refine opq (fun W6 => W6.heap[V]? = some (rxo 2 0 0 0 W4.z (.slice ad' L cc')) ∧ W6.heap[(w.heap.size + 1)]? = some rzo ∧ RK (fun b => w.heap.size + 1 < b ∧ b ≠ V) (w.heap.size + 2) W6 (.slice ad' L cc') ([Rx.mk 7 0 0 0 W4.z []] ++ ks) ∧ Gone B 4 7 x g z w W6 g') ⟨by exact bl_put V4.out _, by exact bl_set R4.out (by omega) _, by exact RK4.out.ks ((Ks.refl _ _).set 8 _) (fun b hb => hb.2), by exact G4.out.ks (S := V) ((Ks.refl _ _).set 8 _) (by omega) (by omega)⟩ ?_
      rintro W6 ⟨xV6, xR6, xRK6, xG6⟩
      have V6 : Hid (W6.heap[V]? = some (rxo 2 0 0 0 W4.z (.slice ad' L cc'))) := xV6
      have R6 : Hid (W6.heap[(w.heap.size + 1)]? = some rzo) := xR6
      have RK6 : Hid (RK (fun b => w.heap.size + 1 < b ∧ b ≠ V) (w.heap.size + 2) W6 (.slice ad' L cc') ([Rx.mk 7 0 0 0 W4.z []] ++ ks)) := xRK6
      have G6 : Hid (Gone B 4 7 x g z w W6 g') := xG6
      clear xV6 xR6 xRK6 xG6
      clear V4 R4 RK4 G4 v0 fv0 v1 fv1 v2 fv2 v3 fv3 v4 fv4 v5 fv5 v6 fv6 v7 fv7 v8 fv8
      have p0 := bl_cell (V6.out) 0 _ rfl
      have p1 := bl_cell (V6.out) 1 _ rfl
      have p2 := bl_cell (V6.out) 2 _ rfl
      have p3 := bl_cell (V6.out) 3 _ rfl
      have p4 := bl_cell (V6.out) 4 _ rfl
      have p5 := bl_cell (V6.out) 5 _ rfl
      have p6 := bl_cell (V6.out) 6 _ rfl
      have p7 := bl_cell (V6.out) 7 _ rfl
      have p8 := bl_cell (V6.out) 8 _ rfl
      have r0 := bl_cell (R6.out) 0 _ rfl
      have fr0 := bl_frozen (R6.out) 0
      have r1 := bl_cell (R6.out) 1 _ rfl
      have fr1 := bl_frozen (R6.out) 1
      have r2 := bl_cell (R6.out) 2 _ rfl
      have fr2 := bl_frozen (R6.out) 2
      have r3 := bl_cell (R6.out) 3 _ rfl
      have fr3 := bl_frozen (R6.out) 3
      have r4 := bl_cell (R6.out) 4 _ rfl
      have fr4 := bl_frozen (R6.out) 4
      have r5 := bl_cell (R6.out) 5 _ rfl
      have fr5 := bl_frozen (R6.out) 5
      have r6 := bl_cell (R6.out) 6 _ rfl
      have fr6 := bl_frozen (R6.out) 6
      have r7 := bl_cell (R6.out) 7 _ rfl
      have fr7 := bl_frozen (R6.out) 7
      have r8 := bl_cell (R6.out) 8 _ rfl
      have fr8 := bl_frozen (R6.out) 8
      go_wp2_with fail
      refine bodyPost_ret (v := rxv 2 0 0 0 W4.z (.slice ad' L cc')) (rx_ret rfl _ _ _ _ rfl (bl_set9 R6.out _ _ _ _ _ _ _ _ _) rfl) rfl ⟨⟨.mk 2 0 0 0 W4.z ([Rx.mk 7 0 0 0 W4.z []] ++ ks), _, g', rfl, ?_, Trip.begin_good ere d g g' hg3 ks LG3.out (by omega) (by omega), ?_⟩⟩
      · exact ((RK6.out.is 2 0 0 0 W4.z).ks (ks_set9 _ _ _ _ _ _ _ _ _) (fun b hb _ => by have := hb.1; omega)).weak (fun b hb _ => by have := hb.1; omega)
      · exact G6.out.ks (S := w.heap.size + 1) (ks_set9 _ _ _ _ _ _ _ _ _) (by omega) (by omega)
    have h8i : ((c : Int) == 8) = false := by simp; omega
    have h8j : ¬ (c : Int) = 8 := by omega
    by_cases h7 : c = 7
    ·
      subst h7
      have HIE : Hid (Is W3 (fun b => (w.heap.size + 1 < b ∧ b ≠ V) ∧ (Value.slice ad l cc).ownBlock ≠ some b) (.mk 8 0 0 0 W4.z []) (rxv 8 0 0 0 W4.z (.slice none 0 0))) := Is.leaf _ _ _ _ _ _ _
      have HRW := hid (RK3.out.block)
      have p0 := bl_cell (V3.out) 0 _ rfl
      have p1 := bl_cell (V3.out) 1 _ rfl
      have p2 := bl_cell (V3.out) 2 _ rfl
      have p3 := bl_cell (V3.out) 3 _ rfl
      have p4 := bl_cell (V3.out) 4 _ rfl
      have p5 := bl_cell (V3.out) 5 _ rfl
      have p6 := bl_cell (V3.out) 6 _ rfl
      have p7 := bl_cell (V3.out) 7 _ rfl
      have p8 := bl_cell (V3.out) 8 _ rfl
      go_wp2_with (at_builtin; go_must (refine wpList_append_rk W3 (by rfl) _ _ (by rfl) (w.heap.size + 2) (.slice ad l cc) ks (.mk 8 0 0 0 W4.z []) (by rfl) (fun b => w.heap.size + 1 < b ∧ b ≠ V) ?h0 RK3 8 0 0 0 W4.z none 0 0 HIE _ (by rfl) (by rfl) ?h1 ?h2 ?_))
      case h0 => intro b hb; exact ⟨by omega, by omega⟩
      case h1 => omega
      case h2 => omega
      intro v' w' hk' hg'
      obtain ⟨ad', cc', hf', hc'⟩ := hk'.form
      obtain ⟨L, hLn⟩ : ∃ L, (ks ++ [Rx.mk 8 0 0 0 W4.z []]).length = L := ⟨_, rfl⟩
      rw [hLn] at hf'
      clear hLn hc'
      have V4 : Hid (w'.heap[V]? = some (rxo 2 0 0 0 W4.z (.slice ad l cc))) := bl_gr V3.out hg' (fun e => (HRW.out _ e).1.2 rfl)
      have R4 : Hid (w'.heap[w.heap.size + 1]? = some rzo) := bl_gr R3.out hg' (fun e => by have := (HRW.out _ e).1.1; omega)
      have G4 : Hid (Gone B 4 7 x g z w w' g') := G3.out.grown hg' (fun k e => by have := (HRW.out _ e).1.1; omega) (by omega)
      have RK4 := hid hk'
      clear hk' hg' HRW HIE p0 p1 p2 p3 p4 p5 p6 p7 p8
      subst hf'
      have v0 := bl_cell (V4.out) 0 _ rfl
      have fv0 := bl_frozen (V4.out) 0
      have v1 := bl_cell (V4.out) 1 _ rfl
      have fv1 := bl_frozen (V4.out) 1
      have v2 := bl_cell (V4.out) 2 _ rfl
      have fv2 := bl_frozen (V4.out) 2
      have v3 := bl_cell (V4.out) 3 _ rfl
      have fv3 := bl_frozen (V4.out) 3
      have v4 := bl_cell (V4.out) 4 _ rfl
      have fv4 := bl_frozen (V4.out) 4
      have v5 := bl_cell (V4.out) 5 _ rfl
      have fv5 := bl_frozen (V4.out) 5
      have v6 := bl_cell (V4.out) 6 _ rfl
      have fv6 := bl_frozen (V4.out) 6
      have v7 := bl_cell (V4.out) 7 _ rfl
      have fv7 := bl_frozen (V4.out) 7
      have v8 := bl_cell (V4.out) 8 _ rfl
      have fv8 := bl_frozen (V4.out) 8
      go_upto_region 12 with fail
      refine opq (fun W6 => W6.heap[V]? = some (rxo 2 0 0 0 W4.z (.slice ad' L cc')) ∧ W6.heap[(w.heap.size + 1)]? = some rzo ∧ RK (fun b => w.heap.size + 1 < b ∧ b ≠ V) (w.heap.size + 2) W6 (.slice ad' L cc') (ks ++ [Rx.mk 8 0 0 0 W4.z []]) ∧ Gone B 4 7 x g z w W6 g') ⟨by exact bl_put V4.out _, by exact bl_set R4.out (by omega) _, by exact RK4.out.ks ((Ks.refl _ _).set 8 _) (fun b hb => hb.2), by exact G4.out.ks (S := V) ((Ks.refl _ _).set 8 _) (by omega) (by omega)⟩ ?_
      rintro W6 ⟨xV6, xR6, xRK6, xG6⟩
      have V6 : Hid (W6.heap[V]? = some (rxo 2 0 0 0 W4.z (.slice ad' L cc'))) := xV6
      have R6 : Hid (W6.heap[(w.heap.size + 1)]? = some rzo) := xR6
      have RK6 : Hid (RK (fun b => w.heap.size + 1 < b ∧ b ≠ V) (w.heap.size + 2) W6 (.slice ad' L cc') (ks ++ [Rx.mk 8 0 0 0 W4.z []])) := xRK6
      have G6 : Hid (Gone B 4 7 x g z w W6 g') := xG6
      clear xV6 xR6 xRK6 xG6
      clear V4 R4 RK4 G4 v0 fv0 v1 fv1 v2 fv2 v3 fv3 v4 fv4 v5 fv5 v6 fv6 v7 fv7 v8 fv8
      have p0 := bl_cell (V6.out) 0 _ rfl
      have p1 := bl_cell (V6.out) 1 _ rfl
      have p2 := bl_cell (V6.out) 2 _ rfl
      have p3 := bl_cell (V6.out) 3 _ rfl
      have p4 := bl_cell (V6.out) 4 _ rfl
      have p5 := bl_cell (V6.out) 5 _ rfl
      have p6 := bl_cell (V6.out) 6 _ rfl
      have p7 := bl_cell (V6.out) 7 _ rfl
      have p8 := bl_cell (V6.out) 8 _ rfl
      have r0 := bl_cell (R6.out) 0 _ rfl
      have fr0 := bl_frozen (R6.out) 0
      have r1 := bl_cell (R6.out) 1 _ rfl
      have fr1 := bl_frozen (R6.out) 1
      have r2 := bl_cell (R6.out) 2 _ rfl
      have fr2 := bl_frozen (R6.out) 2
      have r3 := bl_cell (R6.out) 3 _ rfl
      have fr3 := bl_frozen (R6.out) 3
      have r4 := bl_cell (R6.out) 4 _ rfl
      have fr4 := bl_frozen (R6.out) 4
      have r5 := bl_cell (R6.out) 5 _ rfl
      have fr5 := bl_frozen (R6.out) 5
      have r6 := bl_cell (R6.out) 6 _ rfl
      have fr6 := bl_frozen (R6.out) 6
      have r7 := bl_cell (R6.out) 7 _ rfl
      have fr7 := bl_frozen (R6.out) 7
      have r8 := bl_cell (R6.out) 8 _ rfl
      have fr8 := bl_frozen (R6.out) 8
      go_wp2_with fail
      refine bodyPost_ret (v := rxv 2 0 0 0 W4.z (.slice ad' L cc')) (rx_ret rfl _ _ _ _ rfl (bl_set9 R6.out _ _ _ _ _ _ _ _ _) rfl) rfl ⟨⟨.mk 2 0 0 0 W4.z (ks ++ [Rx.mk 8 0 0 0 W4.z []]), _, g', rfl, ?_, Trip.end_good ere d g g' hg3 ks LG3.out (by omega) (by omega), ?_⟩⟩
      · exact ((RK6.out.is 2 0 0 0 W4.z).ks (ks_set9 _ _ _ _ _ _ _ _ _) (fun b hb _ => by have := hb.1; omega)).weak (fun b hb _ => by have := hb.1; omega)
      · exact G6.out.ks (S := w.heap.size + 1) (ks_set9 _ _ _ _ _ _ _ _ _) (by omega) (by omega)
    have h7i : ((c : Int) == 7) = false := by simp; omega
    have h7j : ¬ (c : Int) = 7 := by omega
    have RG : Hid (Trip.RGood ere (.mk 2 0 0 0 W4.z ks) d g g') := (Trip.cat_good ere d g g' hg3 ks LG3.out (by omega) (by omega)).row (by omega)
    have p0 := bl_cell (V3.out) 0 _ rfl
    have p1 := bl_cell (V3.out) 1 _ rfl
    have p2 := bl_cell (V3.out) 2 _ rfl
    have p3 := bl_cell (V3.out) 3 _ rfl
    have p4 := bl_cell (V3.out) 4 _ rfl
    have p5 := bl_cell (V3.out) 5 _ rfl
    have p6 := bl_cell (V3.out) 6 _ rfl
    have p7 := bl_cell (V3.out) 7 _ rfl
    have p8 := bl_cell (V3.out) 8 _ rfl
    have r0 := bl_cell (R3.out) 0 _ rfl
    have fr0 := bl_frozen (R3.out) 0
    have r1 := bl_cell (R3.out) 1 _ rfl
    have fr1 := bl_frozen (R3.out) 1
    have r2 := bl_cell (R3.out) 2 _ rfl
    have fr2 := bl_frozen (R3.out) 2
    have r3 := bl_cell (R3.out) 3 _ rfl
    have fr3 := bl_frozen (R3.out) 3
    have r4 := bl_cell (R3.out) 4 _ rfl
    have fr4 := bl_frozen (R3.out) 4
    have r5 := bl_cell (R3.out) 5 _ rfl
    have fr5 := bl_frozen (R3.out) 5
    have r6 := bl_cell (R3.out) 6 _ rfl
    have fr6 := bl_frozen (R3.out) 6
    have r7 := bl_cell (R3.out) 7 _ rfl
    have fr7 := bl_frozen (R3.out) 7
    have r8 := bl_cell (R3.out) 8 _ rfl
    have fr8 := bl_frozen (R3.out) 8
    go_wp2_with fail
    refine bodyPost_ret (v := rxv 2 0 0 0 W4.z (.slice ad l cc)) (rx_ret rfl _ _ _ _ rfl (bl_set9 R3.out _ _ _ _ _ _ _ _ _) rfl) rfl ⟨⟨.mk 2 0 0 0 W4.z ks, _, g', rfl, ?_, RG.out, ?_⟩⟩
    · exact (I3.out.ks (ks_set9 _ _ _ _ _ _ _ _ _) (fun b hb _ => by have := hb.1; omega)).weak (fun b hb _ => by have := hb.1; omega)
    · exact G3.out.ks (S := w.heap.size + 1) (ks_set9 _ _ _ _ _ _ _ _ _) (by omega) (by omega)
theorem rowS_any (ere : Bool) : RowSaid ere 0 := row_deep ere (fun d HP => ⟨fun aK lK cK aN lN cN B x g z w hA => krow_any ere aK lK cK aN lN cN B d x g z w HP hA⟩)
end Go.Proofs.YtikmgckefbjbkaaGreatDoor

/-! ### KSame -/

namespace Go.Proofs.YtikmgckefbjbkaaGreatDoor
open Go.RowKit

structure KSameSaid (a : Rx) : Prop where
  all : ∀ (b : Rx) (va vb : Value) (w : World) (ok ok' : Nat → Prop), Is w ok a va → Is w ok' b vb → Calls Tryz.prog 20 #[va, vb] w fun e w' => e = .returned (.bool (sameR a b)) ∧ Kp w w'
theorem sameL_ne : ∀ (a b : List Rx), a.length ≠ b.length → sameL a b = false
  | [], [], h => absurd rfl h
  | [], _ :: _, _ => by simp [sameL]
  | _ :: _, [], _ => by simp [sameL]
  | x :: a, y :: b, h => by
    rw [sameL, sameL_ne a b (fun e => h (by simp [e])), Bool.and_false]
theorem sameL_end (a b : List Rx) (q : Nat) (ha : a.length ≤ q) (hb : b.length ≤ q) : sameL (a.drop q) (b.drop q) = true := by
  rw [List.drop_eq_nil_of_le ha, List.drop_eq_nil_of_le hb, sameL]
theorem sameL_at (a b : List Rx) (q : Nat) (x y : Rx) (ha : a[q]? = some x) (hb : b[q]? = some y) : sameL (a.drop q) (b.drop q) = (sameR x y && sameL (a.drop (q + 1)) (b.drop (q + 1))) := by
  obtain ⟨h1, e1⟩ := List.getElem?_eq_some_iff.1 ha
  obtain ⟨h2, e2⟩ := List.getElem?_eq_some_iff.1 hb
  rw [List.drop_eq_getElem_cons h1, List.drop_eq_getElem_cons h2, e1, e2, sameL]

set_option maxHeartbeats 2000000 in
set_option maxRecDepth 100000 in
theorem ksame_step (k mn mx n : Int) (s : W4) (kids : List Rx) (H : ∀ a, a ∈ kids → KSameSaid a) (hl : kids.length ≤ 1000000) : KSameSaid (.mk k mn mx n s kids) := by
  refine ⟨fun b va vb w ok ok' hia hib => ?_⟩
  cases b with
  | mk k' mn' mx' n' s' kids' =>
    obtain ⟨ad, l, c, rfl, ra⟩ := hia.row
    obtain ⟨ad', l', c', rfl, rb⟩ := hib.row
    have la := hid ra.ln
    have lb := hid rb.ln
    have hca := ra.cp
    have hcb := rb.cp
    have hll : l ≤ 1000000 := by rw [la.out]; exact hl
    have RA := hid ra
    have RB := hid rb
    have HH := hid H
    clear ra rb hia hib H hl
    have e0 : Hid (sameR (.mk k mn mx n s kids) (.mk k' mn' mx' n' s' kids') = (k == k' && mn == mn' && mx == mx' && n == n' && s == s' && sameL kids kids')) := by show _ = _; rw [sameR]
    have es : ∀ w, (Op.equalIn 10000 24 (.agg #[.int .u64 (s.a : Int), .int .u64 (s.b : Int), .int .u64 (s.c : Int), .int .u64 (s.d : Int)]) (.agg #[.int .u64 (s'.a : Int), .int .u64 (s'.b : Int), .int .u64 (s'.c : Int), .int .u64 (s'.d : Int)])).run Tryz.prog w = .ok (s == s') w := fun w => by rw [w4_eq]; exact eq_vv _ _ _ _ _ _ _ _ w
    obtain ⟨q5, hq5⟩ : ∃ q, (s == s') = q := ⟨_, rfl⟩
    rw [hq5] at es e0
    clear hq5
    obtain ⟨Z, hZ⟩ : ∃ Z, sameR (.mk k mn mx n s kids) (.mk k' mn' mx' n' s' kids') = Z := ⟨_, rfl⟩
    rw [hZ] at e0 ⊢
    clear hZ
    go_enter Tryz.func20, Tryz.ntmps20
    go_upto_region 1 with fail
    refine opq (fun W => W.heap[w.heap.size]? = some (rxo k mn mx n s (.slice ad l c)) ∧ W.heap[w.heap.size + 1]? = some (rxo k' mn' mx' n' s' (.slice ad' l' c')) ∧ Kp w W) ⟨by exact bl_alloc (last_of _ _) _, by exact last_at _ _ _ (by simp), by exact ((Kp.refl _).alloc _).alloc _⟩ ?_
    rintro W0 ⟨y1, y2, y3⟩
    have A := hid y1
    have B := hid y2
    have K := hid y3
    clear y1 y2 y3
    have a0 := bl_cell (A.out) 0 _ rfl
    have a1 := bl_cell (A.out) 1 _ rfl
    have a2 := bl_cell (A.out) 2 _ rfl
    have a3 := bl_cell (A.out) 3 _ rfl
    have a4 := bl_cell (A.out) 4 _ rfl
    have a5 := bl_cell (A.out) 5 _ rfl
    have a6 := bl_cell (A.out) 6 _ rfl
    have a7 := bl_cell (A.out) 7 _ rfl
    have a8 := bl_cell (A.out) 8 _ rfl
    have b0 := bl_cell (B.out) 0 _ rfl
    have b1 := bl_cell (B.out) 1 _ rfl
    have b2 := bl_cell (B.out) 2 _ rfl
    have b3 := bl_cell (B.out) 3 _ rfl
    have b4 := bl_cell (B.out) 4 _ rfl
    have b5 := bl_cell (B.out) 5 _ rfl
    have b6 := bl_cell (B.out) 6 _ rfl
    have b7 := bl_cell (B.out) 7 _ rfl
    have b8 := bl_cell (B.out) 8 _ rfl
    cases h1 : (k == k') with
    | false =>
      have E : Hid (Z = false) := by show _ = _; rw [e0.out]; simp [h1]
      have m1 : (k != k') = true := by simp [bne, h1]
      go_wp2
      go_ret
      exact ⟨ret_bool E.out.symm, K.out⟩
    | true =>
    have m1 : (k != k') = false := by simp [bne, h1]
    cases h2 : (mn == mn') with
    | false =>
      have E : Hid (Z = false) := by show _ = _; rw [e0.out]; simp [h2]
      have m2 : (mn != mn') = true := by simp [bne, h2]
      go_wp2
      go_ret
      exact ⟨ret_bool E.out.symm, K.out⟩
    | true =>
    have m2 : (mn != mn') = false := by simp [bne, h2]
    cases h3 : (mx == mx') with
    | false =>
      have E : Hid (Z = false) := by show _ = _; rw [e0.out]; simp [h3]
      have m3 : (mx != mx') = true := by simp [bne, h3]
      go_wp2
      go_ret
      exact ⟨ret_bool E.out.symm, K.out⟩
    | true =>
    have m3 : (mx != mx') = false := by simp [bne, h3]
    cases h4 : (n == n') with
    | false =>
      have E : Hid (Z = false) := by show _ = _; rw [e0.out]; simp [h4]
      have m4 : (n != n') = true := by simp [bne, h4]
      go_wp2
      go_ret
      exact ⟨ret_bool E.out.symm, K.out⟩
    | true =>
    have m4 : (n != n') = false := by simp [bne, h4]
    cases q5 with
    | false =>
      have E : Hid (Z = false) := by show _ = _; rw [e0.out]; simp
      go_wp2
      go_ret
      exact ⟨ret_bool E.out.symm, K.out⟩
    | true =>
    by_cases hlen : l = l'
    case neg =>
      have E : Hid (Z = false) := by show _ = _; rw [e0.out, sameL_ne kids kids' (by rw [← la.out, ← lb.out]; exact hlen)]; simp
      have m6 : ((l : Int) != (l' : Int)) = true := by simp [bne]; omega
      go_wp2
      go_ret
      exact ⟨ret_bool E.out.symm, K.out⟩
    subst hlen
    have E : Hid (Z = sameL kids kids') := by show _ = _; rw [e0.out, h1, h2, h3, h4]; rfl
    have L1 := hid la.out
    clear e0 la
    go_wp2_with fail
    clear h1 h2 h3 h4 m1 m2 m3 m4 es
    clear a0 a1 a2 a3 a4 a5 a6 a7 a8 b0 b1 b2 b3 b4 b5 b6 b7 b8
    go_loopg [51] l (fun gg i wr => ∃ q : Nat, q + gg = l ∧ i = .int .i64 (q : Int) ∧ sameL kids kids' = sameL (kids.drop q) (kids'.drop q) ∧ Kp W0 wr)
    case atStart => exact ⟨0, by omega, rfl, rfl, Kp.refl _⟩
    case round =>
      obtain ⟨q, hq, rfl, hS, hK⟩ := hrel
      have S := hid hS
      have K1 := hid hK
      have A1 := hid (bl_kp A.out hK)
      have B1 := hid (bl_kp B.out hK)
      clear hS hK
      by_cases hlt : q < l
      · have gkw : IntKind.i64.wrap ((q : Int) + 1) = (q : Int) + 1 := by rw [IntKind.wrap_i64]; omega
        have ga : (q : Int) < (l : Int) := by omega
        have g0 : (0 : Int) ≤ (q : Int) := by omega
        obtain ⟨r, hr⟩ : ∃ r, kids[q]? = some r := ⟨_, List.getElem?_eq_getElem (by rw [← L1.out]; exact hlt)⟩
        obtain ⟨r', hr'⟩ : ∃ r, kids'[q]? = some r := ⟨_, List.getElem?_eq_getElem (by rw [← lb.out]; exact hlt)⟩
        have S1 := hid (S.out.trans (sameL_at kids kids' q r r' hr hr'))
        have TS := hid (HH.out r (List.mem_of_getElem? hr))
        obtain ⟨bb, oo, kk, pn, px, pm, pt, pad, pl, pc, e1, hbb, i1, ce1⟩ := (RA.out.kp (K.out.trans K1.out)).at q r hr
        obtain ⟨bb', oo', kk', pn', px', pm', pt', pad', pl', pc', e1', hbb', i1', ce1'⟩ := (RB.out.kp (K.out.trans K1.out)).at q r' hr'
        subst e1
        subst e1'
        have I1 := hid i1
        have I2 := hid i1'
        have C1 := hid ce1
        have C2 := hid ce1'
        clear hr hr' i1 i1' ce1 ce1' S
        obtain ⟨z, hz⟩ : ∃ z, sameR r r' = z := ⟨_, rfl⟩
        rw [hz] at S1
        have HZ := hid hz
        clear hz
        go_upto_region 6 with fail
        have Q0 : Kp wr wr.drew := (Kp.refl _).drew
        have MK : Hid (∀ W, Kp wr W → W.cell? ⟨w.heap.size, 8, none⟩ = some (.slice (some ⟨bb, oo, none⟩) l c) ∧ W.cell? ⟨(w.heap.size + 1), 8, none⟩ = some (.slice (some ⟨bb', oo', none⟩) l c') ∧ W.cell? ⟨bb, (oo + q * 9), none⟩ = some (.int .i64 kk) ∧ W.cell? ⟨bb, (oo + q * 9 + 1), none⟩ = some (.int .i64 pn) ∧ W.cell? ⟨bb, (oo + q * 9 + 2), none⟩ = some (.int .i64 px) ∧ W.cell? ⟨bb, (oo + q * 9 + 3), none⟩ = some (.int .i64 pm) ∧ W.cell? ⟨bb, (oo + q * 9 + 4), none⟩ = some (Value.int .u64 (pt.a : Int)) ∧ W.cell? ⟨bb, (oo + q * 9 + 5), none⟩ = some (Value.int .u64 (pt.b : Int)) ∧ W.cell? ⟨bb, (oo + q * 9 + 6), none⟩ = some (Value.int .u64 (pt.c : Int)) ∧ W.cell? ⟨bb, (oo + q * 9 + 7), none⟩ = some (Value.int .u64 (pt.d : Int)) ∧ W.cell? ⟨bb, (oo + q * 9 + 8), none⟩ = some (Value.slice pad pl pc) ∧ W.cell? ⟨bb', (oo' + q * 9), none⟩ = some (.int .i64 kk') ∧ W.cell? ⟨bb', (oo' + q * 9 + 1), none⟩ = some (.int .i64 pn') ∧ W.cell? ⟨bb', (oo' + q * 9 + 2), none⟩ = some (.int .i64 px') ∧ W.cell? ⟨bb', (oo' + q * 9 + 3), none⟩ = some (.int .i64 pm') ∧ W.cell? ⟨bb', (oo' + q * 9 + 4), none⟩ = some (Value.int .u64 (pt'.a : Int)) ∧ W.cell? ⟨bb', (oo' + q * 9 + 5), none⟩ = some (Value.int .u64 (pt'.b : Int)) ∧ W.cell? ⟨bb', (oo' + q * 9 + 6), none⟩ = some (Value.int .u64 (pt'.c : Int)) ∧ W.cell? ⟨bb', (oo' + q * 9 + 7), none⟩ = some (Value.int .u64 (pt'.d : Int)) ∧ W.cell? ⟨bb', (oo' + q * 9 + 8), none⟩ = some (Value.slice pad' pl' pc') ∧ Hid (Kp wr W)) := fun W k => ⟨bl_cell (bl_kp A1.out k) 8 _ rfl, bl_cell (bl_kp B1.out k) 8 _ rfl, (cells_of_is (C1.out.turn (k.block _ hbb))).1, (cells_of_is (C1.out.turn (k.block _ hbb))).2.1, (cells_of_is (C1.out.turn (k.block _ hbb))).2.2.1, (cells_of_is (C1.out.turn (k.block _ hbb))).2.2.2.1, (cells_of_is (C1.out.turn (k.block _ hbb))).2.2.2.2.1, (cells_of_is (C1.out.turn (k.block _ hbb))).2.2.2.2.2.1, (cells_of_is (C1.out.turn (k.block _ hbb))).2.2.2.2.2.2.1, (cells_of_is (C1.out.turn (k.block _ hbb))).2.2.2.2.2.2.2.1, (cells_of_is (C1.out.turn (k.block _ hbb))).2.2.2.2.2.2.2.2, (cells_of_is (C2.out.turn (k.block _ hbb'))).1, (cells_of_is (C2.out.turn (k.block _ hbb'))).2.1, (cells_of_is (C2.out.turn (k.block _ hbb'))).2.2.1, (cells_of_is (C2.out.turn (k.block _ hbb'))).2.2.2.1, (cells_of_is (C2.out.turn (k.block _ hbb'))).2.2.2.2.1, (cells_of_is (C2.out.turn (k.block _ hbb'))).2.2.2.2.2.1, (cells_of_is (C2.out.turn (k.block _ hbb'))).2.2.2.2.2.2.1, (cells_of_is (C2.out.turn (k.block _ hbb'))).2.2.2.2.2.2.2.1, (cells_of_is (C2.out.turn (k.block _ hbb'))).2.2.2.2.2.2.2.2, k⟩
        refine wp_region_noPanic ?_
        refine wp_region_held_drew (S := (fun W => W.cell? ⟨w.heap.size, 8, none⟩ = some (.slice (some ⟨bb, oo, none⟩) l c) ∧ W.cell? ⟨(w.heap.size + 1), 8, none⟩ = some (.slice (some ⟨bb', oo', none⟩) l c') ∧ W.cell? ⟨bb, (oo + q * 9), none⟩ = some (.int .i64 kk) ∧ W.cell? ⟨bb, (oo + q * 9 + 1), none⟩ = some (.int .i64 pn) ∧ W.cell? ⟨bb, (oo + q * 9 + 2), none⟩ = some (.int .i64 px) ∧ W.cell? ⟨bb, (oo + q * 9 + 3), none⟩ = some (.int .i64 pm) ∧ W.cell? ⟨bb, (oo + q * 9 + 4), none⟩ = some (Value.int .u64 (pt.a : Int)) ∧ W.cell? ⟨bb, (oo + q * 9 + 5), none⟩ = some (Value.int .u64 (pt.b : Int)) ∧ W.cell? ⟨bb, (oo + q * 9 + 6), none⟩ = some (Value.int .u64 (pt.c : Int)) ∧ W.cell? ⟨bb, (oo + q * 9 + 7), none⟩ = some (Value.int .u64 (pt.d : Int)) ∧ W.cell? ⟨bb, (oo + q * 9 + 8), none⟩ = some (Value.slice pad pl pc) ∧ W.cell? ⟨bb', (oo' + q * 9), none⟩ = some (.int .i64 kk') ∧ W.cell? ⟨bb', (oo' + q * 9 + 1), none⟩ = some (.int .i64 pn') ∧ W.cell? ⟨bb', (oo' + q * 9 + 2), none⟩ = some (.int .i64 px') ∧ W.cell? ⟨bb', (oo' + q * 9 + 3), none⟩ = some (.int .i64 pm') ∧ W.cell? ⟨bb', (oo' + q * 9 + 4), none⟩ = some (Value.int .u64 (pt'.a : Int)) ∧ W.cell? ⟨bb', (oo' + q * 9 + 5), none⟩ = some (Value.int .u64 (pt'.b : Int)) ∧ W.cell? ⟨bb', (oo' + q * 9 + 6), none⟩ = some (Value.int .u64 (pt'.c : Int)) ∧ W.cell? ⟨bb', (oo' + q * 9 + 7), none⟩ = some (Value.int .u64 (pt'.d : Int)) ∧ W.cell? ⟨bb', (oo' + q * 9 + 8), none⟩ = some (Value.slice pad' pl' pc') ∧ Hid (Kp wr W))) (by kernel_rfl) ?_ (fun hH => ?_)
        · exact MK.out _ Q0
        have KQ := Q0
        refine wpAnyH_take (i := 0) (v := ?v0a1) rfl (by kernel_rfl) (by kernel_rfl) (by kernel_rfl) (fun _ _ _ h => h) (Or.inl ⟨by rfl, ?hy0a1⟩) hH ?r0a1
        case hy0a1 => (intro W hSw; (try dsimp only at hSw); go_simp; try (with_reducible rfl))
        try simp only [Act.put, List.setIfInBounds_toArray, List.set_cons_zero, List.set_cons_succ]
        refine wpAnyH_take (i := 1) (v := ?v1a2) rfl (by kernel_rfl) (by kernel_rfl) (by kernel_rfl) (fun _ _ _ h => h) (Or.inl ⟨by rfl, ?hy1a2⟩) hH ?r1a2
        case hy1a2 => (intro W hSw; (try dsimp only at hSw); go_simp; try (with_reducible rfl))
        try simp only [Act.put, List.setIfInBounds_toArray, List.set_cons_zero, List.set_cons_succ]
        refine wpAnyH_take (i := 2) (v := ?v2a3) rfl (by kernel_rfl) (by kernel_rfl) (by kernel_rfl) (fun _ _ _ h => h) (Or.inl ⟨by rfl, ?hy2a3⟩) hH ?r2a3
        case hy2a3 => (intro W hSw; (try dsimp only at hSw); go_simp; try (with_reducible rfl))
        try simp only [Act.put, List.setIfInBounds_toArray, List.set_cons_zero, List.set_cons_succ]
        refine wpAnyH_take (i := 3) (v := ?v3a4) rfl (by kernel_rfl) (by kernel_rfl) (by kernel_rfl) (fun _ _ _ h => h) (Or.inl ⟨by rfl, ?hy3a4⟩) hH ?r3a4
        case hy3a4 => (intro W hSw; (try dsimp only at hSw); go_simp; try (with_reducible rfl))
        try simp only [Act.put, List.setIfInBounds_toArray, List.set_cons_zero, List.set_cons_succ]
        refine wpAnyH_take (i := 4) (v := ?v4a5) rfl (by kernel_rfl) (by kernel_rfl) (by kernel_rfl) (fun _ _ _ h => h) (Or.inl ⟨by rfl, ?hy4a5⟩) hH ?r4a5
        case hy4a5 => (intro W hSw; (try dsimp only at hSw); go_simp; try (with_reducible rfl))
        try simp only [Act.put, List.setIfInBounds_toArray, List.set_cons_zero, List.set_cons_succ]
        refine wpAnyH_take (i := 5) (v := ?v5a6) rfl (by kernel_rfl) (by kernel_rfl) (by kernel_rfl) (fun _ _ _ h => h) (Or.inl ⟨by rfl, ?hy5a6⟩) hH ?r5a6
        case hy5a6 => (intro W hSw; (try dsimp only at hSw); go_simp; try (with_reducible rfl))
        try simp only [Act.put, List.setIfInBounds_toArray, List.set_cons_zero, List.set_cons_succ]
        refine wpAnyH_take (i := 6) (v := ?v6a7) rfl (by kernel_rfl) (by kernel_rfl) (by kernel_rfl) (fun _ _ _ h => h) (Or.inl ⟨by rfl, ?hy6a7⟩) hH ?r6a7
        case hy6a7 => (intro W hSw; (try dsimp only at hSw); go_simp; try (with_reducible rfl))
        try simp only [Act.put, List.setIfInBounds_toArray, List.set_cons_zero, List.set_cons_succ]
        refine wpAnyH_take (i := 7) (v := ?v7a8) rfl (by kernel_rfl) (by kernel_rfl) (by kernel_rfl) (fun _ _ _ h => h) (Or.inl ⟨by rfl, ?hy7a8⟩) hH ?r7a8
        case hy7a8 => (intro W hSw; (try dsimp only at hSw); go_simp; try (with_reducible rfl))
        try simp only [Act.put, List.setIfInBounds_toArray, List.set_cons_zero, List.set_cons_succ]
        refine wpAnyH_take (i := 8) (v := ?v8a9) rfl (by kernel_rfl) (by kernel_rfl) (by kernel_rfl) (fun _ _ _ h => h) (Or.inl ⟨by rfl, ?hy8a9⟩) hH ?r8a9
        case hy8a9 => (intro W hSw; (try dsimp only at hSw); go_simp; try (with_reducible rfl))
        try simp only [Act.put, List.setIfInBounds_toArray, List.set_cons_zero, List.set_cons_succ]
        refine wpAnyH_take (i := 9) (v := ?v9a10) rfl (by kernel_rfl) (by kernel_rfl) (by kernel_rfl) (fun _ _ _ h => h) (Or.inl ⟨by rfl, ?hy9a10⟩) hH ?r9a10
        case hy9a10 => (intro W hSw; (try dsimp only at hSw); go_simp; try (with_reducible rfl))
        try simp only [Act.put, List.setIfInBounds_toArray, List.set_cons_zero, List.set_cons_succ]
        refine wpAnyH_ready (rs := [10]) (by kernel_rfl) (by simp) ?_
        refine AllReadyH.cons rfl (fun K hKq => ?_) AllReadyH.nil
        go_simp
        refine (TS.out.all r' _ _ _ ok ok' (I1.out.kp KQ) (I2.out.kp KQ)).mono ?_
        rintro e y1 ⟨rfl, kq⟩
        rw [HZ.out]
        refine hKq.out _ _ (MK.out _ (KQ.trans kq)) (fun hN => ?_)
        clear kq
        clear hKq K hH KQ
        have hH := hN
        clear hN
        have KQ := hH.2.2.2.2.2.2.2.2.2.2.2.2.2.2.2.2.2.2.2.2.out
        try simp only [Act.put, List.setIfInBounds_toArray, List.set_cons_zero, List.set_cons_succ]
        refine wpAnyH_take (i := 11) (v := ?v11a11) rfl (by kernel_rfl) (by kernel_rfl) (by kernel_rfl) (fun _ _ _ h => h) (Or.inl ⟨by rfl, ?hy11a11⟩) hH ?r11a11
        case hy11a11 => (intro W hSw; (try dsimp only at hSw); go_simp; try (with_reducible rfl))
        try simp only [Act.put, List.setIfInBounds_toArray, List.set_cons_zero, List.set_cons_succ]
        refine wpAnyH_done (by kernel_rfl) ?_ _
        refine NoPanic.normal ?_
        have K2 := hid (K1.out.trans KQ)
        cases z with
        | false =>
          have EF : Hid (Z = false) := by show _ = _; rw [E.out, S1.out]; rfl
          go_wp2_with fail
          go_ret
          exact ⟨ret_bool EF.out.symm, K.out.trans K2.out⟩
        | true =>
          have ET : Hid (sameL kids kids' = sameL (kids.drop (q + 1)) (kids'.drop (q + 1))) := by show _ = _; rw [S1.out]; rfl
          go_wp2_with fail
          go_roundg (gk - 1)
          case measure => omega
          case rel => exact ⟨q + 1, by omega, by go_num, ET.out, K2.out⟩
      · have ga : ¬ (q : Int) < (l : Int) := by omega
        have ET : Hid (Z = true) := by show _ = _; rw [E.out, S.out]; exact sameL_end _ _ _ (by rw [← L1.out]; omega) (by rw [← lb.out]; omega)
        go_wp2_with fail
        go_ret
        exact ⟨ret_bool ET.out.symm, K.out.trans K1.out⟩

theorem ksame_any : ∀ a, RxFit a → KSameSaid a
  | .mk k mn mx n s kids, h => by
    unfold RxFit at h
    exact ksame_step k mn mx n s kids (fun a ha => ksame_any a (h.2 a ha)) h.1
termination_by a => SizeOf.sizeOf a
decreasing_by
  have := List.sizeOf_lt_of_mem ha
  simp
  omega
end Go.Proofs.YtikmgckefbjbkaaGreatDoor

/-! ### SameEq -/

namespace Go.Proofs.YtikmgckefbjbkaaGreatDoor
open Go.RowKit

mutual
theorem sameR_refl : ∀ a : Rx, sameR a a = true
  | .mk k mn mx n s ks => by simp [sameR, sameL_refl ks]
theorem sameL_refl : ∀ a : List Rx, sameL a a = true
  | [] => by simp [sameL]
  | a :: l => by simp [sameL, sameR_refl a, sameL_refl l]
end
mutual
theorem sameR_eq : ∀ a b : Rx, sameR a b = true → a = b
  | .mk k mn mx n s ks, .mk k' mn' mx' n' s' ks', h => by
    simp only [sameR, Bool.and_eq_true, beq_iff_eq] at h
    obtain ⟨⟨⟨⟨⟨h1, h2⟩, h3⟩, h4⟩, h5⟩, h6⟩ := h
    rw [h1, h2, h3, h4, h5, sameL_eq ks ks' h6]
theorem sameL_eq : ∀ a b : List Rx, sameL a b = true → a = b
  | [], [], _ => rfl
  | a :: l, b :: m, h => by
    simp only [sameL, Bool.and_eq_true] at h
    rw [sameR_eq a b h.1, sameL_eq l m h.2]
  | [], _ :: _, h => by simp [sameL] at h
  | _ :: _, [], h => by simp [sameL] at h
end
end Go.Proofs.YtikmgckefbjbkaaGreatDoor

/-! ### Talk -/

namespace Go.Proofs.YtikmgckefbjbkaaGreatDoor
open Go.RowKit

theorem fit_of_ok : ∀ r, RxOk r → RxFit r
  | .mk k mn mx n s kids, h => by
    unfold RxOk at h
    unfold RxFit
    exact ⟨h.1, fun a ha => fit_of_ok a (h.2.2 a ha)⟩
termination_by r => SizeOf.sizeOf r
decreasing_by
  have := List.sizeOf_lt_of_mem ha
  simp
  omega
theorem slim_of_ok : ∀ r, RxOk r → Slim r
  | .mk k mn mx n s kids, h => by
    unfold RxOk at h
    unfold Slim
    exact ⟨h.1, fun a ha => slim_of_ok a (h.2.2 a ha)⟩
termination_by r => SizeOf.sizeOf r
decreasing_by
  have := List.sizeOf_lt_of_mem ha
  simp
  omega
theorem print_size (ere : Bool) (T : Rx) (hO : RxOk T) : (bs (printT ere T)).size ≤ 1000000 := by
  rw [bs_size]
  unfold printT
  split
  · rename_i h
    have := (Trip.right_fit ere T hO h).2
    omega
  · simp
theorem nds_right (ere : Bool) (T : Rx) (h : right ere T = true) : nds T ≤ 40 := by
  unfold right at h
  obtain ⟨c, hc⟩ := Option.isSome_iff_exists.1 h
  have := (Trip.cnt_any T).all ere true true ⟨0, 0, 0⟩ c hc
  simp at this
  omega
/-- A tree's text. -/
theorem talk_print (T : Rx) (ere : Bool) (hO : RxOk T) (S : ByteArray) (hS : bs (printT ere T) = S) (w : World) {k mn mx m : Int} {t : W4} {ad : Option Addr} {l c : Nat} (h : Pd w T k mn mx m t ad l c) :
    Calls Tryz.prog 10 #[rxv k mn mx m t (.slice ad l c), .bool ere] w fun e w' => e = .returned (.string S) ∧ Kp w w' := by
  subst hS
  exact print_any T ere _ k mn mx m t ad l c w hO (fun hr => (Trip.right_fit ere T hO hr).1) h.is
theorem talk_right (T : Rx) (ere b : Bool) (hO : RxOk T) (hb : right ere T = b) (w : World) {k mn mx m : Int} {t : W4} {ad : Option Addr} {l c : Nat} (h : Pd w T k mn mx m t ad l c) :
    Calls Tryz.prog 15 #[rxv k mn mx m t (.slice ad l c), .bool ere] w fun e w' => e = .returned (.bool b) ∧ Kp w w' := by
  subst hb
  exact Right_any T ere _ k mn mx m t ad l c w hO h.is
theorem talk_same (T U : Rx) (b : Bool) (hO : RxOk T) (hb : sameR T U = b) (w : World) {k mn mx m : Int} {t : W4} {ad : Option Addr} {l c : Nat} {k' mn' mx' m' : Int} {t' : W4} {ad' : Option Addr} {l' c' : Nat} (h : Pd w T k mn mx m t ad l c) (h' : Pd w U k' mn' mx' m' t' ad' l' c') :
    Calls Tryz.prog 16 #[rxv k mn mx m t (.slice ad l c), rxv k' mn' mx' m' t' (.slice ad' l' c')] w fun e w' => e = .returned (.bool b) ∧ Kp w w' := by
  subst hb
  exact same_any T U _ _ w _ _ (fit_of_ok T hO) h.is h'.is
theorem talk_ksame (T U : Rx) (b : Bool) (hO : RxOk T) (hb : sameR T U = b) (w : World) {k mn mx m : Int} {t : W4} {ad : Option Addr} {l c : Nat} {k' mn' mx' m' : Int} {t' : W4} {ad' : Option Addr} {l' c' : Nat} (h : Pd w T k mn mx m t ad l c) (h' : Pd w U k' mn' mx' m' t' ad' l' c') :
    Calls Tryz.prog 20 #[rxv k mn mx m t (.slice ad l c), rxv k' mn' mx' m' t' (.slice ad' l' c')] w fun e w' => e = .returned (.bool b) ∧ Kp w w' := by
  subst hb
  exact (ksame_any T (fit_of_ok T hO)).all U _ _ w _ _ h.is h'.is
theorem talk_nodes (T : Rx) (N : Nat) (hO : RxOk T) (hn : nds T = N) (hN : N ≤ 1000000) (w : World) {k mn mx m : Int} {t : W4} {ad : Option Addr} {l c : Nat} (h : Pd w T k mn mx m t ad l c) :
    Calls Tryz.prog 18 #[rxv k mn mx m t (.slice ad l c)] w fun e w' => e = .returned (.int .i64 ((N : Nat) : Int)) ∧ Kp w w' := by
  subst hn
  exact (Nodes_any T hN (slim_of_ok T hO)).all _ _ w h.is
end Go.Proofs.YtikmgckefbjbkaaGreatDoor
