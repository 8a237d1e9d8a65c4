/-
  Texts of this claim: Mak8, KSame, SameEq, Talk, Talk2, OpenRx, Small, RefR, RefR2, RefMs, RefAlt.
-/
import Derived.Test.YtikmgckefbjbkaaGreatDoorM5
import Derived.Test.YtikmgckefbjbkaaGreatDoorM2
import Derived.Test.YtikmgckefbjbkaaGreatDoorM3
import Derived.Test.YtikmgckefbjbkaaGreatDoorM1
import Derived.ProofKit
import Derived.OpenShut
import Derived.ChangeSame
import Derived.Deep.Slices
import Derived.Laws.IdiomArrays
import Derived.Deep.CutBlock

/-! ### Mak8 -/

namespace Go.Proofs.YtikmgckefbjbkaaGreatDoor
open Go.RowKit

theorem RK.pair {ok : Nat → Prop} {base : Nat} {w : World} {r r' : Rx} (k1 mn1 mx1 mm1 : Int) (t1 : W4) (ad1 : Option Addr) (l1 c1 : Nat) (k2 mn2 mx2 mm2 : Int) (t2 : W4) (ad2 : Option Addr) (l2 c2 : Nat)
  (hI : Is w ok r (rxv k1 mn1 mx1 mm1 t1 (.slice ad1 l1 c1))) (hJ : Is w ok r' (rxv k2 mn2 mx2 mm2 t2 (.slice ad2 l2 c2))) (hb : base ≤ w.heap.size) (ho : ok w.heap.size) :
  RK ok base (w.alloc (.cells #[.int .i64 k1, .int .i64 mn1, .int .i64 mx1, .int .i64 mm1, .int .u64 (t1.a : Int), .int .u64 (t1.b : Int), .int .u64 (t1.c : Int), .int .u64 (t1.d : Int), .slice ad1 l1 c1, .int .i64 k2, .int .i64 mn2, .int .i64 mx2, .int .i64 mm2, .int .u64 (t2.a : Int), .int .u64 (t2.b : Int), .int .u64 (t2.c : Int), .int .u64 (t2.d : Int), .slice ad2 l2 c2] 27)) (.slice (some ⟨w.heap.size, 0, none⟩) 2 2) [r, r'] := by
 refine ⟨[rxv k1 mn1 mx1 mm1 t1 (.slice ad1 l1 c1), rxv k2 mn2 mx2 mm2 t2 (.slice ad2 l2 c2)], rfl, ⟨rfl, .inr ⟨w.heap.size, 2, _, rfl, hb, last_of w _, Nat.le_refl _, by unfold maxLen; omega, rfl, rfl⟩⟩, ?_, ?_⟩
 ·
  intro b hb'
  injection hb' with hb'
  rw [← hb']; exact ho
 intro j t' u hj hu
 have key : ∀ (q : Rx) (v : Value), Is w ok q v → Is (w.alloc (.cells #[.int .i64 k1, .int .i64 mn1, .int .i64 mx1, .int .i64 mm1, .int .u64 (t1.a : Int), .int .u64 (t1.b : Int), .int .u64 (t1.c : Int), .int .u64 (t1.d : Int), .slice ad1 l1 c1, .int .i64 k2, .int .i64 mn2, .int .i64 mx2, .int .i64 mm2, .int .u64 (t2.a : Int), .int .u64 (t2.b : Int), .int .u64 (t2.c : Int), .int .u64 (t2.d : Int), .slice ad2 l2 c2] 27)) (fun b => ok b ∧ (Value.slice (some ⟨w.heap.size, 0, none⟩) 2 2).ownBlock ≠ some b) q v := fun q v h => by
  refine (h.weak (fun b hb hl => ⟨hb, ?_⟩)).kp ((Kp.refl _).alloc _)
  show some w.heap.size ≠ some b
  intro he; injection he with he; omega
 match j, hj, hu with
 | 0, hj, hu =>
  simp at hj hu
  subst hj
  subst hu
  exact key _ _ hI
 | 1, hj, hu =>
  simp at hj hu
  subst hj
  subst hu
  exact key _ _ hJ
 | j + 2, hj, _ => simp at hj
theorem sg_of {m : Nat} {T : Rx} {d g g' : Nat} {v : Value} {base : Nat} {w : World} (hg : g ≤ 3) (h1 : 1 ≤ m) (h2 : m ≤ 2) (hp : m = 1 → Trip.PGood true 2 T d g g')
  (hL : 2 ≤ m → ∃ ks kv, v = rxv 2 0 0 0 W4.z kv ∧ T = .mk 2 0 0 0 W4.z ks ∧ RKids base w kv ks ∧ ks.length = m ∧ Trip.LG true d ks g g') : Trip.SGood true 5 T d g g' := by
 by_cases hm : m = 1
 ·
  exact ((hp hm).more (by omega)).part
 ·
  obtain ⟨ks, kv, _, rfl, _, hl, hLG⟩ := hL (by omega)
  have := Trip.cat_good true d g g' hg ks hLG (by omega) (by omega)
  rw [show 1 + 2 * ks.length = 5 by omega] at this
  exact this
/-- What stands in the two variables. -/
structure AMid (B d g x : Nat) (z : Int) (w : World) (v v' : Value) (w' : World) : Prop where
 ex : ∃ V1 V2 T1 T2 g1 g2, ∃ (k1 mn1 mx1 mm1 : Int) (t1 : W4) (ad1 : Option Addr) (l1 c1 : Nat), ∃ (k2 mn2 mx2 mm2 : Int) (t2 : W4) (ad2 : Option Addr) (l2 c2 : Nat), v = .pointer (some ⟨V1, 0, none⟩) ∧ v' = .pointer (some ⟨V2, 0, none⟩) ∧ w.heap.size + 1 < V1 ∧ w.heap.size + 1 < V2 ∧
  w'.heap[V1]? = some (rxo k1 mn1 mx1 mm1 t1 (.slice ad1 l1 c1)) ∧ w'.heap[V2]? = some (rxo k2 mn2 mx2 mm2 t2 (.slice ad2 l2 c2)) ∧ Is w' (fun b => w.heap.size + 1 < b) T1 (rxv k1 mn1 mx1 mm1 t1 (.slice ad1 l1 c1)) ∧ Is w' (fun b => w.heap.size + 1 < b) T2 (rxv k2 mn2 mx2 mm2 t2 (.slice ad2 l2 c2)) ∧
  Trip.SGood true 5 T1 d g g1 ∧ Trip.SGood true 2 T2 d g1 g2 ∧ w'.heap[w.heap.size + 1]? = some rzo ∧ Gone B 4 7 x g z w w' g2
theorem amid_of {B d g x m x' V1 V2 g1 g2 : Nat} {z z' : Int} {w W5 u1 Y1 u2 Y2 u3 Z Wf : World} {T1 T2 : Rx} {k1 mn1 mx1 mm1 : Int} {t1 : W4} {ad1 : Option Addr} {l1 c1 : Nat} {k2 mn2 mx2 mm2 : Int} {t2 : W4} {ad2 : Option Addr} {l2 c2 : Nat}
  (hBw : B + 2 < w.heap.size) (h2 : m ≤ 2) (hs : w.heap.size + 1 < W5.heap.size) (K5 : Km B w W5) (kc1 : Kp W5 u1) (km1 : Km B u1 Y1) (kc2 : Kp Y1 u2) (kc3 : Kp Y2 u3)
  (hV1 : w.heap.size + 1 < V1) (hV2 : w.heap.size + 1 < V2) (o11 : V1 < u1.heap.size + 2 ∨ Y1.heap.size ≤ V1) (o12 : V1 < u2.heap.size + 2 ∨ Y2.heap.size ≤ V1) (o21 : V2 < u1.heap.size + 2 ∨ Y1.heap.size ≤ V2) (o22 : V2 < u2.heap.size + 2 ∨ Y2.heap.size ≤ V2)
  (R5 : W5.heap[w.heap.size + 1]? = some rzo) (I1 : Is Y1 (fun b => u1.heap.size + 2 ≤ b) T1 (rxv k1 mn1 mx1 mm1 t1 (.slice ad1 l1 c1))) (q1 : x' + 8 * (4 - g1) ≤ x + 1 + 8 * (4 - g) + m) (q2 : z - 1 + 8 * g ≤ z' + 8 * g1 + (2 * m : Nat)) (q3 : z' ≤ z - 1) (S1 : Trip.SGood true 5 T1 d g g1)
  (I2 : Is Y2 (fun b => u2.heap.size + 2 ≤ b) T2 (rxv k2 mn2 mx2 mm2 t2 (.slice ad2 l2 c2))) (G2 : Gone B 1 (2 * 1) x' g1 z' u2 Y2 g2) (S2 : Trip.SGood true 2 T2 d g1 g2)
  (f1 : Ks V1 u3 Z) (f2 : Ks V2 Z Wf) (b1 : Wf.heap[V1]? = some (rxo k1 mn1 mx1 mm1 t1 (.slice ad1 l1 c1))) (b2 : Wf.heap[V2]? = some (rxo k2 mn2 mx2 mm2 t2 (.slice ad2 l2 c2))) : AMid B d g x z w (.pointer (some ⟨V1, 0, none⟩)) (.pointer (some ⟨V2, 0, none⟩)) Wf := by
 have s1 := kc1.size
 have s2 := km1.size
 have s3 := kc2.size
 have s4 := G2.km.size
 have s5 := kc3.size
 have s6 := f1.size
 have s7 := f2.size
 refine ⟨V1, V2, T1, T2, g1, g2, k1, mn1, mx1, mm1, t1, ad1, l1, c1, k2, mn2, mx2, mm2, t2, ad2, l2, c2, rfl, rfl, hV1, hV2, b1, b2, ?_, ?_, S1, S2, ?_, ?_⟩
 ·
  refine Is.turn (by omega) (fun b hb hl => ⟨by omega, ?_⟩) _ _ I1
  exact (f2.block b (by omega) (by omega)).trans ((f1.block b (by omega) (by omega)).trans ((kc3.block b (by omega)).trans ((G2.km.block b (by omega) (by omega) (by omega) (by omega)).trans (kc2.block b hl))))
 ·
  refine Is.turn (by omega) (fun b hb hl => ⟨by omega, ?_⟩) _ _ I2
  exact (f2.block b (by omega) (by omega)).trans ((f1.block b (by omega) (by omega)).trans (kc3.block b hl))
 ·
  exact bl_ks (bl_ks (bl_kp (bl_km (bl_kp (bl_km (bl_kp R5 kc1) (by omega) km1) kc2) (by omega) G2.km) kc3) (by omega) f1) (by omega) f2
 ·
  obtain ⟨x'', z'', hm, p1, p2, p3⟩ := G2.ex
  exact ⟨⟨x'', z'', ((hm.kp kc3).ks f1 (by omega)).ks f2 (by omega), by omega, by omega, by omega⟩, ((((((K5.kp kc1 (by omega)).trans km1).kp kc2 (by omega)).trans G2.km).kp kc3 (by omega)).new f1 (by omega) (by omega)).new f2 (by omega) (by omega)⟩

set_option maxHeartbeats 8000000 in
set_option maxRecDepth 100000 in
theorem krow_any (ere : Bool) (aK : Option Addr) (lK cK : Nat) (aN : Option Addr) (lN cN : Nat) (B : Nat) (d x g : Nat) (z : Int) (w : World) (HP : PartSaid ere d) (hA : Asks w aK lK aN lN B 4 7 x g z) :
  Calls Tryz.prog 28 #[(mkv aK lK cK aN lN cN ere B), .int .i64 (d : Int)] w fun e w' => RowD ere B d x g z w e w' := by
 have HA := hid hA
 have hBw := hA.mm.lt
 have hg3 := hA.g3
 have hbx := hA.bx
 have hbz := hA.bz
 have hz14 := hA.z14
 have HPS := hid HP
 clear hA HP
 go_enter Tryz.func28, Tryz.ntmps28
 go_upto_region 1 with fail
 refine opq (fun W0 => W0.heap[w.heap.size]? = some (mko aK lK cK aN lN cN ere B) ∧ W0.heap[(w.heap.size + 1)]? = some rzo ∧ Kp w W0) ⟨by exact bl_alloc (last_of _ _) _, by exact last_at _ _ _ (by simp), by exact (by repeat (first | exact Kp.refl _ | refine Kp.alloc ?_ _ | refine Kp.drew ?_ | refine Kp.drewN _ ?_))⟩ ?_
 rintro W0 ⟨xA0, xR0, xK0⟩
 have A0 : Hid (W0.heap[w.heap.size]? = some (mko aK lK cK aN lN cN ere B)) := xA0
 have R0 : Hid (W0.heap[(w.heap.size + 1)]? = some rzo) := xR0
 have K0 : Hid (Kp w W0) := xK0
 clear xA0 xR0 xK0
 have AS0 := hid (HA.out.mm.kp K0.out)
 have NK0 := hid (HA.out.nk.km (K0.out.km (B := B) (by omega)))
 have NN0 := hid (HA.out.nn.km (K0.out.km (B := B) (by omega)))
 have p0 := bl_cell (A0.out) 0 _ rfl
 have p1 := bl_cell (A0.out) 1 _ rfl
 have p2 := bl_cell (A0.out) 2 _ rfl
 have p3 := bl_cell (A0.out) 3 _ rfl
 have p4 := bl_cell (A0.out) 4 _ rfl
 have p5 := bl_cell (A0.out) 5 _ rfl
 go_wp2_with fail
 refine (next_any aK lK cK aN lN cN ere B x (g : Int) z _ AS0.out NK0.out NN0.out (by omega)).mono ?_
 rintro e W1 ⟨kd, n, rfl, m1, k1⟩
 have hs0 := K0.out.size
 have hs0' : w.heap.size + 1 < W0.heap.size := bl_lt R0.out
 have hs1 := k1.size
 have M1 := hid m1
 have A1 := hid (bl_km A0.out (by omega) k1)
 have R1 := hid (bl_km R0.out (by omega) k1)
 have K1 : Hid (Km B w W1) := (K0.out.km (by omega)).trans k1
 clear m1 k1 AS0 NK0 NN0 A0 R0 p0 p1 p2 p3 p4 p5
 go_upto_region 2 with fail
 have gz : IntKind.i64.wrap (z - 1) = z - 1 := by rw [IntKind.wrap_i64]; omega
 go_cut [] (fun wc => Mk wc B ((x + 1 : Nat) : Int) (g : Int) (z - 1) ∧ wc.heap[w.heap.size]? = some (mko aK lK cK aN lN cN ere B) ∧ wc.heap[w.heap.size + 1]? = some rzo ∧ Km B w wc ∧ W1.heap.size ≤ wc.heap.size)
 case first =>
  have Q0 : Kp W1 W1.drew := (Kp.refl _).drew
  have MK : Hid (∀ W, Kp W1 W → W.cell? ⟨w.heap.size, 5, none⟩ = some (.pointer (some ⟨B + 2, 0, none⟩)) ∧ W.cell? ⟨(B + 2), 0, none⟩ = some (.int .i64 z) ∧ Hid (Kp W1 W)) := fun W k => ⟨bl_cell (bl_kp A1.out k) 5 _ rfl, bl_cell (M1.out.kp k).lf 0 _ rfl, k⟩
  refine wp_region_noPanic ?_
  refine region_Z (z := 8) (S := (fun W => W.cell? ⟨w.heap.size, 5, none⟩ = some (.pointer (some ⟨B + 2, 0, none⟩)) ∧ W.cell? ⟨(B + 2), 0, none⟩ = some (.int .i64 z) ∧ Hid (Kp W1 W))) (by kernel_rfl) ?_ (fun hH => ?_)
  ·
   exact MK.out _ Q0
  have KQ := Q0
  refine anyZ_take (z := 8) (ks := []) (i := 0) (v := ?v0a1) rfl (by kernel_rfl) (by kernel_rfl) (by kernel_rfl) (by kernel_rfl) (by kernel_rfl) (fun _ _ _ h => h) (Or.inl ⟨by rfl, ?hy0a1⟩) hH ?r0a1
  case hy0a1 => (intro W hSw; (try dsimp only at hSw); go_simp; try (with_reducible rfl))
  try simp only [Act.put, List.setIfInBounds_toArray]
  refine anyZ_take (z := 8) (ks := []) (i := 1) (v := ?v1a2) rfl (by kernel_rfl) (by kernel_rfl) (by kernel_rfl) (by kernel_rfl) (by kernel_rfl) (fun _ _ _ h => h) (Or.inl ⟨by rfl, ?hy1a2⟩) hH ?r1a2
  case hy1a2 => (intro W hSw; (try dsimp only at hSw); go_simp; try (with_reducible rfl))
  try simp only [Act.put]
  refine anyZ_take (z := 8) (ks := []) (i := 2) (v := ?v2a3) rfl (by kernel_rfl) (by kernel_rfl) (by kernel_rfl) (by kernel_rfl) (by kernel_rfl) (fun _ _ _ h => h) (Or.inl ⟨by rfl, ?hy2a3⟩) hH ?r2a3
  case hy2a3 => (intro W hSw; (try dsimp only at hSw); go_simp; try (with_reducible rfl))
  try simp only [Act.put]
  refine anyZ_take (z := 8) (ks := []) (i := 3) (v := ?v3a4) rfl (by kernel_rfl) (by kernel_rfl) (by kernel_rfl) (by kernel_rfl) (by kernel_rfl) (fun _ _ _ h => h) (Or.inl ⟨by rfl, ?hy3a4⟩) hH ?r3a4
  case hy3a4 => (intro W hSw; (try dsimp only at hSw); go_simp; try (with_reducible rfl))
  try simp only [Act.put]
  refine anyZ_take (z := 8) (ks := []) (i := 4) (v := ?v4a5) rfl (by kernel_rfl) (by kernel_rfl) (by kernel_rfl) (by kernel_rfl) (by kernel_rfl) (fun _ _ _ h => h) (Or.inl ⟨by rfl, ?hy4a5⟩) hH ?r4a5
  case hy4a5 => (intro W hSw; (try dsimp only at hSw); go_simp; try (with_reducible rfl))
  try simp only [Act.put]
  refine anyZ_take (z := 8) (ks := []) (i := 5) (v := ?v5a6) rfl (by kernel_rfl) (by kernel_rfl) (by kernel_rfl) (by kernel_rfl) (by kernel_rfl) (fun _ _ _ h => h) (Or.inl ⟨by rfl, ?hy5a6⟩) hH ?r5a6
  case hy5a6 => (intro W hSw; (try dsimp only at hSw); go_simp; try (with_reducible rfl))
  try simp only [Act.put]
  refine anyZ_take (z := 8) (ks := []) (i := 6) (v := ?v6a7) rfl (by kernel_rfl) (by kernel_rfl) (by kernel_rfl) (by kernel_rfl) (by kernel_rfl) (fun _ _ _ h => h) (Or.inl ⟨by rfl, ?hy6a7⟩) hH ?r6a7
  case hy6a7 => (intro W hSw; (try dsimp only at hSw); go_simp; try (with_reducible rfl))
  try simp only [Act.put]
  refine anyZ_take (z := 8) (ks := []) (i := 7) (v := ?v7a8) rfl (by kernel_rfl) (by kernel_rfl) (by kernel_rfl) (by kernel_rfl) (by kernel_rfl) (fun _ _ _ h => h) (Or.inl ⟨by rfl, ?hy7a8⟩) hH ?r7a8
  case hy7a8 => (intro W hSw; (try dsimp only at hSw); go_simp; try (with_reducible rfl))
  try simp only [Act.put]
  refine anyZ_ready (rs := [8]) (by kernel_rfl) (by simp) ?_
  refine AllZ.last rfl (Or.inl rfl) (fun K hKq => ?_) AllZ.nil
  have fq2 := bl_frozen (M1.out.kp KQ).lf 0
  have cq2 := bl_cell (M1.out.kp KQ).lf 0 _ rfl
  go_simp
  refine hKq.out _ _ ?_
  clear fq2 cq2
  clear hKq K
  try simp only [Act.put, List.setIfInBounds_toArray, List.set_cons_zero, List.set_cons_succ]
  refine anyZ_done (by kernel_rfl) ?_ _
  refine NoPanic.normal ?_
  go_wp2_with fail
  go_meet
  case rel => exact ⟨(M1.out.kp KQ).setL _, bl_set (bl_kp A1.out KQ) (by omega) _, bl_set (bl_kp R1.out KQ) (by omega) _, (K1.out.kp KQ (by omega)).set 2 (by omega) 0 _, by simp⟩
 case rest =>
 obtain ⟨m2, a2, r2, k2, hs2⟩ := hcut
 rename World => W2
 have M2 := hid m2
 have A2 := hid a2
 have R2 := hid r2
 have K2 := hid k2
 clear m2 a2 r2 k2 M1 A1 R1 K1 gz
 go_wp2_with fail
 refine (within_nat _ 9 (by omega) _).mono ?_
 rintro e W2 ⟨c, hc9, rfl, rfl⟩
 have p0 := bl_cell (A2.out) 0 _ rfl
 have p1 := bl_cell (A2.out) 1 _ rfl
 have p2 := bl_cell (A2.out) 2 _ rfl
 have p3 := bl_cell (A2.out) 3 _ rfl
 have p4 := bl_cell (A2.out) 4 _ rfl
 have p5 := bl_cell (A2.out) 5 _ rfl
 have q0 := bl_cell M2.out.lf 0 _ rfl
 go_upto_region 4 with fail
 go_cut [42] (fun v wc => Bq (ere = true ∧ d < 3) v ∧ Kp W2 wc)
 case first =>
  cases ere with
  | false =>
   go_wp2_with fail
   go_meet
   case rel => exact ⟨⟨_, rfl, fun h => by cases h⟩, Kp.refl _⟩
  | true =>
  by_cases h9 : c = 9
  ·
   subst h9
   by_cases hl : 4 < z - 1
   ·
    have hli : (4 : Int) < z - 1 := hl
    by_cases hd3 : d < 3
    ·
     have hd3i : (d : Int) < 3 := by omega
     go_wp2_with fail
     go_meet
     case rel => exact ⟨⟨_, rfl, fun _ => ⟨by trivial, hd3⟩⟩, Kp.refl _⟩
    ·
     have hd3i : ¬ (d : Int) < 3 := by omega
     go_wp2_with fail
     go_meet
     case rel => exact ⟨⟨_, rfl, fun h => by cases h⟩, Kp.refl _⟩
   ·
    have hli : ¬ (4 : Int) < z - 1 := hl
    go_wp2_with fail
    go_meet
    case rel => exact ⟨⟨_, rfl, fun h => by cases h⟩, Kp.refl _⟩
  ·
   have h9i : ((c : Int) == 9) = false := by simp; omega
   have h9j : ¬ (c : Int) = 9 := by omega
   go_wp2_with fail
   go_meet
   case rel => exact ⟨⟨_, rfl, fun h => by cases h⟩, Kp.refl _⟩
 case rest =>
 obtain ⟨⟨⟨q4, rfl, hq4⟩⟩, k4⟩ := hcut
 rename World => W5
 have hs4 := k4.size
 have M5 := hid (M2.out.kp k4)
 have A5 := hid (bl_kp A2.out k4)
 have R5 := hid (bl_kp R2.out k4)
 have K5 := hid (K2.out.kp k4 (by omega))
 have hs5 : w.heap.size + 1 < W5.heap.size := bl_lt R5.out
 clear k4 q0 M2 A2 R2 K2 p0 p1 p2 p3 p4 p5
 have M2 := M5
 have A2 := A5
 have R2 := R5
 have K2 := K5
 clear M5 A5 R5 K5
 cases q4
 case true =>
  obtain ⟨rfl, _⟩ := hq4 rfl
  go_upto_region 5 with fail
  have NKW := hid (fun (W : World) (k : Km B W5 W) => HA.out.nk.km (K2.out.trans k))
  have NNW := hid (fun (W : World) (k : Km B W5 W) => HA.out.nn.km (K2.out.trans k))
  obtain ⟨m, hm, hm1, hm2⟩ := one_or_two n
  have hmc : 1 + bits .and .i64 n 1 = (m : Int) := hm
  have gw : IntKind.i64.wrap (m : Int) = (m : Int) := by rw [IntKind.wrap_i64]; omega
  clear hm
  have PS := hid (fun (m : Nat) (h1 : 1 ≤ m) (h3 : m ≤ 2) (W : World) (k : Kp W5 W) => parts_any aK lK cK aN lN cN true B d m (x + 1) g (z - 1) W h1 (by omega) HPS.out ⟨M2.out.kp k, NKW.out _ (k.km (by omega)), NNW.out _ (k.km (by omega)), hg3, by omega, by omega, by omega⟩)
  go_cut [8, 9] (fun v v' wc => AMid B d g x z w v v' wc)
  case first =>
   have Q0 : Km B W5 W5.drew := (Km.refl B W5).kp ((Kp.refl _).drew) (by omega)
   have MK : Hid (∀ W, Km B W5 W → W.cell? ⟨w.heap.size, 0, none⟩ = some (.slice aK lK cK) ∧ W.cell? ⟨w.heap.size, 1, none⟩ = some (.slice aN lN cN) ∧ W.cell? ⟨w.heap.size, 2, none⟩ = some (.bool true) ∧ W.cell? ⟨w.heap.size, 3, none⟩ = some (.pointer (some ⟨B, 0, none⟩)) ∧ W.cell? ⟨w.heap.size, 4, none⟩ = some (.pointer (some ⟨B + 1, 0, none⟩)) ∧ W.cell? ⟨w.heap.size, 5, none⟩ = some (.pointer (some ⟨B + 2, 0, none⟩)) ∧ Hid (Km B W5 W)) := fun W k => ⟨bl_cell (bl_km A2.out (by omega) k) 0 _ rfl, bl_cell (bl_km A2.out (by omega) k) 1 _ rfl, bl_cell (bl_km A2.out (by omega) k) 2 _ rfl, bl_cell (bl_km A2.out (by omega) k) 3 _ rfl, bl_cell (bl_km A2.out (by omega) k) 4 _ rfl, bl_cell (bl_km A2.out (by omega) k) 5 _ rfl, k⟩
   refine wp_region_noPanic ?_
   refine wp_region_held_drew (S := (fun W => W.cell? ⟨w.heap.size, 0, none⟩ = some (.slice aK lK cK) ∧ W.cell? ⟨w.heap.size, 1, none⟩ = some (.slice aN lN cN) ∧ W.cell? ⟨w.heap.size, 2, none⟩ = some (.bool true) ∧ W.cell? ⟨w.heap.size, 3, none⟩ = some (.pointer (some ⟨B, 0, none⟩)) ∧ W.cell? ⟨w.heap.size, 4, none⟩ = some (.pointer (some ⟨B + 1, 0, none⟩)) ∧ W.cell? ⟨w.heap.size, 5, none⟩ = some (.pointer (some ⟨B + 2, 0, none⟩)) ∧ Hid (Km B W5 W))) (by kernel_rfl) ?_ (fun hH => ?_)
   ·
    exact MK.out _ Q0
   have KQ := Q0
   refine wpAnyH_take (i := 0) (v := ?v0e1) rfl (by kernel_rfl) (by kernel_rfl) (by kernel_rfl) (fun _ _ _ h => h) (Or.inl ⟨by rfl, ?hy0e1⟩) hH ?r0e1
   case hy0e1 => (intro W hSw; (try dsimp only at hSw); go_simp; try (with_reducible rfl))
   try simp only [Act.put, List.setIfInBounds_toArray]
   refine wpAnyH_take (i := 1) (v := ?v1e2) rfl (by kernel_rfl) (by kernel_rfl) (by kernel_rfl) (fun _ _ _ h => h) (Or.inl ⟨by rfl, ?hy1e2⟩) hH ?r1e2
   case hy1e2 => (intro W hSw; (try dsimp only at hSw); go_simp; try (with_reducible rfl))
   try simp only [Act.put]
   refine wpAnyH_take (i := 2) (v := ?v2e3) rfl (by kernel_rfl) (by kernel_rfl) (by kernel_rfl) (fun _ _ _ h => h) (Or.inl ⟨by rfl, ?hy2e3⟩) hH ?r2e3
   case hy2e3 => (intro W hSw; (try dsimp only at hSw); go_simp; try (with_reducible rfl))
   try simp only [Act.put]
   refine wpAnyH_take (i := 3) (v := ?v3e4) rfl (by kernel_rfl) (by kernel_rfl) (by kernel_rfl) (fun _ _ _ h => h) (Or.inl ⟨by rfl, ?hy3e4⟩) hH ?r3e4
   case hy3e4 => (intro W hSw; (try dsimp only at hSw); go_simp; try (with_reducible rfl))
   try simp only [Act.put]
   refine wpAnyH_take (i := 4) (v := ?v4e5) rfl (by kernel_rfl) (by kernel_rfl) (by kernel_rfl) (fun _ _ _ h => h) (Or.inl ⟨by rfl, ?hy4e5⟩) hH ?r4e5
   case hy4e5 => (intro W hSw; (try dsimp only at hSw); go_simp; try (with_reducible rfl))
   try simp only [Act.put]
   refine wpAnyH_take (i := 6) (v := ?v6e6) rfl (by kernel_rfl) (by kernel_rfl) (by kernel_rfl) (fun _ _ _ h => h) (Or.inl ⟨by rfl, ?hy6e6⟩) hH ?r6e6
   case hy6e6 => (intro W hSw; (try dsimp only at hSw); go_simp; try (with_reducible rfl))
   try simp only [Act.put]
   refine wpAnyH_take (i := 7) (v := ?v7e7) rfl (by kernel_rfl) (by kernel_rfl) (by kernel_rfl) (fun _ _ _ h => h) (Or.inl ⟨by rfl, ?hy7e7⟩) hH ?r7e7
   case hy7e7 => (intro W hSw; (try dsimp only at hSw); go_simp; try (with_reducible rfl))
   try simp only [Act.put]
   refine wpAnyH_ready (rs := [5, 9, 10]) (by kernel_rfl) (by simp) ?_
   refine AllReadyH.cons rfl (fun K hKq => ?_) ?_
   ·
    go_simp
    refine (PS.out m hm1 hm2 _ (by repeat (first | exact Kp.refl _ | refine Kp.alloc ?_ _ | refine Kp.drew ?_))).mono ?_
    rintro e Y1 ⟨⟨T1, v1, g1, rfl, hI, hp1, hp2, hGn⟩⟩
    obtain ⟨k1, mn1, mx1, mm1, t1, ad1, l1, c1, rfl⟩ := hI.form
    have SG1 := hid (sg_of hg3 hm1 hm2 hp1 hp2)
    have I1 := hid hI
    have KM1 := hid hGn.km
    have hy1 := hGn.km.size
    try simp at hy1
    obtain ⟨x', z', hmk, q1, q2, q3⟩ := hGn.ex
    have hgg := SG1.out.g3
    have PS2 := hid (fun (W : World) (k : Kp Y1 W) => parts_any aK lK cK aN lN cN true B d 1 x' g1 z' W (by omega) (by omega) HPS.out ⟨hmk.kp k, NKW.out _ ((Kp.km (B := B) (a := W5) (by repeat (first | exact Kp.refl _ | refine Kp.alloc ?_ _ | refine Kp.drew ?_)) (by omega)).trans (KM1.out.kp k (by first | omega | (simp; omega) | simp))), NNW.out _ ((Kp.km (B := B) (a := W5) (by repeat (first | exact Kp.refl _ | refine Kp.alloc ?_ _ | refine Kp.drew ?_)) (by omega)).trans (KM1.out.kp k (by first | omega | (simp; omega) | simp))), hgg, by omega, by omega, by omega⟩)
    clear hI hp1 hp2 hGn hmk
    refine hKq.out _ _ (MK.out _ (KQ.trans KM1.out)) (fun hN => ?_)
    clear hKq K hH KQ
    have hH := hN
    clear hN
    have KQ := hH.2.2.2.2.2.2.out
    try simp only [Act.put, List.setIfInBounds_toArray, List.set_cons_zero, List.set_cons_succ]
    refine wpAnyH_ready (rs := [8, 9, 10]) (by kernel_rfl) (by simp) ?_
    refine AllReadyH.cons rfl (fun K hKq => ?_) ?_
    ·
     go_simp
     refine (PS2.out _ (by repeat (first | exact Kp.refl _ | refine Kp.alloc ?_ _ | refine Kp.drew ?_))).mono ?_
     rintro e Y2 ⟨⟨T2, v2, g2, rfl, hI, hp1, hp2, hGn⟩⟩
     obtain ⟨k2, mn2, mx2, mm2, t2, ad2, l2, c2, rfl⟩ := hI.form
     have SG2 := hid (hp1 rfl).part
     have I2 := hid hI
     have G2 := hid hGn
     have hy2 := hGn.km.size
     try simp at hy2
     clear hI hp1 hp2 hGn PS2
     refine hKq.out _ _ (MK.out _ (KQ.trans G2.out.km)) (fun hN => ?_)
     clear hKq K hH KQ
     have hH := hN
     clear hN
     have KQ := hH.2.2.2.2.2.2.out
     try simp only [Act.put, List.setIfInBounds_toArray, List.set_cons_zero, List.set_cons_succ]
     refine wpAnyH_ready (rs := [9, 10]) (by kernel_rfl) (by simp) ?_
     refine AllReadyH.cons rfl (fun K hKq => ?_) ?_
     ·
      go_simp
      refine hKq.out _ _ (MK.out _ (KQ.kp ((Kp.refl _).alloc _) (by omega))) (fun hN => ?_)
      have B1n3 : Hid ((Y2.alloc rzo).heap[Y2.heap.size]? = some rzo) := last_at _ _ _ (by simp)
      clear hKq K hH KQ
      have hH := hN
      clear hN
      have KQ := hH.2.2.2.2.2.2.out
      try simp only [Act.put, List.setIfInBounds_toArray, List.set_cons_zero, List.set_cons_succ]
      refine wpAnyH_ready (rs := [10]) (by kernel_rfl) (by simp) ?_
      refine AllReadyH.cons rfl (fun K hKq => ?_) AllReadyH.nil
      go_simp
      refine hKq.out _ _ (MK.out _ (KQ.kp ((Kp.refl _).alloc _) (by omega))) (fun hN => ?_)
      have B1n4 : Hid (((Y2.alloc rzo).alloc rzo).heap[Y2.heap.size]? = some rzo) := bl_alloc B1n3.out _
      have B2n4 : Hid (((Y2.alloc rzo).alloc rzo).heap[Y2.heap.size + 1]? = some rzo) := last_at _ _ _ (by simp)
      clear hKq K hH KQ
      have hH := hN
      clear hN
      have KQ := hH.2.2.2.2.2.2.out
      try simp only [Act.put, List.setIfInBounds_toArray, List.set_cons_zero, List.set_cons_succ]
      refine wpAnyH_ready (rs := [11]) (by kernel_rfl) (by simp) ?_
      refine AllReadyH.cons rfl (fun K hKq => ?_) AllReadyH.nil
      obtain ⟨U, hU⟩ : ∃ U, ((Y2.alloc rzo).alloc rzo) = U := ⟨_, rfl⟩
      rw [hU] at hH KQ B1n4 B2n4 ⊢
      have KU : Hid (Kp Y2 U) := by subst hU; exact (by repeat (first | exact Kp.refl _ | refine Kp.alloc ?_ _ | refine Kp.drew ?_))
      clear hU
      have v0 := bl_cell (B1n4.out) 0 _ rfl
      have fv0 := bl_frozen (B1n4.out) 0
      have v1 := bl_cell (B1n4.out) 1 _ rfl
      have fv1 := bl_frozen (B1n4.out) 1
      have v2 := bl_cell (B1n4.out) 2 _ rfl
      have fv2 := bl_frozen (B1n4.out) 2
      have v3 := bl_cell (B1n4.out) 3 _ rfl
      have fv3 := bl_frozen (B1n4.out) 3
      have v4 := bl_cell (B1n4.out) 4 _ rfl
      have fv4 := bl_frozen (B1n4.out) 4
      have v5 := bl_cell (B1n4.out) 5 _ rfl
      have fv5 := bl_frozen (B1n4.out) 5
      have v6 := bl_cell (B1n4.out) 6 _ rfl
      have fv6 := bl_frozen (B1n4.out) 6
      have v7 := bl_cell (B1n4.out) 7 _ rfl
      have fv7 := bl_frozen (B1n4.out) 7
      have v8 := bl_cell (B1n4.out) 8 _ rfl
      have fv8 := bl_frozen (B1n4.out) 8
      go_simp
      refine hKq.out _ _ (MK.out _ (Km.new (S := Y2.heap.size) KQ (ks_set9 _ _ _ _ _ _ _ _ _) (by omega) (by omega))) (fun hN => ?_)
      clear v0 fv0 v1 fv1 v2 fv2 v3 fv3 v4 fv4 v5 fv5 v6 fv6 v7 fv7 v8 fv8
      have B1s := hid (bl_set9 B1n4.out (.int .i64 k1) (.int .i64 mn1) (.int .i64 mx1) (.int .i64 mm1) (.int .u64 (t1.a : Int)) (.int .u64 (t1.b : Int)) (.int .u64 (t1.c : Int)) (.int .u64 (t1.d : Int)) (.slice ad1 l1 c1))
      have F1s := hid (ks_set9 (w := U) (B := Y2.heap.size) (.int .i64 k1) (.int .i64 mn1) (.int .i64 mx1) (.int .i64 mm1) (.int .u64 (t1.a : Int)) (.int .u64 (t1.b : Int)) (.int .u64 (t1.c : Int)) (.int .u64 (t1.d : Int)) (.slice ad1 l1 c1))
      have B2s := hid (bl_ks B2n4.out (by omega) F1s.out)
      clear hKq K hH KQ
      have hH := hN
      clear hN
      have KQ := hH.2.2.2.2.2.2.out
      try simp only [Act.put, List.setIfInBounds_toArray, List.set_cons_zero, List.set_cons_succ]
      refine wpAnyH_ready (rs := [12]) (by kernel_rfl) (by simp) ?_
      refine AllReadyH.cons rfl (fun K hKq => ?_) AllReadyH.nil
      have u0 := bl_cell (B2s.out) 0 _ rfl
      have fu0 := bl_frozen (B2s.out) 0
      have u1 := bl_cell (B2s.out) 1 _ rfl
      have fu1 := bl_frozen (B2s.out) 1
      have u2 := bl_cell (B2s.out) 2 _ rfl
      have fu2 := bl_frozen (B2s.out) 2
      have u3 := bl_cell (B2s.out) 3 _ rfl
      have fu3 := bl_frozen (B2s.out) 3
      have u4 := bl_cell (B2s.out) 4 _ rfl
      have fu4 := bl_frozen (B2s.out) 4
      have u5 := bl_cell (B2s.out) 5 _ rfl
      have fu5 := bl_frozen (B2s.out) 5
      have u6 := bl_cell (B2s.out) 6 _ rfl
      have fu6 := bl_frozen (B2s.out) 6
      have u7 := bl_cell (B2s.out) 7 _ rfl
      have fu7 := bl_frozen (B2s.out) 7
      have u8 := bl_cell (B2s.out) 8 _ rfl
      have fu8 := bl_frozen (B2s.out) 8
      go_simp
      refine hKq.out _ _ (MK.out _ (Km.new (S := Y2.heap.size + 1) KQ (ks_set9 _ _ _ _ _ _ _ _ _) (by omega) (by omega))) (fun hN => ?_)
      clear u0 fu0 u1 fu1 u2 fu2 u3 fu3 u4 fu4 u5 fu5 u6 fu6 u7 fu7 u8 fu8
      clear hKq K hH KQ
      have hH := hN
      clear hN
      have KQ := hH.2.2.2.2.2.2.out
      try simp only [Act.put, List.setIfInBounds_toArray, List.set_cons_zero, List.set_cons_succ]
      refine wpAnyH_done (by kernel_rfl) ?_ _
      refine NoPanic.normal ?_
      go_wp2_with fail
      go_meet
      case rel => exact amid_of (u1 := W5.drew) (u2 := Y1) (u3 := U) hBw hm2 (by omega) K2.out (by repeat (first | exact Kp.refl _ | refine Kp.alloc ?_ _ | refine Kp.drew ?_)) KM1.out (by repeat (first | exact Kp.refl _ | refine Kp.alloc ?_ _ | refine Kp.drew ?_)) KU.out (by omega) (by omega) (by first | omega | (simp; omega) | simp) (by first | omega | (simp; omega) | simp) (by first | omega | (simp; omega) | simp) (by first | omega | (simp; omega) | simp) R2.out I1.out q1 q2 q3 SG1.out I2.out G2.out SG2.out F1s.out (ks_set9 _ _ _ _ _ _ _ _ _) (bl_ks B1s.out (by omega) (ks_set9 _ _ _ _ _ _ _ _ _)) (bl_set9 B2s.out _ _ _ _ _ _ _ _ _)
     refine AllReadyH.cons rfl (fun K hKq => ?_) ?_
     ·
      go_simp
      refine hKq.out _ _ (MK.out _ (KQ.kp ((Kp.refl _).alloc _) (by omega))) (fun hN => ?_)
      have B2n3 : Hid ((Y2.alloc rzo).heap[Y2.heap.size]? = some rzo) := last_at _ _ _ (by simp)
      clear hKq K hH KQ
      have hH := hN
      clear hN
      have KQ := hH.2.2.2.2.2.2.out
      try simp only [Act.put, List.setIfInBounds_toArray, List.set_cons_zero, List.set_cons_succ]
      refine wpAnyH_ready (rs := [9]) (by kernel_rfl) (by simp) ?_
      refine AllReadyH.cons rfl (fun K hKq => ?_) AllReadyH.nil
      go_simp
      refine hKq.out _ _ (MK.out _ (KQ.kp ((Kp.refl _).alloc _) (by omega))) (fun hN => ?_)
      have B2n4 : Hid (((Y2.alloc rzo).alloc rzo).heap[Y2.heap.size]? = some rzo) := bl_alloc B2n3.out _
      have B1n4 : Hid (((Y2.alloc rzo).alloc rzo).heap[Y2.heap.size + 1]? = some rzo) := last_at _ _ _ (by simp)
      clear hKq K hH KQ
      have hH := hN
      clear hN
      have KQ := hH.2.2.2.2.2.2.out
      try simp only [Act.put, List.setIfInBounds_toArray, List.set_cons_zero, List.set_cons_succ]
      refine wpAnyH_ready (rs := [11]) (by kernel_rfl) (by simp) ?_
      refine AllReadyH.cons rfl (fun K hKq => ?_) AllReadyH.nil
      obtain ⟨U, hU⟩ : ∃ U, ((Y2.alloc rzo).alloc rzo) = U := ⟨_, rfl⟩
      rw [hU] at hH KQ B1n4 B2n4 ⊢
      have KU : Hid (Kp Y2 U) := by subst hU; exact (by repeat (first | exact Kp.refl _ | refine Kp.alloc ?_ _ | refine Kp.drew ?_))
      clear hU
      have v0 := bl_cell (B1n4.out) 0 _ rfl
      have fv0 := bl_frozen (B1n4.out) 0
      have v1 := bl_cell (B1n4.out) 1 _ rfl
      have fv1 := bl_frozen (B1n4.out) 1
      have v2 := bl_cell (B1n4.out) 2 _ rfl
      have fv2 := bl_frozen (B1n4.out) 2
      have v3 := bl_cell (B1n4.out) 3 _ rfl
      have fv3 := bl_frozen (B1n4.out) 3
      have v4 := bl_cell (B1n4.out) 4 _ rfl
      have fv4 := bl_frozen (B1n4.out) 4
      have v5 := bl_cell (B1n4.out) 5 _ rfl
      have fv5 := bl_frozen (B1n4.out) 5
      have v6 := bl_cell (B1n4.out) 6 _ rfl
      have fv6 := bl_frozen (B1n4.out) 6
      have v7 := bl_cell (B1n4.out) 7 _ rfl
      have fv7 := bl_frozen (B1n4.out) 7
      have v8 := bl_cell (B1n4.out) 8 _ rfl
      have fv8 := bl_frozen (B1n4.out) 8
      go_simp
      refine hKq.out _ _ (MK.out _ (Km.new (S := Y2.heap.size + 1) KQ (ks_set9 _ _ _ _ _ _ _ _ _) (by omega) (by omega))) (fun hN => ?_)
      clear v0 fv0 v1 fv1 v2 fv2 v3 fv3 v4 fv4 v5 fv5 v6 fv6 v7 fv7 v8 fv8
      have B1s := hid (bl_set9 B1n4.out (.int .i64 k1) (.int .i64 mn1) (.int .i64 mx1) (.int .i64 mm1) (.int .u64 (t1.a : Int)) (.int .u64 (t1.b : Int)) (.int .u64 (t1.c : Int)) (.int .u64 (t1.d : Int)) (.slice ad1 l1 c1))
      have F1s := hid (ks_set9 (w := U) (B := Y2.heap.size + 1) (.int .i64 k1) (.int .i64 mn1) (.int .i64 mx1) (.int .i64 mm1) (.int .u64 (t1.a : Int)) (.int .u64 (t1.b : Int)) (.int .u64 (t1.c : Int)) (.int .u64 (t1.d : Int)) (.slice ad1 l1 c1))
      have B2s := hid (bl_ks B2n4.out (by omega) F1s.out)
      clear hKq K hH KQ
      have hH := hN
      clear hN
      have KQ := hH.2.2.2.2.2.2.out
      try simp only [Act.put, List.setIfInBounds_toArray, List.set_cons_zero, List.set_cons_succ]
      refine wpAnyH_ready (rs := [12]) (by kernel_rfl) (by simp) ?_
      refine AllReadyH.cons rfl (fun K hKq => ?_) AllReadyH.nil
      have u0 := bl_cell (B2s.out) 0 _ rfl
      have fu0 := bl_frozen (B2s.out) 0
      have u1 := bl_cell (B2s.out) 1 _ rfl
      have fu1 := bl_frozen (B2s.out) 1
      have u2 := bl_cell (B2s.out) 2 _ rfl
      have fu2 := bl_frozen (B2s.out) 2
      have u3 := bl_cell (B2s.out) 3 _ rfl
      have fu3 := bl_frozen (B2s.out) 3
      have u4 := bl_cell (B2s.out) 4 _ rfl
      have fu4 := bl_frozen (B2s.out) 4
      have u5 := bl_cell (B2s.out) 5 _ rfl
      have fu5 := bl_frozen (B2s.out) 5
      have u6 := bl_cell (B2s.out) 6 _ rfl
      have fu6 := bl_frozen (B2s.out) 6
      have u7 := bl_cell (B2s.out) 7 _ rfl
      have fu7 := bl_frozen (B2s.out) 7
      have u8 := bl_cell (B2s.out) 8 _ rfl
      have fu8 := bl_frozen (B2s.out) 8
      go_simp
      refine hKq.out _ _ (MK.out _ (Km.new (S := Y2.heap.size) KQ (ks_set9 _ _ _ _ _ _ _ _ _) (by omega) (by omega))) (fun hN => ?_)
      clear u0 fu0 u1 fu1 u2 fu2 u3 fu3 u4 fu4 u5 fu5 u6 fu6 u7 fu7 u8 fu8
      clear hKq K hH KQ
      have hH := hN
      clear hN
      have KQ := hH.2.2.2.2.2.2.out
      try simp only [Act.put, List.setIfInBounds_toArray, List.set_cons_zero, List.set_cons_succ]
      refine wpAnyH_done (by kernel_rfl) ?_ _
      refine NoPanic.normal ?_
      go_wp2_with fail
      go_meet
      case rel => exact amid_of (u1 := W5.drew) (u2 := Y1) (u3 := U) hBw hm2 (by omega) K2.out (by repeat (first | exact Kp.refl _ | refine Kp.alloc ?_ _ | refine Kp.drew ?_)) KM1.out (by repeat (first | exact Kp.refl _ | refine Kp.alloc ?_ _ | refine Kp.drew ?_)) KU.out (by omega) (by omega) (by first | omega | (simp; omega) | simp) (by first | omega | (simp; omega) | simp) (by first | omega | (simp; omega) | simp) (by first | omega | (simp; omega) | simp) R2.out I1.out q1 q2 q3 SG1.out I2.out G2.out SG2.out F1s.out (ks_set9 _ _ _ _ _ _ _ _ _) (bl_ks B1s.out (by omega) (ks_set9 _ _ _ _ _ _ _ _ _)) (bl_set9 B2s.out _ _ _ _ _ _ _ _ _)
     exact AllReadyH.nil
    refine AllReadyH.cons rfl (fun K hKq => ?_) ?_
    ·
     go_simp
     refine hKq.out _ _ (MK.out _ (KQ.kp ((Kp.refl _).alloc _) (by omega))) (fun hN => ?_)
     have B1n2 : Hid ((Y1.alloc rzo).heap[Y1.heap.size]? = some rzo) := last_at _ _ _ (by simp)
     clear hKq K hH KQ
     have hH := hN
     clear hN
     have KQ := hH.2.2.2.2.2.2.out
     try simp only [Act.put, List.setIfInBounds_toArray, List.set_cons_zero, List.set_cons_succ]
     refine wpAnyH_ready (rs := [8, 10]) (by kernel_rfl) (by simp) ?_
     refine AllReadyH.cons rfl (fun K hKq => ?_) ?_
     ·
      go_simp
      refine (PS2.out _ (by repeat (first | exact Kp.refl _ | refine Kp.alloc ?_ _ | refine Kp.drew ?_))).mono ?_
      rintro e Y2 ⟨⟨T2, v2, g2, rfl, hI, hp1, hp2, hGn⟩⟩
      obtain ⟨k2, mn2, mx2, mm2, t2, ad2, l2, c2, rfl⟩ := hI.form
      have SG2 := hid (hp1 rfl).part
      have I2 := hid hI
      have G2 := hid hGn
      have hy2 := hGn.km.size
      try simp at hy2
      have B1n3 : Hid (Y2.heap[Y1.heap.size]? = some rzo) := bl_km B1n2.out (by omega) G2.out.km
      clear hI hp1 hp2 hGn PS2
      refine hKq.out _ _ (MK.out _ (KQ.trans G2.out.km)) (fun hN => ?_)
      clear hKq K hH KQ
      have hH := hN
      clear hN
      have KQ := hH.2.2.2.2.2.2.out
      try simp only [Act.put, List.setIfInBounds_toArray, List.set_cons_zero, List.set_cons_succ]
      refine wpAnyH_ready (rs := [10]) (by kernel_rfl) (by simp) ?_
      refine AllReadyH.cons rfl (fun K hKq => ?_) AllReadyH.nil
      go_simp
      refine hKq.out _ _ (MK.out _ (KQ.kp ((Kp.refl _).alloc _) (by omega))) (fun hN => ?_)
      have B1n4 : Hid ((Y2.alloc rzo).heap[Y1.heap.size]? = some rzo) := bl_alloc B1n3.out _
      have B2n4 : Hid ((Y2.alloc rzo).heap[Y2.heap.size]? = some rzo) := last_at _ _ _ (by simp)
      clear hKq K hH KQ
      have hH := hN
      clear hN
      have KQ := hH.2.2.2.2.2.2.out
      try simp only [Act.put, List.setIfInBounds_toArray, List.set_cons_zero, List.set_cons_succ]
      refine wpAnyH_ready (rs := [11]) (by kernel_rfl) (by simp) ?_
      refine AllReadyH.cons rfl (fun K hKq => ?_) AllReadyH.nil
      obtain ⟨U, hU⟩ : ∃ U, (Y2.alloc rzo) = U := ⟨_, rfl⟩
      rw [hU] at hH KQ B1n4 B2n4 ⊢
      have KU : Hid (Kp Y2 U) := by subst hU; exact (by repeat (first | exact Kp.refl _ | refine Kp.alloc ?_ _ | refine Kp.drew ?_))
      clear hU
      have v0 := bl_cell (B1n4.out) 0 _ rfl
      have fv0 := bl_frozen (B1n4.out) 0
      have v1 := bl_cell (B1n4.out) 1 _ rfl
      have fv1 := bl_frozen (B1n4.out) 1
      have v2 := bl_cell (B1n4.out) 2 _ rfl
      have fv2 := bl_frozen (B1n4.out) 2
      have v3 := bl_cell (B1n4.out) 3 _ rfl
      have fv3 := bl_frozen (B1n4.out) 3
      have v4 := bl_cell (B1n4.out) 4 _ rfl
      have fv4 := bl_frozen (B1n4.out) 4
      have v5 := bl_cell (B1n4.out) 5 _ rfl
      have fv5 := bl_frozen (B1n4.out) 5
      have v6 := bl_cell (B1n4.out) 6 _ rfl
      have fv6 := bl_frozen (B1n4.out) 6
      have v7 := bl_cell (B1n4.out) 7 _ rfl
      have fv7 := bl_frozen (B1n4.out) 7
      have v8 := bl_cell (B1n4.out) 8 _ rfl
      have fv8 := bl_frozen (B1n4.out) 8
      go_simp
      refine hKq.out _ _ (MK.out _ (Km.new (S := Y1.heap.size) KQ (ks_set9 _ _ _ _ _ _ _ _ _) (by omega) (by omega))) (fun hN => ?_)
      clear v0 fv0 v1 fv1 v2 fv2 v3 fv3 v4 fv4 v5 fv5 v6 fv6 v7 fv7 v8 fv8
      have B1s := hid (bl_set9 B1n4.out (.int .i64 k1) (.int .i64 mn1) (.int .i64 mx1) (.int .i64 mm1) (.int .u64 (t1.a : Int)) (.int .u64 (t1.b : Int)) (.int .u64 (t1.c : Int)) (.int .u64 (t1.d : Int)) (.slice ad1 l1 c1))
      have F1s := hid (ks_set9 (w := U) (B := Y1.heap.size) (.int .i64 k1) (.int .i64 mn1) (.int .i64 mx1) (.int .i64 mm1) (.int .u64 (t1.a : Int)) (.int .u64 (t1.b : Int)) (.int .u64 (t1.c : Int)) (.int .u64 (t1.d : Int)) (.slice ad1 l1 c1))
      have B2s := hid (bl_ks B2n4.out (by omega) F1s.out)
      clear hKq K hH KQ
      have hH := hN
      clear hN
      have KQ := hH.2.2.2.2.2.2.out
      try simp only [Act.put, List.setIfInBounds_toArray, List.set_cons_zero, List.set_cons_succ]
      refine wpAnyH_ready (rs := [12]) (by kernel_rfl) (by simp) ?_
      refine AllReadyH.cons rfl (fun K hKq => ?_) AllReadyH.nil
      have u0 := bl_cell (B2s.out) 0 _ rfl
      have fu0 := bl_frozen (B2s.out) 0
      have u1 := bl_cell (B2s.out) 1 _ rfl
      have fu1 := bl_frozen (B2s.out) 1
      have u2 := bl_cell (B2s.out) 2 _ rfl
      have fu2 := bl_frozen (B2s.out) 2
      have u3 := bl_cell (B2s.out) 3 _ rfl
      have fu3 := bl_frozen (B2s.out) 3
      have u4 := bl_cell (B2s.out) 4 _ rfl
      have fu4 := bl_frozen (B2s.out) 4
      have u5 := bl_cell (B2s.out) 5 _ rfl
      have fu5 := bl_frozen (B2s.out) 5
      have u6 := bl_cell (B2s.out) 6 _ rfl
      have fu6 := bl_frozen (B2s.out) 6
      have u7 := bl_cell (B2s.out) 7 _ rfl
      have fu7 := bl_frozen (B2s.out) 7
      have u8 := bl_cell (B2s.out) 8 _ rfl
      have fu8 := bl_frozen (B2s.out) 8
      go_simp
      refine hKq.out _ _ (MK.out _ (Km.new (S := Y2.heap.size) KQ (ks_set9 _ _ _ _ _ _ _ _ _) (by omega) (by omega))) (fun hN => ?_)
      clear u0 fu0 u1 fu1 u2 fu2 u3 fu3 u4 fu4 u5 fu5 u6 fu6 u7 fu7 u8 fu8
      clear hKq K hH KQ
      have hH := hN
      clear hN
      have KQ := hH.2.2.2.2.2.2.out
      try simp only [Act.put, List.setIfInBounds_toArray, List.set_cons_zero, List.set_cons_succ]
      refine wpAnyH_done (by kernel_rfl) ?_ _
      refine NoPanic.normal ?_
      go_wp2_with fail
      go_meet
      case rel => exact amid_of (u1 := W5.drew) (u2 := (Y1.alloc rzo)) (u3 := U) hBw hm2 (by omega) K2.out (by repeat (first | exact Kp.refl _ | refine Kp.alloc ?_ _ | refine Kp.drew ?_)) KM1.out (by repeat (first | exact Kp.refl _ | refine Kp.alloc ?_ _ | refine Kp.drew ?_)) KU.out (by omega) (by omega) (by first | omega | (simp; omega) | simp) (by first | omega | (simp; omega) | simp) (by first | omega | (simp; omega) | simp) (by first | omega | (simp; omega) | simp) R2.out I1.out q1 q2 q3 SG1.out I2.out G2.out SG2.out F1s.out (ks_set9 _ _ _ _ _ _ _ _ _) (bl_ks B1s.out (by omega) (ks_set9 _ _ _ _ _ _ _ _ _)) (bl_set9 B2s.out _ _ _ _ _ _ _ _ _)
     refine AllReadyH.cons rfl (fun K hKq => ?_) ?_
     ·
      go_simp
      refine hKq.out _ _ (MK.out _ (KQ.kp ((Kp.refl _).alloc _) (by omega))) (fun hN => ?_)
      have B1n3 : Hid (((Y1.alloc rzo).alloc rzo).heap[Y1.heap.size]? = some rzo) := bl_alloc B1n2.out _
      have B2n3 : Hid (((Y1.alloc rzo).alloc rzo).heap[Y1.heap.size + 1]? = some rzo) := last_at _ _ _ (by simp)
      clear hKq K hH KQ
      have hH := hN
      clear hN
      have KQ := hH.2.2.2.2.2.2.out
      try simp only [Act.put, List.setIfInBounds_toArray, List.set_cons_zero, List.set_cons_succ]
      refine wpAnyH_ready (rs := [8]) (by kernel_rfl) (by simp) ?_
      refine AllReadyH.cons rfl (fun K hKq => ?_) AllReadyH.nil
      go_simp
      refine (PS2.out _ (by repeat (first | exact Kp.refl _ | refine Kp.alloc ?_ _ | refine Kp.drew ?_))).mono ?_
      rintro e Y2 ⟨⟨T2, v2, g2, rfl, hI, hp1, hp2, hGn⟩⟩
      obtain ⟨k2, mn2, mx2, mm2, t2, ad2, l2, c2, rfl⟩ := hI.form
      have SG2 := hid (hp1 rfl).part
      have I2 := hid hI
      have G2 := hid hGn
      have hy2 := hGn.km.size
      try simp at hy2
      have B1n4 : Hid (Y2.heap[Y1.heap.size]? = some rzo) := bl_km B1n3.out (by omega) G2.out.km
      have B2n4 : Hid (Y2.heap[Y1.heap.size + 1]? = some rzo) := bl_km B2n3.out (by omega) G2.out.km
      clear hI hp1 hp2 hGn PS2
      refine hKq.out _ _ (MK.out _ (KQ.trans G2.out.km)) (fun hN => ?_)
      clear hKq K hH KQ
      have hH := hN
      clear hN
      have KQ := hH.2.2.2.2.2.2.out
      try simp only [Act.put, List.setIfInBounds_toArray, List.set_cons_zero, List.set_cons_succ]
      refine wpAnyH_ready (rs := [11]) (by kernel_rfl) (by simp) ?_
      refine AllReadyH.cons rfl (fun K hKq => ?_) AllReadyH.nil
      have v0 := bl_cell (B1n4.out) 0 _ rfl
      have fv0 := bl_frozen (B1n4.out) 0
      have v1 := bl_cell (B1n4.out) 1 _ rfl
      have fv1 := bl_frozen (B1n4.out) 1
      have v2 := bl_cell (B1n4.out) 2 _ rfl
      have fv2 := bl_frozen (B1n4.out) 2
      have v3 := bl_cell (B1n4.out) 3 _ rfl
      have fv3 := bl_frozen (B1n4.out) 3
      have v4 := bl_cell (B1n4.out) 4 _ rfl
      have fv4 := bl_frozen (B1n4.out) 4
      have v5 := bl_cell (B1n4.out) 5 _ rfl
      have fv5 := bl_frozen (B1n4.out) 5
      have v6 := bl_cell (B1n4.out) 6 _ rfl
      have fv6 := bl_frozen (B1n4.out) 6
      have v7 := bl_cell (B1n4.out) 7 _ rfl
      have fv7 := bl_frozen (B1n4.out) 7
      have v8 := bl_cell (B1n4.out) 8 _ rfl
      have fv8 := bl_frozen (B1n4.out) 8
      go_simp
      refine hKq.out _ _ (MK.out _ (Km.new (S := Y1.heap.size) KQ (ks_set9 _ _ _ _ _ _ _ _ _) (by omega) (by omega))) (fun hN => ?_)
      clear v0 fv0 v1 fv1 v2 fv2 v3 fv3 v4 fv4 v5 fv5 v6 fv6 v7 fv7 v8 fv8
      have B1s := hid (bl_set9 B1n4.out (.int .i64 k1) (.int .i64 mn1) (.int .i64 mx1) (.int .i64 mm1) (.int .u64 (t1.a : Int)) (.int .u64 (t1.b : Int)) (.int .u64 (t1.c : Int)) (.int .u64 (t1.d : Int)) (.slice ad1 l1 c1))
      have F1s := hid (ks_set9 (w := Y2) (B := Y1.heap.size) (.int .i64 k1) (.int .i64 mn1) (.int .i64 mx1) (.int .i64 mm1) (.int .u64 (t1.a : Int)) (.int .u64 (t1.b : Int)) (.int .u64 (t1.c : Int)) (.int .u64 (t1.d : Int)) (.slice ad1 l1 c1))
      have B2s := hid (bl_ks B2n4.out (by omega) F1s.out)
      clear hKq K hH KQ
      have hH := hN
      clear hN
      have KQ := hH.2.2.2.2.2.2.out
      try simp only [Act.put, List.setIfInBounds_toArray, List.set_cons_zero, List.set_cons_succ]
      refine wpAnyH_ready (rs := [12]) (by kernel_rfl) (by simp) ?_
      refine AllReadyH.cons rfl (fun K hKq => ?_) AllReadyH.nil
      have u0 := bl_cell (B2s.out) 0 _ rfl
      have fu0 := bl_frozen (B2s.out) 0
      have u1 := bl_cell (B2s.out) 1 _ rfl
      have fu1 := bl_frozen (B2s.out) 1
      have u2 := bl_cell (B2s.out) 2 _ rfl
      have fu2 := bl_frozen (B2s.out) 2
      have u3 := bl_cell (B2s.out) 3 _ rfl
      have fu3 := bl_frozen (B2s.out) 3
      have u4 := bl_cell (B2s.out) 4 _ rfl
      have fu4 := bl_frozen (B2s.out) 4
      have u5 := bl_cell (B2s.out) 5 _ rfl
      have fu5 := bl_frozen (B2s.out) 5
      have u6 := bl_cell (B2s.out) 6 _ rfl
      have fu6 := bl_frozen (B2s.out) 6
      have u7 := bl_cell (B2s.out) 7 _ rfl
      have fu7 := bl_frozen (B2s.out) 7
      have u8 := bl_cell (B2s.out) 8 _ rfl
      have fu8 := bl_frozen (B2s.out) 8
      go_simp
      refine hKq.out _ _ (MK.out _ (Km.new (S := Y1.heap.size + 1) KQ (ks_set9 _ _ _ _ _ _ _ _ _) (by omega) (by omega))) (fun hN => ?_)
      clear u0 fu0 u1 fu1 u2 fu2 u3 fu3 u4 fu4 u5 fu5 u6 fu6 u7 fu7 u8 fu8
      clear hKq K hH KQ
      have hH := hN
      clear hN
      have KQ := hH.2.2.2.2.2.2.out
      try simp only [Act.put, List.setIfInBounds_toArray, List.set_cons_zero, List.set_cons_succ]
      refine wpAnyH_done (by kernel_rfl) ?_ _
      refine NoPanic.normal ?_
      go_wp2_with fail
      go_meet
      case rel => exact amid_of (u1 := W5.drew) (u2 := ((Y1.alloc rzo).alloc rzo)) (u3 := Y2) hBw hm2 (by omega) K2.out (by repeat (first | exact Kp.refl _ | refine Kp.alloc ?_ _ | refine Kp.drew ?_)) KM1.out (by repeat (first | exact Kp.refl _ | refine Kp.alloc ?_ _ | refine Kp.drew ?_)) (Kp.refl _) (by omega) (by omega) (by first | omega | (simp; omega) | simp) (by first | omega | (simp; omega) | simp) (by first | omega | (simp; omega) | simp) (by first | omega | (simp; omega) | simp) R2.out I1.out q1 q2 q3 SG1.out I2.out G2.out SG2.out F1s.out (ks_set9 _ _ _ _ _ _ _ _ _) (bl_ks B1s.out (by omega) (ks_set9 _ _ _ _ _ _ _ _ _)) (bl_set9 B2s.out _ _ _ _ _ _ _ _ _)
     exact AllReadyH.nil
    refine AllReadyH.cons rfl (fun K hKq => ?_) ?_
    ·
     go_simp
     refine hKq.out _ _ (MK.out _ (KQ.kp ((Kp.refl _).alloc _) (by omega))) (fun hN => ?_)
     have B2n2 : Hid ((Y1.alloc rzo).heap[Y1.heap.size]? = some rzo) := last_at _ _ _ (by simp)
     clear hKq K hH KQ
     have hH := hN
     clear hN
     have KQ := hH.2.2.2.2.2.2.out
     try simp only [Act.put, List.setIfInBounds_toArray, List.set_cons_zero, List.set_cons_succ]
     refine wpAnyH_ready (rs := [8, 9]) (by kernel_rfl) (by simp) ?_
     refine AllReadyH.cons rfl (fun K hKq => ?_) ?_
     ·
      go_simp
      refine (PS2.out _ (by repeat (first | exact Kp.refl _ | refine Kp.alloc ?_ _ | refine Kp.drew ?_))).mono ?_
      rintro e Y2 ⟨⟨T2, v2, g2, rfl, hI, hp1, hp2, hGn⟩⟩
      obtain ⟨k2, mn2, mx2, mm2, t2, ad2, l2, c2, rfl⟩ := hI.form
      have SG2 := hid (hp1 rfl).part
      have I2 := hid hI
      have G2 := hid hGn
      have hy2 := hGn.km.size
      try simp at hy2
      have B2n3 : Hid (Y2.heap[Y1.heap.size]? = some rzo) := bl_km B2n2.out (by omega) G2.out.km
      clear hI hp1 hp2 hGn PS2
      refine hKq.out _ _ (MK.out _ (KQ.trans G2.out.km)) (fun hN => ?_)
      clear hKq K hH KQ
      have hH := hN
      clear hN
      have KQ := hH.2.2.2.2.2.2.out
      try simp only [Act.put, List.setIfInBounds_toArray, List.set_cons_zero, List.set_cons_succ]
      refine wpAnyH_ready (rs := [9]) (by kernel_rfl) (by simp) ?_
      refine AllReadyH.cons rfl (fun K hKq => ?_) AllReadyH.nil
      go_simp
      refine hKq.out _ _ (MK.out _ (KQ.kp ((Kp.refl _).alloc _) (by omega))) (fun hN => ?_)
      have B2n4 : Hid ((Y2.alloc rzo).heap[Y1.heap.size]? = some rzo) := bl_alloc B2n3.out _
      have B1n4 : Hid ((Y2.alloc rzo).heap[Y2.heap.size]? = some rzo) := last_at _ _ _ (by simp)
      clear hKq K hH KQ
      have hH := hN
      clear hN
      have KQ := hH.2.2.2.2.2.2.out
      try simp only [Act.put, List.setIfInBounds_toArray, List.set_cons_zero, List.set_cons_succ]
      refine wpAnyH_ready (rs := [11]) (by kernel_rfl) (by simp) ?_
      refine AllReadyH.cons rfl (fun K hKq => ?_) AllReadyH.nil
      obtain ⟨U, hU⟩ : ∃ U, (Y2.alloc rzo) = U := ⟨_, rfl⟩
      rw [hU] at hH KQ B1n4 B2n4 ⊢
      have KU : Hid (Kp Y2 U) := by subst hU; exact (by repeat (first | exact Kp.refl _ | refine Kp.alloc ?_ _ | refine Kp.drew ?_))
      clear hU
      have v0 := bl_cell (B1n4.out) 0 _ rfl
      have fv0 := bl_frozen (B1n4.out) 0
      have v1 := bl_cell (B1n4.out) 1 _ rfl
      have fv1 := bl_frozen (B1n4.out) 1
      have v2 := bl_cell (B1n4.out) 2 _ rfl
      have fv2 := bl_frozen (B1n4.out) 2
      have v3 := bl_cell (B1n4.out) 3 _ rfl
      have fv3 := bl_frozen (B1n4.out) 3
      have v4 := bl_cell (B1n4.out) 4 _ rfl
      have fv4 := bl_frozen (B1n4.out) 4
      have v5 := bl_cell (B1n4.out) 5 _ rfl
      have fv5 := bl_frozen (B1n4.out) 5
      have v6 := bl_cell (B1n4.out) 6 _ rfl
      have fv6 := bl_frozen (B1n4.out) 6
      have v7 := bl_cell (B1n4.out) 7 _ rfl
      have fv7 := bl_frozen (B1n4.out) 7
      have v8 := bl_cell (B1n4.out) 8 _ rfl
      have fv8 := bl_frozen (B1n4.out) 8
      go_simp
      refine hKq.out _ _ (MK.out _ (Km.new (S := Y2.heap.size) KQ (ks_set9 _ _ _ _ _ _ _ _ _) (by omega) (by omega))) (fun hN => ?_)
      clear v0 fv0 v1 fv1 v2 fv2 v3 fv3 v4 fv4 v5 fv5 v6 fv6 v7 fv7 v8 fv8
      have B1s := hid (bl_set9 B1n4.out (.int .i64 k1) (.int .i64 mn1) (.int .i64 mx1) (.int .i64 mm1) (.int .u64 (t1.a : Int)) (.int .u64 (t1.b : Int)) (.int .u64 (t1.c : Int)) (.int .u64 (t1.d : Int)) (.slice ad1 l1 c1))
      have F1s := hid (ks_set9 (w := U) (B := Y2.heap.size) (.int .i64 k1) (.int .i64 mn1) (.int .i64 mx1) (.int .i64 mm1) (.int .u64 (t1.a : Int)) (.int .u64 (t1.b : Int)) (.int .u64 (t1.c : Int)) (.int .u64 (t1.d : Int)) (.slice ad1 l1 c1))
      have B2s := hid (bl_ks B2n4.out (by omega) F1s.out)
      clear hKq K hH KQ
      have hH := hN
      clear hN
      have KQ := hH.2.2.2.2.2.2.out
      try simp only [Act.put, List.setIfInBounds_toArray, List.set_cons_zero, List.set_cons_succ]
      refine wpAnyH_ready (rs := [12]) (by kernel_rfl) (by simp) ?_
      refine AllReadyH.cons rfl (fun K hKq => ?_) AllReadyH.nil
      have u0 := bl_cell (B2s.out) 0 _ rfl
      have fu0 := bl_frozen (B2s.out) 0
      have u1 := bl_cell (B2s.out) 1 _ rfl
      have fu1 := bl_frozen (B2s.out) 1
      have u2 := bl_cell (B2s.out) 2 _ rfl
      have fu2 := bl_frozen (B2s.out) 2
      have u3 := bl_cell (B2s.out) 3 _ rfl
      have fu3 := bl_frozen (B2s.out) 3
      have u4 := bl_cell (B2s.out) 4 _ rfl
      have fu4 := bl_frozen (B2s.out) 4
      have u5 := bl_cell (B2s.out) 5 _ rfl
      have fu5 := bl_frozen (B2s.out) 5
      have u6 := bl_cell (B2s.out) 6 _ rfl
      have fu6 := bl_frozen (B2s.out) 6
      have u7 := bl_cell (B2s.out) 7 _ rfl
      have fu7 := bl_frozen (B2s.out) 7
      have u8 := bl_cell (B2s.out) 8 _ rfl
      have fu8 := bl_frozen (B2s.out) 8
      go_simp
      refine hKq.out _ _ (MK.out _ (Km.new (S := Y1.heap.size) KQ (ks_set9 _ _ _ _ _ _ _ _ _) (by omega) (by omega))) (fun hN => ?_)
      clear u0 fu0 u1 fu1 u2 fu2 u3 fu3 u4 fu4 u5 fu5 u6 fu6 u7 fu7 u8 fu8
      clear hKq K hH KQ
      have hH := hN
      clear hN
      have KQ := hH.2.2.2.2.2.2.out
      try simp only [Act.put, List.setIfInBounds_toArray, List.set_cons_zero, List.set_cons_succ]
      refine wpAnyH_done (by kernel_rfl) ?_ _
      refine NoPanic.normal ?_
      go_wp2_with fail
      go_meet
      case rel => exact amid_of (u1 := W5.drew) (u2 := (Y1.alloc rzo)) (u3 := U) hBw hm2 (by omega) K2.out (by repeat (first | exact Kp.refl _ | refine Kp.alloc ?_ _ | refine Kp.drew ?_)) KM1.out (by repeat (first | exact Kp.refl _ | refine Kp.alloc ?_ _ | refine Kp.drew ?_)) KU.out (by omega) (by omega) (by first | omega | (simp; omega) | simp) (by first | omega | (simp; omega) | simp) (by first | omega | (simp; omega) | simp) (by first | omega | (simp; omega) | simp) R2.out I1.out q1 q2 q3 SG1.out I2.out G2.out SG2.out F1s.out (ks_set9 _ _ _ _ _ _ _ _ _) (bl_ks B1s.out (by omega) (ks_set9 _ _ _ _ _ _ _ _ _)) (bl_set9 B2s.out _ _ _ _ _ _ _ _ _)
     refine AllReadyH.cons rfl (fun K hKq => ?_) ?_
     ·
      go_simp
      refine hKq.out _ _ (MK.out _ (KQ.kp ((Kp.refl _).alloc _) (by omega))) (fun hN => ?_)
      have B2n3 : Hid (((Y1.alloc rzo).alloc rzo).heap[Y1.heap.size]? = some rzo) := bl_alloc B2n2.out _
      have B1n3 : Hid (((Y1.alloc rzo).alloc rzo).heap[Y1.heap.size + 1]? = some rzo) := last_at _ _ _ (by simp)
      clear hKq K hH KQ
      have hH := hN
      clear hN
      have KQ := hH.2.2.2.2.2.2.out
      try simp only [Act.put, List.setIfInBounds_toArray, List.set_cons_zero, List.set_cons_succ]
      refine wpAnyH_ready (rs := [8]) (by kernel_rfl) (by simp) ?_
      refine AllReadyH.cons rfl (fun K hKq => ?_) AllReadyH.nil
      go_simp
      refine (PS2.out _ (by repeat (first | exact Kp.refl _ | refine Kp.alloc ?_ _ | refine Kp.drew ?_))).mono ?_
      rintro e Y2 ⟨⟨T2, v2, g2, rfl, hI, hp1, hp2, hGn⟩⟩
      obtain ⟨k2, mn2, mx2, mm2, t2, ad2, l2, c2, rfl⟩ := hI.form
      have SG2 := hid (hp1 rfl).part
      have I2 := hid hI
      have G2 := hid hGn
      have hy2 := hGn.km.size
      try simp at hy2
      have B1n4 : Hid (Y2.heap[Y1.heap.size + 1]? = some rzo) := bl_km B1n3.out (by omega) G2.out.km
      have B2n4 : Hid (Y2.heap[Y1.heap.size]? = some rzo) := bl_km B2n3.out (by omega) G2.out.km
      clear hI hp1 hp2 hGn PS2
      refine hKq.out _ _ (MK.out _ (KQ.trans G2.out.km)) (fun hN => ?_)
      clear hKq K hH KQ
      have hH := hN
      clear hN
      have KQ := hH.2.2.2.2.2.2.out
      try simp only [Act.put, List.setIfInBounds_toArray, List.set_cons_zero, List.set_cons_succ]
      refine wpAnyH_ready (rs := [11]) (by kernel_rfl) (by simp) ?_
      refine AllReadyH.cons rfl (fun K hKq => ?_) AllReadyH.nil
      have v0 := bl_cell (B1n4.out) 0 _ rfl
      have fv0 := bl_frozen (B1n4.out) 0
      have v1 := bl_cell (B1n4.out) 1 _ rfl
      have fv1 := bl_frozen (B1n4.out) 1
      have v2 := bl_cell (B1n4.out) 2 _ rfl
      have fv2 := bl_frozen (B1n4.out) 2
      have v3 := bl_cell (B1n4.out) 3 _ rfl
      have fv3 := bl_frozen (B1n4.out) 3
      have v4 := bl_cell (B1n4.out) 4 _ rfl
      have fv4 := bl_frozen (B1n4.out) 4
      have v5 := bl_cell (B1n4.out) 5 _ rfl
      have fv5 := bl_frozen (B1n4.out) 5
      have v6 := bl_cell (B1n4.out) 6 _ rfl
      have fv6 := bl_frozen (B1n4.out) 6
      have v7 := bl_cell (B1n4.out) 7 _ rfl
      have fv7 := bl_frozen (B1n4.out) 7
      have v8 := bl_cell (B1n4.out) 8 _ rfl
      have fv8 := bl_frozen (B1n4.out) 8
      go_simp
      refine hKq.out _ _ (MK.out _ (Km.new (S := Y1.heap.size + 1) KQ (ks_set9 _ _ _ _ _ _ _ _ _) (by omega) (by omega))) (fun hN => ?_)
      clear v0 fv0 v1 fv1 v2 fv2 v3 fv3 v4 fv4 v5 fv5 v6 fv6 v7 fv7 v8 fv8
      have B1s := hid (bl_set9 B1n4.out (.int .i64 k1) (.int .i64 mn1) (.int .i64 mx1) (.int .i64 mm1) (.int .u64 (t1.a : Int)) (.int .u64 (t1.b : Int)) (.int .u64 (t1.c : Int)) (.int .u64 (t1.d : Int)) (.slice ad1 l1 c1))
      have F1s := hid (ks_set9 (w := Y2) (B := Y1.heap.size + 1) (.int .i64 k1) (.int .i64 mn1) (.int .i64 mx1) (.int .i64 mm1) (.int .u64 (t1.a : Int)) (.int .u64 (t1.b : Int)) (.int .u64 (t1.c : Int)) (.int .u64 (t1.d : Int)) (.slice ad1 l1 c1))
      have B2s := hid (bl_ks B2n4.out (by omega) F1s.out)
      clear hKq K hH KQ
      have hH := hN
      clear hN
      have KQ := hH.2.2.2.2.2.2.out
      try simp only [Act.put, List.setIfInBounds_toArray, List.set_cons_zero, List.set_cons_succ]
      refine wpAnyH_ready (rs := [12]) (by kernel_rfl) (by simp) ?_
      refine AllReadyH.cons rfl (fun K hKq => ?_) AllReadyH.nil
      have u0 := bl_cell (B2s.out) 0 _ rfl
      have fu0 := bl_frozen (B2s.out) 0
      have u1 := bl_cell (B2s.out) 1 _ rfl
      have fu1 := bl_frozen (B2s.out) 1
      have u2 := bl_cell (B2s.out) 2 _ rfl
      have fu2 := bl_frozen (B2s.out) 2
      have u3 := bl_cell (B2s.out) 3 _ rfl
      have fu3 := bl_frozen (B2s.out) 3
      have u4 := bl_cell (B2s.out) 4 _ rfl
      have fu4 := bl_frozen (B2s.out) 4
      have u5 := bl_cell (B2s.out) 5 _ rfl
      have fu5 := bl_frozen (B2s.out) 5
      have u6 := bl_cell (B2s.out) 6 _ rfl
      have fu6 := bl_frozen (B2s.out) 6
      have u7 := bl_cell (B2s.out) 7 _ rfl
      have fu7 := bl_frozen (B2s.out) 7
      have u8 := bl_cell (B2s.out) 8 _ rfl
      have fu8 := bl_frozen (B2s.out) 8
      go_simp
      refine hKq.out _ _ (MK.out _ (Km.new (S := Y1.heap.size) KQ (ks_set9 _ _ _ _ _ _ _ _ _) (by omega) (by omega))) (fun hN => ?_)
      clear u0 fu0 u1 fu1 u2 fu2 u3 fu3 u4 fu4 u5 fu5 u6 fu6 u7 fu7 u8 fu8
      clear hKq K hH KQ
      have hH := hN
      clear hN
      have KQ := hH.2.2.2.2.2.2.out
      try simp only [Act.put, List.setIfInBounds_toArray, List.set_cons_zero, List.set_cons_succ]
      refine wpAnyH_done (by kernel_rfl) ?_ _
      refine NoPanic.normal ?_
      go_wp2_with fail
      go_meet
      case rel => exact amid_of (u1 := W5.drew) (u2 := ((Y1.alloc rzo).alloc rzo)) (u3 := Y2) hBw hm2 (by omega) K2.out (by repeat (first | exact Kp.refl _ | refine Kp.alloc ?_ _ | refine Kp.drew ?_)) KM1.out (by repeat (first | exact Kp.refl _ | refine Kp.alloc ?_ _ | refine Kp.drew ?_)) (Kp.refl _) (by omega) (by omega) (by first | omega | (simp; omega) | simp) (by first | omega | (simp; omega) | simp) (by first | omega | (simp; omega) | simp) (by first | omega | (simp; omega) | simp) R2.out I1.out q1 q2 q3 SG1.out I2.out G2.out SG2.out F1s.out (ks_set9 _ _ _ _ _ _ _ _ _) (bl_ks B1s.out (by omega) (ks_set9 _ _ _ _ _ _ _ _ _)) (bl_set9 B2s.out _ _ _ _ _ _ _ _ _)
     exact AllReadyH.nil
    exact AllReadyH.nil
   refine AllReadyH.cons rfl (fun K hKq => ?_) ?_
   ·
    go_simp
    refine hKq.out _ _ (MK.out _ (KQ.kp ((Kp.refl _).alloc _) (by omega))) (fun hN => ?_)
    have B1n1 : Hid ((W5.alloc rzo).heap[W5.heap.size]? = some rzo) := last_at _ _ _ (by simp)
    clear hKq K hH KQ
    have hH := hN
    clear hN
    have KQ := hH.2.2.2.2.2.2.out
    try simp only [Act.put, List.setIfInBounds_toArray, List.set_cons_zero, List.set_cons_succ]
    refine wpAnyH_ready (rs := [5, 10]) (by kernel_rfl) (by simp) ?_
    refine AllReadyH.cons rfl (fun K hKq => ?_) ?_
    ·
     go_simp
     refine (PS.out m hm1 hm2 _ (by repeat (first | exact Kp.refl _ | refine Kp.alloc ?_ _ | refine Kp.drew ?_))).mono ?_
     rintro e Y1 ⟨⟨T1, v1, g1, rfl, hI, hp1, hp2, hGn⟩⟩
     obtain ⟨k1, mn1, mx1, mm1, t1, ad1, l1, c1, rfl⟩ := hI.form
     have SG1 := hid (sg_of hg3 hm1 hm2 hp1 hp2)
     have I1 := hid hI
     have KM1 := hid hGn.km
     have hy1 := hGn.km.size
     try simp at hy1
     obtain ⟨x', z', hmk, q1, q2, q3⟩ := hGn.ex
     have hgg := SG1.out.g3
     have B1n2 : Hid (Y1.heap[W5.heap.size]? = some rzo) := bl_km (w := (W5.alloc rzo).drew) B1n1.out (by omega) KM1.out
     have PS2 := hid (fun (W : World) (k : Kp Y1 W) => parts_any aK lK cK aN lN cN true B d 1 x' g1 z' W (by omega) (by omega) HPS.out ⟨hmk.kp k, NKW.out _ ((Kp.km (B := B) (a := W5) (by repeat (first | exact Kp.refl _ | refine Kp.alloc ?_ _ | refine Kp.drew ?_)) (by omega)).trans (KM1.out.kp k (by first | omega | (simp; omega) | simp))), NNW.out _ ((Kp.km (B := B) (a := W5) (by repeat (first | exact Kp.refl _ | refine Kp.alloc ?_ _ | refine Kp.drew ?_)) (by omega)).trans (KM1.out.kp k (by first | omega | (simp; omega) | simp))), hgg, by omega, by omega, by omega⟩)
     clear hI hp1 hp2 hGn hmk
     refine hKq.out _ _ (MK.out _ (KQ.trans KM1.out)) (fun hN => ?_)
     clear hKq K hH KQ
     have hH := hN
     clear hN
     have KQ := hH.2.2.2.2.2.2.out
     try simp only [Act.put, List.setIfInBounds_toArray, List.set_cons_zero, List.set_cons_succ]
     refine wpAnyH_ready (rs := [8, 10]) (by kernel_rfl) (by simp) ?_
     refine AllReadyH.cons rfl (fun K hKq => ?_) ?_
     ·
      go_simp
      refine (PS2.out _ (by repeat (first | exact Kp.refl _ | refine Kp.alloc ?_ _ | refine Kp.drew ?_))).mono ?_
      rintro e Y2 ⟨⟨T2, v2, g2, rfl, hI, hp1, hp2, hGn⟩⟩
      obtain ⟨k2, mn2, mx2, mm2, t2, ad2, l2, c2, rfl⟩ := hI.form
      have SG2 := hid (hp1 rfl).part
      have I2 := hid hI
      have G2 := hid hGn
      have hy2 := hGn.km.size
      try simp at hy2
      have B1n3 : Hid (Y2.heap[W5.heap.size]? = some rzo) := bl_km B1n2.out (by omega) G2.out.km
      clear hI hp1 hp2 hGn PS2
      refine hKq.out _ _ (MK.out _ (KQ.trans G2.out.km)) (fun hN => ?_)
      clear hKq K hH KQ
      have hH := hN
      clear hN
      have KQ := hH.2.2.2.2.2.2.out
      try simp only [Act.put, List.setIfInBounds_toArray, List.set_cons_zero, List.set_cons_succ]
      refine wpAnyH_ready (rs := [10]) (by kernel_rfl) (by simp) ?_
      refine AllReadyH.cons rfl (fun K hKq => ?_) AllReadyH.nil
      go_simp
      refine hKq.out _ _ (MK.out _ (KQ.kp ((Kp.refl _).alloc _) (by omega))) (fun hN => ?_)
      have B1n4 : Hid ((Y2.alloc rzo).heap[W5.heap.size]? = some rzo) := bl_alloc B1n3.out _
      have B2n4 : Hid ((Y2.alloc rzo).heap[Y2.heap.size]? = some rzo) := last_at _ _ _ (by simp)
      clear hKq K hH KQ
      have hH := hN
      clear hN
      have KQ := hH.2.2.2.2.2.2.out
      try simp only [Act.put, List.setIfInBounds_toArray, List.set_cons_zero, List.set_cons_succ]
      refine wpAnyH_ready (rs := [11]) (by kernel_rfl) (by simp) ?_
      refine AllReadyH.cons rfl (fun K hKq => ?_) AllReadyH.nil
      obtain ⟨U, hU⟩ : ∃ U, (Y2.alloc rzo) = U := ⟨_, rfl⟩
      rw [hU] at hH KQ B1n4 B2n4 ⊢
      have KU : Hid (Kp Y2 U) := by subst hU; exact (by repeat (first | exact Kp.refl _ | refine Kp.alloc ?_ _ | refine Kp.drew ?_))
      clear hU
      have v0 := bl_cell (B1n4.out) 0 _ rfl
      have fv0 := bl_frozen (B1n4.out) 0
      have v1 := bl_cell (B1n4.out) 1 _ rfl
      have fv1 := bl_frozen (B1n4.out) 1
      have v2 := bl_cell (B1n4.out) 2 _ rfl
      have fv2 := bl_frozen (B1n4.out) 2
      have v3 := bl_cell (B1n4.out) 3 _ rfl
      have fv3 := bl_frozen (B1n4.out) 3
      have v4 := bl_cell (B1n4.out) 4 _ rfl
      have fv4 := bl_frozen (B1n4.out) 4
      have v5 := bl_cell (B1n4.out) 5 _ rfl
      have fv5 := bl_frozen (B1n4.out) 5
      have v6 := bl_cell (B1n4.out) 6 _ rfl
      have fv6 := bl_frozen (B1n4.out) 6
      have v7 := bl_cell (B1n4.out) 7 _ rfl
      have fv7 := bl_frozen (B1n4.out) 7
      have v8 := bl_cell (B1n4.out) 8 _ rfl
      have fv8 := bl_frozen (B1n4.out) 8
      go_simp
      refine hKq.out _ _ (MK.out _ (Km.new (S := W5.heap.size) KQ (ks_set9 _ _ _ _ _ _ _ _ _) (by omega) (by omega))) (fun hN => ?_)
      clear v0 fv0 v1 fv1 v2 fv2 v3 fv3 v4 fv4 v5 fv5 v6 fv6 v7 fv7 v8 fv8
      have B1s := hid (bl_set9 B1n4.out (.int .i64 k1) (.int .i64 mn1) (.int .i64 mx1) (.int .i64 mm1) (.int .u64 (t1.a : Int)) (.int .u64 (t1.b : Int)) (.int .u64 (t1.c : Int)) (.int .u64 (t1.d : Int)) (.slice ad1 l1 c1))
      have F1s := hid (ks_set9 (w := U) (B := W5.heap.size) (.int .i64 k1) (.int .i64 mn1) (.int .i64 mx1) (.int .i64 mm1) (.int .u64 (t1.a : Int)) (.int .u64 (t1.b : Int)) (.int .u64 (t1.c : Int)) (.int .u64 (t1.d : Int)) (.slice ad1 l1 c1))
      have B2s := hid (bl_ks B2n4.out (by omega) F1s.out)
      clear hKq K hH KQ
      have hH := hN
      clear hN
      have KQ := hH.2.2.2.2.2.2.out
      try simp only [Act.put, List.setIfInBounds_toArray, List.set_cons_zero, List.set_cons_succ]
      refine wpAnyH_ready (rs := [12]) (by kernel_rfl) (by simp) ?_
      refine AllReadyH.cons rfl (fun K hKq => ?_) AllReadyH.nil
      have u0 := bl_cell (B2s.out) 0 _ rfl
      have fu0 := bl_frozen (B2s.out) 0
      have u1 := bl_cell (B2s.out) 1 _ rfl
      have fu1 := bl_frozen (B2s.out) 1
      have u2 := bl_cell (B2s.out) 2 _ rfl
      have fu2 := bl_frozen (B2s.out) 2
      have u3 := bl_cell (B2s.out) 3 _ rfl
      have fu3 := bl_frozen (B2s.out) 3
      have u4 := bl_cell (B2s.out) 4 _ rfl
      have fu4 := bl_frozen (B2s.out) 4
      have u5 := bl_cell (B2s.out) 5 _ rfl
      have fu5 := bl_frozen (B2s.out) 5
      have u6 := bl_cell (B2s.out) 6 _ rfl
      have fu6 := bl_frozen (B2s.out) 6
      have u7 := bl_cell (B2s.out) 7 _ rfl
      have fu7 := bl_frozen (B2s.out) 7
      have u8 := bl_cell (B2s.out) 8 _ rfl
      have fu8 := bl_frozen (B2s.out) 8
      go_simp
      refine hKq.out _ _ (MK.out _ (Km.new (S := Y2.heap.size) KQ (ks_set9 _ _ _ _ _ _ _ _ _) (by omega) (by omega))) (fun hN => ?_)
      clear u0 fu0 u1 fu1 u2 fu2 u3 fu3 u4 fu4 u5 fu5 u6 fu6 u7 fu7 u8 fu8
      clear hKq K hH KQ
      have hH := hN
      clear hN
      have KQ := hH.2.2.2.2.2.2.out
      try simp only [Act.put, List.setIfInBounds_toArray, List.set_cons_zero, List.set_cons_succ]
      refine wpAnyH_done (by kernel_rfl) ?_ _
      refine NoPanic.normal ?_
      go_wp2_with fail
      go_meet
      case rel => exact amid_of (u1 := (W5.alloc rzo).drew) (u2 := Y1) (u3 := U) hBw hm2 (by omega) K2.out (by repeat (first | exact Kp.refl _ | refine Kp.alloc ?_ _ | refine Kp.drew ?_)) KM1.out (by repeat (first | exact Kp.refl _ | refine Kp.alloc ?_ _ | refine Kp.drew ?_)) KU.out (by omega) (by omega) (by first | omega | (simp; omega) | simp) (by first | omega | (simp; omega) | simp) (by first | omega | (simp; omega) | simp) (by first | omega | (simp; omega) | simp) R2.out I1.out q1 q2 q3 SG1.out I2.out G2.out SG2.out F1s.out (ks_set9 _ _ _ _ _ _ _ _ _) (bl_ks B1s.out (by omega) (ks_set9 _ _ _ _ _ _ _ _ _)) (bl_set9 B2s.out _ _ _ _ _ _ _ _ _)
     refine AllReadyH.cons rfl (fun K hKq => ?_) ?_
     ·
      go_simp
      refine hKq.out _ _ (MK.out _ (KQ.kp ((Kp.refl _).alloc _) (by omega))) (fun hN => ?_)
      have B1n3 : Hid ((Y1.alloc rzo).heap[W5.heap.size]? = some rzo) := bl_alloc B1n2.out _
      have B2n3 : Hid ((Y1.alloc rzo).heap[Y1.heap.size]? = some rzo) := last_at _ _ _ (by simp)
      clear hKq K hH KQ
      have hH := hN
      clear hN
      have KQ := hH.2.2.2.2.2.2.out
      try simp only [Act.put, List.setIfInBounds_toArray, List.set_cons_zero, List.set_cons_succ]
      refine wpAnyH_ready (rs := [8]) (by kernel_rfl) (by simp) ?_
      refine AllReadyH.cons rfl (fun K hKq => ?_) AllReadyH.nil
      go_simp
      refine (PS2.out _ (by repeat (first | exact Kp.refl _ | refine Kp.alloc ?_ _ | refine Kp.drew ?_))).mono ?_
      rintro e Y2 ⟨⟨T2, v2, g2, rfl, hI, hp1, hp2, hGn⟩⟩
      obtain ⟨k2, mn2, mx2, mm2, t2, ad2, l2, c2, rfl⟩ := hI.form
      have SG2 := hid (hp1 rfl).part
      have I2 := hid hI
      have G2 := hid hGn
      have hy2 := hGn.km.size
      try simp at hy2
      have B1n4 : Hid (Y2.heap[W5.heap.size]? = some rzo) := bl_km B1n3.out (by omega) G2.out.km
      have B2n4 : Hid (Y2.heap[Y1.heap.size]? = some rzo) := bl_km B2n3.out (by omega) G2.out.km
      clear hI hp1 hp2 hGn PS2
      refine hKq.out _ _ (MK.out _ (KQ.trans G2.out.km)) (fun hN => ?_)
      clear hKq K hH KQ
      have hH := hN
      clear hN
      have KQ := hH.2.2.2.2.2.2.out
      try simp only [Act.put, List.setIfInBounds_toArray, List.set_cons_zero, List.set_cons_succ]
      refine wpAnyH_ready (rs := [11]) (by kernel_rfl) (by simp) ?_
      refine AllReadyH.cons rfl (fun K hKq => ?_) AllReadyH.nil
      have v0 := bl_cell (B1n4.out) 0 _ rfl
      have fv0 := bl_frozen (B1n4.out) 0
      have v1 := bl_cell (B1n4.out) 1 _ rfl
      have fv1 := bl_frozen (B1n4.out) 1
      have v2 := bl_cell (B1n4.out) 2 _ rfl
      have fv2 := bl_frozen (B1n4.out) 2
      have v3 := bl_cell (B1n4.out) 3 _ rfl
      have fv3 := bl_frozen (B1n4.out) 3
      have v4 := bl_cell (B1n4.out) 4 _ rfl
      have fv4 := bl_frozen (B1n4.out) 4
      have v5 := bl_cell (B1n4.out) 5 _ rfl
      have fv5 := bl_frozen (B1n4.out) 5
      have v6 := bl_cell (B1n4.out) 6 _ rfl
      have fv6 := bl_frozen (B1n4.out) 6
      have v7 := bl_cell (B1n4.out) 7 _ rfl
      have fv7 := bl_frozen (B1n4.out) 7
      have v8 := bl_cell (B1n4.out) 8 _ rfl
      have fv8 := bl_frozen (B1n4.out) 8
      go_simp
      refine hKq.out _ _ (MK.out _ (Km.new (S := W5.heap.size) KQ (ks_set9 _ _ _ _ _ _ _ _ _) (by omega) (by omega))) (fun hN => ?_)
      clear v0 fv0 v1 fv1 v2 fv2 v3 fv3 v4 fv4 v5 fv5 v6 fv6 v7 fv7 v8 fv8
      have B1s := hid (bl_set9 B1n4.out (.int .i64 k1) (.int .i64 mn1) (.int .i64 mx1) (.int .i64 mm1) (.int .u64 (t1.a : Int)) (.int .u64 (t1.b : Int)) (.int .u64 (t1.c : Int)) (.int .u64 (t1.d : Int)) (.slice ad1 l1 c1))
      have F1s := hid (ks_set9 (w := Y2) (B := W5.heap.size) (.int .i64 k1) (.int .i64 mn1) (.int .i64 mx1) (.int .i64 mm1) (.int .u64 (t1.a : Int)) (.int .u64 (t1.b : Int)) (.int .u64 (t1.c : Int)) (.int .u64 (t1.d : Int)) (.slice ad1 l1 c1))
      have B2s := hid (bl_ks B2n4.out (by omega) F1s.out)
      clear hKq K hH KQ
      have hH := hN
      clear hN
      have KQ := hH.2.2.2.2.2.2.out
      try simp only [Act.put, List.setIfInBounds_toArray, List.set_cons_zero, List.set_cons_succ]
      refine wpAnyH_ready (rs := [12]) (by kernel_rfl) (by simp) ?_
      refine AllReadyH.cons rfl (fun K hKq => ?_) AllReadyH.nil
      have u0 := bl_cell (B2s.out) 0 _ rfl
      have fu0 := bl_frozen (B2s.out) 0
      have u1 := bl_cell (B2s.out) 1 _ rfl
      have fu1 := bl_frozen (B2s.out) 1
      have u2 := bl_cell (B2s.out) 2 _ rfl
      have fu2 := bl_frozen (B2s.out) 2
      have u3 := bl_cell (B2s.out) 3 _ rfl
      have fu3 := bl_frozen (B2s.out) 3
      have u4 := bl_cell (B2s.out) 4 _ rfl
      have fu4 := bl_frozen (B2s.out) 4
      have u5 := bl_cell (B2s.out) 5 _ rfl
      have fu5 := bl_frozen (B2s.out) 5
      have u6 := bl_cell (B2s.out) 6 _ rfl
      have fu6 := bl_frozen (B2s.out) 6
      have u7 := bl_cell (B2s.out) 7 _ rfl
      have fu7 := bl_frozen (B2s.out) 7
      have u8 := bl_cell (B2s.out) 8 _ rfl
      have fu8 := bl_frozen (B2s.out) 8
      go_simp
      refine hKq.out _ _ (MK.out _ (Km.new (S := Y1.heap.size) KQ (ks_set9 _ _ _ _ _ _ _ _ _) (by omega) (by omega))) (fun hN => ?_)
      clear u0 fu0 u1 fu1 u2 fu2 u3 fu3 u4 fu4 u5 fu5 u6 fu6 u7 fu7 u8 fu8
      clear hKq K hH KQ
      have hH := hN
      clear hN
      have KQ := hH.2.2.2.2.2.2.out
      try simp only [Act.put, List.setIfInBounds_toArray, List.set_cons_zero, List.set_cons_succ]
      refine wpAnyH_done (by kernel_rfl) ?_ _
      refine NoPanic.normal ?_
      go_wp2_with fail
      go_meet
      case rel => exact amid_of (u1 := (W5.alloc rzo).drew) (u2 := (Y1.alloc rzo)) (u3 := Y2) hBw hm2 (by omega) K2.out (by repeat (first | exact Kp.refl _ | refine Kp.alloc ?_ _ | refine Kp.drew ?_)) KM1.out (by repeat (first | exact Kp.refl _ | refine Kp.alloc ?_ _ | refine Kp.drew ?_)) (Kp.refl _) (by omega) (by omega) (by first | omega | (simp; omega) | simp) (by first | omega | (simp; omega) | simp) (by first | omega | (simp; omega) | simp) (by first | omega | (simp; omega) | simp) R2.out I1.out q1 q2 q3 SG1.out I2.out G2.out SG2.out F1s.out (ks_set9 _ _ _ _ _ _ _ _ _) (bl_ks B1s.out (by omega) (ks_set9 _ _ _ _ _ _ _ _ _)) (bl_set9 B2s.out _ _ _ _ _ _ _ _ _)
     exact AllReadyH.nil
    refine AllReadyH.cons rfl (fun K hKq => ?_) ?_
    ·
     go_simp
     refine hKq.out _ _ (MK.out _ (KQ.kp ((Kp.refl _).alloc _) (by omega))) (fun hN => ?_)
     have B1n2 : Hid (((W5.alloc rzo).alloc rzo).heap[W5.heap.size]? = some rzo) := bl_alloc B1n1.out _
     have B2n2 : Hid (((W5.alloc rzo).alloc rzo).heap[W5.heap.size + 1]? = some rzo) := last_at _ _ _ (by simp)
     clear hKq K hH KQ
     have hH := hN
     clear hN
     have KQ := hH.2.2.2.2.2.2.out
     try simp only [Act.put, List.setIfInBounds_toArray, List.set_cons_zero, List.set_cons_succ]
     refine wpAnyH_ready (rs := [5]) (by kernel_rfl) (by simp) ?_
     refine AllReadyH.cons rfl (fun K hKq => ?_) AllReadyH.nil
     go_simp
     refine (PS.out m hm1 hm2 _ (by repeat (first | exact Kp.refl _ | refine Kp.alloc ?_ _ | refine Kp.drew ?_))).mono ?_
     rintro e Y1 ⟨⟨T1, v1, g1, rfl, hI, hp1, hp2, hGn⟩⟩
     obtain ⟨k1, mn1, mx1, mm1, t1, ad1, l1, c1, rfl⟩ := hI.form
     have SG1 := hid (sg_of hg3 hm1 hm2 hp1 hp2)
     have I1 := hid hI
     have KM1 := hid hGn.km
     have hy1 := hGn.km.size
     try simp at hy1
     obtain ⟨x', z', hmk, q1, q2, q3⟩ := hGn.ex
     have hgg := SG1.out.g3
     have B1n3 : Hid (Y1.heap[W5.heap.size]? = some rzo) := bl_km (w := ((W5.alloc rzo).alloc rzo).drew) B1n2.out (by omega) KM1.out
     have B2n3 : Hid (Y1.heap[W5.heap.size + 1]? = some rzo) := bl_km (w := ((W5.alloc rzo).alloc rzo).drew) B2n2.out (by omega) KM1.out
     have PS2 := hid (fun (W : World) (k : Kp Y1 W) => parts_any aK lK cK aN lN cN true B d 1 x' g1 z' W (by omega) (by omega) HPS.out ⟨hmk.kp k, NKW.out _ ((Kp.km (B := B) (a := W5) (by repeat (first | exact Kp.refl _ | refine Kp.alloc ?_ _ | refine Kp.drew ?_)) (by omega)).trans (KM1.out.kp k (by first | omega | (simp; omega) | simp))), NNW.out _ ((Kp.km (B := B) (a := W5) (by repeat (first | exact Kp.refl _ | refine Kp.alloc ?_ _ | refine Kp.drew ?_)) (by omega)).trans (KM1.out.kp k (by first | omega | (simp; omega) | simp))), hgg, by omega, by omega, by omega⟩)
     clear hI hp1 hp2 hGn hmk
     refine hKq.out _ _ (MK.out _ (KQ.trans KM1.out)) (fun hN => ?_)
     clear hKq K hH KQ
     have hH := hN
     clear hN
     have KQ := hH.2.2.2.2.2.2.out
     try simp only [Act.put, List.setIfInBounds_toArray, List.set_cons_zero, List.set_cons_succ]
     refine wpAnyH_ready (rs := [8]) (by kernel_rfl) (by simp) ?_
     refine AllReadyH.cons rfl (fun K hKq => ?_) AllReadyH.nil
     go_simp
     refine (PS2.out _ (by repeat (first | exact Kp.refl _ | refine Kp.alloc ?_ _ | refine Kp.drew ?_))).mono ?_
     rintro e Y2 ⟨⟨T2, v2, g2, rfl, hI, hp1, hp2, hGn⟩⟩
     obtain ⟨k2, mn2, mx2, mm2, t2, ad2, l2, c2, rfl⟩ := hI.form
     have SG2 := hid (hp1 rfl).part
     have I2 := hid hI
     have G2 := hid hGn
     have hy2 := hGn.km.size
     try simp at hy2
     have B1n4 : Hid (Y2.heap[W5.heap.size]? = some rzo) := bl_km B1n3.out (by omega) G2.out.km
     have B2n4 : Hid (Y2.heap[W5.heap.size + 1]? = some rzo) := bl_km B2n3.out (by omega) G2.out.km
     clear hI hp1 hp2 hGn PS2
     refine hKq.out _ _ (MK.out _ (KQ.trans G2.out.km)) (fun hN => ?_)
     clear hKq K hH KQ
     have hH := hN
     clear hN
     have KQ := hH.2.2.2.2.2.2.out
     try simp only [Act.put, List.setIfInBounds_toArray, List.set_cons_zero, List.set_cons_succ]
     refine wpAnyH_ready (rs := [11]) (by kernel_rfl) (by simp) ?_
     refine AllReadyH.cons rfl (fun K hKq => ?_) AllReadyH.nil
     have v0 := bl_cell (B1n4.out) 0 _ rfl
     have fv0 := bl_frozen (B1n4.out) 0
     have v1 := bl_cell (B1n4.out) 1 _ rfl
     have fv1 := bl_frozen (B1n4.out) 1
     have v2 := bl_cell (B1n4.out) 2 _ rfl
     have fv2 := bl_frozen (B1n4.out) 2
     have v3 := bl_cell (B1n4.out) 3 _ rfl
     have fv3 := bl_frozen (B1n4.out) 3
     have v4 := bl_cell (B1n4.out) 4 _ rfl
     have fv4 := bl_frozen (B1n4.out) 4
     have v5 := bl_cell (B1n4.out) 5 _ rfl
     have fv5 := bl_frozen (B1n4.out) 5
     have v6 := bl_cell (B1n4.out) 6 _ rfl
     have fv6 := bl_frozen (B1n4.out) 6
     have v7 := bl_cell (B1n4.out) 7 _ rfl
     have fv7 := bl_frozen (B1n4.out) 7
     have v8 := bl_cell (B1n4.out) 8 _ rfl
     have fv8 := bl_frozen (B1n4.out) 8
     go_simp
     refine hKq.out _ _ (MK.out _ (Km.new (S := W5.heap.size) KQ (ks_set9 _ _ _ _ _ _ _ _ _) (by omega) (by omega))) (fun hN => ?_)
     clear v0 fv0 v1 fv1 v2 fv2 v3 fv3 v4 fv4 v5 fv5 v6 fv6 v7 fv7 v8 fv8
     have B1s := hid (bl_set9 B1n4.out (.int .i64 k1) (.int .i64 mn1) (.int .i64 mx1) (.int .i64 mm1) (.int .u64 (t1.a : Int)) (.int .u64 (t1.b : Int)) (.int .u64 (t1.c : Int)) (.int .u64 (t1.d : Int)) (.slice ad1 l1 c1))
     have F1s := hid (ks_set9 (w := Y2) (B := W5.heap.size) (.int .i64 k1) (.int .i64 mn1) (.int .i64 mx1) (.int .i64 mm1) (.int .u64 (t1.a : Int)) (.int .u64 (t1.b : Int)) (.int .u64 (t1.c : Int)) (.int .u64 (t1.d : Int)) (.slice ad1 l1 c1))
     have B2s := hid (bl_ks B2n4.out (by omega) F1s.out)
     clear hKq K hH KQ
     have hH := hN
     clear hN
     have KQ := hH.2.2.2.2.2.2.out
     try simp only [Act.put, List.setIfInBounds_toArray, List.set_cons_zero, List.set_cons_succ]
     refine wpAnyH_ready (rs := [12]) (by kernel_rfl) (by simp) ?_
     refine AllReadyH.cons rfl (fun K hKq => ?_) AllReadyH.nil
     have u0 := bl_cell (B2s.out) 0 _ rfl
     have fu0 := bl_frozen (B2s.out) 0
     have u1 := bl_cell (B2s.out) 1 _ rfl
     have fu1 := bl_frozen (B2s.out) 1
     have u2 := bl_cell (B2s.out) 2 _ rfl
     have fu2 := bl_frozen (B2s.out) 2
     have u3 := bl_cell (B2s.out) 3 _ rfl
     have fu3 := bl_frozen (B2s.out) 3
     have u4 := bl_cell (B2s.out) 4 _ rfl
     have fu4 := bl_frozen (B2s.out) 4
     have u5 := bl_cell (B2s.out) 5 _ rfl
     have fu5 := bl_frozen (B2s.out) 5
     have u6 := bl_cell (B2s.out) 6 _ rfl
     have fu6 := bl_frozen (B2s.out) 6
     have u7 := bl_cell (B2s.out) 7 _ rfl
     have fu7 := bl_frozen (B2s.out) 7
     have u8 := bl_cell (B2s.out) 8 _ rfl
     have fu8 := bl_frozen (B2s.out) 8
     go_simp
     refine hKq.out _ _ (MK.out _ (Km.new (S := W5.heap.size + 1) KQ (ks_set9 _ _ _ _ _ _ _ _ _) (by omega) (by omega))) (fun hN => ?_)
     clear u0 fu0 u1 fu1 u2 fu2 u3 fu3 u4 fu4 u5 fu5 u6 fu6 u7 fu7 u8 fu8
     clear hKq K hH KQ
     have hH := hN
     clear hN
     have KQ := hH.2.2.2.2.2.2.out
     try simp only [Act.put, List.setIfInBounds_toArray, List.set_cons_zero, List.set_cons_succ]
     refine wpAnyH_done (by kernel_rfl) ?_ _
     refine NoPanic.normal ?_
     go_wp2_with fail
     go_meet
     case rel => exact amid_of (u1 := ((W5.alloc rzo).alloc rzo).drew) (u2 := Y1) (u3 := Y2) hBw hm2 (by omega) K2.out (by repeat (first | exact Kp.refl _ | refine Kp.alloc ?_ _ | refine Kp.drew ?_)) KM1.out (by repeat (first | exact Kp.refl _ | refine Kp.alloc ?_ _ | refine Kp.drew ?_)) (Kp.refl _) (by omega) (by omega) (by first | omega | (simp; omega) | simp) (by first | omega | (simp; omega) | simp) (by first | omega | (simp; omega) | simp) (by first | omega | (simp; omega) | simp) R2.out I1.out q1 q2 q3 SG1.out I2.out G2.out SG2.out F1s.out (ks_set9 _ _ _ _ _ _ _ _ _) (bl_ks B1s.out (by omega) (ks_set9 _ _ _ _ _ _ _ _ _)) (bl_set9 B2s.out _ _ _ _ _ _ _ _ _)
    exact AllReadyH.nil
   refine AllReadyH.cons rfl (fun K hKq => ?_) ?_
   ·
    go_simp
    refine hKq.out _ _ (MK.out _ (KQ.kp ((Kp.refl _).alloc _) (by omega))) (fun hN => ?_)
    have B2n1 : Hid ((W5.alloc rzo).heap[W5.heap.size]? = some rzo) := last_at _ _ _ (by simp)
    clear hKq K hH KQ
    have hH := hN
    clear hN
    have KQ := hH.2.2.2.2.2.2.out
    try simp only [Act.put, List.setIfInBounds_toArray, List.set_cons_zero, List.set_cons_succ]
    refine wpAnyH_ready (rs := [5, 9]) (by kernel_rfl) (by simp) ?_
    refine AllReadyH.cons rfl (fun K hKq => ?_) ?_
    ·
     go_simp
     refine (PS.out m hm1 hm2 _ (by repeat (first | exact Kp.refl _ | refine Kp.alloc ?_ _ | refine Kp.drew ?_))).mono ?_
     rintro e Y1 ⟨⟨T1, v1, g1, rfl, hI, hp1, hp2, hGn⟩⟩
     obtain ⟨k1, mn1, mx1, mm1, t1, ad1, l1, c1, rfl⟩ := hI.form
     have SG1 := hid (sg_of hg3 hm1 hm2 hp1 hp2)
     have I1 := hid hI
     have KM1 := hid hGn.km
     have hy1 := hGn.km.size
     try simp at hy1
     obtain ⟨x', z', hmk, q1, q2, q3⟩ := hGn.ex
     have hgg := SG1.out.g3
     have B2n2 : Hid (Y1.heap[W5.heap.size]? = some rzo) := bl_km (w := (W5.alloc rzo).drew) B2n1.out (by omega) KM1.out
     have PS2 := hid (fun (W : World) (k : Kp Y1 W) => parts_any aK lK cK aN lN cN true B d 1 x' g1 z' W (by omega) (by omega) HPS.out ⟨hmk.kp k, NKW.out _ ((Kp.km (B := B) (a := W5) (by repeat (first | exact Kp.refl _ | refine Kp.alloc ?_ _ | refine Kp.drew ?_)) (by omega)).trans (KM1.out.kp k (by first | omega | (simp; omega) | simp))), NNW.out _ ((Kp.km (B := B) (a := W5) (by repeat (first | exact Kp.refl _ | refine Kp.alloc ?_ _ | refine Kp.drew ?_)) (by omega)).trans (KM1.out.kp k (by first | omega | (simp; omega) | simp))), hgg, by omega, by omega, by omega⟩)
     clear hI hp1 hp2 hGn hmk
     refine hKq.out _ _ (MK.out _ (KQ.trans KM1.out)) (fun hN => ?_)
     clear hKq K hH KQ
     have hH := hN
     clear hN
     have KQ := hH.2.2.2.2.2.2.out
     try simp only [Act.put, List.setIfInBounds_toArray, List.set_cons_zero, List.set_cons_succ]
     refine wpAnyH_ready (rs := [8, 9]) (by kernel_rfl) (by simp) ?_
     refine AllReadyH.cons rfl (fun K hKq => ?_) ?_
     ·
      go_simp
      refine (PS2.out _ (by repeat (first | exact Kp.refl _ | refine Kp.alloc ?_ _ | refine Kp.drew ?_))).mono ?_
      rintro e Y2 ⟨⟨T2, v2, g2, rfl, hI, hp1, hp2, hGn⟩⟩
      obtain ⟨k2, mn2, mx2, mm2, t2, ad2, l2, c2, rfl⟩ := hI.form
      have SG2 := hid (hp1 rfl).part
      have I2 := hid hI
      have G2 := hid hGn
      have hy2 := hGn.km.size
      try simp at hy2
      have B2n3 : Hid (Y2.heap[W5.heap.size]? = some rzo) := bl_km B2n2.out (by omega) G2.out.km
      clear hI hp1 hp2 hGn PS2
      refine hKq.out _ _ (MK.out _ (KQ.trans G2.out.km)) (fun hN => ?_)
      clear hKq K hH KQ
      have hH := hN
      clear hN
      have KQ := hH.2.2.2.2.2.2.out
      try simp only [Act.put, List.setIfInBounds_toArray, List.set_cons_zero, List.set_cons_succ]
      refine wpAnyH_ready (rs := [9]) (by kernel_rfl) (by simp) ?_
      refine AllReadyH.cons rfl (fun K hKq => ?_) AllReadyH.nil
      go_simp
      refine hKq.out _ _ (MK.out _ (KQ.kp ((Kp.refl _).alloc _) (by omega))) (fun hN => ?_)
      have B2n4 : Hid ((Y2.alloc rzo).heap[W5.heap.size]? = some rzo) := bl_alloc B2n3.out _
      have B1n4 : Hid ((Y2.alloc rzo).heap[Y2.heap.size]? = some rzo) := last_at _ _ _ (by simp)
      clear hKq K hH KQ
      have hH := hN
      clear hN
      have KQ := hH.2.2.2.2.2.2.out
      try simp only [Act.put, List.setIfInBounds_toArray, List.set_cons_zero, List.set_cons_succ]
      refine wpAnyH_ready (rs := [11]) (by kernel_rfl) (by simp) ?_
      refine AllReadyH.cons rfl (fun K hKq => ?_) AllReadyH.nil
      obtain ⟨U, hU⟩ : ∃ U, (Y2.alloc rzo) = U := ⟨_, rfl⟩
      rw [hU] at hH KQ B1n4 B2n4 ⊢
      have KU : Hid (Kp Y2 U) := by subst hU; exact (by repeat (first | exact Kp.refl _ | refine Kp.alloc ?_ _ | refine Kp.drew ?_))
      clear hU
      have v0 := bl_cell (B1n4.out) 0 _ rfl
      have fv0 := bl_frozen (B1n4.out) 0
      have v1 := bl_cell (B1n4.out) 1 _ rfl
      have fv1 := bl_frozen (B1n4.out) 1
      have v2 := bl_cell (B1n4.out) 2 _ rfl
      have fv2 := bl_frozen (B1n4.out) 2
      have v3 := bl_cell (B1n4.out) 3 _ rfl
      have fv3 := bl_frozen (B1n4.out) 3
      have v4 := bl_cell (B1n4.out) 4 _ rfl
      have fv4 := bl_frozen (B1n4.out) 4
      have v5 := bl_cell (B1n4.out) 5 _ rfl
      have fv5 := bl_frozen (B1n4.out) 5
      have v6 := bl_cell (B1n4.out) 6 _ rfl
      have fv6 := bl_frozen (B1n4.out) 6
      have v7 := bl_cell (B1n4.out) 7 _ rfl
      have fv7 := bl_frozen (B1n4.out) 7
      have v8 := bl_cell (B1n4.out) 8 _ rfl
      have fv8 := bl_frozen (B1n4.out) 8
      go_simp
      refine hKq.out _ _ (MK.out _ (Km.new (S := Y2.heap.size) KQ (ks_set9 _ _ _ _ _ _ _ _ _) (by omega) (by omega))) (fun hN => ?_)
      clear v0 fv0 v1 fv1 v2 fv2 v3 fv3 v4 fv4 v5 fv5 v6 fv6 v7 fv7 v8 fv8
      have B1s := hid (bl_set9 B1n4.out (.int .i64 k1) (.int .i64 mn1) (.int .i64 mx1) (.int .i64 mm1) (.int .u64 (t1.a : Int)) (.int .u64 (t1.b : Int)) (.int .u64 (t1.c : Int)) (.int .u64 (t1.d : Int)) (.slice ad1 l1 c1))
      have F1s := hid (ks_set9 (w := U) (B := Y2.heap.size) (.int .i64 k1) (.int .i64 mn1) (.int .i64 mx1) (.int .i64 mm1) (.int .u64 (t1.a : Int)) (.int .u64 (t1.b : Int)) (.int .u64 (t1.c : Int)) (.int .u64 (t1.d : Int)) (.slice ad1 l1 c1))
      have B2s := hid (bl_ks B2n4.out (by omega) F1s.out)
      clear hKq K hH KQ
      have hH := hN
      clear hN
      have KQ := hH.2.2.2.2.2.2.out
      try simp only [Act.put, List.setIfInBounds_toArray, List.set_cons_zero, List.set_cons_succ]
      refine wpAnyH_ready (rs := [12]) (by kernel_rfl) (by simp) ?_
      refine AllReadyH.cons rfl (fun K hKq => ?_) AllReadyH.nil
      have u0 := bl_cell (B2s.out) 0 _ rfl
      have fu0 := bl_frozen (B2s.out) 0
      have u1 := bl_cell (B2s.out) 1 _ rfl
      have fu1 := bl_frozen (B2s.out) 1
      have u2 := bl_cell (B2s.out) 2 _ rfl
      have fu2 := bl_frozen (B2s.out) 2
      have u3 := bl_cell (B2s.out) 3 _ rfl
      have fu3 := bl_frozen (B2s.out) 3
      have u4 := bl_cell (B2s.out) 4 _ rfl
      have fu4 := bl_frozen (B2s.out) 4
      have u5 := bl_cell (B2s.out) 5 _ rfl
      have fu5 := bl_frozen (B2s.out) 5
      have u6 := bl_cell (B2s.out) 6 _ rfl
      have fu6 := bl_frozen (B2s.out) 6
      have u7 := bl_cell (B2s.out) 7 _ rfl
      have fu7 := bl_frozen (B2s.out) 7
      have u8 := bl_cell (B2s.out) 8 _ rfl
      have fu8 := bl_frozen (B2s.out) 8
      go_simp
      refine hKq.out _ _ (MK.out _ (Km.new (S := W5.heap.size) KQ (ks_set9 _ _ _ _ _ _ _ _ _) (by omega) (by omega))) (fun hN => ?_)
      clear u0 fu0 u1 fu1 u2 fu2 u3 fu3 u4 fu4 u5 fu5 u6 fu6 u7 fu7 u8 fu8
      clear hKq K hH KQ
      have hH := hN
      clear hN
      have KQ := hH.2.2.2.2.2.2.out
      try simp only [Act.put, List.setIfInBounds_toArray, List.set_cons_zero, List.set_cons_succ]
      refine wpAnyH_done (by kernel_rfl) ?_ _
      refine NoPanic.normal ?_
      go_wp2_with fail
      go_meet
      case rel => exact amid_of (u1 := (W5.alloc rzo).drew) (u2 := Y1) (u3 := U) hBw hm2 (by omega) K2.out (by repeat (first | exact Kp.refl _ | refine Kp.alloc ?_ _ | refine Kp.drew ?_)) KM1.out (by repeat (first | exact Kp.refl _ | refine Kp.alloc ?_ _ | refine Kp.drew ?_)) KU.out (by omega) (by omega) (by first | omega | (simp; omega) | simp) (by first | omega | (simp; omega) | simp) (by first | omega | (simp; omega) | simp) (by first | omega | (simp; omega) | simp) R2.out I1.out q1 q2 q3 SG1.out I2.out G2.out SG2.out F1s.out (ks_set9 _ _ _ _ _ _ _ _ _) (bl_ks B1s.out (by omega) (ks_set9 _ _ _ _ _ _ _ _ _)) (bl_set9 B2s.out _ _ _ _ _ _ _ _ _)
     refine AllReadyH.cons rfl (fun K hKq => ?_) ?_
     ·
      go_simp
      refine hKq.out _ _ (MK.out _ (KQ.kp ((Kp.refl _).alloc _) (by omega))) (fun hN => ?_)
      have B2n3 : Hid ((Y1.alloc rzo).heap[W5.heap.size]? = some rzo) := bl_alloc B2n2.out _
      have B1n3 : Hid ((Y1.alloc rzo).heap[Y1.heap.size]? = some rzo) := last_at _ _ _ (by simp)
      clear hKq K hH KQ
      have hH := hN
      clear hN
      have KQ := hH.2.2.2.2.2.2.out
      try simp only [Act.put, List.setIfInBounds_toArray, List.set_cons_zero, List.set_cons_succ]
      refine wpAnyH_ready (rs := [8]) (by kernel_rfl) (by simp) ?_
      refine AllReadyH.cons rfl (fun K hKq => ?_) AllReadyH.nil
      go_simp
      refine (PS2.out _ (by repeat (first | exact Kp.refl _ | refine Kp.alloc ?_ _ | refine Kp.drew ?_))).mono ?_
      rintro e Y2 ⟨⟨T2, v2, g2, rfl, hI, hp1, hp2, hGn⟩⟩
      obtain ⟨k2, mn2, mx2, mm2, t2, ad2, l2, c2, rfl⟩ := hI.form
      have SG2 := hid (hp1 rfl).part
      have I2 := hid hI
      have G2 := hid hGn
      have hy2 := hGn.km.size
      try simp at hy2
      have B1n4 : Hid (Y2.heap[Y1.heap.size]? = some rzo) := bl_km B1n3.out (by omega) G2.out.km
      have B2n4 : Hid (Y2.heap[W5.heap.size]? = some rzo) := bl_km B2n3.out (by omega) G2.out.km
      clear hI hp1 hp2 hGn PS2
      refine hKq.out _ _ (MK.out _ (KQ.trans G2.out.km)) (fun hN => ?_)
      clear hKq K hH KQ
      have hH := hN
      clear hN
      have KQ := hH.2.2.2.2.2.2.out
      try simp only [Act.put, List.setIfInBounds_toArray, List.set_cons_zero, List.set_cons_succ]
      refine wpAnyH_ready (rs := [11]) (by kernel_rfl) (by simp) ?_
      refine AllReadyH.cons rfl (fun K hKq => ?_) AllReadyH.nil
      have v0 := bl_cell (B1n4.out) 0 _ rfl
      have fv0 := bl_frozen (B1n4.out) 0
      have v1 := bl_cell (B1n4.out) 1 _ rfl
      have fv1 := bl_frozen (B1n4.out) 1
      have v2 := bl_cell (B1n4.out) 2 _ rfl
      have fv2 := bl_frozen (B1n4.out) 2
      have v3 := bl_cell (B1n4.out) 3 _ rfl
      have fv3 := bl_frozen (B1n4.out) 3
      have v4 := bl_cell (B1n4.out) 4 _ rfl
      have fv4 := bl_frozen (B1n4.out) 4
      have v5 := bl_cell (B1n4.out) 5 _ rfl
      have fv5 := bl_frozen (B1n4.out) 5
      have v6 := bl_cell (B1n4.out) 6 _ rfl
      have fv6 := bl_frozen (B1n4.out) 6
      have v7 := bl_cell (B1n4.out) 7 _ rfl
      have fv7 := bl_frozen (B1n4.out) 7
      have v8 := bl_cell (B1n4.out) 8 _ rfl
      have fv8 := bl_frozen (B1n4.out) 8
      go_simp
      refine hKq.out _ _ (MK.out _ (Km.new (S := Y1.heap.size) KQ (ks_set9 _ _ _ _ _ _ _ _ _) (by omega) (by omega))) (fun hN => ?_)
      clear v0 fv0 v1 fv1 v2 fv2 v3 fv3 v4 fv4 v5 fv5 v6 fv6 v7 fv7 v8 fv8
      have B1s := hid (bl_set9 B1n4.out (.int .i64 k1) (.int .i64 mn1) (.int .i64 mx1) (.int .i64 mm1) (.int .u64 (t1.a : Int)) (.int .u64 (t1.b : Int)) (.int .u64 (t1.c : Int)) (.int .u64 (t1.d : Int)) (.slice ad1 l1 c1))
      have F1s := hid (ks_set9 (w := Y2) (B := Y1.heap.size) (.int .i64 k1) (.int .i64 mn1) (.int .i64 mx1) (.int .i64 mm1) (.int .u64 (t1.a : Int)) (.int .u64 (t1.b : Int)) (.int .u64 (t1.c : Int)) (.int .u64 (t1.d : Int)) (.slice ad1 l1 c1))
      have B2s := hid (bl_ks B2n4.out (by omega) F1s.out)
      clear hKq K hH KQ
      have hH := hN
      clear hN
      have KQ := hH.2.2.2.2.2.2.out
      try simp only [Act.put, List.setIfInBounds_toArray, List.set_cons_zero, List.set_cons_succ]
      refine wpAnyH_ready (rs := [12]) (by kernel_rfl) (by simp) ?_
      refine AllReadyH.cons rfl (fun K hKq => ?_) AllReadyH.nil
      have u0 := bl_cell (B2s.out) 0 _ rfl
      have fu0 := bl_frozen (B2s.out) 0
      have u1 := bl_cell (B2s.out) 1 _ rfl
      have fu1 := bl_frozen (B2s.out) 1
      have u2 := bl_cell (B2s.out) 2 _ rfl
      have fu2 := bl_frozen (B2s.out) 2
      have u3 := bl_cell (B2s.out) 3 _ rfl
      have fu3 := bl_frozen (B2s.out) 3
      have u4 := bl_cell (B2s.out) 4 _ rfl
      have fu4 := bl_frozen (B2s.out) 4
      have u5 := bl_cell (B2s.out) 5 _ rfl
      have fu5 := bl_frozen (B2s.out) 5
      have u6 := bl_cell (B2s.out) 6 _ rfl
      have fu6 := bl_frozen (B2s.out) 6
      have u7 := bl_cell (B2s.out) 7 _ rfl
      have fu7 := bl_frozen (B2s.out) 7
      have u8 := bl_cell (B2s.out) 8 _ rfl
      have fu8 := bl_frozen (B2s.out) 8
      go_simp
      refine hKq.out _ _ (MK.out _ (Km.new (S := W5.heap.size) KQ (ks_set9 _ _ _ _ _ _ _ _ _) (by omega) (by omega))) (fun hN => ?_)
      clear u0 fu0 u1 fu1 u2 fu2 u3 fu3 u4 fu4 u5 fu5 u6 fu6 u7 fu7 u8 fu8
      clear hKq K hH KQ
      have hH := hN
      clear hN
      have KQ := hH.2.2.2.2.2.2.out
      try simp only [Act.put, List.setIfInBounds_toArray, List.set_cons_zero, List.set_cons_succ]
      refine wpAnyH_done (by kernel_rfl) ?_ _
      refine NoPanic.normal ?_
      go_wp2_with fail
      go_meet
      case rel => exact amid_of (u1 := (W5.alloc rzo).drew) (u2 := (Y1.alloc rzo)) (u3 := Y2) hBw hm2 (by omega) K2.out (by repeat (first | exact Kp.refl _ | refine Kp.alloc ?_ _ | refine Kp.drew ?_)) KM1.out (by repeat (first | exact Kp.refl _ | refine Kp.alloc ?_ _ | refine Kp.drew ?_)) (Kp.refl _) (by omega) (by omega) (by first | omega | (simp; omega) | simp) (by first | omega | (simp; omega) | simp) (by first | omega | (simp; omega) | simp) (by first | omega | (simp; omega) | simp) R2.out I1.out q1 q2 q3 SG1.out I2.out G2.out SG2.out F1s.out (ks_set9 _ _ _ _ _ _ _ _ _) (bl_ks B1s.out (by omega) (ks_set9 _ _ _ _ _ _ _ _ _)) (bl_set9 B2s.out _ _ _ _ _ _ _ _ _)
     exact AllReadyH.nil
    refine AllReadyH.cons rfl (fun K hKq => ?_) ?_
    ·
     go_simp
     refine hKq.out _ _ (MK.out _ (KQ.kp ((Kp.refl _).alloc _) (by omega))) (fun hN => ?_)
     have B2n2 : Hid (((W5.alloc rzo).alloc rzo).heap[W5.heap.size]? = some rzo) := bl_alloc B2n1.out _
     have B1n2 : Hid (((W5.alloc rzo).alloc rzo).heap[W5.heap.size + 1]? = some rzo) := last_at _ _ _ (by simp)
     clear hKq K hH KQ
     have hH := hN
     clear hN
     have KQ := hH.2.2.2.2.2.2.out
     try simp only [Act.put, List.setIfInBounds_toArray, List.set_cons_zero, List.set_cons_succ]
     refine wpAnyH_ready (rs := [5]) (by kernel_rfl) (by simp) ?_
     refine AllReadyH.cons rfl (fun K hKq => ?_) AllReadyH.nil
     go_simp
     refine (PS.out m hm1 hm2 _ (by repeat (first | exact Kp.refl _ | refine Kp.alloc ?_ _ | refine Kp.drew ?_))).mono ?_
     rintro e Y1 ⟨⟨T1, v1, g1, rfl, hI, hp1, hp2, hGn⟩⟩
     obtain ⟨k1, mn1, mx1, mm1, t1, ad1, l1, c1, rfl⟩ := hI.form
     have SG1 := hid (sg_of hg3 hm1 hm2 hp1 hp2)
     have I1 := hid hI
     have KM1 := hid hGn.km
     have hy1 := hGn.km.size
     try simp at hy1
     obtain ⟨x', z', hmk, q1, q2, q3⟩ := hGn.ex
     have hgg := SG1.out.g3
     have B1n3 : Hid (Y1.heap[W5.heap.size + 1]? = some rzo) := bl_km (w := ((W5.alloc rzo).alloc rzo).drew) B1n2.out (by omega) KM1.out
     have B2n3 : Hid (Y1.heap[W5.heap.size]? = some rzo) := bl_km (w := ((W5.alloc rzo).alloc rzo).drew) B2n2.out (by omega) KM1.out
     have PS2 := hid (fun (W : World) (k : Kp Y1 W) => parts_any aK lK cK aN lN cN true B d 1 x' g1 z' W (by omega) (by omega) HPS.out ⟨hmk.kp k, NKW.out _ ((Kp.km (B := B) (a := W5) (by repeat (first | exact Kp.refl _ | refine Kp.alloc ?_ _ | refine Kp.drew ?_)) (by omega)).trans (KM1.out.kp k (by first | omega | (simp; omega) | simp))), NNW.out _ ((Kp.km (B := B) (a := W5) (by repeat (first | exact Kp.refl _ | refine Kp.alloc ?_ _ | refine Kp.drew ?_)) (by omega)).trans (KM1.out.kp k (by first | omega | (simp; omega) | simp))), hgg, by omega, by omega, by omega⟩)
     clear hI hp1 hp2 hGn hmk
     refine hKq.out _ _ (MK.out _ (KQ.trans KM1.out)) (fun hN => ?_)
     clear hKq K hH KQ
     have hH := hN
     clear hN
     have KQ := hH.2.2.2.2.2.2.out
     try simp only [Act.put, List.setIfInBounds_toArray, List.set_cons_zero, List.set_cons_succ]
     refine wpAnyH_ready (rs := [8]) (by kernel_rfl) (by simp) ?_
     refine AllReadyH.cons rfl (fun K hKq => ?_) AllReadyH.nil
     go_simp
     refine (PS2.out _ (by repeat (first | exact Kp.refl _ | refine Kp.alloc ?_ _ | refine Kp.drew ?_))).mono ?_
     rintro e Y2 ⟨⟨T2, v2, g2, rfl, hI, hp1, hp2, hGn⟩⟩
     obtain ⟨k2, mn2, mx2, mm2, t2, ad2, l2, c2, rfl⟩ := hI.form
     have SG2 := hid (hp1 rfl).part
     have I2 := hid hI
     have G2 := hid hGn
     have hy2 := hGn.km.size
     try simp at hy2
     have B1n4 : Hid (Y2.heap[W5.heap.size + 1]? = some rzo) := bl_km B1n3.out (by omega) G2.out.km
     have B2n4 : Hid (Y2.heap[W5.heap.size]? = some rzo) := bl_km B2n3.out (by omega) G2.out.km
     clear hI hp1 hp2 hGn PS2
     refine hKq.out _ _ (MK.out _ (KQ.trans G2.out.km)) (fun hN => ?_)
     clear hKq K hH KQ
     have hH := hN
     clear hN
     have KQ := hH.2.2.2.2.2.2.out
     try simp only [Act.put, List.setIfInBounds_toArray, List.set_cons_zero, List.set_cons_succ]
     refine wpAnyH_ready (rs := [11]) (by kernel_rfl) (by simp) ?_
     refine AllReadyH.cons rfl (fun K hKq => ?_) AllReadyH.nil
     have v0 := bl_cell (B1n4.out) 0 _ rfl
     have fv0 := bl_frozen (B1n4.out) 0
     have v1 := bl_cell (B1n4.out) 1 _ rfl
     have fv1 := bl_frozen (B1n4.out) 1
     have v2 := bl_cell (B1n4.out) 2 _ rfl
     have fv2 := bl_frozen (B1n4.out) 2
     have v3 := bl_cell (B1n4.out) 3 _ rfl
     have fv3 := bl_frozen (B1n4.out) 3
     have v4 := bl_cell (B1n4.out) 4 _ rfl
     have fv4 := bl_frozen (B1n4.out) 4
     have v5 := bl_cell (B1n4.out) 5 _ rfl
     have fv5 := bl_frozen (B1n4.out) 5
     have v6 := bl_cell (B1n4.out) 6 _ rfl
     have fv6 := bl_frozen (B1n4.out) 6
     have v7 := bl_cell (B1n4.out) 7 _ rfl
     have fv7 := bl_frozen (B1n4.out) 7
     have v8 := bl_cell (B1n4.out) 8 _ rfl
     have fv8 := bl_frozen (B1n4.out) 8
     go_simp
     refine hKq.out _ _ (MK.out _ (Km.new (S := W5.heap.size + 1) KQ (ks_set9 _ _ _ _ _ _ _ _ _) (by omega) (by omega))) (fun hN => ?_)
     clear v0 fv0 v1 fv1 v2 fv2 v3 fv3 v4 fv4 v5 fv5 v6 fv6 v7 fv7 v8 fv8
     have B1s := hid (bl_set9 B1n4.out (.int .i64 k1) (.int .i64 mn1) (.int .i64 mx1) (.int .i64 mm1) (.int .u64 (t1.a : Int)) (.int .u64 (t1.b : Int)) (.int .u64 (t1.c : Int)) (.int .u64 (t1.d : Int)) (.slice ad1 l1 c1))
     have F1s := hid (ks_set9 (w := Y2) (B := W5.heap.size + 1) (.int .i64 k1) (.int .i64 mn1) (.int .i64 mx1) (.int .i64 mm1) (.int .u64 (t1.a : Int)) (.int .u64 (t1.b : Int)) (.int .u64 (t1.c : Int)) (.int .u64 (t1.d : Int)) (.slice ad1 l1 c1))
     have B2s := hid (bl_ks B2n4.out (by omega) F1s.out)
     clear hKq K hH KQ
     have hH := hN
     clear hN
     have KQ := hH.2.2.2.2.2.2.out
     try simp only [Act.put, List.setIfInBounds_toArray, List.set_cons_zero, List.set_cons_succ]
     refine wpAnyH_ready (rs := [12]) (by kernel_rfl) (by simp) ?_
     refine AllReadyH.cons rfl (fun K hKq => ?_) AllReadyH.nil
     have u0 := bl_cell (B2s.out) 0 _ rfl
     have fu0 := bl_frozen (B2s.out) 0
     have u1 := bl_cell (B2s.out) 1 _ rfl
     have fu1 := bl_frozen (B2s.out) 1
     have u2 := bl_cell (B2s.out) 2 _ rfl
     have fu2 := bl_frozen (B2s.out) 2
     have u3 := bl_cell (B2s.out) 3 _ rfl
     have fu3 := bl_frozen (B2s.out) 3
     have u4 := bl_cell (B2s.out) 4 _ rfl
     have fu4 := bl_frozen (B2s.out) 4
     have u5 := bl_cell (B2s.out) 5 _ rfl
     have fu5 := bl_frozen (B2s.out) 5
     have u6 := bl_cell (B2s.out) 6 _ rfl
     have fu6 := bl_frozen (B2s.out) 6
     have u7 := bl_cell (B2s.out) 7 _ rfl
     have fu7 := bl_frozen (B2s.out) 7
     have u8 := bl_cell (B2s.out) 8 _ rfl
     have fu8 := bl_frozen (B2s.out) 8
     go_simp
     refine hKq.out _ _ (MK.out _ (Km.new (S := W5.heap.size) KQ (ks_set9 _ _ _ _ _ _ _ _ _) (by omega) (by omega))) (fun hN => ?_)
     clear u0 fu0 u1 fu1 u2 fu2 u3 fu3 u4 fu4 u5 fu5 u6 fu6 u7 fu7 u8 fu8
     clear hKq K hH KQ
     have hH := hN
     clear hN
     have KQ := hH.2.2.2.2.2.2.out
     try simp only [Act.put, List.setIfInBounds_toArray, List.set_cons_zero, List.set_cons_succ]
     refine wpAnyH_done (by kernel_rfl) ?_ _
     refine NoPanic.normal ?_
     go_wp2_with fail
     go_meet
     case rel => exact amid_of (u1 := ((W5.alloc rzo).alloc rzo).drew) (u2 := Y1) (u3 := Y2) hBw hm2 (by omega) K2.out (by repeat (first | exact Kp.refl _ | refine Kp.alloc ?_ _ | refine Kp.drew ?_)) KM1.out (by repeat (first | exact Kp.refl _ | refine Kp.alloc ?_ _ | refine Kp.drew ?_)) (Kp.refl _) (by omega) (by omega) (by first | omega | (simp; omega) | simp) (by first | omega | (simp; omega) | simp) (by first | omega | (simp; omega) | simp) (by first | omega | (simp; omega) | simp) R2.out I1.out q1 q2 q3 SG1.out I2.out G2.out SG2.out F1s.out (ks_set9 _ _ _ _ _ _ _ _ _) (bl_ks B1s.out (by omega) (ks_set9 _ _ _ _ _ _ _ _ _)) (bl_set9 B2s.out _ _ _ _ _ _ _ _ _)
    exact AllReadyH.nil
   exact AllReadyH.nil
  case rest =>
  obtain ⟨⟨V1, V2, T1, T2, g1, g2, k1, mn1, mx1, mm1, t1, ad1, l1, c1, k2, mn2, mx2, mm2, t2, ad2, l2, c2, rfl, rfl, hV1, hV2, b1, b2, i1, i2, s1, s2, r6, g6⟩⟩ := hcut
  rename World => W6
  have hs6 := g6.km.size
  have P1 := hid b1
  have P2 := hid b2
  have I1 := hid i1
  have I2 := hid i2
  have RG := hid (Trip.alt_good T1 T2 d g g1 g2 s1 s2)
  have hs6' : w.heap.size + 1 < W6.heap.size := bl_lt r6
  have KI := hid ((RK.pair (base := 0) k1 mn1 mx1 mm1 t1 ad1 l1 c1 k2 mn2 mx2 mm2 t2 ad2 l2 c2 I1.out I2.out (by omega) (by omega)).is 3 0 0 0 W4.z)
  have R7 := hid (bl_alloc r6 (.cells #[.int .i64 k1, .int .i64 mn1, .int .i64 mx1, .int .i64 mm1, .int .u64 (t1.a : Int), .int .u64 (t1.b : Int), .int .u64 (t1.c : Int), .int .u64 (t1.d : Int), .slice ad1 l1 c1, .int .i64 k2, .int .i64 mn2, .int .i64 mx2, .int .i64 mm2, .int .u64 (t2.a : Int), .int .u64 (t2.b : Int), .int .u64 (t2.c : Int), .int .u64 (t2.d : Int), .slice ad2 l2 c2] 27))
  have G7 := hid (g6.kp ((Kp.refl _).alloc (.cells #[.int .i64 k1, .int .i64 mn1, .int .i64 mx1, .int .i64 mm1, .int .u64 (t1.a : Int), .int .u64 (t1.b : Int), .int .u64 (t1.c : Int), .int .u64 (t1.d : Int), .slice ad1 l1 c1, .int .i64 k2, .int .i64 mn2, .int .i64 mx2, .int .i64 mm2, .int .u64 (t2.a : Int), .int .u64 (t2.b : Int), .int .u64 (t2.c : Int), .int .u64 (t2.d : Int), .slice ad2 l2 c2] 27)) (by omega))
  clear b1 b2 i1 i2 s1 s2 r6 g6 M2 A2 R2 K2 PS NKW NNW hs6 hs6' hV1 hV2
  have p0 := bl_cell (P1.out) 0 _ rfl
  have p1 := bl_cell (P1.out) 1 _ rfl
  have p2 := bl_cell (P1.out) 2 _ rfl
  have p3 := bl_cell (P1.out) 3 _ rfl
  have p4 := bl_cell (P1.out) 4 _ rfl
  have p5 := bl_cell (P1.out) 5 _ rfl
  have p6 := bl_cell (P1.out) 6 _ rfl
  have p7 := bl_cell (P1.out) 7 _ rfl
  have p8 := bl_cell (P1.out) 8 _ rfl
  have u0 := bl_cell (P2.out) 0 _ rfl
  have u1 := bl_cell (P2.out) 1 _ rfl
  have u2 := bl_cell (P2.out) 2 _ rfl
  have u3 := bl_cell (P2.out) 3 _ rfl
  have u4 := bl_cell (P2.out) 4 _ rfl
  have u5 := bl_cell (P2.out) 5 _ rfl
  have u6 := bl_cell (P2.out) 6 _ rfl
  have u7 := bl_cell (P2.out) 7 _ rfl
  have u8 := bl_cell (P2.out) 8 _ rfl
  have r0 := bl_cell (R7.out) 0 _ rfl
  have fr0 := bl_frozen (R7.out) 0
  have r1 := bl_cell (R7.out) 1 _ rfl
  have fr1 := bl_frozen (R7.out) 1
  have r2 := bl_cell (R7.out) 2 _ rfl
  have fr2 := bl_frozen (R7.out) 2
  have r3 := bl_cell (R7.out) 3 _ rfl
  have fr3 := bl_frozen (R7.out) 3
  have r4 := bl_cell (R7.out) 4 _ rfl
  have fr4 := bl_frozen (R7.out) 4
  have r5 := bl_cell (R7.out) 5 _ rfl
  have fr5 := bl_frozen (R7.out) 5
  have r6 := bl_cell (R7.out) 6 _ rfl
  have fr6 := bl_frozen (R7.out) 6
  have r7 := bl_cell (R7.out) 7 _ rfl
  have fr7 := bl_frozen (R7.out) 7
  have r8 := bl_cell (R7.out) 8 _ rfl
  have fr8 := bl_frozen (R7.out) 8
  go_wp2_with fail
  refine bodyPost_ret (v := rxv 3 0 0 0 W4.z (.slice (some ⟨W6.heap.size, 0, none⟩) 2 2)) (rx_ret rfl _ _ _ _ rfl (bl_set9 R7.out _ _ _ _ _ _ _ _ _) rfl) rfl ⟨⟨.mk 3 0 0 0 W4.z [T1, T2], _, g2, rfl, ?_, RG.out, ?_⟩⟩
  ·
   exact (KI.out.ks (ks_set9 _ _ _ _ _ _ _ _ _) (fun b hb _ => by omega)).weak (fun b hb _ => by omega)
  ·
   exact G7.out.ks (S := w.heap.size + 1) (ks_set9 _ _ _ _ _ _ _ _ _) (by omega) (by omega)
 case false =>
 clear hq4
 go_upto_region 7 with fail
 have PS := hid (fun (m : Nat) (h1 : 1 ≤ m) (h3 : m ≤ 3) (W : World) (k : Kp W5 W) => parts_any aK lK cK aN lN cN ere B d m (x + 1) g (z - 1) W h1 h3 HPS.out ⟨M2.out.kp k, HA.out.nk.km (K2.out.kp k (by omega)), HA.out.nn.km (K2.out.kp k (by omega)), hg3, by omega, by omega, by omega⟩)
 go_cut [10] (fun v wc => RMid ere B d g x z w v wc)
 case first =>
  have Q0 : Km B W5 W5.drew := (Km.refl B W5).kp ((Kp.refl _).drew) (by omega)
  have MK : Hid (∀ W, Km B W5 W → W.cell? ⟨w.heap.size, 0, none⟩ = some (.slice aK lK cK) ∧ W.cell? ⟨w.heap.size, 1, none⟩ = some (.slice aN lN cN) ∧ W.cell? ⟨w.heap.size, 2, none⟩ = some (.bool ere) ∧ W.cell? ⟨w.heap.size, 3, none⟩ = some (.pointer (some ⟨B, 0, none⟩)) ∧ W.cell? ⟨w.heap.size, 4, none⟩ = some (.pointer (some ⟨B + 1, 0, none⟩)) ∧ W.cell? ⟨w.heap.size, 5, none⟩ = some (.pointer (some ⟨B + 2, 0, none⟩)) ∧ Hid (Km B W5 W)) := fun W k => ⟨bl_cell (bl_km A2.out (by omega) k) 0 _ rfl, bl_cell (bl_km A2.out (by omega) k) 1 _ rfl, bl_cell (bl_km A2.out (by omega) k) 2 _ rfl, bl_cell (bl_km A2.out (by omega) k) 3 _ rfl, bl_cell (bl_km A2.out (by omega) k) 4 _ rfl, bl_cell (bl_km A2.out (by omega) k) 5 _ rfl, k⟩
  refine wp_region_noPanic ?_
  refine wp_region_held_drew (S := (fun W => W.cell? ⟨w.heap.size, 0, none⟩ = some (.slice aK lK cK) ∧ W.cell? ⟨w.heap.size, 1, none⟩ = some (.slice aN lN cN) ∧ W.cell? ⟨w.heap.size, 2, none⟩ = some (.bool ere) ∧ W.cell? ⟨w.heap.size, 3, none⟩ = some (.pointer (some ⟨B, 0, none⟩)) ∧ W.cell? ⟨w.heap.size, 4, none⟩ = some (.pointer (some ⟨B + 1, 0, none⟩)) ∧ W.cell? ⟨w.heap.size, 5, none⟩ = some (.pointer (some ⟨B + 2, 0, none⟩)) ∧ Hid (Km B W5 W))) (by kernel_rfl) ?_ (fun hH => ?_)
  ·
   exact MK.out _ Q0
  have KQ := Q0
  refine wpAnyH_take (i := 0) (v := ?v0q1) rfl (by kernel_rfl) (by kernel_rfl) (by kernel_rfl) (fun _ _ _ h => h) (Or.inl ⟨by rfl, ?hy0q1⟩) hH ?r0q1
  case hy0q1 => (intro W hSw; (try dsimp only at hSw); go_simp; try (with_reducible rfl))
  try simp only [Act.put, List.setIfInBounds_toArray]
  refine wpAnyH_take (i := 1) (v := ?v1q2) rfl (by kernel_rfl) (by kernel_rfl) (by kernel_rfl) (fun _ _ _ h => h) (Or.inl ⟨by rfl, ?hy1q2⟩) hH ?r1q2
  case hy1q2 => (intro W hSw; (try dsimp only at hSw); go_simp; try (with_reducible rfl))
  try simp only [Act.put]
  refine wpAnyH_take (i := 2) (v := ?v2q3) rfl (by kernel_rfl) (by kernel_rfl) (by kernel_rfl) (fun _ _ _ h => h) (Or.inl ⟨by rfl, ?hy2q3⟩) hH ?r2q3
  case hy2q3 => (intro W hSw; (try dsimp only at hSw); go_simp; try (with_reducible rfl))
  try simp only [Act.put]
  refine wpAnyH_ready (rs := [3, 6]) (by kernel_rfl) (by simp) ?_
  refine AllReadyH.cons rfl (fun K hKq => ?_) ?_
  ·
   go_simp
   refine (within_nat _ 2 (by omega) _).mono ?_
   rintro e yy ⟨m2, hm2, rfl, rfl⟩
   obtain ⟨m, hm⟩ : ∃ m, 1 + m2 = m := ⟨_, rfl⟩
   have gm : 1 + (m2 : Int) = (m : Int) := by omega
   have gw : IntKind.i64.wrap (m : Int) = (m : Int) := by rw [IntKind.wrap_i64]; omega
   have hm1 : 1 ≤ m := by omega
   have hm3 : m ≤ 3 := by omega
   clear hm
   refine hKq.out _ _ (MK.out _ KQ) (fun hN => ?_)
   clear hKq K hH KQ
   have hH := hN
   clear hN
   have KQ := hH.2.2.2.2.2.2.out
   try simp only [Act.put, List.setIfInBounds_toArray, List.set_cons_zero, List.set_cons_succ]
   refine wpAnyH_take (i := 4) (v := ?v4q4) rfl (by kernel_rfl) (by kernel_rfl) (by kernel_rfl) (fun _ _ _ h => h) (Or.inl ⟨by rfl, ?hy4q4⟩) hH ?r4q4
   case hy4q4 => (intro W hSw; (try dsimp only at hSw); go_simp; try (with_reducible rfl))
   try simp only [Act.put, List.setIfInBounds_toArray]
   refine wpAnyH_ready (rs := [5, 6]) (by kernel_rfl) (by simp) ?_
   refine AllReadyH.cons rfl (fun K hKq => ?_) ?_
   ·
    go_simp
    refine (PS.out m hm1 hm3 _ (by repeat (first | exact Kp.refl _ | refine Kp.alloc ?_ _ | refine Kp.drew ?_))).mono ?_
    rintro e Yp ⟨⟨T, v, g', rfl, hI, hp1, hp2, hGn⟩⟩
    obtain ⟨kk, mn, mx, mm, tt, ad, ll, cc, rfl⟩ := hI.form
    have HI := hid hI
    have HP1 := hid hp1
    have HP2 := hid hp2
    have HGN := hid hGn
    have hsy := hGn.km.size
    simp at hsy
    clear hI hp1 hp2 hGn
    refine hKq.out _ _ (MK.out _ (KQ.trans HGN.out.km)) (fun hN => ?_)
    clear hKq K hH KQ
    have hH := hN
    clear hN
    have KQ := hH.2.2.2.2.2.2.out
    try simp only [Act.put, List.setIfInBounds_toArray, List.set_cons_zero, List.set_cons_succ]
    refine wpAnyH_ready (rs := [6]) (by kernel_rfl) (by simp) ?_
    refine AllReadyH.cons rfl (fun K hKq => ?_) AllReadyH.nil
    go_simp
    refine hKq.out _ _ (MK.out _ (KQ.kp ((Kp.refl _).alloc _) (by omega))) (fun hN => ?_)
    clear hKq K hH KQ
    have hH := hN
    clear hN
    have KQ := hH.2.2.2.2.2.2.out
    try simp only [Act.put, List.setIfInBounds_toArray, List.set_cons_zero, List.set_cons_succ]
    refine wpAnyH_ready (rs := [7]) (by kernel_rfl) (by simp) ?_
    refine AllReadyH.cons rfl (fun K hKq => ?_) AllReadyH.nil
    go_simp
    refine hKq.out _ _ (MK.out _ (((Kp.km (B := B) (a := W5) (by repeat (first | exact Kp.refl _ | refine Kp.alloc ?_ _ | refine Kp.drew ?_)) (by omega)).trans HGN.out.km).kp ((Kp.refl _).alloc _) (by omega))) (fun hN => ?_)
    clear hKq K hH KQ
    have hH := hN
    clear hN
    have KQ := hH.2.2.2.2.2.2.out
    try simp only [Act.put, List.setIfInBounds_toArray, List.set_cons_zero, List.set_cons_succ]
    refine wpAnyH_done (by kernel_rfl) ?_ _
    refine NoPanic.normal ?_
    go_wp2_with fail
    go_meet
    case rel => exact rmid_of hBw hg3 hm1 hm3 (by omega) K2.out (by repeat (first | exact Kp.refl _ | refine Kp.alloc ?_ _ | refine Kp.drew ?_)) (by omega) (Or.inr (Nat.le_refl _)) R2.out HI.out HP1.out HP2.out HGN.out (by by_cases hm : m = 1; exact (HP1.out hm).le; obtain ⟨ks, kv, _, _, _, _, hLG⟩ := HP2.out (by omega); exact hLG.facts.1) (Kp.refl _) (((Kp.refl _).alloc _).ks (Nat.le_refl _)) (last_of _ _)
   refine AllReadyH.cons rfl (fun K hKq => ?_) ?_
   ·
    go_simp
    refine hKq.out _ _ (MK.out _ (KQ.kp ((Kp.refl _).alloc _) (by omega))) (fun hN => ?_)
    clear hKq K hH KQ
    have hH := hN
    clear hN
    have KQ := hH.2.2.2.2.2.2.out
    try simp only [Act.put, List.setIfInBounds_toArray, List.set_cons_zero, List.set_cons_succ]
    refine wpAnyH_ready (rs := [5]) (by kernel_rfl) (by simp) ?_
    refine AllReadyH.cons rfl (fun K hKq => ?_) AllReadyH.nil
    go_simp
    refine (PS.out m hm1 hm3 _ (by repeat (first | exact Kp.refl _ | refine Kp.alloc ?_ _ | refine Kp.drew ?_))).mono ?_
    rintro e Yp ⟨⟨T, v, g', rfl, hI, hp1, hp2, hGn⟩⟩
    obtain ⟨kk, mn, mx, mm, tt, ad, ll, cc, rfl⟩ := hI.form
    have HI := hid hI
    have HP1 := hid hp1
    have HP2 := hid hp2
    have HGN := hid hGn
    have hsy := hGn.km.size
    simp at hsy
    clear hI hp1 hp2 hGn
    refine hKq.out _ _ (MK.out _ (KQ.trans HGN.out.km)) (fun hN => ?_)
    clear hKq K hH KQ
    have hH := hN
    clear hN
    have KQ := hH.2.2.2.2.2.2.out
    try simp only [Act.put, List.setIfInBounds_toArray, List.set_cons_zero, List.set_cons_succ]
    refine wpAnyH_ready (rs := [7]) (by kernel_rfl) (by simp) ?_
    refine AllReadyH.cons rfl (fun K hKq => ?_) AllReadyH.nil
    have VB : Hid (Yp.heap[W5.heap.size]? = some rzo) := bl_km (last_drew W5 rzo) (by omega) HGN.out.km
    have v0 := bl_cell (VB.out) 0 _ rfl
    have fv0 := bl_frozen (VB.out) 0
    have v1 := bl_cell (VB.out) 1 _ rfl
    have fv1 := bl_frozen (VB.out) 1
    have v2 := bl_cell (VB.out) 2 _ rfl
    have fv2 := bl_frozen (VB.out) 2
    have v3 := bl_cell (VB.out) 3 _ rfl
    have fv3 := bl_frozen (VB.out) 3
    have v4 := bl_cell (VB.out) 4 _ rfl
    have fv4 := bl_frozen (VB.out) 4
    have v5 := bl_cell (VB.out) 5 _ rfl
    have fv5 := bl_frozen (VB.out) 5
    have v6 := bl_cell (VB.out) 6 _ rfl
    have fv6 := bl_frozen (VB.out) 6
    have v7 := bl_cell (VB.out) 7 _ rfl
    have fv7 := bl_frozen (VB.out) 7
    have v8 := bl_cell (VB.out) 8 _ rfl
    have fv8 := bl_frozen (VB.out) 8
    go_simp
    refine hKq.out _ _ (MK.out _ (Km.new (S := W5.heap.size) (b := Yp) KQ (ks_set9 _ _ _ _ _ _ _ _ _) (Nat.le_refl _) (by omega))) (fun hN => ?_)
    clear v0 fv0 v1 fv1 v2 fv2 v3 fv3 v4 fv4 v5 fv5 v6 fv6 v7 fv7 v8 fv8
    clear hKq K hH KQ
    have hH := hN
    clear hN
    have KQ := hH.2.2.2.2.2.2.out
    try simp only [Act.put, List.setIfInBounds_toArray, List.set_cons_zero, List.set_cons_succ]
    refine wpAnyH_done (by kernel_rfl) ?_ _
    refine NoPanic.normal ?_
    go_wp2_with fail
    go_meet
    case rel => exact rmid_of hBw hg3 hm1 hm3 (by omega) K2.out (by repeat (first | exact Kp.refl _ | refine Kp.alloc ?_ _ | refine Kp.drew ?_)) (by omega) (Or.inl (by simp; omega)) R2.out HI.out HP1.out HP2.out HGN.out (by by_cases hm : m = 1; exact (HP1.out hm).le; obtain ⟨ks, kv, _, _, _, _, hLG⟩ := HP2.out (by omega); exact hLG.facts.1) (Kp.refl _) (ks_set9 _ _ _ _ _ _ _ _ _) (bl_set9 VB.out _ _ _ _ _ _ _ _ _)
   exact AllReadyH.nil
  refine AllReadyH.cons rfl (fun K hKq => ?_) ?_
  ·
   go_simp
   refine hKq.out _ _ (MK.out _ (KQ.kp ((Kp.refl _).alloc _) (by omega))) (fun hN => ?_)
   clear hKq K hH KQ
   have hH := hN
   clear hN
   have KQ := hH.2.2.2.2.2.2.out
   try simp only [Act.put, List.setIfInBounds_toArray, List.set_cons_zero, List.set_cons_succ]
   refine wpAnyH_ready (rs := [3]) (by kernel_rfl) (by simp) ?_
   refine AllReadyH.cons rfl (fun K hKq => ?_) AllReadyH.nil
   go_simp
   refine (within_nat _ 2 (by omega) _).mono ?_
   rintro e yy ⟨m2, hm2, rfl, rfl⟩
   obtain ⟨m, hm⟩ : ∃ m, 1 + m2 = m := ⟨_, rfl⟩
   have gm : 1 + (m2 : Int) = (m : Int) := by omega
   have gw : IntKind.i64.wrap (m : Int) = (m : Int) := by rw [IntKind.wrap_i64]; omega
   have hm1 : 1 ≤ m := by omega
   have hm3 : m ≤ 3 := by omega
   clear hm
   refine hKq.out _ _ (MK.out _ KQ) (fun hN => ?_)
   clear hKq K hH KQ
   have hH := hN
   clear hN
   have KQ := hH.2.2.2.2.2.2.out
   try simp only [Act.put, List.setIfInBounds_toArray, List.set_cons_zero, List.set_cons_succ]
   refine wpAnyH_take (i := 4) (v := ?v4q5) rfl (by kernel_rfl) (by kernel_rfl) (by kernel_rfl) (fun _ _ _ h => h) (Or.inl ⟨by rfl, ?hy4q5⟩) hH ?r4q5
   case hy4q5 => (intro W hSw; (try dsimp only at hSw); go_simp; try (with_reducible rfl))
   try simp only [Act.put, List.setIfInBounds_toArray]
   refine wpAnyH_ready (rs := [5]) (by kernel_rfl) (by simp) ?_
   refine AllReadyH.cons rfl (fun K hKq => ?_) AllReadyH.nil
   go_simp
   refine (PS.out m hm1 hm3 _ (by repeat (first | exact Kp.refl _ | refine Kp.alloc ?_ _ | refine Kp.drew ?_))).mono ?_
   rintro e Yp ⟨⟨T, v, g', rfl, hI, hp1, hp2, hGn⟩⟩
   obtain ⟨kk, mn, mx, mm, tt, ad, ll, cc, rfl⟩ := hI.form
   have HI := hid hI
   have HP1 := hid hp1
   have HP2 := hid hp2
   have HGN := hid hGn
   have hsy := hGn.km.size
   simp at hsy
   clear hI hp1 hp2 hGn
   refine hKq.out _ _ (MK.out _ (KQ.trans HGN.out.km)) (fun hN => ?_)
   clear hKq K hH KQ
   have hH := hN
   clear hN
   have KQ := hH.2.2.2.2.2.2.out
   try simp only [Act.put, List.setIfInBounds_toArray, List.set_cons_zero, List.set_cons_succ]
   refine wpAnyH_ready (rs := [7]) (by kernel_rfl) (by simp) ?_
   refine AllReadyH.cons rfl (fun K hKq => ?_) AllReadyH.nil
   have VB : Hid (Yp.heap[W5.heap.size]? = some rzo) := bl_km (last_drew W5 rzo) (by omega) HGN.out.km
   have v0 := bl_cell (VB.out) 0 _ rfl
   have fv0 := bl_frozen (VB.out) 0
   have v1 := bl_cell (VB.out) 1 _ rfl
   have fv1 := bl_frozen (VB.out) 1
   have v2 := bl_cell (VB.out) 2 _ rfl
   have fv2 := bl_frozen (VB.out) 2
   have v3 := bl_cell (VB.out) 3 _ rfl
   have fv3 := bl_frozen (VB.out) 3
   have v4 := bl_cell (VB.out) 4 _ rfl
   have fv4 := bl_frozen (VB.out) 4
   have v5 := bl_cell (VB.out) 5 _ rfl
   have fv5 := bl_frozen (VB.out) 5
   have v6 := bl_cell (VB.out) 6 _ rfl
   have fv6 := bl_frozen (VB.out) 6
   have v7 := bl_cell (VB.out) 7 _ rfl
   have fv7 := bl_frozen (VB.out) 7
   have v8 := bl_cell (VB.out) 8 _ rfl
   have fv8 := bl_frozen (VB.out) 8
   go_simp
   refine hKq.out _ _ (MK.out _ (Km.new (S := W5.heap.size) (b := Yp) KQ (ks_set9 _ _ _ _ _ _ _ _ _) (Nat.le_refl _) (by omega))) (fun hN => ?_)
   clear v0 fv0 v1 fv1 v2 fv2 v3 fv3 v4 fv4 v5 fv5 v6 fv6 v7 fv7 v8 fv8
   clear hKq K hH KQ
   have hH := hN
   clear hN
   have KQ := hH.2.2.2.2.2.2.out
   try simp only [Act.put, List.setIfInBounds_toArray, List.set_cons_zero, List.set_cons_succ]
   refine wpAnyH_done (by kernel_rfl) ?_ _
   refine NoPanic.normal ?_
   go_wp2_with fail
   go_meet
   case rel => exact rmid_of hBw hg3 hm1 hm3 (by omega) K2.out (by repeat (first | exact Kp.refl _ | refine Kp.alloc ?_ _ | refine Kp.drew ?_)) (by omega) (Or.inl (by simp; omega)) R2.out HI.out HP1.out HP2.out HGN.out (by by_cases hm : m = 1; exact (HP1.out hm).le; obtain ⟨ks, kv, _, _, _, _, hLG⟩ := HP2.out (by omega); exact hLG.facts.1) (Kp.refl _) (ks_set9 _ _ _ _ _ _ _ _ _) (bl_set9 VB.out _ _ _ _ _ _ _ _ _)
  exact AllReadyH.nil
 case rest =>
 obtain ⟨⟨V, T, g', m, k, mn, mx, mm, t, ad, l, cc, rfl, hV, hm1, hm3, hv, hI, hP, hL, hR, hG⟩⟩ := hcut
 rename World => W3
 have V3 := hid hv
 have I3 := hid hI
 have R3 := hid hR
 have G3 := hid hG
 have hkT : k = T.k := by
  have := (Pd.mk (hI.weak (fun _ _ _ => trivial))).all.2.1
  exact this
 have HKT := hid hkT
 have HP3 := hid hP
 have HL3 := hid hL
 have hs3 := hG.km.size
 clear hv hI hP hL hR hG hkT M2 A2 R2 K2 PS
 by_cases hm : m = 1
 ·
  have RG : Hid (Trip.RGood ere T d g g') := (HP3.out hm).part.row (by omega)
  have hk2 : (k == 2) = false := by rw [HKT.out]; simp; exact (HP3.out hm).k2
  have hk2' : ¬ k = 2 := by rw [HKT.out]; exact (HP3.out hm).k2
  have p0 := bl_cell (V3.out) 0 _ rfl
  have p1 := bl_cell (V3.out) 1 _ rfl
  have p2 := bl_cell (V3.out) 2 _ rfl
  have p3 := bl_cell (V3.out) 3 _ rfl
  have p4 := bl_cell (V3.out) 4 _ rfl
  have p5 := bl_cell (V3.out) 5 _ rfl
  have p6 := bl_cell (V3.out) 6 _ rfl
  have p7 := bl_cell (V3.out) 7 _ rfl
  have p8 := bl_cell (V3.out) 8 _ rfl
  have r0 := bl_cell (R3.out) 0 _ rfl
  have fr0 := bl_frozen (R3.out) 0
  have r1 := bl_cell (R3.out) 1 _ rfl
  have fr1 := bl_frozen (R3.out) 1
  have r2 := bl_cell (R3.out) 2 _ rfl
  have fr2 := bl_frozen (R3.out) 2
  have r3 := bl_cell (R3.out) 3 _ rfl
  have fr3 := bl_frozen (R3.out) 3
  have r4 := bl_cell (R3.out) 4 _ rfl
  have fr4 := bl_frozen (R3.out) 4
  have r5 := bl_cell (R3.out) 5 _ rfl
  have fr5 := bl_frozen (R3.out) 5
  have r6 := bl_cell (R3.out) 6 _ rfl
  have fr6 := bl_frozen (R3.out) 6
  have r7 := bl_cell (R3.out) 7 _ rfl
  have fr7 := bl_frozen (R3.out) 7
  have r8 := bl_cell (R3.out) 8 _ rfl
  have fr8 := bl_frozen (R3.out) 8
  by_cases h8 : c = 8
  ·
   subst h8
   go_wp2_with fail
   refine bodyPost_ret (v := rxv k mn mx mm t (.slice ad l cc)) (rx_ret rfl _ _ _ _ rfl (bl_set9 R3.out _ _ _ _ _ _ _ _ _) rfl) rfl ⟨⟨T, _, g', rfl, ?_, RG.out, ?_⟩⟩
   ·
    exact (I3.out.ks (ks_set9 _ _ _ _ _ _ _ _ _) (fun b hb _ => by have := hb.1; omega)).weak (fun b hb _ => by have := hb.1; omega)
   ·
    exact G3.out.ks (S := w.heap.size + 1) (ks_set9 _ _ _ _ _ _ _ _ _) (by omega) (by omega)
  ·
   have h8i : ((c : Int) == 8) = false := by simp; omega
   have h8j : ¬ (c : Int) = 8 := by omega
   by_cases h7 : c = 7
   ·
    subst h7
    go_wp2_with fail
    refine bodyPost_ret (v := rxv k mn mx mm t (.slice ad l cc)) (rx_ret rfl _ _ _ _ rfl (bl_set9 R3.out _ _ _ _ _ _ _ _ _) rfl) rfl ⟨⟨T, _, g', rfl, ?_, RG.out, ?_⟩⟩
    ·
     exact (I3.out.ks (ks_set9 _ _ _ _ _ _ _ _ _) (fun b hb _ => by have := hb.1; omega)).weak (fun b hb _ => by have := hb.1; omega)
    ·
     exact G3.out.ks (S := w.heap.size + 1) (ks_set9 _ _ _ _ _ _ _ _ _) (by omega) (by omega)
   ·
    have h7i : ((c : Int) == 7) = false := by simp; omega
    have h7j : ¬ (c : Int) = 7 := by omega
    go_wp2_with fail
    refine bodyPost_ret (v := rxv k mn mx mm t (.slice ad l cc)) (rx_ret rfl _ _ _ _ rfl (bl_set9 R3.out _ _ _ _ _ _ _ _ _) rfl) rfl ⟨⟨T, _, g', rfl, ?_, RG.out, ?_⟩⟩
    ·
     exact (I3.out.ks (ks_set9 _ _ _ _ _ _ _ _ _) (fun b hb _ => by have := hb.1; omega)).weak (fun b hb _ => by have := hb.1; omega)
    ·
     exact G3.out.ks (S := w.heap.size + 1) (ks_set9 _ _ _ _ _ _ _ _ _) (by omega) (by omega)
 ·
  obtain ⟨ks, rfl, rfl, rfl, rfl, rfl, rfl, hRK, hlen, hLG⟩ := HL3.out (by omega)
  have RK3 := hid hRK
  have LG3 := hid hLG
  have hV3 : V < W3.heap.size := bl_lt V3.out
  clear hRK hLG HL3 HP3 HKT
  by_cases h8 : c = 8
  ·
   subst h8
   have RKB : Hid (RK (fun b => w.heap.size + 1 < b ∧ b ≠ V) (w.heap.size + 2) (W3.alloc (rxo 7 0 0 0 W4.z (.slice none 0 0))) (.slice (some ⟨W3.heap.size, 0, none⟩) 1 1) [Rx.mk 7 0 0 0 W4.z []]) := RK.single 7 0 0 0 W4.z none 0 0 (Is.leaf _ _ _ _ _ _ _) (by omega) ⟨by omega, by omega⟩
   have HU : Hid (∃ ys : List Value, ys.length = ks.length ∧ (W3.alloc (rxo 7 0 0 0 W4.z (.slice none 0 0))).ownsRow (w.heap.size + 2) 27 9 (.slice ad l cc) ks.length (rowOf ys) ∧ ∀ (j : Nat) t y, ks[j]? = some t → ys[j]? = some y → Is (W3.alloc (rxo 7 0 0 0 W4.z (.slice none 0 0))) (fun b => (w.heap.size + 1 < b ∧ b ≠ V) ∧ (Value.slice (some ⟨W3.heap.size, 0, none⟩) 1 1).ownBlock ≠ some b) t y) := by
    obtain ⟨ys, i1, i2, i3, i4⟩ := RK3.out.ex
    have kal : Kp W3 (W3.alloc (rxo 7 0 0 0 W4.z (.slice none 0 0))) := (Kp.refl _).alloc _
    refine ⟨ys, i1, owns_same i2 (fun b _ hl => kal.block b hl), fun j t y hj hy => ?_⟩
    refine ((i4 j t y hj hy).weak (fun b hb hl => ⟨hb.1, ?_⟩)).kp kal
    show some W3.heap.size ≠ some b
    intro e
    injection e with e
    omega
   have p0 := bl_cell (V3.out) 0 _ rfl
   have p1 := bl_cell (V3.out) 1 _ rfl
   have p2 := bl_cell (V3.out) 2 _ rfl
   have p3 := bl_cell (V3.out) 3 _ rfl
   have p4 := bl_cell (V3.out) 4 _ rfl
   have p5 := bl_cell (V3.out) 5 _ rfl
   have p6 := bl_cell (V3.out) 6 _ rfl
   have p7 := bl_cell (V3.out) 7 _ rfl
   have p8 := bl_cell (V3.out) 8 _ rfl
   go_wp2_with (at_builtin; go_must (refine wpList_append_rkr (W3.alloc (rxo 7 0 0 0 W4.z (.slice none 0 0))) (by rfl) _ _ (by rfl) (fun b => w.heap.size + 1 < b ∧ b ≠ V) (w.heap.size + 2) (.slice (some ⟨W3.heap.size, 0, none⟩) 1 1) (.slice ad l cc) [Rx.mk 7 0 0 0 W4.z []] ks (by rfl) ?h0 RKB ?h3 HU (by rfl) ?h1 ?h2 ?_))
   case h0 => intro b hb; simp at hb; exact ⟨by omega, by omega⟩
   case h3 => omega
   case h1 => simp; omega
   case h2 => simp; omega
   intro v' w' hk' hg'
   have hrow : (Value.slice (some ⟨W3.heap.size, 0, none⟩) 1 1).ownBlock = some W3.heap.size := rfl
   rw [hrow] at hg'
   obtain ⟨ad', cc', hf', hc'⟩ := hk'.form
   obtain ⟨L, hLn⟩ : ∃ L, (Rx.mk 7 0 0 0 W4.z [] :: ks).length = L := ⟨_, rfl⟩
   rw [hLn] at hf'
   clear hLn hc'
   have V4 : Hid (w'.heap[V]? = some (rxo 2 0 0 0 W4.z (.slice ad l cc))) := bl_gr (bl_alloc V3.out _) hg' (by intro e; injection e with e; omega)
   have R4 : Hid (w'.heap[w.heap.size + 1]? = some rzo) := bl_gr (bl_alloc R3.out _) hg' (by intro e; injection e with e; omega)
   have G4 : Hid (Gone B 4 7 x g z w w' g') := (G3.out.kp ((Kp.refl _).alloc _) (by omega)).grown hg' (fun k e => by injection e with e; omega) (by omega)
   have RK4 := hid hk'
   clear hk' hg' hrow RKB HU p0 p1 p2 p3 p4 p5 p6 p7 p8
   subst hf'
   have v0 := bl_cell (V4.out) 0 _ rfl
   have fv0 := bl_frozen (V4.out) 0
   have v1 := bl_cell (V4.out) 1 _ rfl
   have fv1 := bl_frozen (V4.out) 1
   have v2 := bl_cell (V4.out) 2 _ rfl
   have fv2 := bl_frozen (V4.out) 2
   have v3 := bl_cell (V4.out) 3 _ rfl
   have fv3 := bl_frozen (V4.out) 3
   have v4 := bl_cell (V4.out) 4 _ rfl
   have fv4 := bl_frozen (V4.out) 4
   have v5 := bl_cell (V4.out) 5 _ rfl
   have fv5 := bl_frozen (V4.out) 5
   have v6 := bl_cell (V4.out) 6 _ rfl
   have fv6 := bl_frozen (V4.out) 6
   have v7 := bl_cell (V4.out) 7 _ rfl
   have fv7 := bl_frozen (V4.out) 7
   have v8 := bl_cell (V4.out) 8 _ rfl
   have fv8 := bl_frozen (V4.out) 8
   go_upto_region 10 with fail
   refine opq (fun W6 => W6.heap[V]? = some (rxo 2 0 0 0 W4.z (.slice ad' L cc')) ∧ W6.heap[(w.heap.size + 1)]? = some rzo ∧ RK (fun b => w.heap.size + 1 < b ∧ b ≠ V) (w.heap.size + 2) W6 (.slice ad' L cc') ([Rx.mk 7 0 0 0 W4.z []] ++ ks) ∧ Gone B 4 7 x g z w W6 g') ⟨by exact bl_put V4.out _, by exact bl_set R4.out (by omega) _, by exact RK4.out.ks ((Ks.refl _ _).set 8 _) (fun b hb => hb.2), by exact G4.out.ks (S := V) ((Ks.refl _ _).set 8 _) (by omega) (by omega)⟩ ?_
   rintro W6 ⟨xV6, xR6, xRK6, xG6⟩
   have V6 : Hid (W6.heap[V]? = some (rxo 2 0 0 0 W4.z (.slice ad' L cc'))) := xV6
   have R6 : Hid (W6.heap[(w.heap.size + 1)]? = some rzo) := xR6
   have RK6 : Hid (RK (fun b => w.heap.size + 1 < b ∧ b ≠ V) (w.heap.size + 2) W6 (.slice ad' L cc') ([Rx.mk 7 0 0 0 W4.z []] ++ ks)) := xRK6
   have G6 : Hid (Gone B 4 7 x g z w W6 g') := xG6
   clear xV6 xR6 xRK6 xG6
   clear V4 R4 RK4 G4 v0 fv0 v1 fv1 v2 fv2 v3 fv3 v4 fv4 v5 fv5 v6 fv6 v7 fv7 v8 fv8
   have p0 := bl_cell (V6.out) 0 _ rfl
   have p1 := bl_cell (V6.out) 1 _ rfl
   have p2 := bl_cell (V6.out) 2 _ rfl
   have p3 := bl_cell (V6.out) 3 _ rfl
   have p4 := bl_cell (V6.out) 4 _ rfl
   have p5 := bl_cell (V6.out) 5 _ rfl
   have p6 := bl_cell (V6.out) 6 _ rfl
   have p7 := bl_cell (V6.out) 7 _ rfl
   have p8 := bl_cell (V6.out) 8 _ rfl
   have r0 := bl_cell (R6.out) 0 _ rfl
   have fr0 := bl_frozen (R6.out) 0
   have r1 := bl_cell (R6.out) 1 _ rfl
   have fr1 := bl_frozen (R6.out) 1
   have r2 := bl_cell (R6.out) 2 _ rfl
   have fr2 := bl_frozen (R6.out) 2
   have r3 := bl_cell (R6.out) 3 _ rfl
   have fr3 := bl_frozen (R6.out) 3
   have r4 := bl_cell (R6.out) 4 _ rfl
   have fr4 := bl_frozen (R6.out) 4
   have r5 := bl_cell (R6.out) 5 _ rfl
   have fr5 := bl_frozen (R6.out) 5
   have r6 := bl_cell (R6.out) 6 _ rfl
   have fr6 := bl_frozen (R6.out) 6
   have r7 := bl_cell (R6.out) 7 _ rfl
   have fr7 := bl_frozen (R6.out) 7
   have r8 := bl_cell (R6.out) 8 _ rfl
   have fr8 := bl_frozen (R6.out) 8
   go_wp2_with fail
   refine bodyPost_ret (v := rxv 2 0 0 0 W4.z (.slice ad' L cc')) (rx_ret rfl _ _ _ _ rfl (bl_set9 R6.out _ _ _ _ _ _ _ _ _) rfl) rfl ⟨⟨.mk 2 0 0 0 W4.z ([Rx.mk 7 0 0 0 W4.z []] ++ ks), _, g', rfl, ?_, Trip.begin_good ere d g g' hg3 ks LG3.out (by omega) (by omega), ?_⟩⟩
   ·
    exact ((RK6.out.is 2 0 0 0 W4.z).ks (ks_set9 _ _ _ _ _ _ _ _ _) (fun b hb _ => by have := hb.1; omega)).weak (fun b hb _ => by have := hb.1; omega)
   ·
    exact G6.out.ks (S := w.heap.size + 1) (ks_set9 _ _ _ _ _ _ _ _ _) (by omega) (by omega)
  have h8i : ((c : Int) == 8) = false := by simp; omega
  have h8j : ¬ (c : Int) = 8 := by omega
  by_cases h7 : c = 7
  ·
   subst h7
   have HIE : Hid (Is W3 (fun b => (w.heap.size + 1 < b ∧ b ≠ V) ∧ (Value.slice ad l cc).ownBlock ≠ some b) (.mk 8 0 0 0 W4.z []) (rxv 8 0 0 0 W4.z (.slice none 0 0))) := Is.leaf _ _ _ _ _ _ _
   have HRW := hid (RK3.out.block)
   have p0 := bl_cell (V3.out) 0 _ rfl
   have p1 := bl_cell (V3.out) 1 _ rfl
   have p2 := bl_cell (V3.out) 2 _ rfl
   have p3 := bl_cell (V3.out) 3 _ rfl
   have p4 := bl_cell (V3.out) 4 _ rfl
   have p5 := bl_cell (V3.out) 5 _ rfl
   have p6 := bl_cell (V3.out) 6 _ rfl
   have p7 := bl_cell (V3.out) 7 _ rfl
   have p8 := bl_cell (V3.out) 8 _ rfl
   go_wp2_with (at_builtin; go_must (refine wpList_append_rk W3 (by rfl) _ _ (by rfl) (w.heap.size + 2) (.slice ad l cc) ks (.mk 8 0 0 0 W4.z []) (by rfl) (fun b => w.heap.size + 1 < b ∧ b ≠ V) ?h0 RK3 8 0 0 0 W4.z none 0 0 HIE _ (by rfl) (by rfl) ?h1 ?h2 ?_))
   case h0 => intro b hb; exact ⟨by omega, by omega⟩
   case h1 => omega
   case h2 => omega
   intro v' w' hk' hg'
   obtain ⟨ad', cc', hf', hc'⟩ := hk'.form
   obtain ⟨L, hLn⟩ : ∃ L, (ks ++ [Rx.mk 8 0 0 0 W4.z []]).length = L := ⟨_, rfl⟩
   rw [hLn] at hf'
   clear hLn hc'
   have V4 : Hid (w'.heap[V]? = some (rxo 2 0 0 0 W4.z (.slice ad l cc))) := bl_gr V3.out hg' (fun e => (HRW.out _ e).1.2 rfl)
   have R4 : Hid (w'.heap[w.heap.size + 1]? = some rzo) := bl_gr R3.out hg' (fun e => by have := (HRW.out _ e).1.1; omega)
   have G4 : Hid (Gone B 4 7 x g z w w' g') := G3.out.grown hg' (fun k e => by have := (HRW.out _ e).1.1; omega) (by omega)
   have RK4 := hid hk'
   clear hk' hg' HRW HIE p0 p1 p2 p3 p4 p5 p6 p7 p8
   subst hf'
   have v0 := bl_cell (V4.out) 0 _ rfl
   have fv0 := bl_frozen (V4.out) 0
   have v1 := bl_cell (V4.out) 1 _ rfl
   have fv1 := bl_frozen (V4.out) 1
   have v2 := bl_cell (V4.out) 2 _ rfl
   have fv2 := bl_frozen (V4.out) 2
   have v3 := bl_cell (V4.out) 3 _ rfl
   have fv3 := bl_frozen (V4.out) 3
   have v4 := bl_cell (V4.out) 4 _ rfl
   have fv4 := bl_frozen (V4.out) 4
   have v5 := bl_cell (V4.out) 5 _ rfl
   have fv5 := bl_frozen (V4.out) 5
   have v6 := bl_cell (V4.out) 6 _ rfl
   have fv6 := bl_frozen (V4.out) 6
   have v7 := bl_cell (V4.out) 7 _ rfl
   have fv7 := bl_frozen (V4.out) 7
   have v8 := bl_cell (V4.out) 8 _ rfl
   have fv8 := bl_frozen (V4.out) 8
   go_upto_region 12 with fail
   refine opq (fun W6 => W6.heap[V]? = some (rxo 2 0 0 0 W4.z (.slice ad' L cc')) ∧ W6.heap[(w.heap.size + 1)]? = some rzo ∧ RK (fun b => w.heap.size + 1 < b ∧ b ≠ V) (w.heap.size + 2) W6 (.slice ad' L cc') (ks ++ [Rx.mk 8 0 0 0 W4.z []]) ∧ Gone B 4 7 x g z w W6 g') ⟨by exact bl_put V4.out _, by exact bl_set R4.out (by omega) _, by exact RK4.out.ks ((Ks.refl _ _).set 8 _) (fun b hb => hb.2), by exact G4.out.ks (S := V) ((Ks.refl _ _).set 8 _) (by omega) (by omega)⟩ ?_
   rintro W6 ⟨xV6, xR6, xRK6, xG6⟩
   have V6 : Hid (W6.heap[V]? = some (rxo 2 0 0 0 W4.z (.slice ad' L cc'))) := xV6
   have R6 : Hid (W6.heap[(w.heap.size + 1)]? = some rzo) := xR6
   have RK6 : Hid (RK (fun b => w.heap.size + 1 < b ∧ b ≠ V) (w.heap.size + 2) W6 (.slice ad' L cc') (ks ++ [Rx.mk 8 0 0 0 W4.z []])) := xRK6
   have G6 : Hid (Gone B 4 7 x g z w W6 g') := xG6
   clear xV6 xR6 xRK6 xG6
   clear V4 R4 RK4 G4 v0 fv0 v1 fv1 v2 fv2 v3 fv3 v4 fv4 v5 fv5 v6 fv6 v7 fv7 v8 fv8
   have p0 := bl_cell (V6.out) 0 _ rfl
   have p1 := bl_cell (V6.out) 1 _ rfl
   have p2 := bl_cell (V6.out) 2 _ rfl
   have p3 := bl_cell (V6.out) 3 _ rfl
   have p4 := bl_cell (V6.out) 4 _ rfl
   have p5 := bl_cell (V6.out) 5 _ rfl
   have p6 := bl_cell (V6.out) 6 _ rfl
   have p7 := bl_cell (V6.out) 7 _ rfl
   have p8 := bl_cell (V6.out) 8 _ rfl
   have r0 := bl_cell (R6.out) 0 _ rfl
   have fr0 := bl_frozen (R6.out) 0
   have r1 := bl_cell (R6.out) 1 _ rfl
   have fr1 := bl_frozen (R6.out) 1
   have r2 := bl_cell (R6.out) 2 _ rfl
   have fr2 := bl_frozen (R6.out) 2
   have r3 := bl_cell (R6.out) 3 _ rfl
   have fr3 := bl_frozen (R6.out) 3
   have r4 := bl_cell (R6.out) 4 _ rfl
   have fr4 := bl_frozen (R6.out) 4
   have r5 := bl_cell (R6.out) 5 _ rfl
   have fr5 := bl_frozen (R6.out) 5
   have r6 := bl_cell (R6.out) 6 _ rfl
   have fr6 := bl_frozen (R6.out) 6
   have r7 := bl_cell (R6.out) 7 _ rfl
   have fr7 := bl_frozen (R6.out) 7
   have r8 := bl_cell (R6.out) 8 _ rfl
   have fr8 := bl_frozen (R6.out) 8
   go_wp2_with fail
   refine bodyPost_ret (v := rxv 2 0 0 0 W4.z (.slice ad' L cc')) (rx_ret rfl _ _ _ _ rfl (bl_set9 R6.out _ _ _ _ _ _ _ _ _) rfl) rfl ⟨⟨.mk 2 0 0 0 W4.z (ks ++ [Rx.mk 8 0 0 0 W4.z []]), _, g', rfl, ?_, Trip.end_good ere d g g' hg3 ks LG3.out (by omega) (by omega), ?_⟩⟩
   ·
    exact ((RK6.out.is 2 0 0 0 W4.z).ks (ks_set9 _ _ _ _ _ _ _ _ _) (fun b hb _ => by have := hb.1; omega)).weak (fun b hb _ => by have := hb.1; omega)
   ·
    exact G6.out.ks (S := w.heap.size + 1) (ks_set9 _ _ _ _ _ _ _ _ _) (by omega) (by omega)
  have h7i : ((c : Int) == 7) = false := by simp; omega
  have h7j : ¬ (c : Int) = 7 := by omega
  have RG : Hid (Trip.RGood ere (.mk 2 0 0 0 W4.z ks) d g g') := (Trip.cat_good ere d g g' hg3 ks LG3.out (by omega) (by omega)).row (by omega)
  have p0 := bl_cell (V3.out) 0 _ rfl
  have p1 := bl_cell (V3.out) 1 _ rfl
  have p2 := bl_cell (V3.out) 2 _ rfl
  have p3 := bl_cell (V3.out) 3 _ rfl
  have p4 := bl_cell (V3.out) 4 _ rfl
  have p5 := bl_cell (V3.out) 5 _ rfl
  have p6 := bl_cell (V3.out) 6 _ rfl
  have p7 := bl_cell (V3.out) 7 _ rfl
  have p8 := bl_cell (V3.out) 8 _ rfl
  have r0 := bl_cell (R3.out) 0 _ rfl
  have fr0 := bl_frozen (R3.out) 0
  have r1 := bl_cell (R3.out) 1 _ rfl
  have fr1 := bl_frozen (R3.out) 1
  have r2 := bl_cell (R3.out) 2 _ rfl
  have fr2 := bl_frozen (R3.out) 2
  have r3 := bl_cell (R3.out) 3 _ rfl
  have fr3 := bl_frozen (R3.out) 3
  have r4 := bl_cell (R3.out) 4 _ rfl
  have fr4 := bl_frozen (R3.out) 4
  have r5 := bl_cell (R3.out) 5 _ rfl
  have fr5 := bl_frozen (R3.out) 5
  have r6 := bl_cell (R3.out) 6 _ rfl
  have fr6 := bl_frozen (R3.out) 6
  have r7 := bl_cell (R3.out) 7 _ rfl
  have fr7 := bl_frozen (R3.out) 7
  have r8 := bl_cell (R3.out) 8 _ rfl
  have fr8 := bl_frozen (R3.out) 8
  go_wp2_with fail
  refine bodyPost_ret (v := rxv 2 0 0 0 W4.z (.slice ad l cc)) (rx_ret rfl _ _ _ _ rfl (bl_set9 R3.out _ _ _ _ _ _ _ _ _) rfl) rfl ⟨⟨.mk 2 0 0 0 W4.z ks, _, g', rfl, ?_, RG.out, ?_⟩⟩
  ·
   exact (I3.out.ks (ks_set9 _ _ _ _ _ _ _ _ _) (fun b hb _ => by have := hb.1; omega)).weak (fun b hb _ => by have := hb.1; omega)
  ·
   exact G3.out.ks (S := w.heap.size + 1) (ks_set9 _ _ _ _ _ _ _ _ _) (by omega) (by omega)
theorem rowS_any (ere : Bool) : RowSaid ere 0 := row_deep ere (fun d HP => ⟨fun aK lK cK aN lN cN B x g z w hA => krow_any ere aK lK cK aN lN cN B d x g z w HP hA⟩)
end Go.Proofs.YtikmgckefbjbkaaGreatDoor

/-! ### KSame -/

namespace Go.Proofs.YtikmgckefbjbkaaGreatDoor
open Go.RowKit

structure KSameSaid (a : Rx) : Prop where
 all : ∀ (b : Rx) (va vb : Value) (w : World) (ok ok' : Nat → Prop), Is w ok a va → Is w ok' b vb → Calls Tryz.prog 20 #[va, vb] w fun e w' => e = .returned (.bool (sameR a b)) ∧ Kp w w'
theorem sameL_ne : ∀ (a b : List Rx), a.length ≠ b.length → sameL a b = false
 | [], [], h => absurd rfl h
 | [], _ :: _, _ => by simp [sameL]
 | _ :: _, [], _ => by simp [sameL]
 | x :: a, y :: b, h => by
  rw [sameL, sameL_ne a b (fun e => h (by simp [e])), Bool.and_false]
theorem sameL_end (a b : List Rx) (q : Nat) (ha : a.length ≤ q) (hb : b.length ≤ q) : sameL (a.drop q) (b.drop q) = true := by
 rw [List.drop_eq_nil_of_le ha, List.drop_eq_nil_of_le hb, sameL]
theorem sameL_at (a b : List Rx) (q : Nat) (x y : Rx) (ha : a[q]? = some x) (hb : b[q]? = some y) : sameL (a.drop q) (b.drop q) = (sameR x y && sameL (a.drop (q + 1)) (b.drop (q + 1))) := by
 obtain ⟨h1, e1⟩ := List.getElem?_eq_some_iff.1 ha
 obtain ⟨h2, e2⟩ := List.getElem?_eq_some_iff.1 hb
 rw [List.drop_eq_getElem_cons h1, List.drop_eq_getElem_cons h2, e1, e2, sameL]

set_option maxHeartbeats 2000000 in
set_option maxRecDepth 100000 in
theorem ksame_step (k mn mx n : Int) (s : W4) (kids : List Rx) (H : ∀ a, a ∈ kids → KSameSaid a) (hl : kids.length ≤ 1000000) : KSameSaid (.mk k mn mx n s kids) := by
 refine ⟨fun b va vb w ok ok' hia hib => ?_⟩
 cases b with
 | mk k' mn' mx' n' s' kids' =>
  obtain ⟨ad, l, c, rfl, ra⟩ := hia.row
  obtain ⟨ad', l', c', rfl, rb⟩ := hib.row
  have la := hid ra.ln
  have lb := hid rb.ln
  have hca := ra.cp
  have hcb := rb.cp
  have hll : l ≤ 1000000 := by rw [la.out]; exact hl
  have RA := hid ra
  have RB := hid rb
  have HH := hid H
  clear ra rb hia hib H hl
  have e0 : Hid (sameR (.mk k mn mx n s kids) (.mk k' mn' mx' n' s' kids') = (k == k' && mn == mn' && mx == mx' && n == n' && s == s' && sameL kids kids')) := by show _ = _; rw [sameR]
  have es : ∀ w, (Op.equalIn 10000 24 (.agg #[.int .u64 (s.a : Int), .int .u64 (s.b : Int), .int .u64 (s.c : Int), .int .u64 (s.d : Int)]) (.agg #[.int .u64 (s'.a : Int), .int .u64 (s'.b : Int), .int .u64 (s'.c : Int), .int .u64 (s'.d : Int)])).run Tryz.prog w = .ok (s == s') w := fun w => by rw [w4_eq]; exact eq_vv _ _ _ _ _ _ _ _ w
  obtain ⟨q5, hq5⟩ : ∃ q, (s == s') = q := ⟨_, rfl⟩
  rw [hq5] at es e0
  clear hq5
  obtain ⟨Z, hZ⟩ : ∃ Z, sameR (.mk k mn mx n s kids) (.mk k' mn' mx' n' s' kids') = Z := ⟨_, rfl⟩
  rw [hZ] at e0 ⊢
  clear hZ
  go_enter Tryz.func20, Tryz.ntmps20
  go_upto_region 1 with fail
  refine opq (fun W => W.heap[w.heap.size]? = some (rxo k mn mx n s (.slice ad l c)) ∧ W.heap[w.heap.size + 1]? = some (rxo k' mn' mx' n' s' (.slice ad' l' c')) ∧ Kp w W) ⟨by exact bl_alloc (last_of _ _) _, by exact last_at _ _ _ (by simp), by exact ((Kp.refl _).alloc _).alloc _⟩ ?_
  rintro W0 ⟨y1, y2, y3⟩
  have A := hid y1
  have B := hid y2
  have K := hid y3
  clear y1 y2 y3
  obtain ⟨a0, a1, a2, a3, a4, a5, a6, a7, a8⟩ := cells9c A.out
  obtain ⟨b0, b1, b2, b3, b4, b5, b6, b7, b8⟩ := cells9c B.out
  cases h1 : (k == k') with
  | false =>
   have E : Hid (Z = false) := by show _ = _; rw [e0.out]; simp [h1]
   have m1 : (k != k') = true := by simp [bne, h1]
   go_wp2
   go_ret
   exact ⟨ret_bool E.out.symm, K.out⟩
  | true =>
  have m1 : (k != k') = false := by simp [bne, h1]
  cases h2 : (mn == mn') with
  | false =>
   have E : Hid (Z = false) := by show _ = _; rw [e0.out]; simp [h2]
   have m2 : (mn != mn') = true := by simp [bne, h2]
   go_wp2
   go_ret
   exact ⟨ret_bool E.out.symm, K.out⟩
  | true =>
  have m2 : (mn != mn') = false := by simp [bne, h2]
  cases h3 : (mx == mx') with
  | false =>
   have E : Hid (Z = false) := by show _ = _; rw [e0.out]; simp [h3]
   have m3 : (mx != mx') = true := by simp [bne, h3]
   go_wp2
   go_ret
   exact ⟨ret_bool E.out.symm, K.out⟩
  | true =>
  have m3 : (mx != mx') = false := by simp [bne, h3]
  cases h4 : (n == n') with
  | false =>
   have E : Hid (Z = false) := by show _ = _; rw [e0.out]; simp [h4]
   have m4 : (n != n') = true := by simp [bne, h4]
   go_wp2
   go_ret
   exact ⟨ret_bool E.out.symm, K.out⟩
  | true =>
  have m4 : (n != n') = false := by simp [bne, h4]
  cases q5 with
  | false =>
   have E : Hid (Z = false) := by show _ = _; rw [e0.out]; simp
   go_wp2
   go_ret
   exact ⟨ret_bool E.out.symm, K.out⟩
  | true =>
  by_cases hlen : l = l'
  case neg =>
   have E : Hid (Z = false) := by show _ = _; rw [e0.out, sameL_ne kids kids' (by rw [← la.out, ← lb.out]; exact hlen)]; simp
   have m6 : ((l : Int) != (l' : Int)) = true := by simp [bne]; omega
   go_wp2
   go_ret
   exact ⟨ret_bool E.out.symm, K.out⟩
  subst hlen
  have E : Hid (Z = sameL kids kids') := by show _ = _; rw [e0.out, h1, h2, h3, h4]; rfl
  have L1 := hid la.out
  clear e0 la
  go_wp2_with fail
  clear h1 h2 h3 h4 m1 m2 m3 m4 es
  clear a0 a1 a2 a3 a4 a5 a6 a7 a8 b0 b1 b2 b3 b4 b5 b6 b7 b8
  go_loopg [51] l (fun gg i wr => ∃ q : Nat, q + gg = l ∧ i = .int .i64 (q : Int) ∧ sameL kids kids' = sameL (kids.drop q) (kids'.drop q) ∧ Kp W0 wr)
  case atStart => exact ⟨0, by omega, rfl, rfl, Kp.refl _⟩
  case round =>
   obtain ⟨q, hq, rfl, hS, hK⟩ := hrel
   have S := hid hS
   have K1 := hid hK
   have A1 := hid (bl_kp A.out hK)
   have B1 := hid (bl_kp B.out hK)
   clear hS hK
   by_cases hlt : q < l
   ·
    have gkw : IntKind.i64.wrap ((q : Int) + 1) = (q : Int) + 1 := by rw [IntKind.wrap_i64]; omega
    have ga : (q : Int) < (l : Int) := by omega
    have g0 : (0 : Int) ≤ (q : Int) := by omega
    obtain ⟨r, hr⟩ : ∃ r, kids[q]? = some r := ⟨_, List.getElem?_eq_getElem (by rw [← L1.out]; exact hlt)⟩
    obtain ⟨r', hr'⟩ : ∃ r, kids'[q]? = some r := ⟨_, List.getElem?_eq_getElem (by rw [← lb.out]; exact hlt)⟩
    have S1 := hid (S.out.trans (sameL_at kids kids' q r r' hr hr'))
    have TS := hid (HH.out r (List.mem_of_getElem? hr))
    obtain ⟨bb, oo, kk, pn, px, pm, pt, pad, pl, pc, e1, hbb, i1, ce1⟩ := (RA.out.kp (K.out.trans K1.out)).at q r hr
    obtain ⟨bb', oo', kk', pn', px', pm', pt', pad', pl', pc', e1', hbb', i1', ce1'⟩ := (RB.out.kp (K.out.trans K1.out)).at q r' hr'
    subst e1
    subst e1'
    have I1 := hid i1
    have I2 := hid i1'
    have C1 := hid ce1
    have C2 := hid ce1'
    clear hr hr' i1 i1' ce1 ce1' S
    obtain ⟨z, hz⟩ : ∃ z, sameR r r' = z := ⟨_, rfl⟩
    rw [hz] at S1
    have HZ := hid hz
    clear hz
    go_upto_region 6 with fail
    have Q0 : Kp wr wr.drew := (Kp.refl _).drew
    have MK : Hid (∀ W, Kp wr W → W.cell? ⟨w.heap.size, 8, none⟩ = some (.slice (some ⟨bb, oo, none⟩) l c) ∧ W.cell? ⟨(w.heap.size + 1), 8, none⟩ = some (.slice (some ⟨bb', oo', none⟩) l c') ∧ W.cell? ⟨bb, (oo + q * 9), none⟩ = some (.int .i64 kk) ∧ W.cell? ⟨bb, (oo + q * 9 + 1), none⟩ = some (.int .i64 pn) ∧ W.cell? ⟨bb, (oo + q * 9 + 2), none⟩ = some (.int .i64 px) ∧ W.cell? ⟨bb, (oo + q * 9 + 3), none⟩ = some (.int .i64 pm) ∧ W.cell? ⟨bb, (oo + q * 9 + 4), none⟩ = some (Value.int .u64 (pt.a : Int)) ∧ W.cell? ⟨bb, (oo + q * 9 + 5), none⟩ = some (Value.int .u64 (pt.b : Int)) ∧ W.cell? ⟨bb, (oo + q * 9 + 6), none⟩ = some (Value.int .u64 (pt.c : Int)) ∧ W.cell? ⟨bb, (oo + q * 9 + 7), none⟩ = some (Value.int .u64 (pt.d : Int)) ∧ W.cell? ⟨bb, (oo + q * 9 + 8), none⟩ = some (Value.slice pad pl pc) ∧ W.cell? ⟨bb', (oo' + q * 9), none⟩ = some (.int .i64 kk') ∧ W.cell? ⟨bb', (oo' + q * 9 + 1), none⟩ = some (.int .i64 pn') ∧ W.cell? ⟨bb', (oo' + q * 9 + 2), none⟩ = some (.int .i64 px') ∧ W.cell? ⟨bb', (oo' + q * 9 + 3), none⟩ = some (.int .i64 pm') ∧ W.cell? ⟨bb', (oo' + q * 9 + 4), none⟩ = some (Value.int .u64 (pt'.a : Int)) ∧ W.cell? ⟨bb', (oo' + q * 9 + 5), none⟩ = some (Value.int .u64 (pt'.b : Int)) ∧ W.cell? ⟨bb', (oo' + q * 9 + 6), none⟩ = some (Value.int .u64 (pt'.c : Int)) ∧ W.cell? ⟨bb', (oo' + q * 9 + 7), none⟩ = some (Value.int .u64 (pt'.d : Int)) ∧ W.cell? ⟨bb', (oo' + q * 9 + 8), none⟩ = some (Value.slice pad' pl' pc') ∧ Hid (Kp wr W)) := fun W k => ⟨bl_cell (bl_kp A1.out k) 8 _ rfl, bl_cell (bl_kp B1.out k) 8 _ rfl, (cells_of_is (C1.out.turn (k.block _ hbb))).1, (cells_of_is (C1.out.turn (k.block _ hbb))).2.1, (cells_of_is (C1.out.turn (k.block _ hbb))).2.2.1, (cells_of_is (C1.out.turn (k.block _ hbb))).2.2.2.1, (cells_of_is (C1.out.turn (k.block _ hbb))).2.2.2.2.1, (cells_of_is (C1.out.turn (k.block _ hbb))).2.2.2.2.2.1, (cells_of_is (C1.out.turn (k.block _ hbb))).2.2.2.2.2.2.1, (cells_of_is (C1.out.turn (k.block _ hbb))).2.2.2.2.2.2.2.1, (cells_of_is (C1.out.turn (k.block _ hbb))).2.2.2.2.2.2.2.2, (cells_of_is (C2.out.turn (k.block _ hbb'))).1, (cells_of_is (C2.out.turn (k.block _ hbb'))).2.1, (cells_of_is (C2.out.turn (k.block _ hbb'))).2.2.1, (cells_of_is (C2.out.turn (k.block _ hbb'))).2.2.2.1, (cells_of_is (C2.out.turn (k.block _ hbb'))).2.2.2.2.1, (cells_of_is (C2.out.turn (k.block _ hbb'))).2.2.2.2.2.1, (cells_of_is (C2.out.turn (k.block _ hbb'))).2.2.2.2.2.2.1, (cells_of_is (C2.out.turn (k.block _ hbb'))).2.2.2.2.2.2.2.1, (cells_of_is (C2.out.turn (k.block _ hbb'))).2.2.2.2.2.2.2.2, k⟩
    refine wp_region_noPanic ?_
    refine wp_region_held_drew (S := (fun W => W.cell? ⟨w.heap.size, 8, none⟩ = some (.slice (some ⟨bb, oo, none⟩) l c) ∧ W.cell? ⟨(w.heap.size + 1), 8, none⟩ = some (.slice (some ⟨bb', oo', none⟩) l c') ∧ W.cell? ⟨bb, (oo + q * 9), none⟩ = some (.int .i64 kk) ∧ W.cell? ⟨bb, (oo + q * 9 + 1), none⟩ = some (.int .i64 pn) ∧ W.cell? ⟨bb, (oo + q * 9 + 2), none⟩ = some (.int .i64 px) ∧ W.cell? ⟨bb, (oo + q * 9 + 3), none⟩ = some (.int .i64 pm) ∧ W.cell? ⟨bb, (oo + q * 9 + 4), none⟩ = some (Value.int .u64 (pt.a : Int)) ∧ W.cell? ⟨bb, (oo + q * 9 + 5), none⟩ = some (Value.int .u64 (pt.b : Int)) ∧ W.cell? ⟨bb, (oo + q * 9 + 6), none⟩ = some (Value.int .u64 (pt.c : Int)) ∧ W.cell? ⟨bb, (oo + q * 9 + 7), none⟩ = some (Value.int .u64 (pt.d : Int)) ∧ W.cell? ⟨bb, (oo + q * 9 + 8), none⟩ = some (Value.slice pad pl pc) ∧ W.cell? ⟨bb', (oo' + q * 9), none⟩ = some (.int .i64 kk') ∧ W.cell? ⟨bb', (oo' + q * 9 + 1), none⟩ = some (.int .i64 pn') ∧ W.cell? ⟨bb', (oo' + q * 9 + 2), none⟩ = some (.int .i64 px') ∧ W.cell? ⟨bb', (oo' + q * 9 + 3), none⟩ = some (.int .i64 pm') ∧ W.cell? ⟨bb', (oo' + q * 9 + 4), none⟩ = some (Value.int .u64 (pt'.a : Int)) ∧ W.cell? ⟨bb', (oo' + q * 9 + 5), none⟩ = some (Value.int .u64 (pt'.b : Int)) ∧ W.cell? ⟨bb', (oo' + q * 9 + 6), none⟩ = some (Value.int .u64 (pt'.c : Int)) ∧ W.cell? ⟨bb', (oo' + q * 9 + 7), none⟩ = some (Value.int .u64 (pt'.d : Int)) ∧ W.cell? ⟨bb', (oo' + q * 9 + 8), none⟩ = some (Value.slice pad' pl' pc') ∧ Hid (Kp wr W))) (by kernel_rfl) ?_ (fun hH => ?_)
    ·
     exact MK.out _ Q0
    have KQ := Q0
    refine wpAnyH_take (i := 0) (oi := { dst := some 54, op := Op.fieldAddr 27 (Operand.tmp 2) 5, type := 0, pos := "keep.go:127", after := #[], guard := none }) (v := ?v0a1) rfl (by kernel_rfl) (by kernel_rfl) (by kernel_rfl) (fun _ _ _ h => h) (Or.inl ⟨by rfl, ?hy0a1⟩) hH ?r0a1
    case hy0a1 => (intro W hSw; (try dsimp only at hSw); go_simp; try (with_reducible rfl))
    try simp only [Act.put, List.setIfInBounds_toArray, List.set_cons_zero, List.set_cons_succ]
    refine wpAnyH_take (i := 1) (oi := { dst := some 55, op := Op.load 25 (Operand.tmp 54), type := 25, pos := "keep.go:127", after := #[{ on := 0, ground := Ground.data }], guard := none }) (v := ?v1a2) rfl (by kernel_rfl) (by kernel_rfl) (by kernel_rfl) (fun _ _ _ h => h) (Or.inl ⟨by rfl, ?hy1a2⟩) hH ?r1a2
    case hy1a2 => (intro W hSw; (try dsimp only at hSw); go_simp; try (with_reducible rfl))
    try simp only [Act.put, List.setIfInBounds_toArray, List.set_cons_zero, List.set_cons_succ]
    refine wpAnyH_take (i := 2) (oi := { dst := some 56, op := Op.move (Operand.tmp 5), type := 3, pos := "keep.go:127", after := #[], guard := none }) (v := ?v2a3) rfl (by kernel_rfl) (by kernel_rfl) (by kernel_rfl) (fun _ _ _ h => h) (Or.inl ⟨by rfl, ?hy2a3⟩) hH ?r2a3
    case hy2a3 => (intro W hSw; (try dsimp only at hSw); go_simp; try (with_reducible rfl))
    try simp only [Act.put, List.setIfInBounds_toArray, List.set_cons_zero, List.set_cons_succ]
    refine wpAnyH_take (i := 3) (oi := { dst := some 57, op := Op.indexAddr 25 (Operand.tmp 55) (Operand.tmp 56), type := 0, pos := "keep.go:127", after := #[{ on := 1, ground := Ground.data }, { on := 2, ground := Ground.data }], guard := none }) (v := ?v3a4) rfl (by kernel_rfl) (by kernel_rfl) (by kernel_rfl) (fun _ _ _ h => h) (Or.inl ⟨by rfl, ?hy3a4⟩) hH ?r3a4
    case hy3a4 => (intro W hSw; (try dsimp only at hSw); go_simp; try (with_reducible rfl))
    try simp only [Act.put, List.setIfInBounds_toArray, List.set_cons_zero, List.set_cons_succ]
    refine wpAnyH_take (i := 4) (oi := { dst := some 58, op := Op.load 27 (Operand.tmp 57), type := 27, pos := "keep.go:127", after := #[{ on := 3, ground := Ground.data }], guard := none }) (v := ?v4a5) rfl (by kernel_rfl) (by kernel_rfl) (by kernel_rfl) (fun _ _ _ h => h) (Or.inl ⟨by rfl, ?hy4a5⟩) hH ?r4a5
    case hy4a5 => (intro W hSw; (try dsimp only at hSw); go_simp; try (with_reducible rfl))
    try simp only [Act.put, List.setIfInBounds_toArray, List.set_cons_zero, List.set_cons_succ]
    refine wpAnyH_take (i := 5) (oi := { dst := some 59, op := Op.fieldAddr 27 (Operand.tmp 3) 5, type := 0, pos := "keep.go:127", after := #[], guard := none }) (v := ?v5a6) rfl (by kernel_rfl) (by kernel_rfl) (by kernel_rfl) (fun _ _ _ h => h) (Or.inl ⟨by rfl, ?hy5a6⟩) hH ?r5a6
    case hy5a6 => (intro W hSw; (try dsimp only at hSw); go_simp; try (with_reducible rfl))
    try simp only [Act.put, List.setIfInBounds_toArray, List.set_cons_zero, List.set_cons_succ]
    refine wpAnyH_take (i := 6) (oi := { dst := some 60, op := Op.load 25 (Operand.tmp 59), type := 25, pos := "keep.go:127", after := #[{ on := 5, ground := Ground.data }], guard := none }) (v := ?v6a7) rfl (by kernel_rfl) (by kernel_rfl) (by kernel_rfl) (fun _ _ _ h => h) (Or.inl ⟨by rfl, ?hy6a7⟩) hH ?r6a7
    case hy6a7 => (intro W hSw; (try dsimp only at hSw); go_simp; try (with_reducible rfl))
    try simp only [Act.put, List.setIfInBounds_toArray, List.set_cons_zero, List.set_cons_succ]
    refine wpAnyH_take (i := 7) (oi := { dst := some 61, op := Op.move (Operand.tmp 5), type := 3, pos := "keep.go:127", after := #[], guard := none }) (v := ?v7a8) rfl (by kernel_rfl) (by kernel_rfl) (by kernel_rfl) (fun _ _ _ h => h) (Or.inl ⟨by rfl, ?hy7a8⟩) hH ?r7a8
    case hy7a8 => (intro W hSw; (try dsimp only at hSw); go_simp; try (with_reducible rfl))
    try simp only [Act.put, List.setIfInBounds_toArray, List.set_cons_zero, List.set_cons_succ]
    refine wpAnyH_take (i := 8) (oi := { dst := some 62, op := Op.indexAddr 25 (Operand.tmp 60) (Operand.tmp 61), type := 0, pos := "keep.go:127", after := #[{ on := 6, ground := Ground.data }, { on := 7, ground := Ground.data }], guard := none }) (v := ?v8a9) rfl (by kernel_rfl) (by kernel_rfl) (by kernel_rfl) (fun _ _ _ h => h) (Or.inl ⟨by rfl, ?hy8a9⟩) hH ?r8a9
    case hy8a9 => (intro W hSw; (try dsimp only at hSw); go_simp; try (with_reducible rfl))
    try simp only [Act.put, List.setIfInBounds_toArray, List.set_cons_zero, List.set_cons_succ]
    refine wpAnyH_take (i := 9) (oi := { dst := some 63, op := Op.load 27 (Operand.tmp 62), type := 27, pos := "keep.go:127", after := #[{ on := 8, ground := Ground.data }], guard := none }) (v := ?v9a10) rfl (by kernel_rfl) (by kernel_rfl) (by kernel_rfl) (fun _ _ _ h => h) (Or.inl ⟨by rfl, ?hy9a10⟩) hH ?r9a10
    case hy9a10 => (intro W hSw; (try dsimp only at hSw); go_simp; try (with_reducible rfl))
    try simp only [Act.put, List.setIfInBounds_toArray, List.set_cons_zero, List.set_cons_succ]
    refine wpAnyH_ready (rs := [10]) (by kernel_rfl) (by simp) ?_
    refine AllReadyH.cons (o := { dst := some 64, op := Op.call { callee := Callee.value (Operand.func 20), args := #[Operand.tmp 58, Operand.tmp 63], argTypes := #[27, 27] }, type := 4, pos := "keep.go:127", after := #[{ on := 4, ground := Ground.data }, { on := 9, ground := Ground.data }], guard := none }) rfl (fun K hKq => ?_) AllReadyH.nil
    go_simp
    refine (TS.out.all r' _ _ _ ok ok' (I1.out.kp KQ) (I2.out.kp KQ)).mono ?_
    rintro e y1 ⟨rfl, kq⟩
    rw [HZ.out]
    refine hKq.out _ _ (MK.out _ (KQ.trans kq)) (fun hN => ?_)
    clear kq
    clear hKq K hH KQ
    have hH := hN
    clear hN
    have KQ := hH.2.2.2.2.2.2.2.2.2.2.2.2.2.2.2.2.2.2.2.2.out
    try simp only [Act.put, List.setIfInBounds_toArray, List.set_cons_zero, List.set_cons_succ]
    refine wpAnyH_take (i := 11) (oi := { dst := some 65, op := Op.unOp UnOp.not 4 (Operand.tmp 64), type := 4, pos := "keep.go:127", after := #[{ on := 10, ground := Ground.data }], guard := none }) (v := ?v11a11) rfl (by kernel_rfl) (by kernel_rfl) (by kernel_rfl) (fun _ _ _ h => h) (Or.inl ⟨by rfl, ?hy11a11⟩) hH ?r11a11
    case hy11a11 => (intro W hSw; (try dsimp only at hSw); go_simp; try (with_reducible rfl))
    try simp only [Act.put, List.setIfInBounds_toArray, List.set_cons_zero, List.set_cons_succ]
    refine wpAnyH_done (by kernel_rfl) ?_ _
    refine NoPanic.normal ?_
    have K2 := hid (K1.out.trans KQ)
    cases z with
    | false =>
     have EF : Hid (Z = false) := by show _ = _; rw [E.out, S1.out]; rfl
     go_wp2_with fail
     go_ret
     exact ⟨ret_bool EF.out.symm, K.out.trans K2.out⟩
    | true =>
     have ET : Hid (sameL kids kids' = sameL (kids.drop (q + 1)) (kids'.drop (q + 1))) := by show _ = _; rw [S1.out]; rfl
     go_wp2_with fail
     go_roundg (gk - 1)
     case measure => omega
     case rel => exact ⟨q + 1, by omega, by go_num, ET.out, K2.out⟩
   ·
    have ga : ¬ (q : Int) < (l : Int) := by omega
    have ET : Hid (Z = true) := by show _ = _; rw [E.out, S.out]; exact sameL_end _ _ _ (by rw [← L1.out]; omega) (by rw [← lb.out]; omega)
    go_wp2_with fail
    go_ret
    exact ⟨ret_bool ET.out.symm, K.out.trans K1.out⟩

theorem ksame_any : ∀ a, RxFit a → KSameSaid a
 | .mk k mn mx n s kids, h => by
  unfold RxFit at h
  exact ksame_step k mn mx n s kids (fun a ha => ksame_any a (h.2 a ha)) h.1
termination_by a => SizeOf.sizeOf a
decreasing_by
 have := List.sizeOf_lt_of_mem ha
 simp
 omega
end Go.Proofs.YtikmgckefbjbkaaGreatDoor

/-! ### SameEq -/

namespace Go.Proofs.YtikmgckefbjbkaaGreatDoor
open Go.RowKit

mutual
theorem sameR_refl : ∀ a : Rx, sameR a a = true
 | .mk k mn mx n s ks => by simp [sameR, sameL_refl ks]
theorem sameL_refl : ∀ a : List Rx, sameL a a = true
 | [] => by simp [sameL]
 | a :: l => by simp [sameL, sameR_refl a, sameL_refl l]
end
mutual
theorem sameR_eq : ∀ a b : Rx, sameR a b = true → a = b
 | .mk k mn mx n s ks, .mk k' mn' mx' n' s' ks', h => by
  simp only [sameR, Bool.and_eq_true, beq_iff_eq] at h
  obtain ⟨⟨⟨⟨⟨h1, h2⟩, h3⟩, h4⟩, h5⟩, h6⟩ := h
  rw [h1, h2, h3, h4, h5, sameL_eq ks ks' h6]
theorem sameL_eq : ∀ a b : List Rx, sameL a b = true → a = b
 | [], [], _ => rfl
 | a :: l, b :: m, h => by
  simp only [sameL, Bool.and_eq_true] at h
  rw [sameR_eq a b h.1, sameL_eq l m h.2]
 | [], _ :: _, h => by simp [sameL] at h
 | _ :: _, [], h => by simp [sameL] at h
end
end Go.Proofs.YtikmgckefbjbkaaGreatDoor

/-! ### Talk -/

namespace Go.Proofs.YtikmgckefbjbkaaGreatDoor
open Go.RowKit

theorem fit_of_ok : ∀ r, RxOk r → RxFit r
 | .mk k mn mx n s kids, h => by
  unfold RxOk at h
  unfold RxFit
  exact ⟨h.1, fun a ha => fit_of_ok a (h.2.2 a ha)⟩
termination_by r => SizeOf.sizeOf r
decreasing_by
 have := List.sizeOf_lt_of_mem ha
 simp
 omega
theorem slim_of_ok : ∀ r, RxOk r → Slim r
 | .mk k mn mx n s kids, h => by
  unfold RxOk at h
  unfold Slim
  exact ⟨h.1, fun a ha => slim_of_ok a (h.2.2 a ha)⟩
termination_by r => SizeOf.sizeOf r
decreasing_by
 have := List.sizeOf_lt_of_mem ha
 simp
 omega
theorem print_size (ere : Bool) (T : Rx) (hO : RxOk T) : (bs (printT ere T)).size ≤ 1000000 := by
 rw [bs_size]
 unfold printT
 split
 ·
  rename_i h
  have := (Trip.right_fit ere T hO h).2
  omega
 ·
  simp
theorem nds_right (ere : Bool) (T : Rx) (h : right ere T = true) : nds T ≤ 40 := by
 unfold right at h
 obtain ⟨c, hc⟩ := Option.isSome_iff_exists.1 h
 have := (Trip.cnt_any T).all ere true true ⟨0, 0, 0⟩ c hc
 simp at this
 omega
/-- A tree's text. -/
theorem talk_print (T : Rx) (ere : Bool) (hO : RxOk T) (S : ByteArray) (hS : bs (printT ere T) = S) (w : World) {k mn mx m : Int} {t : W4} {ad : Option Addr} {l c : Nat} (h : Pd w T k mn mx m t ad l c) :
  Calls Tryz.prog 10 #[rxv k mn mx m t (.slice ad l c), .bool ere] w fun e w' => e = .returned (.string S) ∧ Kp w w' := by
 subst hS
 exact print_any T ere _ k mn mx m t ad l c w hO (fun hr => (Trip.right_fit ere T hO hr).1) h.is
theorem talk_right (T : Rx) (ere b : Bool) (hO : RxOk T) (hb : right ere T = b) (w : World) {k mn mx m : Int} {t : W4} {ad : Option Addr} {l c : Nat} (h : Pd w T k mn mx m t ad l c) :
  Calls Tryz.prog 15 #[rxv k mn mx m t (.slice ad l c), .bool ere] w fun e w' => e = .returned (.bool b) ∧ Kp w w' := by
 subst hb
 exact Right_any T ere _ k mn mx m t ad l c w hO h.is
theorem talk_same (T U : Rx) (b : Bool) (hO : RxOk T) (hb : sameR T U = b) (w : World) {k mn mx m : Int} {t : W4} {ad : Option Addr} {l c : Nat} {k' mn' mx' m' : Int} {t' : W4} {ad' : Option Addr} {l' c' : Nat} (h : Pd w T k mn mx m t ad l c) (h' : Pd w U k' mn' mx' m' t' ad' l' c') :
  Calls Tryz.prog 16 #[rxv k mn mx m t (.slice ad l c), rxv k' mn' mx' m' t' (.slice ad' l' c')] w fun e w' => e = .returned (.bool b) ∧ Kp w w' := by
 subst hb
 exact same_any T U _ _ w _ _ (fit_of_ok T hO) h.is h'.is
theorem talk_ksame (T U : Rx) (b : Bool) (hO : RxOk T) (hb : sameR T U = b) (w : World) {k mn mx m : Int} {t : W4} {ad : Option Addr} {l c : Nat} {k' mn' mx' m' : Int} {t' : W4} {ad' : Option Addr} {l' c' : Nat} (h : Pd w T k mn mx m t ad l c) (h' : Pd w U k' mn' mx' m' t' ad' l' c') :
  Calls Tryz.prog 20 #[rxv k mn mx m t (.slice ad l c), rxv k' mn' mx' m' t' (.slice ad' l' c')] w fun e w' => e = .returned (.bool b) ∧ Kp w w' := by
 subst hb
 exact (ksame_any T (fit_of_ok T hO)).all U _ _ w _ _ h.is h'.is
theorem talk_nodes (T : Rx) (N : Nat) (hO : RxOk T) (hn : nds T = N) (hN : N ≤ 1000000) (w : World) {k mn mx m : Int} {t : W4} {ad : Option Addr} {l c : Nat} (h : Pd w T k mn mx m t ad l c) :
  Calls Tryz.prog 18 #[rxv k mn mx m t (.slice ad l c)] w fun e w' => e = .returned (.int .i64 ((N : Nat) : Int)) ∧ Kp w w' := by
 subst hn
 exact (Nodes_any T hN (slim_of_ok T hO)).all _ _ w h.is
end Go.Proofs.YtikmgckefbjbkaaGreatDoor

/-! ### Talk2 -/

namespace Go.Proofs.YtikmgckefbjbkaaGreatDoor
open Go.RowKit

theorem print_len (ere : Bool) (T : Rx) (hO : RxOk T) : (bs (printT ere T)).size ≤ 84000 := by
 rw [bs_size]
 unfold printT
 split
 ·
  rename_i h
  exact (Trip.right_fit ere T hO h).2
 ·
  simp
end Go.Proofs.YtikmgckefbjbkaaGreatDoor

/-! ### OpenRx -/

namespace Go.Proofs.YtikmgckefbjbkaaGreatDoor
open Go.ChangeShapes Go.WideShapes Go.ChangeAt Go.RowKit Go.Deep

theorem list9 (l : List Value) (h : l.length = 9) : ∃ a b c d e f g i j, l = [a, b, c, d, e, f, g, i, j] := by
 match l, h with
 | [a, b, c, d, e, f, g, i, j], _ => exact ⟨a, b, c, d, e, f, g, i, j, rfl⟩
/-- The words of all sets fit. -/
def RxW : Rx → Prop
 | .mk _ _ _ _ s kids => (s.a < 18446744073709551616 ∧ s.b < 18446744073709551616 ∧ s.c < 18446744073709551616 ∧ s.d < 18446744073709551616) ∧ ∀ a, a ∈ kids → RxW a
termination_by r => SizeOf.sizeOf r
decreasing_by
 have := List.sizeOf_lt_of_mem (by assumption)
 simp
 omega
theorem rx_cells : Tryz.prog.cellsOf 27 = 9 := by kernel_rfl
theorem int_cells : Tryz.prog.cellsOf 3 = 1 := by kernel_rfl
theorem set_cells : Tryz.prog.cellsOf 24 = 4 := by kernel_rfl
theorem word_cells : Tryz.prog.cellsOf 22 = 1 := by kernel_rfl
theorem row_cells : Tryz.prog.cellsOf 25 = 1 := by kernel_rfl
/-- A row of trees out of what stands at its places. -/
theorem isL_of {W : World} {ok : Nat → Prop} {b : Nat} : ∀ (n : Nat) (o : Nat) (_ : ∀ i, i < n → ∃ T v, CellsAt W b (o + i * 9) v ∧ Is W ok T v ∧ RxW T), ∃ ts : List Rx, ts.length = n ∧ IsL W ok ts b o ∧ ∀ a, a ∈ ts → RxW a
 | 0, _, _ => ⟨[], rfl, by rw [IsL]; trivial, fun a ha => by cases ha⟩
 | n + 1, o, h => by
  obtain ⟨T, v, h1, h2, h3⟩ := h 0 (by omega)
  obtain ⟨ts, e1, e2, e3⟩ := isL_of n (o + 9) (fun i hi => by
   obtain ⟨T, v, h1, h2, h3⟩ := h (i + 1) (by omega)
   refine ⟨T, v, ?_, h2, h3⟩
   rw [show o + 9 + i * 9 = o + (i + 1) * 9 by omega]
   exact h1)
  refine ⟨T :: ts, by simp [e1], ?_, fun a ha => ?_⟩
  ·
   rw [IsL]
   refine ⟨⟨v, h2, ?_⟩, e2⟩
   rw [show o = o + 0 * 9 by omega]
   exact h1
  ·
   rcases List.mem_cons.1 ha with rfl | ha
   ·
    exact h3
   ·
    exact e3 a ha
set_option maxRecDepth 100000 in
theorem open_tree {H : Type} {enc : TypeId × Value → H} {W : World} : ∀ (fuel : Nat) (cs : List Value) (x : DataW H × List MemPlace), DataW.trod enc Tryz.prog W 0 (fun _ => true) true fuel 27 cs = some x →
  ∃ T v, cs = cellsOf v ∧ Is W (fun b => b < W.heap.size) T v ∧ RxW T
 | fuel, cs, x, hf => by
  obtain ⟨xs, n, hfu, _, hl, hlen, hx⟩ := DataW.trod_struct Tryz.underlying27 hf
  rw [rx_cells] at hl
  obtain ⟨a, b, c, d, e, f, g, i, j, rfl⟩ := list9 cs hl
  match xs, hlen with
  | [y0, y1, y2, y3, y4, y5], _ =>
   have g0 := hx 0 _ rfl
   have g1 := hx 1 _ rfl
   have g2 := hx 2 _ rfl
   have g3 := hx 3 _ rfl
   have g4 := hx 4 _ rfl
   have g5 := hx 5 _ rfl
   simp [int_cells, set_cells, row_cells] at g0 g1 g2 g3 g4 g5
   obtain ⟨x0, e0, _, _⟩ := DataW.trod_int Tryz.underlying3 g0
   obtain ⟨x1, e1, _, _⟩ := DataW.trod_int Tryz.underlying3 g1
   obtain ⟨x2, e2, _, _⟩ := DataW.trod_int Tryz.underlying3 g2
   obtain ⟨x3, e3, _, _⟩ := DataW.trod_int Tryz.underlying3 g3
   simp only [List.cons.injEq, and_true] at e0 e1 e2 e3
   subst e0 e1 e2 e3
   obtain ⟨z0, z1, z2, z3, m, _, hz0, hz1, hz2, hz3⟩ := trod_array4 Tryz.underlying24 word_cells g4
   obtain ⟨w0, f0, _, v0⟩ := DataW.trod_int Tryz.underlying22 hz0
   obtain ⟨w1, f1, _, v1⟩ := DataW.trod_int Tryz.underlying22 hz1
   obtain ⟨w2, f2, _, v2⟩ := DataW.trod_int Tryz.underlying22 hz2
   obtain ⟨w3, f3, _, v3⟩ := DataW.trod_int Tryz.underlying22 hz3
   simp only [List.cons.injEq, and_true] at f0 f1 f2 f3
   subst f0 f1 f2 f3
   obtain ⟨p0, q0⟩ := bounds_u64 v0
   obtain ⟨p1, q1⟩ := bounds_u64 v1
   obtain ⟨p2, q2⟩ := bounds_u64 v2
   obtain ⟨p3, q3⟩ := bounds_u64 v3
   obtain ⟨n0, rfl⟩ := Int.eq_ofNat_of_zero_le p0
   obtain ⟨n1, rfl⟩ := Int.eq_ofNat_of_zero_le p1
   obtain ⟨n2, rfl⟩ := Int.eq_ofNat_of_zero_le p2
   obtain ⟨n3, rfl⟩ := Int.eq_ofNat_of_zero_le p3
   have hw : (n0 < 18446744073709551616 ∧ n1 < 18446744073709551616 ∧ n2 < 18446744073709551616 ∧ n3 < 18446744073709551616) := ⟨by omega, by omega, by omega, by omega⟩
   rcases DataW.trod_slice Tryz.underlying25 g5 with ⟨hcs, _⟩ | ⟨ad, len, cap, elems, rest, n', hfu2, hcs, _, hb, hle, hm, hel, hxx, _, _⟩
   ·
    simp only [List.cons.injEq, and_true] at hcs
    subst hcs
    refine ⟨.mk x0 x1 x2 x3 ⟨n0, n1, n2, n3⟩ [], rxv x0 x1 x2 x3 ⟨n0, n1, n2, n3⟩ (.slice none 0 0), rfl, Is.leaf _ _ _ _ _ _ _, ?_⟩
    unfold RxW
    exact ⟨hw, fun a ha => by cases ha⟩
   ·
    simp only [List.cons.injEq, and_true] at hcs
    subst hcs
    obtain ⟨ab, ao, inner⟩ := ad
    rw [rx_cells] at hxx
    by_cases h0 : len = 0
    ·
     subst h0
     refine ⟨.mk x0 x1 x2 x3 ⟨n0, n1, n2, n3⟩ [], rxv x0 x1 x2 x3 ⟨n0, n1, n2, n3⟩ (.slice (some ⟨ab, ao, inner⟩) 0 cap), rfl, ?_, ?_⟩
     ·
      unfold Is
      exact ⟨_, _, _, rfl, rfl, by omega, fun h => absurd rfl h⟩
     ·
      unfold RxW
      exact ⟨hw, fun a ha => by cases ha⟩
    have hin : inner = none := by
     have h1 := hxx 0 (by omega)
     rw [List.getElem?_eq_getElem (by omega)] at h1
     obtain ⟨cs', h2, _⟩ := Option.bind_eq_some_iff.1 h1
     obtain ⟨_, hlen', hcell⟩ := World.cells?_some h2
     obtain ⟨u0, u1, u2, u3, u4, u5, u6, u7, u8, rfl⟩ := list9 cs' hlen'
     simpa [Addr.add] using World.cell?_spot (show W.cell? _ = some u0 from hcell 0 (by omega))
    subst hin
    have kid : ∀ i, i < len → ab < W.heap.size ∧ ∃ T v, CellsAt W ab (ao + i * 9) v ∧ Is W (fun b => b < W.heap.size) T v ∧ RxW T := fun i hi => by
     have h1 := hxx i hi
     rw [List.getElem?_eq_getElem (by omega)] at h1
     obtain ⟨cs', h2, h3⟩ := Option.bind_eq_some_iff.1 h1
     obtain ⟨_, hlen', hcell⟩ := World.cells?_some h2
     obtain ⟨T, v, e1, e2, e3⟩ := open_tree n' cs' _ h3
     refine ⟨?_, T, v, ?_, e2, e3⟩
     ·
      obtain ⟨u0, u1, u2, u3, u4, u5, u6, u7, u8, rfl⟩ := list9 cs' hlen'
      have c0 : W.cell? _ = some u0 := hcell 0 (by omega)
      simp only [add_plain] at c0
      exact World.block_lt_of_cell? W _ c0
     ·
      intro j u hj
      rw [← e1] at hj
      have hj' : j < 9 := by rw [← hlen']; exact (List.getElem?_eq_some_iff.1 hj).1
      have := hcell j hj'
      simp only [add_plain] at this
      rw [this]
      exact hj
    obtain ⟨hab, _⟩ := kid 0 (by omega)
    obtain ⟨ts, t1, t2, t3⟩ := isL_of (W := W) (ok := fun b => b < W.heap.size) (b := ab) len ao (fun i hi => (kid i hi).2)
    refine ⟨.mk x0 x1 x2 x3 ⟨n0, n1, n2, n3⟩ ts, rxv x0 x1 x2 x3 ⟨n0, n1, n2, n3⟩ (.slice (some ⟨ab, ao, none⟩) len cap), rfl, ?_, ?_⟩
    ·
     unfold Is
     exact ⟨_, _, _, rfl, t1.symm, hle, fun _ => ⟨ab, ao, rfl, hab, hab, t2⟩⟩
    ·
     unfold RxW
     exact ⟨hw, t3⟩
termination_by fuel => fuel
decreasing_by omega
set_option maxRecDepth 100000 in
/-- What is handed in is a tree that lies in memory. -/
theorem open_rx {H : Type} {enc : TypeId × Value → H} {W : World} {base : Nat} {v : Value} {d : DataW H} {ps : List MemPlace}
  (hv : Value.okWide Tryz.prog W .any base 27 v) (h : DataW.Trod enc Tryz.prog W 0 (fun _ => true) true 27 v d ps) : ∃ T k mn mx n s ad l c, v = rxv k mn mx n s (.slice ad l c) ∧ Is W (fun b => b < W.heap.size) T v ∧ RxW T := by
 obtain ⟨cs, rfl, _⟩ := okWide_struct Tryz.underlying27 hv
 obtain ⟨fuel, hf⟩ := h
 obtain ⟨T, v, e, hI, hW⟩ := open_tree fuel _ _ hf
 obtain ⟨k, mn, mx, n, s, ad, l, c, rfl⟩ := hI.form
 have : Value.agg cs = rxv k mn mx n s (.slice ad l c) := by
  simp [Value.cells, cellsOf] at e
  cases cs
  simp at e
  rw [e]
 rw [this]
 exact ⟨T, k, mn, mx, n, s, ad, l, c, rfl, hI, hW⟩
end Go.Proofs.YtikmgckefbjbkaaGreatDoor

/-! ### Small -/

namespace Go.Proofs.YtikmgckefbjbkaaGreatDoor
open Go.RowKit

def smallT : Nat → Rx → Rx
 | 0, .mk k mn mx m s _ => .mk k mn mx m s []
 | n + 1, .mk k mn mx m s kids => .mk k mn mx m s ((kids.take 3).map (smallT n))
def smallL : Nat → List Rx → List Rx
 | 0, _ => []
 | n + 1, kids => (kids.take 3).map (smallT n)
theorem smallT_mk (n : Nat) (k mn mx m : Int) (s : W4) (kids : List Rx) : smallT n (.mk k mn mx m s kids) = .mk k mn mx m s (smallL n kids) := by
 cases n <;> rfl
theorem small_ok : ∀ (n : Nat) (T : Rx), RxW T → RxOk (smallT n T)
 | 0, .mk k mn mx m s kids, h => by
  unfold RxW at h
  rw [smallT]
  unfold RxOk
  exact ⟨by simp, h.1, fun a ha => by cases ha⟩
 | n + 1, .mk k mn mx m s kids, h => by
  unfold RxW at h
  rw [smallT]
  unfold RxOk
  refine ⟨by simp; omega, h.1, fun a ha => ?_⟩
  obtain ⟨b, hb, rfl⟩ := List.mem_map.1 ha
  exact small_ok n b (h.2 b (List.mem_of_mem_take hb))
theorem Kp.grownTop {w a c : World} {row : Option Nat} (h : Kp w a) (gr : a.grownBy c row) (hr : ∀ k, row = some k → w.heap.size ≤ k) : Kp w c :=
 ⟨gr.os.trans h.os, gr.tape.trans h.tape, gr.output.trans h.output, Nat.le_trans h.size gr.size, fun k hk => (gr.block k (Nat.lt_of_lt_of_le hk h.size) (fun e => by have := hr k e.symm; omega)).trans (h.block k hk)⟩
structure SmallD (n : Nat) (T : Rx) (w : World) (e : Ending) (w' : World) : Prop where
 ex : ∃ v, e = .returned v ∧ Is w' (fun b => w.heap.size ≤ b) (smallT n T) v ∧ Kp w w'
structure SmallSaid (n : Nat) : Prop where
 all : ∀ (T : Rx) (ok : Nat → Prop) (v : Value) (w : World), Is w ok T v → Calls Tryz.prog 12 #[v, .int .i64 (n : Int)] w fun e w' => SmallD n T w e w'

set_option maxHeartbeats 2000000 in
set_option maxRecDepth 100000 in
theorem small_step (n : Nat) (hn4 : n ≤ 100) (HS : 0 < n → SmallSaid (n - 1)) : SmallSaid n := by
 refine ⟨fun T ok v w hI => ?_⟩
 obtain ⟨k, mn, mx, m, t, kids⟩ := T
 obtain ⟨ad, l, c, rfl, hr⟩ := hI.row
 have hle := hr.ln
 have hlc := hr.cp
 subst hle
 obtain ⟨L, hL⟩ : ∃ L, kids.length = L := ⟨_, rfl⟩
 rw [hL] at hr hlc ⊢
 have HL := hid hL
 have RR := hid hr
 have HSS := hid HS
 clear hI hr hL HS
 go_enter Tryz.func12, Tryz.ntmps12
 go_upto_region 1 with fail
 refine opq (fun W0 => W0.heap[w.heap.size]? = some (rxo k mn mx m t (.slice ad L c)) ∧ W0.heap[(w.heap.size + 1)]? = some rzo ∧ Kp w W0) ⟨by exact bl_alloc (last_of _ _) _, by exact last_at _ _ _ (by simp), by exact (by repeat (first | exact Kp.refl _ | refine Kp.alloc ?_ _ | refine Kp.drew ?_ | refine Kp.drewN _ ?_))⟩ ?_
 rintro W0 ⟨xA0, xR0, xK0⟩
 have A0 : Hid (W0.heap[w.heap.size]? = some (rxo k mn mx m t (.slice ad L c))) := xA0
 have R0 : Hid (W0.heap[(w.heap.size + 1)]? = some rzo) := xR0
 have K0 : Hid (Kp w W0) := xK0
 clear xA0 xR0 xK0
 have hs0 : w.heap.size + 1 < W0.heap.size := bl_lt R0.out
 go_wp2_with fail
 go_loopg [5, 6] 4 (fun gk v5 v6 wr => ∃ (i : Nat) (ks : List Rx), v6 = .int .i64 (i : Int) ∧ i + gk = 4 ∧ i ≤ 3 ∧ i ≤ L ∧ (n = 0 → i = 0) ∧ ks = (kids.take i).map (smallT (n - 1)) ∧ ks.length = i ∧ RKids (w.heap.size + 2) wr v5 ks ∧ Kp w wr ∧ wr.heap[w.heap.size]? = some (rxo k mn mx m t (.slice ad L c)) ∧ wr.heap[w.heap.size + 1]? = some rzo)
 case atStart => exact ⟨0, [], rfl, by omega, by omega, by omega, fun _ => rfl, by simp, rfl, RKids.nil _ _, K0.out, A0.out, R0.out⟩
 case round =>
  obtain ⟨i, ks, rfl, hgk, hi3, hiL, hin, hks, hlen, hRK, hK, hA1, hR1⟩ := hrel
  have HKS := hid hks
  have RKx := hid hRK
  have K := hid hK
  have A1 := hid hA1
  have R1 := hid hR1
  have hs1 : w.heap.size + 1 < wr.heap.size := bl_lt hR1
  clear hks hRK hK hA1 hR1 A0 R0 K0
  by_cases hgo : i < L ∧ i < 3 ∧ 0 < n
  ·
   obtain ⟨g1, g2, g3⟩ := hgo
   have g1i : (i : Int) < (L : Int) := by omega
   have g2i : (i : Int) < 3 := by omega
   have g3i : (0 : Int) < (n : Int) := by omega
   have g0 : (0 : Int) ≤ (i : Int) := by omega
   have gi : IntKind.i64.wrap ((i : Int) + 1) = (i : Int) + 1 := by rw [IntKind.wrap_i64]; omega
   obtain ⟨n', hn'⟩ : ∃ n', n = n' + 1 := ⟨n - 1, by omega⟩
   subst hn'
   have gn : IntKind.i64.wrap (((n' + 1 : Nat) : Int) - 1) = (n' : Int) := by rw [IntKind.wrap_i64]; omega
   have gn2 : IntKind.i64.wrap ((n' : Int) + 1 - 1) = (n' : Int) := by rw [IntKind.wrap_i64]; omega
   obtain ⟨r, hr⟩ : ∃ r, kids[i]? = some r := ⟨_, List.getElem?_eq_getElem (by rw [HL.out]; exact g1)⟩
   obtain ⟨bb, oo, kk, mn', mx', mm, tt, ad', ll, cc, e1, hbb, i1, ce1⟩ := (RR.out.kp K.out).at i r hr
   subst e1
   have HRQ := hid hr
   have PX := hid ((HSS.out (by omega)).all r ok _ _ i1)
   simp only [Nat.add_sub_cancel] at PX
   have CE1 := hid ce1
   clear hr i1 ce1
   obtain ⟨x0, x1, x2, x3, x4, x5, x6, x7, x8⟩ := cells_of_is CE1.out
   obtain ⟨p0, p1, p2, p3, p4, p5, p6, p7, p8⟩ := cells9c A1.out
   go_wp2_with fail
   refine PX.out.mono ?_
   rintro e W2 ⟨⟨v, rfl, hI, hK2⟩⟩
   obtain ⟨k2, mn2, mx2, mm2, t2, ad2, l2, c2, rfl⟩ := hI.form
   have hs2 := hK2.size
   have RK2 := hid (RKx.out.turn hK2.size (fun b _ hl => hK2.block b hl))
   have HI2 : Hid (Is W2 (fun b => w.heap.size + 2 ≤ b ∧ u5.ownBlock ≠ some b) (smallT n' r) (rxv k2 mn2 mx2 mm2 t2 (.slice ad2 l2 c2))) := hI.weak (fun b hb _ => ⟨by omega, fun e => by have := (RKx.out.block b e).2; omega⟩)
   have HUB : Hid (∀ k, u5.ownBlock = some k → w.heap.size + 2 ≤ k) := fun k e => (RKx.out.block k e).1
   have A2 := hid (bl_kp A1.out hK2)
   have R2 := hid (bl_kp R1.out hK2)
   have K2 := hid (K.out.trans hK2)
   clear hI hK2 A1 R1 RKx K p0 p1 p2 p3 p4 p5 p6 p7 p8 x0 x1 x2 x3 x4 x5 x6 x7 x8
   go_wp2_with (at_builtin; go_must (refine wpList_append_rx W2 (by rfl) _ _ (by rfl) (w.heap.size + 2) u5 ks (smallT n' r) (by rfl) RK2 k2 mn2 mx2 mm2 t2 ad2 l2 c2 HI2 _ (by rfl) (by rfl) ?h1 ?h2 ?_))
   case h1 => omega
   case h2 => omega
   intro v' w' hk' hg'
   have HK' := hid hk'
   have K3 := hid (K2.out.grownTop hg' (fun k e => by have := HUB.out k e; omega))
   have A3 := hid (bl_gr A2.out hg' (fun e => by have := HUB.out _ e; omega))
   have R3 := hid (bl_gr R2.out hg' (fun e => by have := HUB.out _ e; omega))
   clear hk' hg' A2 R2 K2 RK2 HI2
   go_wp2_with fail
   go_roundg (gk - 1)
   case measure => omega
   case rel =>
    refine ⟨i + 1, ks ++ [smallT n' r], by go_num, by omega, by omega, by omega, fun h => by omega, ?_, by simp [hlen], HK'.out, K3.out, A3.out, R3.out⟩
    rw [HKS.out, List.take_succ_eq_append_getElem (by rw [HL.out]; exact g1), (List.getElem?_eq_some_iff.1 HRQ.out).2]
    simp
  ·
   have E : Hid (smallL n kids = ks) := by
    show _ = _
    rw [HKS.out]
    cases n with
    | zero =>
     obtain rfl : i = 0 := hin rfl
     rfl
    | succ n' =>
     show (kids.take 3).map (smallT n') = _
     have : i = 3 ∨ i = L := by omega
     rcases this with h | h
     ·
      rw [h]; rfl
     ·
      rw [h, List.take_of_length_le (i := L) (by rw [HL.out]; omega), List.take_of_length_le (by rw [HL.out]; omega)]
      rfl
   obtain ⟨ad5, cap5, hv5, hcap⟩ := RKx.out.form
   rw [hlen] at hv5
   subst hv5
   have HST : Hid (Is wr (fun b => w.heap.size + 2 ≤ b) (.mk k mn mx m t ks) (rxv k mn mx m t (.slice ad5 i cap5))) := RKx.out.is k mn mx m t
   obtain ⟨p0, fp0, p1, fp1, p2, fp2, p3, fp3, p4, fp4, p5, fp5, p6, fp6, p7, fp7, p8, fp8⟩ := cells9 A1.out
   by_cases g1 : i < L
   ·
    have g1i : (i : Int) < (L : Int) := by omega
    by_cases g2 : i < 3
    ·
     have g2i : (i : Int) < 3 := by omega
     have g3i : ¬ (0 : Int) < (n : Int) := by omega
     go_upto_region 7 with fail
     refine opq (fun W6 => W6.heap[w.heap.size]? = some (rxo k mn mx m t (.slice ad5 i cap5)) ∧ W6.heap[(w.heap.size + 1)]? = some rzo ∧ Is W6 (fun b => w.heap.size + 2 ≤ b) (.mk k mn mx m t ks) (rxv k mn mx m t (.slice ad5 i cap5)) ∧ Kp w W6) ⟨by exact bl_put A1.out _, by exact bl_set R1.out (by omega) _, by exact HST.out.ks ((Ks.refl _ _).set 8 _) (fun b hb _ => by omega), by exact Ks.up (P := w.heap.size) ((Ks.refl _ _).set 8 _) K.out (by omega)⟩ ?_
     rintro W6 ⟨xA6, xR6, xI6, xK6⟩
     have A6 : Hid (W6.heap[w.heap.size]? = some (rxo k mn mx m t (.slice ad5 i cap5))) := xA6
     have R6 : Hid (W6.heap[(w.heap.size + 1)]? = some rzo) := xR6
     have I6 : Hid (Is W6 (fun b => w.heap.size + 2 ≤ b) (.mk k mn mx m t ks) (rxv k mn mx m t (.slice ad5 i cap5))) := xI6
     have K6 : Hid (Kp w W6) := xK6
     clear xA6 xR6 xI6 xK6
     clear A1 R1 K HST p0 p1 p2 p3 p4 p5 p6 p7 p8 fp0 fp1 fp2 fp3 fp4 fp5 fp6 fp7 fp8
     obtain ⟨p0, p1, p2, p3, p4, p5, p6, p7, p8⟩ := cells9c A6.out
     obtain ⟨r0, fr0, r1, fr1, r2, fr2, r3, fr3, r4, fr4, r5, fr5, r6, fr6, r7, fr7, r8, fr8⟩ := cells9 R6.out
     go_wp2_with fail
     refine bodyPost_ret (v := rxv k mn mx m t (.slice ad5 i cap5)) (rx_ret rfl _ _ _ _ rfl (bl_set9 R6.out _ _ _ _ _ _ _ _ _) rfl) rfl ⟨⟨_, rfl, ?_, ?_⟩⟩
     ·
      rw [smallT_mk, E.out]
      exact (I6.out.ks (ks_set9 _ _ _ _ _ _ _ _ _) (fun b hb _ => by omega)).weak (fun b hb _ => by omega)
     ·
      exact Ks.up (P := w.heap.size + 1) (ks_set9 _ _ _ _ _ _ _ _ _) K6.out (by omega)
    ·
     have g2i : ¬ (i : Int) < 3 := by omega
     go_upto_region 7 with fail
     refine opq (fun W6 => W6.heap[w.heap.size]? = some (rxo k mn mx m t (.slice ad5 i cap5)) ∧ W6.heap[(w.heap.size + 1)]? = some rzo ∧ Is W6 (fun b => w.heap.size + 2 ≤ b) (.mk k mn mx m t ks) (rxv k mn mx m t (.slice ad5 i cap5)) ∧ Kp w W6) ⟨by exact bl_put A1.out _, by exact bl_set R1.out (by omega) _, by exact HST.out.ks ((Ks.refl _ _).set 8 _) (fun b hb _ => by omega), by exact Ks.up (P := w.heap.size) ((Ks.refl _ _).set 8 _) K.out (by omega)⟩ ?_
     rintro W6 ⟨xA6, xR6, xI6, xK6⟩
     have A6 : Hid (W6.heap[w.heap.size]? = some (rxo k mn mx m t (.slice ad5 i cap5))) := xA6
     have R6 : Hid (W6.heap[(w.heap.size + 1)]? = some rzo) := xR6
     have I6 : Hid (Is W6 (fun b => w.heap.size + 2 ≤ b) (.mk k mn mx m t ks) (rxv k mn mx m t (.slice ad5 i cap5))) := xI6
     have K6 : Hid (Kp w W6) := xK6
     clear xA6 xR6 xI6 xK6
     clear A1 R1 K HST p0 p1 p2 p3 p4 p5 p6 p7 p8 fp0 fp1 fp2 fp3 fp4 fp5 fp6 fp7 fp8
     obtain ⟨p0, p1, p2, p3, p4, p5, p6, p7, p8⟩ := cells9c A6.out
     obtain ⟨r0, fr0, r1, fr1, r2, fr2, r3, fr3, r4, fr4, r5, fr5, r6, fr6, r7, fr7, r8, fr8⟩ := cells9 R6.out
     go_wp2_with fail
     refine bodyPost_ret (v := rxv k mn mx m t (.slice ad5 i cap5)) (rx_ret rfl _ _ _ _ rfl (bl_set9 R6.out _ _ _ _ _ _ _ _ _) rfl) rfl ⟨⟨_, rfl, ?_, ?_⟩⟩
     ·
      rw [smallT_mk, E.out]
      exact (I6.out.ks (ks_set9 _ _ _ _ _ _ _ _ _) (fun b hb _ => by omega)).weak (fun b hb _ => by omega)
     ·
      exact Ks.up (P := w.heap.size + 1) (ks_set9 _ _ _ _ _ _ _ _ _) K6.out (by omega)
   ·
    have g1i : ¬ (i : Int) < (L : Int) := by omega
    go_upto_region 7 with fail
    refine opq (fun W6 => W6.heap[w.heap.size]? = some (rxo k mn mx m t (.slice ad5 i cap5)) ∧ W6.heap[(w.heap.size + 1)]? = some rzo ∧ Is W6 (fun b => w.heap.size + 2 ≤ b) (.mk k mn mx m t ks) (rxv k mn mx m t (.slice ad5 i cap5)) ∧ Kp w W6) ⟨by exact bl_put A1.out _, by exact bl_set R1.out (by omega) _, by exact HST.out.ks ((Ks.refl _ _).set 8 _) (fun b hb _ => by omega), by exact Ks.up (P := w.heap.size) ((Ks.refl _ _).set 8 _) K.out (by omega)⟩ ?_
    rintro W6 ⟨xA6, xR6, xI6, xK6⟩
    have A6 : Hid (W6.heap[w.heap.size]? = some (rxo k mn mx m t (.slice ad5 i cap5))) := xA6
    have R6 : Hid (W6.heap[(w.heap.size + 1)]? = some rzo) := xR6
    have I6 : Hid (Is W6 (fun b => w.heap.size + 2 ≤ b) (.mk k mn mx m t ks) (rxv k mn mx m t (.slice ad5 i cap5))) := xI6
    have K6 : Hid (Kp w W6) := xK6
    clear xA6 xR6 xI6 xK6
    clear A1 R1 K HST p0 p1 p2 p3 p4 p5 p6 p7 p8 fp0 fp1 fp2 fp3 fp4 fp5 fp6 fp7 fp8
    obtain ⟨p0, p1, p2, p3, p4, p5, p6, p7, p8⟩ := cells9c A6.out
    obtain ⟨r0, fr0, r1, fr1, r2, fr2, r3, fr3, r4, fr4, r5, fr5, r6, fr6, r7, fr7, r8, fr8⟩ := cells9 R6.out
    go_wp2_with fail
    refine bodyPost_ret (v := rxv k mn mx m t (.slice ad5 i cap5)) (rx_ret rfl _ _ _ _ rfl (bl_set9 R6.out _ _ _ _ _ _ _ _ _) rfl) rfl ⟨⟨_, rfl, ?_, ?_⟩⟩
    ·
     rw [smallT_mk, E.out]
     exact (I6.out.ks (ks_set9 _ _ _ _ _ _ _ _ _) (fun b hb _ => by omega)).weak (fun b hb _ => by omega)
    ·
     exact Ks.up (P := w.heap.size + 1) (ks_set9 _ _ _ _ _ _ _ _ _) K6.out (by omega)
theorem small_any : ∀ n, n ≤ 100 → SmallSaid n
 | 0, h => small_step 0 h (fun h => absurd h (by omega))
 | n + 1, h => small_step (n + 1) h (fun _ => small_any n (by omega))
end Go.Proofs.YtikmgckefbjbkaaGreatDoor

/-! ### RefR -/

namespace Go.Proofs.YtikmgckefbjbkaaGreatDoor.Ref
open Go Go.Proofs.YtikmgckefbjbkaaGreatDoor

/-- A tally: nodes, how deep groups stand, are all parts right, the groups so far. -/
structure Tl where
 nodes : Nat
 deep : Nat
 ok : Bool
 have_ : Nat
def headOk (k mn mx n : Int) (s : W4) (len have_ : Nat) : Bool :=
 if k = 1 then (len == 0) && (!(s == W4.z)) && (mn == 0) && (mx == 0) && (n == 0)
 else if k = 2 then (len != 1) && (s == W4.z) && (mn == 0) && (mx == 0) && (n == 0)
 else if k = 3 then decide (2 ≤ len) && (s == W4.z) && (mn == 0) && (mx == 0) && (n == 0)
 else if k = 4 then (len == 1) && (s == W4.z) && (n == 0) && decide (0 ≤ mn) && decide (mn ≤ 20) && decide (mx ≤ 20) && ((mx == -1) || (decide (mn ≤ mx) && decide (1 ≤ mx)))
 else if k = 5 then (len == 1) && (s == W4.z) && (mn == 0) && (mx == 0) && (n == ((have_ + 1 : Nat) : Int))
 else if k = 6 then (len == 0) && (s == W4.z) && (mn == 0) && (mx == 0) && decide (1 ≤ n) && decide (n ≤ (have_ : Int))
 else if k = 7 ∨ k = 8 then (len == 0) && (s == W4.z) && (mn == 0) && (mx == 0) && (n == 0)
 else false
def pairOk (k x : Int) : Bool := ((k != 2) || ((x != 2) && (x != 3))) && ((k != 3) || (x != 3)) && ((k != 4) || ((x == 1) || (x == 5) || (x == 6)))
def haveIn (k : Int) (h : Nat) : Nat := if k = 5 then h + 1 else h
def deepIn (k : Int) : Nat := if k = 5 then 1 else 0
mutual
def meas : Rx → Nat → Tl
 | .mk k mn mx n s kids, h => let t := measL k kids ⟨1, 0, headOk k mn mx n s kids.length h, haveIn k h⟩; ⟨t.nodes, deepIn k + t.deep, t.ok, t.have_⟩
def measL (k : Int) : List Rx → Tl → Tl
 | [], t => t
 | x :: xs, t => measL k xs ⟨t.nodes + (meas x t.have_).nodes, max t.deep (meas x t.have_).deep, t.ok && (meas x t.have_).ok && pairOk k x.k, (meas x t.have_).have_⟩
end
mutual
def altR : Rx → Bool
 | .mk k _ _ _ _ kids => if k = 3 then true else altL kids
def altL : List Rx → Bool
 | [] => false
 | x :: xs => altR x || altL xs
end
mutual
def anch : Rx → Bool → Bool → Bool
 | .mk k _ _ _ _ kids, first, last => if k = 7 then first else if k = 8 then last else if k = 5 then anchG kids else anchL (k == 2) first last kids true
def anchG : List Rx → Bool
 | [x] => anch x true true
 | _ => false
def anchL (cat first last : Bool) : List Rx → Bool → Bool
 | [], _ => true
 | x :: xs, h => anch x (first && h && cat) (last && xs.isEmpty && cat) && anchL cat first last xs false
end
def refRight (ere : Bool) (r : Rx) : Bool := (meas r 0).ok && decide ((meas r 0).nodes ≤ 40) && decide ((meas r 0).deep ≤ 6) && decide ((meas r 0).have_ ≤ 3) && (ere || (!(altR r) && anch r true true))

/-- What a measure says, for the checker. -/
structure Said (ere : Bool) (r : Rx) : Prop where
 nodes : ∀ g, (meas r g).nodes = nds r
 le : ∀ g, g ≤ (meas r g).have_
 eq : ∀ b e n g d, g ≤ 3 → d ≤ 6 → (ere = true ∨ r.k ≠ 2 ∨ (b = true ∧ e = true)) →
  chk ere r b e ⟨n, g, d⟩ = if (meas r g).ok = true ∧ n + nds r ≤ 40 ∧ d + (meas r g).deep ≤ 6 ∧ (meas r g).have_ ≤ 3 ∧ (ere = true ∨ (altR r = false ∧ anch r b e = true)) then some ⟨n + nds r, (meas r g).have_, d⟩ else none
theorem measL_nodes (k : Int) : ∀ (rs : List Rx) (_ : ∀ r ∈ rs, ∀ g, (meas r g).nodes = nds r) (t : Tl), (measL k rs t).nodes = t.nodes + ndss rs
 | [], _, t => by rw [measL, ndss]; rfl
 | x :: xs, H, t => by
  rw [measL, measL_nodes k xs (fun r hr => H r (List.mem_cons_of_mem _ hr)), ndss, H x List.mem_cons_self]
  show t.nodes + nds x + ndss xs = _
  omega
theorem measL_le (k : Int) : ∀ (rs : List Rx) (_ : ∀ r ∈ rs, ∀ g, g ≤ (meas r g).have_) (t : Tl), t.have_ ≤ (measL k rs t).have_ ∧ t.deep ≤ (measL k rs t).deep
 | [], _, t => by rw [measL]; exact ⟨Nat.le_refl _, Nat.le_refl _⟩
 | x :: xs, H, t => by
  rw [measL]
  have h := measL_le k xs (fun r hr => H r (List.mem_cons_of_mem _ hr)) ⟨t.nodes + (meas x t.have_).nodes, max t.deep (meas x t.have_).deep, t.ok && (meas x t.have_).ok && pairOk k x.k, (meas x t.have_).have_⟩
  have h1 := H x List.mem_cons_self t.have_
  simp only at h
  exact ⟨by omega, by omega⟩
theorem measL_ok (k : Int) : ∀ (rs : List Rx) (t : Tl), (measL k rs t).ok = true → t.ok = true
 | [], t, h => by rw [measL] at h; exact h
 | x :: xs, t, h => by
  rw [measL] at h
  have := measL_ok k xs _ h
  simp only [Bool.and_eq_true] at this
  exact this.1.1
/-- A row's kids. -/
theorem cat_eq (ere : Bool) (b0 e0 : Bool) (hbe : ere = true ∨ (b0 = true ∧ e0 = true)) : ∀ (rs : List Rx) (_ : ∀ r ∈ rs, Said ere r) (first : Bool) (n d : Nat) (t : Tl), n ≤ 40 → t.have_ ≤ 3 → d + t.deep ≤ 6 → d ≤ 6 → t.ok = true →
  chkCat ere rs first ⟨n, t.have_, d⟩ = if (measL 2 rs t).ok = true ∧ n + ndss rs ≤ 40 ∧ d + (measL 2 rs t).deep ≤ 6 ∧ (measL 2 rs t).have_ ≤ 3 ∧ (ere = true ∨ (altL rs = false ∧ anchL true b0 e0 rs first = true)) then some ⟨n + ndss rs, (measL 2 rs t).have_, d⟩ else none
 | [], _, first, n, d, t, hn, hh, hd, _, hk => by
  rw [chkCat, measL, ndss, if_pos ⟨hk, by omega, hd, hh, Or.inr ⟨by rw [altL], by rw [anchL]⟩⟩]
  rfl
 | x :: xs, H, first, n, d, t, hn, hh, hd, hd6, hk => by
  have hx := H x List.mem_cons_self
  have hnx := hx.nodes t.have_
  have hlx := hx.le t.have_
  obtain ⟨m, hm⟩ : ∃ m, meas x t.have_ = m := ⟨_, rfl⟩
  have hle := measL_le 2 xs (fun r hr => (H r (List.mem_cons_of_mem _ hr)).le) ⟨t.nodes + m.nodes, max t.deep m.deep, t.ok && m.ok && pairOk 2 x.k, m.have_⟩
  have hok := measL_ok 2 xs ⟨t.nodes + m.nodes, max t.deep m.deep, t.ok && m.ok && pairOk 2 x.k, m.have_⟩
  rw [chkCat, measL, hm, ndss, altL, anchL]
  simp only at hle
  rw [hm] at hnx hlx
  by_cases hp : x.k = 2 ∨ x.k = 3
  ·
   have hpf : pairOk 2 x.k = false := by
    unfold pairOk
    rcases hp with h | h <;> rw [h] <;> decide
   rw [if_pos hp, if_neg]
   rintro ⟨h1, _⟩
   have := hok h1
   rw [hpf] at this
   simp at this
  rw [if_neg hp]
  have hpt : pairOk 2 x.k = true := by
   unfold pairOk
   simp
   omega
  have he := hx.eq first xs.isEmpty n t.have_ d hh hd6 (Or.inr (Or.inl (fun h => hp (Or.inl h))))
  rw [hm] at he
  rw [he]
  by_cases hc : m.ok = true ∧ n + nds x ≤ 40 ∧ d + m.deep ≤ 6 ∧ m.have_ ≤ 3 ∧ (ere = true ∨ (altR x = false ∧ anch x first xs.isEmpty = true))
  ·
   rw [if_pos hc]
   obtain ⟨c1, c2, c3, c4, c5⟩ := hc
   have ht1 : (⟨t.nodes + m.nodes, max t.deep m.deep, t.ok && m.ok && pairOk 2 x.k, m.have_⟩ : Tl).ok = true := by simp [hk, c1, hpt]
   have ih := cat_eq ere b0 e0 hbe xs (fun r hr => H r (List.mem_cons_of_mem _ hr)) false (n + nds x) d ⟨t.nodes + m.nodes, max t.deep m.deep, t.ok && m.ok && pairOk 2 x.k, m.have_⟩ c2 c4 (by simp only; omega) hd6 ht1
   show chkCat ere xs false ⟨n + nds x, m.have_, d⟩ = _
   rw [ih, Nat.add_assoc]
   congr 1
   refine propext (and_congr Iff.rfl (and_congr Iff.rfl (and_congr Iff.rfl (and_congr Iff.rfl ?_))))
   rcases c5 with c5 | ⟨c5, c6⟩
   ·
    simp [c5]
   ·
    rcases hbe with h | ⟨h1, h2⟩
    ·
     simp [h]
    ·
     subst h1
     subst h2
     simp [c5, c6]
  ·
   rw [if_neg hc, if_neg]
   rintro ⟨h1, h2, h3, h4, h5⟩
   have h1' := hok h1
   simp only [Bool.and_eq_true] at h1'
   refine hc ⟨h1'.1.2, by omega, by omega, by omega, ?_⟩
   rcases h5 with h5 | ⟨h5, h6⟩
   ·
    exact Or.inl h5
   ·
    rcases hbe with h | ⟨h7, h8⟩
    ·
     exact Or.inl h
    ·
     subst h7
     subst h8
     simp only [Bool.or_eq_false_iff, Bool.and_eq_true, Bool.true_and, Bool.and_true] at h5 h6
     exact Or.inr ⟨h5.1, h6.1⟩
/-- A choice's kids (of an extended expression). -/
theorem alt_eq : ∀ (rs : List Rx) (_ : ∀ r ∈ rs, Said true r) (n d : Nat) (t : Tl), n ≤ 40 → t.have_ ≤ 3 → d + t.deep ≤ 6 → d ≤ 6 → t.ok = true →
  chkAlt true rs ⟨n, t.have_, d⟩ = if (measL 3 rs t).ok = true ∧ n + ndss rs ≤ 40 ∧ d + (measL 3 rs t).deep ≤ 6 ∧ (measL 3 rs t).have_ ≤ 3 then some ⟨n + ndss rs, (measL 3 rs t).have_, d⟩ else none
 | [], _, n, d, t, hn, hh, hd, _, hk => by
  rw [chkAlt, measL, ndss, if_pos ⟨hk, by omega, hd, hh⟩]
  rfl
 | x :: xs, H, n, d, t, hn, hh, hd, hd6, hk => by
  have hx := H x List.mem_cons_self
  have hlx := hx.le t.have_
  obtain ⟨m, hm⟩ : ∃ m, meas x t.have_ = m := ⟨_, rfl⟩
  have hle := measL_le 3 xs (fun r hr => (H r (List.mem_cons_of_mem _ hr)).le) ⟨t.nodes + m.nodes, max t.deep m.deep, t.ok && m.ok && pairOk 3 x.k, m.have_⟩
  have hok := measL_ok 3 xs ⟨t.nodes + m.nodes, max t.deep m.deep, t.ok && m.ok && pairOk 3 x.k, m.have_⟩
  rw [chkAlt, measL, hm, ndss]
  simp only at hle
  rw [hm] at hlx
  by_cases hp : x.k = 3
  ·
   have hpf : pairOk 3 x.k = false := by unfold pairOk; rw [hp]; decide
   rw [if_pos hp, if_neg]
   rintro ⟨h1, _⟩
   have := hok h1
   rw [hpf] at this
   simp at this
  rw [if_neg hp]
  have hpt : pairOk 3 x.k = true := by
   unfold pairOk
   simp
   omega
  have he := hx.eq false false n t.have_ d hh hd6 (Or.inl rfl)
  rw [hm] at he
  rw [he]
  by_cases hc : m.ok = true ∧ n + nds x ≤ 40 ∧ d + m.deep ≤ 6 ∧ m.have_ ≤ 3 ∧ (true = true ∨ (altR x = false ∧ anch x false false = true))
  ·
   rw [if_pos hc]
   obtain ⟨c1, c2, c3, c4, _⟩ := hc
   have ht1 : (⟨t.nodes + m.nodes, max t.deep m.deep, t.ok && m.ok && pairOk 3 x.k, m.have_⟩ : Tl).ok = true := by simp [hk, c1, hpt]
   have ih := alt_eq xs (fun r hr => H r (List.mem_cons_of_mem _ hr)) (n + nds x) d ⟨t.nodes + m.nodes, max t.deep m.deep, t.ok && m.ok && pairOk 3 x.k, m.have_⟩ c2 c4 (by simp only; omega) hd6 ht1
   show chkAlt true xs ⟨n + nds x, m.have_, d⟩ = _
   rw [ih, Nat.add_assoc]
  ·
   rw [if_neg hc, if_neg]
   rintro ⟨h1, h2, h3, h4⟩
   have h1' := hok h1
   simp only [Bool.and_eq_true] at h1'
   exact hc ⟨h1'.1.2, by omega, by omega, by omega, Or.inl rfl⟩
theorem set_some (s : W4) (h : s.a < 18446744073709551616 ∧ s.b < 18446744073709551616 ∧ s.c < 18446744073709551616 ∧ s.d < 18446744073709551616) : (cnt (W4.bit s) 256 > 0) ↔ (s == W4.z) = false := by
 have e := Trip.w4_back s (W4.bit s) h (fun _ _ => rfl)
 have hz := Trip.of_zero (W4.bit s)
 rw [e] at hz
 rw [hz]
 simp
 omega
end Go.Proofs.YtikmgckefbjbkaaGreatDoor.Ref

/-! ### RefR2 -/

namespace Go.Proofs.YtikmgckefbjbkaaGreatDoor.Ref
open Go Go.Proofs.YtikmgckefbjbkaaGreatDoor

def extraOk (k mn mx n : Int) (s : W4) (have_ : Nat) : Bool :=
 if k = 1 then !(s == W4.z) else if k = 2 then true else if k = 3 then true else if k = 4 then timesFit mn mx else if k = 5 then n == ((have_ + 1 : Nat) : Int) else if k = 6 then decide (1 ≤ n) && decide (n ≤ (have_ : Int)) else if k = 7 ∨ k = 8 then true else false
theorem times_eq (mn mx : Int) : timesFit mn mx = (decide (0 ≤ mn) && decide (mn ≤ 20) && decide (mx ≤ 20) && ((mx == -1) || (decide (mn ≤ mx) && decide (1 ≤ mx)))) := by
 unfold timesFit
 split
 ·
  rename_i h
  symm
  simp
  omega
 ·
  rw [Bool.eq_iff_iff]
  simp
  omega
theorem head_eq (k mn mx n : Int) (s : W4) (kids : List Rx) (g : Nat) : headOk k mn mx n s kids.length g = (leanB (.mk k mn mx n s kids) && extraOk k mn mx n s g) := by
 unfold headOk leanB extraOk kidsFit
 by_cases k1 : k = 1
 ·
  subst k1
  simp
  rw [Bool.eq_iff_iff]; simp
  constructor <;> (intro h; simp_all)
 by_cases k2 : k = 2
 ·
  subst k2
  simp
  rw [Bool.eq_iff_iff]; simp
  constructor <;> (intro h; simp_all)
 by_cases k3 : k = 3
 ·
  subst k3
  simp
  rw [Bool.eq_iff_iff]; simp
  constructor <;> (intro h; simp_all)
 by_cases k4 : k = 4
 ·
  subst k4
  rw [times_eq]
  simp
  rw [Bool.eq_iff_iff]; simp
  constructor <;> (intro h; simp_all)
 by_cases k5 : k = 5
 ·
  subst k5
  show ((kids.length == 1) && (s == W4.z) && (mn == 0) && (mx == 0) && (n == ((g + 1 : Nat) : Int))) = ((mn == 0 && mx == 0) && true && (s == W4.z) && (kids.length == 1) && (n == ((g + 1 : Nat) : Int)))
  cases (s == W4.z) <;> cases (mn == 0) <;> cases (mx == 0) <;> cases (kids.length == 1) <;> rfl
 by_cases k6 : k = 6
 ·
  subst k6
  simp
  rw [Bool.eq_iff_iff]; simp
  constructor <;> (intro h; simp_all)
 by_cases k7 : k = 7
 ·
  subst k7
  simp
  rw [Bool.eq_iff_iff]; simp
  constructor <;> (intro h; simp_all)
 by_cases k8 : k = 8
 ·
  subst k8
  simp
  rw [Bool.eq_iff_iff]; simp
  constructor <;> (intro h; simp_all)
 simp [k1, k2, k3, k4, k5, k6, k7, k8]
theorem meas_mk (k mn mx n : Int) (s : W4) (kids : List Rx) (h : Nat) : meas (.mk k mn mx n s kids) h = ⟨(measL k kids ⟨1, 0, headOk k mn mx n s kids.length h, haveIn k h⟩).nodes, deepIn k + (measL k kids ⟨1, 0, headOk k mn mx n s kids.length h, haveIn k h⟩).deep, (measL k kids ⟨1, 0, headOk k mn mx n s kids.length h, haveIn k h⟩).ok, (measL k kids ⟨1, 0, headOk k mn mx n s kids.length h, haveIn k h⟩).have_⟩ := by rw [meas]
theorem said_step (ere : Bool) (k mn mx n : Int) (s : W4) (kids : List Rx) (hO : RxOk (.mk k mn mx n s kids)) (H : ∀ a ∈ kids, Said ere a) : Said ere (.mk k mn mx n s kids) := by
 have hno : ∀ g, (meas (.mk k mn mx n s kids) g).nodes = nds (.mk k mn mx n s kids) := fun g => by
  rw [meas_mk, nds]
  exact measL_nodes k kids (fun r hr => (H r hr).nodes) _
 have hle : ∀ g, haveIn k g ≤ (meas (.mk k mn mx n s kids) g).have_ := fun g => by
  rw [meas_mk]
  exact (measL_le k kids (fun r hr => (H r hr).le) ⟨1, 0, headOk k mn mx n s kids.length g, haveIn k g⟩).1
 refine ⟨hno, fun g => Nat.le_trans (by unfold haveIn; split <;> omega) (hle g), fun b e m g d hg hd hbe => ?_⟩
 have hnd : nds (.mk k mn mx n s kids) = 1 + ndss kids := by rw [nds]
 have hw : (s.a < 18446744073709551616 ∧ s.b < 18446744073709551616 ∧ s.c < 18446744073709551616 ∧ s.d < 18446744073709551616) := by
  unfold RxOk at hO
  exact hO.2.1
 rw [Go.Proofs.YtikmgckefbjbkaaGreatDoor.chk, hnd]
 by_cases hl : m + 1 > 40 ∨ leanB (.mk k mn mx n s kids) = false
 ·
  rw [if_pos hl, if_neg]
  rintro ⟨h1, h2, _⟩
  rcases hl with hl | hl
  ·
   omega
  ·
   rw [meas_mk] at h1
   have := measL_ok k kids _ h1
   rw [show (⟨1, 0, headOk k mn mx n s kids.length g, haveIn k g⟩ : Tl).ok = headOk k mn mx n s kids.length g from rfl, head_eq, hl] at this
   simp at this
 rw [if_neg hl]
 have hm : m + 1 ≤ 40 := by omega
 have hlean : leanB (.mk k mn mx n s kids) = true := by
  cases h : leanB (.mk k mn mx n s kids) with
  | true => rfl
  | false => exact absurd (Or.inr h) hl
 have hh : headOk k mn mx n s kids.length g = extraOk k mn mx n s g := by rw [head_eq, hlean]; rfl
 rw [meas_mk, hh]
 have hlen := hlean
 unfold leanB at hlen
 simp only [Bool.and_eq_true] at hlen
 have hkf := hlen.2
 by_cases k1 : k = 1
 ·
  subst k1
  obtain rfl := Trip.kids_none (Or.inl rfl) hkf
  rw [if_pos rfl, measL, ndss, show altR (.mk 1 mn mx n s []) = false from by rw [altR]; simp [altL], show anch (.mk 1 mn mx n s []) b e = true from by rw [anch]; simp [anchL]]
  by_cases hc : cnt (W4.bit s) 256 > 0
  ·
   rw [if_pos hc, if_pos ⟨by show (!(s == W4.z)) = true; rw [(set_some s hw).1 hc]; rfl, by omega, by show d + (deepIn 1 + 0) ≤ 6; unfold deepIn; simp; omega, by show haveIn 1 g ≤ 3; unfold haveIn; simp; omega, Or.inr ⟨rfl, rfl⟩⟩]
   rfl
  ·
   rw [if_neg hc, if_neg]
   rintro ⟨h1, _⟩
   have h1 : (!(s == W4.z)) = true := h1
   exact hc ((set_some s hw).2 (by simpa using h1))
 rw [if_neg k1]
 by_cases k2 : k = 2
 ·
  subst k2
  have hbe' : ere = true ∨ (b = true ∧ e = true) := by
   rcases hbe with h | h | h
   ·
    exact Or.inl h
   ·
    exact absurd rfl h
   ·
    exact Or.inr h
  have := cat_eq ere b e hbe' kids H true (m + 1) d ⟨1, 0, true, g⟩ hm hg (by simp only; omega) hd rfl
  rw [if_pos rfl]
  show chkCat ere kids true ⟨m + 1, g, d⟩ = _
  rw [show (⟨m + 1, g, d⟩ : Ck) = ⟨m + 1, (⟨1, 0, true, g⟩ : Tl).have_, d⟩ from rfl, this]
  rw [show extraOk 2 mn mx n s g = true from rfl, show haveIn 2 g = g from rfl, show deepIn 2 = 0 from rfl, show altR (.mk 2 mn mx n s kids) = altL kids from by rw [altR]; rfl, show anch (.mk 2 mn mx n s kids) b e = anchL true b e kids true from by rw [anch]; rfl]
  simp only [Nat.zero_add, show m + 1 + ndss kids = m + (1 + ndss kids) by omega]
 rw [if_neg k2]
 by_cases k3 : k = 3
 ·
  subst k3
  rw [if_pos rfl, show altR (.mk 3 mn mx n s kids) = true from by rw [altR]; rfl]
  cases ere with
  | false =>
   rw [if_neg (by decide), if_neg]
   rintro ⟨_, _, _, _, h5⟩
   rcases h5 with h5 | h5
   ·
    cases h5
   ·
    exact absurd h5.1 (by decide)
  | true =>
   have := alt_eq kids H (m + 1) d ⟨1, 0, true, g⟩ hm hg (by simp only; omega) hd rfl
   rw [if_pos rfl]
   rw [show (⟨m + 1, g, d⟩ : Ck) = ⟨m + 1, (⟨1, 0, true, g⟩ : Tl).have_, d⟩ from rfl, this]
   rw [show extraOk 3 mn mx n s g = true from rfl, show haveIn 3 g = g from rfl, show deepIn 3 = 0 from rfl]
   simp only [Nat.zero_add, show m + 1 + ndss kids = m + (1 + ndss kids) by omega, true_or, and_true]
 rw [if_neg k3]
 by_cases k4 : k = 4
 ·
  subst k4
  obtain ⟨x, rfl⟩ := Trip.kids_one (Or.inl rfl) hkf
  have hx := H x List.mem_cons_self
  rw [if_pos rfl, chkRep, show haveIn 4 g = g from rfl, show deepIn 4 = 0 from rfl, show extraOk 4 mn mx n s g = timesFit mn mx from rfl, show altR (.mk 4 mn mx n s [x]) = altR x from by rw [altR]; simp [altL], show anch (.mk 4 mn mx n s [x]) b e = anch x false false from by rw [anch]; simp [anchL], measL, measL]
  have hpm : pairOk 4 x.k = mayRep x.k := by unfold pairOk mayRep; simp
  obtain ⟨t, ht⟩ : ∃ t, meas x g = t := ⟨_, rfl⟩
  have hxe := hx.eq false false (m + 1) g d hg hd
  have hz : ndss [x] = nds x := by simp [ndss]
  simp only [hpm, hz]
  rw [ht] at hxe ⊢
  by_cases htf : timesFit mn mx = true
  ·
   rw [if_pos htf]
   by_cases hmr : mayRep x.k = true
   ·
    rw [if_pos hmr, hxe (Or.inr (Or.inl (by intro h; rw [h] at hmr; exact absurd hmr (by decide))))]
    simp only [htf, hmr, Bool.true_and, Bool.and_true, Nat.zero_add, Nat.zero_max, show m + 1 + nds x = m + (1 + nds x) by omega]
   ·
    rw [if_neg hmr, if_neg]
    rintro ⟨h1, _⟩
    simp only [Bool.and_eq_true] at h1
    exact hmr h1.2
  ·
   rw [if_neg htf, if_neg]
   rintro ⟨h1, _⟩
   simp only [Bool.and_eq_true] at h1
   exact htf h1.1.1
 rw [if_neg k4]
 by_cases k5 : k = 5
 ·
  subst k5
  obtain ⟨x, rfl⟩ := Trip.kids_one (Or.inr rfl) hkf
  have hx := H x List.mem_cons_self
  rw [if_pos rfl, show haveIn 5 g = g + 1 from rfl, show deepIn 5 = 1 from rfl, show extraOk 5 mn mx n s g = (n == ((g + 1 : Nat) : Int)) from rfl, show altR (.mk 5 mn mx n s [x]) = altR x from by rw [altR]; simp [altL], show anch (.mk 5 mn mx n s [x]) b e = anch x true true from by rw [anch]; simp [anchG], measL, measL]
  have hpm : pairOk 5 x.k = true := by unfold pairOk; simp
  obtain ⟨t, ht⟩ : ∃ t, meas x (g + 1) = t := ⟨_, rfl⟩
  have hxl := hx.le (g + 1)
  have hz : ndss [x] = nds x := by simp [ndss]
  simp only [hpm, hz]
  rw [ht] at hxl ⊢
  by_cases hb : n ≠ ((g + 1 : Nat) : Int) ∨ g + 1 > 3 ∨ d = 6
  ·
   rw [if_pos hb, if_neg]
   rintro ⟨h1, _, h3, h4, _⟩
   simp only [Bool.and_eq_true, beq_iff_eq] at h1
   rcases hb with hb | hb | hb
   ·
    exact hb h1.1.1
   ·
    omega
   ·
    omega
  ·
   rw [if_neg hb]
   have hxe := hx.eq true true (m + 1) (g + 1) (d + 1) (by omega) (by omega) (Or.inr (Or.inr ⟨rfl, rfl⟩))
   rw [ht] at hxe
   have hn : n = ((g + 1 : Nat) : Int) := by omega
   rw [chkGroup, hxe]
   have hnb : (n == ((g + 1 : Nat) : Int)) = true := by simp [hn]
   simp only [hnb, Bool.true_and, Bool.and_true, Nat.zero_max]
   by_cases hc : t.ok = true ∧ m + 1 + nds x ≤ 40 ∧ d + 1 + t.deep ≤ 6 ∧ t.have_ ≤ 3 ∧ (ere = true ∨ (altR x = false ∧ anch x true true = true))
   ·
    rw [if_pos hc, if_pos ⟨hc.1, by omega, by omega, hc.2.2.2.1, hc.2.2.2.2⟩]
    show some (Ck.mk (m + 1 + nds x) t.have_ (d + 1 - 1)) = _
    rw [show m + 1 + nds x = m + (1 + nds x) by omega, show d + 1 - 1 = d by omega]
   ·
    rw [if_neg hc, if_neg]
    rintro ⟨h1, h2, h3, h4, h5⟩
    exact hc ⟨h1, by omega, by omega, h4, h5⟩
 rw [if_neg k5]
 by_cases k6 : k = 6
 ·
  subst k6
  obtain rfl := Trip.kids_none (Or.inr (Or.inl rfl)) hkf
  rw [if_pos rfl, measL, ndss, show altR (.mk 6 mn mx n s []) = false from by rw [altR]; simp [altL], show anch (.mk 6 mn mx n s []) b e = true from by rw [anch]; simp [anchL]]
  by_cases hc : 1 ≤ n ∧ n ≤ (g : Int)
  ·
   rw [if_pos hc, if_pos ⟨by show (decide (1 ≤ n) && decide (n ≤ (g : Int))) = true; simp [hc.1, hc.2], by omega, by show d + (deepIn 6 + 0) ≤ 6; unfold deepIn; simp; omega, by show haveIn 6 g ≤ 3; unfold haveIn; simp; omega, Or.inr ⟨rfl, rfl⟩⟩]
   rfl
  ·
   rw [if_neg hc, if_neg]
   rintro ⟨h1, _⟩
   have h1 : (decide (1 ≤ n) && decide (n ≤ (g : Int))) = true := h1
   simp at h1
   exact hc h1
 rw [if_neg k6]
 by_cases k7 : k = 7
 ·
  subst k7
  obtain rfl := Trip.kids_none (Or.inr (Or.inr (Or.inl rfl))) hkf
  rw [if_pos rfl, measL, ndss, show altR (.mk 7 mn mx n s []) = false from by rw [altR]; simp [altL], show anch (.mk 7 mn mx n s []) b e = b from by rw [anch]; simp]
  by_cases hc : (ere || b) = true
  ·
   rw [if_pos hc, if_pos ⟨rfl, by omega, by show d + (deepIn 7 + 0) ≤ 6; unfold deepIn; simp; omega, by show haveIn 7 g ≤ 3; unfold haveIn; simp; omega, by simpa using hc⟩]
   rfl
  ·
   rw [if_neg hc, if_neg]
   rintro ⟨_, _, _, _, h5⟩
   exact hc (by simpa using h5)
 rw [if_neg k7]
 by_cases k8 : k = 8
 ·
  subst k8
  obtain rfl := Trip.kids_none (Or.inr (Or.inr (Or.inr rfl))) hkf
  rw [if_pos rfl, measL, ndss, show altR (.mk 8 mn mx n s []) = false from by rw [altR]; simp [altL], show anch (.mk 8 mn mx n s []) b e = e from by rw [anch]; simp]
  by_cases hc : (ere || e) = true
  ·
   rw [if_pos hc, if_pos ⟨rfl, by omega, by show d + (deepIn 8 + 0) ≤ 6; unfold deepIn; simp; omega, by show haveIn 8 g ≤ 3; unfold haveIn; simp; omega, by simpa using hc⟩]
   rfl
  ·
   rw [if_neg hc, if_neg]
   rintro ⟨_, _, _, _, h5⟩
   exact hc (by simpa using h5)
 rw [if_neg k8, if_neg]
 rintro ⟨h1, _⟩
 have := measL_ok k kids _ h1
 have : extraOk k mn mx n s g = true := this
 unfold extraOk at this
 rw [if_neg k1, if_neg k2, if_neg k3, if_neg k4, if_neg k5, if_neg k6, if_neg (by omega)] at this
 cases this
theorem said_any (ere : Bool) : ∀ r, RxOk r → Said ere r
 | .mk k mn mx n s kids, h => said_step ere k mn mx n s kids h (fun a ha => said_any ere a (by unfold RxOk at h; exact h.2.2 a ha))
termination_by r => SizeOf.sizeOf r
decreasing_by
 have := List.sizeOf_lt_of_mem ha
 simp
 omega
/-- The document's own answer is the checker's. -/
theorem ref_right (ere : Bool) (r : Rx) (h : RxOk r) : refRight ere r = right ere r := by
 have hs := said_any ere r h
 unfold refRight right
 rw [hs.eq true true 0 0 0 (by omega) (by omega) (Or.inr (Or.inr ⟨rfl, rfl⟩)), hs.nodes]
 split
 ·
  rename_i hc
  obtain ⟨h1, h2, h3, h4, h5⟩ := hc
  simp only [Option.isSome_some]
  simp [h1, h4]
  exact ⟨⟨by omega, by omega⟩, by simpa using h5⟩
 ·
  rename_i hc
  simp only [Option.isSome_none]
  cases hq : (meas r 0).ok && decide (nds r ≤ 40) && decide ((meas r 0).deep ≤ 6) && decide ((meas r 0).have_ ≤ 3) && (ere || (!(altR r) && anch r true true)) with
  | false => rfl
  | true =>
   exfalso
   simp at hq
   exact hc ⟨hq.1.1.1.1, by omega, by omega, hq.1.2, by simpa using hq.2⟩
end Go.Proofs.YtikmgckefbjbkaaGreatDoor.Ref

/-! ### RefMs -/

namespace Go.Proofs.YtikmgckefbjbkaaGreatDoor
open Go.RowKit Go.Proofs.YtikmgckefbjbkaaGreatDoor.Ref

theorem measL_app (k : Int) : ∀ (xs ys : List Rx) (t : Tl), measL k (xs ++ ys) t = measL k ys (measL k xs t)
 | [], ys, t => by rw [measL]; rfl
 | x :: xs, ys, t => by
  show measL k (x :: (xs ++ ys)) t = _
  rw [measL, measL_app k xs ys, measL]
mutual
theorem meas_le : ∀ (r : Rx) (h : Nat), (meas r h).have_ ≤ h + nds r ∧ (meas r h).deep ≤ nds r ∧ (meas r h).nodes = nds r
 | .mk k mn mx n s kids, h => by
  have := measL_up kids k ⟨1, 0, headOk k mn mx n s kids.length h, haveIn k h⟩
  rw [meas_mk, nds]
  have hh : haveIn k h ≤ h + 1 := by unfold haveIn; split <;> omega
  have hd : deepIn k ≤ 1 := by unfold deepIn; split <;> omega
  simp only at this ⊢
  exact ⟨by omega, by omega, by omega⟩
theorem measL_up : ∀ (rs : List Rx) (k : Int) (t : Tl), (measL k rs t).have_ ≤ t.have_ + ndss rs ∧ (measL k rs t).deep ≤ t.deep + ndss rs ∧ (measL k rs t).nodes = t.nodes + ndss rs
 | [], k, t => by rw [measL, ndss]; exact ⟨Nat.le_refl _, Nat.le_refl _, rfl⟩
 | x :: xs, k, t => by
  have h1 := meas_le x t.have_
  have h2 := measL_up xs k ⟨t.nodes + (meas x t.have_).nodes, max t.deep (meas x t.have_).deep, t.ok && (meas x t.have_).ok && pairOk k x.k, (meas x t.have_).have_⟩
  rw [measL, ndss]
  simp only at h2
  exact ⟨by omega, by omega, by omega⟩
end
abbrev tlo (n d : Int) (o : Bool) : Obj := .cells #[.int .i64 n, .int .i64 d, .slice none 0 0, .bool o] 64
abbrev tlv (n d : Int) (o : Bool) : Value := .agg #[.int .i64 n, .int .i64 d, .slice none 0 0, .bool o]
structure MeasSaid (r : Rx) : Prop where
 all : ∀ (h : Nat) (ok : Nat → Prop) (v : Value) (w : World), h + nds r ≤ 100000 → Is w ok r v → Calls Tryz.prog 29 #[v, .int .i64 (h : Int)] w fun e w' => e = .returned (.tuple #[tlv ((meas r h).nodes : Int) ((meas r h).deep : Int) (meas r h).ok, .int .i64 ((meas r h).have_ : Int)]) ∧ Kp w w'
/-- What the tally's block is behind the switch. -/
structure HeadD (k : Int) (h : Nat) (HB : Bool) (B : Nat) (W0 : World) (v : Value) (wc : World) : Prop where
 ex : v = .int .i64 ((haveIn k h : Nat) : Int) ∧ wc.heap[B]? = some (tlo 1 ((deepIn k : Nat) : Int) HB) ∧ Ks B W0 wc

end Go.Proofs.YtikmgckefbjbkaaGreatDoor

/-! ### RefAlt -/

namespace Go.Proofs.YtikmgckefbjbkaaGreatDoor
open Go.RowKit Go.Proofs.YtikmgckefbjbkaaGreatDoor.Ref

theorem altL_app : ∀ (a b : List Rx), altL (a ++ b) = (altL a || altL b)
 | [], b => by simp [altL]
 | x :: xs, b => by
  show altL (x :: (xs ++ b)) = _
  rw [altL, altL_app xs b, altL, Bool.or_assoc]
structure AltSaid (r : Rx) : Prop where
 all : ∀ (ok : Nat → Prop) (v : Value) (w : World), Is w ok r v → Calls Tryz.prog 30 #[v] w fun e w' => e = .returned (.bool (altR r)) ∧ Kp w w'

set_option maxHeartbeats 2000000 in
set_option maxRecDepth 100000 in
theorem Alt_step (k mn mx m : Int) (t : W4) (kids : List Rx) (H : ∀ r, r ∈ kids → AltSaid r) (hS : kids.length ≤ 1000000) : AltSaid (.mk k mn mx m t kids) := by
 refine ⟨fun ok v w hI => ?_⟩
 obtain ⟨ad, l, c, rfl, hr⟩ := hI.row
 have hle := hr.ln
 have hlc := hr.cp
 subst hle
 obtain ⟨L, hL⟩ : ∃ L, kids.length = L := ⟨_, rfl⟩
 rw [hL] at hr hlc hS ⊢
 have HL := hid hL
 have RR := hid hr
 have HH := hid H
 clear hI hr H hL
 obtain ⟨G, hG⟩ : ∃ G, altR (.mk k mn mx m t kids) = G := ⟨_, rfl⟩
 rw [hG]
 have HG := hid hG
 clear hG
 go_enter Tryz.func30, Tryz.ntmps30
 go_upto_region 1 with fail
 refine opq (fun W0 => W0.heap[w.heap.size]? = some (rxo k mn mx m t (.slice ad L c)) ∧ Kp w W0 ∧ RowAt W0 ok kids ad L c) ⟨by (first | exact last_at _ _ _ (by simp) | (refine bl_alloc ?_ _; first | exact last_at _ _ _ (by simp) | (refine bl_alloc ?_ _; first | exact last_at _ _ _ (by simp) | (refine bl_alloc ?_ _; exact last_at _ _ _ (by simp))))), by exact (by repeat (first | exact Kp.refl _ | refine Kp.alloc ?_ _ | refine Kp.drew ?_ | refine Kp.drewN _ ?_)), by exact RR.out.kp (by repeat (first | exact Kp.refl _ | refine Kp.alloc ?_ _ | refine Kp.drew ?_ | refine Kp.drewN _ ?_))⟩ ?_
 rintro W0 ⟨xA0, xK0, xR0⟩
 have A0 : Hid (W0.heap[w.heap.size]? = some (rxo k mn mx m t (.slice ad L c))) := xA0
 have K0 : Hid (Kp w W0) := xK0
 have R0 : Hid (RowAt W0 ok kids ad L c) := xR0
 clear xA0 xK0 xR0
 clear RR
 obtain ⟨a0, a1, a2, a3, a4, a5, a6, a7, a8⟩ := cells9c A0.out
 by_cases k3 : k = 3
 ·
  subst k3
  have E : Hid (G = true) := by show _ = _; rw [← HG.out, altR]; rfl
  go_wp2_with fail
  go_ret
  exact ⟨by rw [E.out]; rfl, K0.out⟩
 have k3b : (k == 3) = false := by simp [k3]
 have HE : Hid (altL kids = G) := by show _ = _; rw [← HG.out, altR, if_neg k3]
 go_wp2_with fail
 clear a0 a1 a2 a3 a4 a5 a6 a7 a8
 go_loopg [11] L (fun gg i wr => ∃ q : Nat, q + gg = L ∧ i = .int .i64 (q : Int) ∧ altL (kids.take q) = false ∧ Kp W0 wr)
 case atStart => exact ⟨0, by omega, rfl, by rw [List.take_zero, altL], Kp.refl _⟩
 case round =>
  obtain ⟨q, hq, rfl, hA, hK⟩ := hrel
  have HA := hid hA
  have K := hid hK
  clear hA hK
  by_cases hlt : q < L
  ·
   have gkw : IntKind.i64.wrap ((q : Int) + 1) = (q : Int) + 1 := by rw [IntKind.wrap_i64]; omega
   have ga : (q : Int) < (L : Int) := by omega
   have g0 : (0 : Int) ≤ (q : Int) := by omega
   obtain ⟨r, hr⟩ : ∃ r, kids[q]? = some r := ⟨_, List.getElem?_eq_getElem (by rw [HL.out]; exact hlt)⟩
   obtain ⟨bb, oo, kk, mn', mx', mm, tt, ad', ll, cc, e1, hbb, i1, ce1⟩ := (R0.out.kp K.out).at q r hr
   subst e1
   have TS := hid (HH.out r (List.mem_of_getElem? hr)).all
   have HRQ := hid hr
   have I1 := hid i1
   have CE1 := hid ce1
   clear hr i1 ce1
   obtain ⟨x0, x1, x2, x3, x4, x5, x6, x7, x8⟩ := cells_of_is CE1.out
   go_upto_region 6 with fail
   clear x0 x1 x2 x3 x4 x5 x6 x7 x8
   refine opq (fun W => W.heap[wr.heap.size]? = some (rxo kk mn' mx' mm tt (.slice ad' ll cc)) ∧ Kp wr W) ⟨by exact last_at _ _ _ (by simp), by exact (Kp.refl _).alloc _⟩ ?_
   rintro W1 ⟨y1, y2⟩
   have A1 := hid y1
   have K1 := hid y2
   clear y1 y2
   obtain ⟨a0, a1, a2, a3, a4, a5, a6, a7, a8⟩ := cells9c A1.out
   go_wp2_with fail
   clear a0 a1 a2 a3 a4 a5 a6 a7 a8
   refine (TS.out ok _ _ (I1.out.kp K1.out)).mono ?_
   rintro e W2 ⟨rfl, k2⟩
   have K2 := hid (K.out.trans (K1.out.trans k2))
   clear k2
   have HTK : Hid (altL (kids.take (q + 1)) = altR r) := by
    show _ = _
    rw [List.take_succ_eq_append_getElem (by rw [HL.out]; exact hlt), altL_app, HA.out, (List.getElem?_eq_some_iff.1 HRQ.out).2]
    simp [altL]
   cases hv : altR r with
   | true =>
    have E : Hid (G = true) := by
     show _ = _
     have h1 := HTK.out
     rw [hv] at h1
     have h2 := altL_app (kids.take (q + 1)) (kids.drop (q + 1))
     rw [List.take_append_drop, h1, HE.out] at h2
     exact h2
    go_wp2_with fail
    go_ret
    exact ⟨by rw [E.out]; rfl, K0.out.trans K2.out⟩
   | false =>
    go_wp2_with fail
    go_roundg (gk - 1)
    case measure => omega
    case rel => exact ⟨q + 1, by omega, by go_num, by rw [HTK.out, hv], K2.out⟩
  ·
   have ga : ¬ (q : Int) < (L : Int) := by omega
   have E : Hid (G = false) := by
    show _ = _
    rw [← HE.out, ← HA.out, List.take_of_length_le (by rw [HL.out]; omega)]
   go_wp2_with fail
   go_ret
   exact ⟨by rw [E.out]; rfl, K0.out.trans K.out⟩
theorem Alt_any : ∀ a, RxOk a → AltSaid a
 | .mk k mn mx n s kids, h => by
  unfold RxOk at h
  exact Alt_step k mn mx n s kids (fun a ha => Alt_any a (h.2.2 a ha)) h.1
termination_by a => SizeOf.sizeOf a
decreasing_by
 have := List.sizeOf_lt_of_mem ha
 simp
 omega
end Go.Proofs.YtikmgckefbjbkaaGreatDoor
