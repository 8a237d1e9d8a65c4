/-
  Texts of this claim: Mak8.
-/
import Derived.Test.YtigdmebijbaofaaGreatDoorCmdAM4
import Derived.Test.YtigdmebijbaofaaGreatDoorCmdAM29
import Derived.Test.YtigdmebijbaofaaGreatDoorCmdAM31

/-! ### Mak8 -/

namespace Go.Proofs.YtigdmebijbaofaaGreatDoor
set_option maxHeartbeats 2000000
set_option maxRecDepth 100000
open Go.RowKit

theorem RK.pair {ok : Nat → Prop} {base : Nat} {w : World} {r r' : Rx} (k1 mn1 mx1 mm1 : Int) (t1 : W4) (ad1 : Option Addr) (l1 c1 : Nat) (k2 mn2 mx2 mm2 : Int) (t2 : W4) (ad2 : Option Addr) (l2 c2 : Nat)
  (hI : Is w ok r (rxv k1 mn1 mx1 mm1 t1 (.slice ad1 l1 c1))) (hJ : Is w ok r' (rxv k2 mn2 mx2 mm2 t2 (.slice ad2 l2 c2))) (hb : base ≤ w.heap.size) (ho : ok w.heap.size) :
  RK ok base (w.alloc (.cells #[.int .i64 k1, .int .i64 mn1, .int .i64 mx1, .int .i64 mm1, .int .u64 (t1.a : Int), .int .u64 (t1.b : Int), .int .u64 (t1.c : Int), .int .u64 (t1.d : Int), .slice ad1 l1 c1, .int .i64 k2, .int .i64 mn2, .int .i64 mx2, .int .i64 mm2, .int .u64 (t2.a : Int), .int .u64 (t2.b : Int), .int .u64 (t2.c : Int), .int .u64 (t2.d : Int), .slice ad2 l2 c2] 27)) (.slice (some ⟨w.heap.size, 0, none⟩) 2 2) [r, r'] := by
 refine ⟨[rxv k1 mn1 mx1 mm1 t1 (.slice ad1 l1 c1), rxv k2 mn2 mx2 mm2 t2 (.slice ad2 l2 c2)], rfl, ⟨rfl, .inr ⟨w.heap.size, 2, _, rfl, hb, last_of w _, Nat.le_refl _, by unfold maxLen; omega, rfl, rfl⟩⟩, ?_, ?_⟩
 ·
  intro b hb'
  injection hb' with hb'
  rw [← hb']; exact ho
 intro j t' u hj hu
 have key : ∀ (q : Rx) (v : Value), Is w ok q v → Is (w.alloc (.cells #[.int .i64 k1, .int .i64 mn1, .int .i64 mx1, .int .i64 mm1, .int .u64 (t1.a : Int), .int .u64 (t1.b : Int), .int .u64 (t1.c : Int), .int .u64 (t1.d : Int), .slice ad1 l1 c1, .int .i64 k2, .int .i64 mn2, .int .i64 mx2, .int .i64 mm2, .int .u64 (t2.a : Int), .int .u64 (t2.b : Int), .int .u64 (t2.c : Int), .int .u64 (t2.d : Int), .slice ad2 l2 c2] 27)) (fun b => ok b ∧ (Value.slice (some ⟨w.heap.size, 0, none⟩) 2 2).ownBlock ≠ some b) q v := fun q v h => by
  refine (h.weak (fun b hb hl => ⟨hb, ?_⟩)).kp ((Kp.refl _).alloc _)
  show some w.heap.size ≠ some b
  intro he; injection he with he; omega
 match j, hj, hu with
 | 0, hj, hu =>
  simp at hj hu
  subst hj
  subst hu
  exact key _ _ hI
 | 1, hj, hu =>
  simp at hj hu
  subst hj
  subst hu
  exact key _ _ hJ
 | j + 2, hj, _ => simp at hj
theorem sg_of {m : Nat} {T : Rx} {d g g' : Nat} {v : Value} {base : Nat} {w : World} (hg : g ≤ 3) (h1 : 1 ≤ m) (h2 : m ≤ 2) (hp : m = 1 → Trip.PGood true 2 T d g g')
  (hL : 2 ≤ m → ∃ ks kv, v = rxv 2 0 0 0 W4.z kv ∧ T = .mk 2 0 0 0 W4.z ks ∧ RKids base w kv ks ∧ ks.length = m ∧ Trip.LG true d ks g g') : Trip.SGood true 5 T d g g' := by
 by_cases hm : m = 1
 ·
  exact ((hp hm).more (by omega)).part
 ·
  obtain ⟨ks, kv, _, rfl, _, hl, hLG⟩ := hL (by omega)
  have := Trip.cat_good true d g g' hg ks hLG (by omega) (by omega)
  rw [show 1 + 2 * ks.length = 5 by omega] at this
  exact this
structure AMid (B d g x : Nat) (z : Int) (w : World) (v v' : Value) (w' : World) : Prop where
 ex : ∃ V1 V2 T1 T2 g1 g2, ∃ (k1 mn1 mx1 mm1 : Int) (t1 : W4) (ad1 : Option Addr) (l1 c1 : Nat), ∃ (k2 mn2 mx2 mm2 : Int) (t2 : W4) (ad2 : Option Addr) (l2 c2 : Nat), v = .pointer (some ⟨V1, 0, none⟩) ∧ v' = .pointer (some ⟨V2, 0, none⟩) ∧ w.heap.size + 1 < V1 ∧ w.heap.size + 1 < V2 ∧
  w'.heap[V1]? = some (rxo k1 mn1 mx1 mm1 t1 (.slice ad1 l1 c1)) ∧ w'.heap[V2]? = some (rxo k2 mn2 mx2 mm2 t2 (.slice ad2 l2 c2)) ∧ Is w' (fun b => w.heap.size + 1 < b) T1 (rxv k1 mn1 mx1 mm1 t1 (.slice ad1 l1 c1)) ∧ Is w' (fun b => w.heap.size + 1 < b) T2 (rxv k2 mn2 mx2 mm2 t2 (.slice ad2 l2 c2)) ∧
  Trip.SGood true 5 T1 d g g1 ∧ Trip.SGood true 2 T2 d g1 g2 ∧ w'.heap[w.heap.size + 1]? = some rzo ∧ Gone B 4 7 x g z w w' g2
theorem amid_of {B d g x m x' V1 V2 g1 g2 : Nat} {z z' : Int} {w W5 u1 Y1 u2 Y2 u3 Z Wf : World} {T1 T2 : Rx} {k1 mn1 mx1 mm1 : Int} {t1 : W4} {ad1 : Option Addr} {l1 c1 : Nat} {k2 mn2 mx2 mm2 : Int} {t2 : W4} {ad2 : Option Addr} {l2 c2 : Nat}
  (hBw : B + 2 < w.heap.size) (h2 : m ≤ 2) (hs : w.heap.size + 1 < W5.heap.size) (K5 : Km B w W5) (kc1 : Kp W5 u1) (km1 : Km B u1 Y1) (kc2 : Kp Y1 u2) (kc3 : Kp Y2 u3)
  (hV1 : w.heap.size + 1 < V1) (hV2 : w.heap.size + 1 < V2) (o11 : V1 < u1.heap.size + 2 ∨ Y1.heap.size ≤ V1) (o12 : V1 < u2.heap.size + 2 ∨ Y2.heap.size ≤ V1) (o21 : V2 < u1.heap.size + 2 ∨ Y1.heap.size ≤ V2) (o22 : V2 < u2.heap.size + 2 ∨ Y2.heap.size ≤ V2)
  (R5 : W5.heap[w.heap.size + 1]? = some rzo) (I1 : Is Y1 (fun b => u1.heap.size + 2 ≤ b) T1 (rxv k1 mn1 mx1 mm1 t1 (.slice ad1 l1 c1))) (q1 : x' + 8 * (4 - g1) ≤ x + 1 + 8 * (4 - g) + m) (q2 : z - 1 + 8 * g ≤ z' + 8 * g1 + (2 * m : Nat)) (q3 : z' ≤ z - 1) (S1 : Trip.SGood true 5 T1 d g g1)
  (I2 : Is Y2 (fun b => u2.heap.size + 2 ≤ b) T2 (rxv k2 mn2 mx2 mm2 t2 (.slice ad2 l2 c2))) (G2 : Gone B 1 (2 * 1) x' g1 z' u2 Y2 g2) (S2 : Trip.SGood true 2 T2 d g1 g2)
  (f1 : Ks V1 u3 Z) (f2 : Ks V2 Z Wf) (b1 : Wf.heap[V1]? = some (rxo k1 mn1 mx1 mm1 t1 (.slice ad1 l1 c1))) (b2 : Wf.heap[V2]? = some (rxo k2 mn2 mx2 mm2 t2 (.slice ad2 l2 c2))) : AMid B d g x z w (.pointer (some ⟨V1, 0, none⟩)) (.pointer (some ⟨V2, 0, none⟩)) Wf := by
 have s1 := kc1.size
 have s2 := km1.size
 have s3 := kc2.size
 have s4 := G2.km.size
 have s5 := kc3.size
 have s6 := f1.size
 have s7 := f2.size
 refine ⟨V1, V2, T1, T2, g1, g2, k1, mn1, mx1, mm1, t1, ad1, l1, c1, k2, mn2, mx2, mm2, t2, ad2, l2, c2, rfl, rfl, hV1, hV2, b1, b2, ?_, ?_, S1, S2, ?_, ?_⟩
 ·
  refine Is.turn (by omega) (fun b hb hl => ⟨by omega, ?_⟩) _ _ I1
  exact (f2.block b (by omega) (by omega)).trans ((f1.block b (by omega) (by omega)).trans ((kc3.block b (by omega)).trans ((G2.km.block b (by omega) (by omega) (by omega) (by omega)).trans (kc2.block b hl))))
 ·
  refine Is.turn (by omega) (fun b hb hl => ⟨by omega, ?_⟩) _ _ I2
  exact (f2.block b (by omega) (by omega)).trans ((f1.block b (by omega) (by omega)).trans (kc3.block b hl))
 ·
  exact bl_ks (bl_ks (bl_kp (bl_km (bl_kp (bl_km (bl_kp R5 kc1) (by omega) km1) kc2) (by omega) G2.km) kc3) (by omega) f1) (by omega) f2
 ·
  obtain ⟨x'', z'', hm, p1, p2, p3⟩ := G2.ex
  exact ⟨⟨x'', z'', ((hm.kp kc3).ks f1 (by omega)).ks f2 (by omega), by omega, by omega, by omega⟩, ((((((K5.kp kc1 (by omega)).trans km1).kp kc2 (by omega)).trans G2.km).kp kc3 (by omega)).new f1 (by omega) (by omega)).new f2 (by omega) (by omega)⟩

set_option maxHeartbeats 12000000 in
theorem krow_any (ere : Bool) (aK : Option Addr) (lK cK : Nat) (aN : Option Addr) (lN cN : Nat) (B : Nat) (d x g : Nat) (z : Int) (w : World) (HP : PartSaid ere d) (hA : Asks w aK lK aN lN B 4 7 x g z) :
  Calls Tryz.prog 80 #[(mkv aK lK cK aN lN cN ere B), .int .i64 (d : Int)] w fun e w' => RowD ere B d x g z w e w' := by
 have HA := hid hA
 have hBw := hA.mm.lt
 have hg3 := hA.g3
 have hbx := hA.bx
 have hbz := hA.bz
 have hz14 := hA.z14
 have HPS := hid HP
 clear hA HP
 go_enter Tryz.func80, Tryz.ntmps80
 go_upto_region 1 with fail
 refine opq (fun W0 => W0.heap[w.heap.size]? = some (mko aK lK cK aN lN cN ere B) ∧ W0.heap[(w.heap.size + 1)]? = some rzo ∧ Kp w W0) ⟨by exact bl_alloc (last_of _ _) _, by exact last_at _ _ _ (by simp), by exact kpt⟩ ?_
 rintro W0 ⟨xA0, xR0, xK0⟩
 have A0 := hidT xA0
 have R0 := hidT xR0
 have K0 := hidT xK0
 clear xA0 xR0 xK0
 have AS0 := hid (HA.out.mm.kp K0.out)
 have NK0 := hid (HA.out.nk.km (K0.out.km (B := B) (by omega)))
 have NN0 := hid (HA.out.nn.km (K0.out.km (B := B) (by omega)))
 have p0 := bl_cell (A0.out) 0 _ rfl
 have p1 := bl_cell (A0.out) 1 _ rfl
 have p2 := bl_cell (A0.out) 2 _ rfl
 have p3 := bl_cell (A0.out) 3 _ rfl
 have p4 := bl_cell (A0.out) 4 _ rfl
 have p5 := bl_cell (A0.out) 5 _ rfl
 go_wp2_with fail
 refine (next_any aK lK cK aN lN cN ere B x (g : Int) z _ AS0.out NK0.out NN0.out (by omega)).mono ?_
 rintro e W1 ⟨kd, n, rfl, m1, k1⟩
 have hs0 := K0.out.size
 have hs0' : w.heap.size + 1 < W0.heap.size := bl_lt R0.out
 have hs1 := k1.size
 have M1 := hid m1
 have A1 := hid (bl_km A0.out (by omega) k1)
 have R1 := hid (bl_km R0.out (by omega) k1)
 have K1 : Hid (Km B w W1) := (K0.out.km (by omega)).trans k1
 clear m1 k1 AS0 NK0 NN0 A0 R0 p0 p1 p2 p3 p4 p5
 go_upto_region 2 with fail
 have gz : IntKind.i64.wrap (z - 1) = z - 1 := by rw [IntKind.wrap_i64]; omega
 go_cut [] (fun wc => Mk wc B ((x + 1 : Nat) : Int) (g : Int) (z - 1) ∧ wc.heap[w.heap.size]? = some (mko aK lK cK aN lN cN ere B) ∧ wc.heap[w.heap.size + 1]? = some rzo ∧ Km B w wc ∧ W1.heap.size ≤ wc.heap.size)
 case first =>
  have Q0 : Kp W1 W1.drew := (Kp.refl _).drew
  have MK : Hid (∀ W, Kp W1 W → W.cell? ⟨w.heap.size, 5, none⟩ = some (.pointer (some ⟨B + 2, 0, none⟩)) ∧ W.cell? ⟨(B + 2), 0, none⟩ = some (.int .i64 z) ∧ Hid (Kp W1 W)) := fun W k => ⟨bl_cell (bl_kp A1.out k) 5 _ rfl, bl_cell (M1.out.kp k).lf 0 _ rfl, k⟩
  refine wp_region_noPanic ?_
  refine hdrewZ 8 MK Q0 (fun hH => ?_)
  have KQ := Q0
  refine zk 8 0 [] (some 16) (Op.fieldAddr 120 (Operand.tmp 2) 4) 0 (v := ?v0a1) rfl ?h0a1 hH ?_
  case h0a1 => intro _ _; go_simp; try with_reducible rfl
  try simp only [ps]
  refine zk 8 1 [] (some 17) (Op.load 118 (Operand.tmp 16)) 118 (v := ?v1a2) rfl ?h1a2 hH ?_
  case h1a2 => intro _ _; go_simp; try with_reducible rfl
  try simp only [ps]
  refine zk 8 2 [] (some 18) (Op.fieldAddr 120 (Operand.tmp 2) 4) 0 (v := ?v2a3) rfl ?h2a3 hH ?_
  case h2a3 => intro _ _; go_simp; try with_reducible rfl
  try simp only [ps]
  refine zk 8 3 [] (some 19) (Op.load 118 (Operand.tmp 18)) 118 (v := ?v3a4) rfl ?h3a4 hH ?_
  case h3a4 => intro _ _; go_simp; try with_reducible rfl
  try simp only [ps]
  refine zk 8 4 [] (some 20) (Op.nilCheck (Operand.tmp 19)) 0 (v := ?v4a5) rfl ?h4a5 hH ?_
  case h4a5 => intro _ _; go_simp; try with_reducible rfl
  try simp only [ps]
  refine zk 8 5 [] (some 21) (Op.load 3 (Operand.tmp 20)) 3 (v := ?v5a6) rfl ?h5a6 hH ?_
  case h5a6 => intro _ _; go_simp; try with_reducible rfl
  try simp only [ps]
  refine zk 8 6 [] (some 22) (Op.binOp BinOp.sub 3 (Operand.tmp 21) (Operand.const (Value.int IntKind.i64 1)) 3) 3 (v := ?v6a7) rfl ?h6a7 hH ?_
  case h6a7 => intro _ _; go_simp; try with_reducible rfl
  try simp only [ps]
  refine zk 8 7 [] (some 23) (Op.nilCheck (Operand.tmp 17)) 0 (v := ?v7a8) rfl ?h7a8 hH ?_
  case h7a8 => intro _ _; go_simp; try with_reducible rfl
  try simp only [ps]
  refine anyZ_ready (rs := [8]) (by kernel_rfl) (by simp) ?_
  refine AllZ.last (o := { dst := none, op := Op.store 3 (Operand.tmp 23) (Operand.tmp 22), type := 0, pos := "keep.go:69", after := _, guard := none }) rfl (Or.inl rfl) (fun K hKq => ?_) AllZ.nil
  have fq2 := bl_frozen (M1.out.kp KQ).lf 0
  have cq2 := bl_cell (M1.out.kp KQ).lf 0 _ rfl
  go_simp
  refine hKq.out _ _ ?_
  clear fq2 cq2
  clear hKq K
  try simp only [ps]
  refine anyZ_done (by kernel_rfl) ?_ _
  refine NoPanic.normal ?_
  go_wp2_with fail
  go_meet
  case rel => exact ⟨(M1.out.kp KQ).setL _, bl_set (bl_kp A1.out KQ) (by omega) _, bl_set (bl_kp R1.out KQ) (by omega) _, (K1.out.kp KQ (by omega)).set 2 (by omega) 0 _, by simp⟩
 case rest =>
 obtain ⟨m2, a2, r2, k2, hs2⟩ := hcut
 rename World => W2
 have M2 := hid m2
 have A2 := hid a2
 have R2 := hid r2
 have K2 := hid k2
 clear m2 a2 r2 k2 M1 A1 R1 K1 gz
 go_wp2_with fail
 refine (within_nat _ 9 (by omega) _).mono ?_
 rintro e W2 ⟨c, hc9, rfl, rfl⟩
 have p0 := bl_cell (A2.out) 0 _ rfl
 have p1 := bl_cell (A2.out) 1 _ rfl
 have p2 := bl_cell (A2.out) 2 _ rfl
 have p3 := bl_cell (A2.out) 3 _ rfl
 have p4 := bl_cell (A2.out) 4 _ rfl
 have p5 := bl_cell (A2.out) 5 _ rfl
 have q0 := bl_cell M2.out.lf 0 _ rfl
 go_upto_region 4 with fail
 go_cut [42] (fun v wc => Bq (ere = true ∧ d < 3) v ∧ Kp W2 wc)
 case first =>
  cases ere with
  | false =>
   go_wp2_with fail
   go_meet
   case rel => exact ⟨⟨_, rfl, fun h => by cases h⟩, Kp.refl _⟩
  | true =>
  by_cases h9 : c = 9
  ·
   subst h9
   by_cases hl : 4 < z - 1
   ·
    have hli : (4 : Int) < z - 1 := hl
    by_cases hd3 : d < 3
    ·
     have hd3i : (d : Int) < 3 := by omega
     go_wp2_with fail
     go_meet
     case rel => exact ⟨⟨_, rfl, fun _ => ⟨by trivial, hd3⟩⟩, Kp.refl _⟩
    ·
     have hd3i : ¬ (d : Int) < 3 := by omega
     go_wp2_with fail
     go_meet
     case rel => exact ⟨⟨_, rfl, fun h => by cases h⟩, Kp.refl _⟩
   ·
    have hli : ¬ (4 : Int) < z - 1 := hl
    go_wp2_with fail
    go_meet
    case rel => exact ⟨⟨_, rfl, fun h => by cases h⟩, Kp.refl _⟩
  ·
   have h9i : ((c : Int) == 9) = false := by simp; omega
   have h9j : ¬ (c : Int) = 9 := by omega
   go_wp2_with fail
   go_meet
   case rel => exact ⟨⟨_, rfl, fun h => by cases h⟩, Kp.refl _⟩
 case rest =>
 obtain ⟨⟨⟨q4, rfl, hq4⟩⟩, k4⟩ := hcut
 rename World => W5
 have hs4 := k4.size
 have M5 := hid (M2.out.kp k4)
 have A5 := hid (bl_kp A2.out k4)
 have R5 := hid (bl_kp R2.out k4)
 have K5 := hid (K2.out.kp k4 (by omega))
 have hs5 : w.heap.size + 1 < W5.heap.size := bl_lt R5.out
 clear k4 q0 M2 A2 R2 K2 p0 p1 p2 p3 p4 p5
 have M2 := M5
 have A2 := A5
 have R2 := R5
 have K2 := K5
 clear M5 A5 R5 K5
 cases q4
 case true =>
  obtain ⟨rfl, _⟩ := hq4 rfl
  go_upto_region 5 with fail
  have NKW := hid (fun (W : World) (k : Km B W5 W) => HA.out.nk.km (K2.out.trans k))
  have NNW := hid (fun (W : World) (k : Km B W5 W) => HA.out.nn.km (K2.out.trans k))
  obtain ⟨m, hm, hm1, hm2⟩ := one_or_two n
  have hmc : 1 + bits .and .i64 n 1 = (m : Int) := hm
  have gw : IntKind.i64.wrap (m : Int) = (m : Int) := by rw [IntKind.wrap_i64]; omega
  clear hm
  have PS := hid (fun (m : Nat) (h1 : 1 ≤ m) (h3 : m ≤ 2) (W : World) (k : Kp W5 W) => parts_any aK lK cK aN lN cN true B d m (x + 1) g (z - 1) W h1 (by omega) HPS.out ⟨M2.out.kp k, NKW.out _ (k.km (by omega)), NNW.out _ (k.km (by omega)), hg3, by omega, by omega, by omega⟩)
  go_cut [8, 9] (fun v v' wc => AMid B d g x z w v v' wc)
  case first =>
   have Q0 : Km B W5 W5.drew := (Km.refl B W5).kp ((Kp.refl _).drew) (by omega)
   have MK : Hid (∀ W, Km B W5 W → W.cell? ⟨w.heap.size, 0, none⟩ = some (.slice aK lK cK) ∧ W.cell? ⟨w.heap.size, 1, none⟩ = some (.slice aN lN cN) ∧ W.cell? ⟨w.heap.size, 2, none⟩ = some (.bool true) ∧ W.cell? ⟨w.heap.size, 3, none⟩ = some (.pointer (some ⟨B, 0, none⟩)) ∧ W.cell? ⟨w.heap.size, 4, none⟩ = some (.pointer (some ⟨B + 1, 0, none⟩)) ∧ W.cell? ⟨w.heap.size, 5, none⟩ = some (.pointer (some ⟨B + 2, 0, none⟩)) ∧ Hid (Km B W5 W)) := fun W k => ⟨bl_cell (bl_km A2.out (by omega) k) 0 _ rfl, bl_cell (bl_km A2.out (by omega) k) 1 _ rfl, bl_cell (bl_km A2.out (by omega) k) 2 _ rfl, bl_cell (bl_km A2.out (by omega) k) 3 _ rfl, bl_cell (bl_km A2.out (by omega) k) 4 _ rfl, bl_cell (bl_km A2.out (by omega) k) 5 _ rfl, k⟩
   refine wp_region_noPanic ?_
   refine hdrew MK Q0 (fun hH => ?_)
   have KQ := Q0
   refine tk 0 (some 43) (Op.load 120 (Operand.tmp 2)) 120 (v := ?v0e1) rfl ?h0e1 hH ?_
   case h0e1 => intro _ _; go_simp; try with_reducible rfl
   try simp only [ps]
   refine tk 1 (some 44) (Op.move (Operand.tmp 1)) 3 (v := ?v1e2) rfl ?h1e2 hH ?_
   case h1e2 => intro _ _; go_simp; try with_reducible rfl
   try simp only [ps]
   refine tk 2 (some 45) (Op.move (Operand.tmp 6)) 3 (v := ?v2e3) rfl ?h2e3 hH ?_
   case h2e3 => intro _ _; go_simp; try with_reducible rfl
   try simp only [ps]
   refine tk 3 (some 46) (Op.binOp BinOp.and 3 (Operand.tmp 45) (Operand.const (Value.int IntKind.i64 1)) 3) 3 (v := ?v3e4) rfl ?h3e4 hH ?_
   case h3e4 => intro _ _; go_simp; try with_reducible rfl
   try simp only [ps]
   refine tk 4 (some 47) (Op.binOp BinOp.add 3 (Operand.const (Value.int IntKind.i64 1)) (Operand.tmp 46) 3) 3 (v := ?v4e5) rfl ?h4e5 hH ?_
   case h4e5 => intro _ _; go_simp; try with_reducible rfl
   try simp only [ps]
   refine tk 6 (some 49) (Op.load 120 (Operand.tmp 2)) 120 (v := ?v6e6) rfl ?h6e6 hH ?_
   case h6e6 => intro _ _; go_simp; try with_reducible rfl
   try simp only [ps]
   refine tk 7 (some 50) (Op.move (Operand.tmp 1)) 3 (v := ?v7e7) rfl ?h7e7 hH ?_
   case h7e7 => intro _ _; go_simp; try with_reducible rfl
   try simp only [ps]
   refine wpAnyH_ready (rs := [5, 9, 10]) (by kernel_rfl) (by simp) ?_
   refine AllReadyH.cons (o := { dst := some 48, op := Op.call { callee := Callee.value (Operand.func 113), args := #[Operand.tmp 43, Operand.tmp 44, Operand.tmp 47], argTypes := #[120, 3, 3] }, type := 27, pos := "keep.go:72", after := _, guard := none }) rfl (fun K hKq => ?_) ?_
   ·
    go_simp
    refine (PS.out m hm1 hm2 _ (by repeat (first | exact Kp.refl _ | refine Kp.alloc ?_ _ | refine Kp.drew ?_))).mono ?_
    rintro e Y1 ⟨⟨T1, v1, g1, rfl, hI, hp1, hp2, hGn⟩⟩
    obtain ⟨k1, mn1, mx1, mm1, t1, ad1, l1, c1, rfl⟩ := hI.form
    have SG1 := hid (sg_of hg3 hm1 hm2 hp1 hp2)
    have I1 := hid hI
    have KM1 := hid hGn.km
    have hy1 := hGn.km.size
    try simp at hy1
    obtain ⟨x', z', hmk, q1, q2, q3⟩ := hGn.ex
    have hgg := SG1.out.g3
    have PS2 := hid (fun (W : World) (k : Kp Y1 W) => parts_any aK lK cK aN lN cN true B d 1 x' g1 z' W (by omega) (by omega) HPS.out ⟨hmk.kp k, NKW.out _ ((Kp.km (B := B) (a := W5) (by repeat (first | exact Kp.refl _ | refine Kp.alloc ?_ _ | refine Kp.drew ?_)) (by omega)).trans (KM1.out.kp k (by first | omega | (simp; omega) | simp))), NNW.out _ ((Kp.km (B := B) (a := W5) (by repeat (first | exact Kp.refl _ | refine Kp.alloc ?_ _ | refine Kp.drew ?_)) (by omega)).trans (KM1.out.kp k (by first | omega | (simp; omega) | simp))), hgg, by omega, by omega, by omega⟩)
    clear hI hp1 hp2 hGn hmk
    refine hKq.out _ _ (MK.out _ (KQ.trans KM1.out)) (fun hN => ?_)
    clear hKq K hH KQ
    have hH := hN
    clear hN
    have KQ := hH.2.2.2.2.2.2.out
    try simp only [ps]
    refine wpAnyH_ready (rs := [8, 9, 10]) (by kernel_rfl) (by simp) ?_
    refine AllReadyH.cons (o := { dst := some 51, op := Op.call { callee := Callee.value (Operand.func 113), args := #[Operand.tmp 49, Operand.tmp 50, Operand.const (Value.int IntKind.i64 1)], argTypes := #[120, 3, 3] }, type := 27, pos := "keep.go:72", after := _, guard := none }) rfl (fun K hKq => ?_) ?_
    ·
     go_simp
     refine (PS2.out _ (by repeat (first | exact Kp.refl _ | refine Kp.alloc ?_ _ | refine Kp.drew ?_))).mono ?_
     rintro e Y2 ⟨⟨T2, v2, g2, rfl, hI, hp1, hp2, hGn⟩⟩
     obtain ⟨k2, mn2, mx2, mm2, t2, ad2, l2, c2, rfl⟩ := hI.form
     have SG2 := hid (hp1 rfl).part
     have I2 := hid hI
     have G2 := hid hGn
     have hy2 := hGn.km.size
     try simp at hy2
     clear hI hp1 hp2 hGn PS2
     refine hKq.out _ _ (MK.out _ (KQ.trans G2.out.km)) (fun hN => ?_)
     clear hKq K hH KQ
     have hH := hN
     clear hN
     have KQ := hH.2.2.2.2.2.2.out
     try simp only [ps]
     refine wpAnyH_ready (rs := [9, 10]) (by kernel_rfl) (by simp) ?_
     refine AllReadyH.cons (o := { dst := some 8, op := Op.alloc 27, type := 0, pos := "keep.go:72", after := #[], guard := none }) rfl (fun K hKq => ?_) ?_
     ·
      go_simp
      refine hKq.out _ _ (MK.out _ (KQ.kp ((Kp.refl _).alloc _) (by omega))) (fun hN => ?_)
      have B1n3 : Hid ((Y2.alloc rzo).heap[Y2.heap.size]? = some rzo) := last_at _ _ _ (by simp)
      clear hKq K hH KQ
      have hH := hN
      clear hN
      have KQ := hH.2.2.2.2.2.2.out
      try simp only [ps]
      refine wpAnyH_ready (rs := [10]) (by kernel_rfl) (by simp) ?_
      refine AllReadyH.cons (o := { dst := some 9, op := Op.alloc 27, type := 0, pos := "keep.go:72", after := #[], guard := none }) rfl (fun K hKq => ?_) AllReadyH.nil
      go_simp
      refine hKq.out _ _ (MK.out _ (KQ.kp ((Kp.refl _).alloc _) (by omega))) (fun hN => ?_)
      have B1n4 : Hid (((Y2.alloc rzo).alloc rzo).heap[Y2.heap.size]? = some rzo) := bl_alloc B1n3.out _
      have B2n4 : Hid (((Y2.alloc rzo).alloc rzo).heap[Y2.heap.size + 1]? = some rzo) := last_at _ _ _ (by simp)
      clear hKq K hH KQ
      have hH := hN
      clear hN
      have KQ := hH.2.2.2.2.2.2.out
      try simp only [ps]
      refine wpAnyH_ready (rs := [11]) (by kernel_rfl) (by simp) ?_
      refine AllReadyH.cons (o := { dst := none, op := Op.store 27 (Operand.tmp 8) (Operand.tmp 48), type := 0, pos := "keep.go:72", after := _, guard := none }) rfl (fun K hKq => ?_) AllReadyH.nil
      obtain ⟨U, hU⟩ : ∃ U, ((Y2.alloc rzo).alloc rzo) = U := ⟨_, rfl⟩
      rw [hU] at hH KQ B1n4 B2n4 ⊢
      have KU : Hid (Kp Y2 U) := by subst hU; exact (by repeat (first | exact Kp.refl _ | refine Kp.alloc ?_ _ | refine Kp.drew ?_))
      clear hU
      have v0 := bl_cell (B1n4.out) 0 _ rfl
      have fv0 := bl_frozen (B1n4.out) 0
      have v1 := bl_cell (B1n4.out) 1 _ rfl
      have fv1 := bl_frozen (B1n4.out) 1
      have v2 := bl_cell (B1n4.out) 2 _ rfl
      have fv2 := bl_frozen (B1n4.out) 2
      have v3 := bl_cell (B1n4.out) 3 _ rfl
      have fv3 := bl_frozen (B1n4.out) 3
      have v4 := bl_cell (B1n4.out) 4 _ rfl
      have fv4 := bl_frozen (B1n4.out) 4
      have v5 := bl_cell (B1n4.out) 5 _ rfl
      have fv5 := bl_frozen (B1n4.out) 5
      have v6 := bl_cell (B1n4.out) 6 _ rfl
      have fv6 := bl_frozen (B1n4.out) 6
      have v7 := bl_cell (B1n4.out) 7 _ rfl
      have fv7 := bl_frozen (B1n4.out) 7
      have v8 := bl_cell (B1n4.out) 8 _ rfl
      have fv8 := bl_frozen (B1n4.out) 8
      go_simp
      refine hKq.out _ _ (MK.out _ (Km.new (S := Y2.heap.size) KQ (ks_set9 _ _ _ _ _ _ _ _ _) (by omega) (by omega))) (fun hN => ?_)
      clear v0 fv0 v1 fv1 v2 fv2 v3 fv3 v4 fv4 v5 fv5 v6 fv6 v7 fv7 v8 fv8
      have B1s := hid (bl_set9 B1n4.out (.int .i64 k1) (.int .i64 mn1) (.int .i64 mx1) (.int .i64 mm1) (.int .u64 (t1.a : Int)) (.int .u64 (t1.b : Int)) (.int .u64 (t1.c : Int)) (.int .u64 (t1.d : Int)) (.slice ad1 l1 c1))
      have F1s := hid (ks_set9 (w := U) (B := Y2.heap.size) (.int .i64 k1) (.int .i64 mn1) (.int .i64 mx1) (.int .i64 mm1) (.int .u64 (t1.a : Int)) (.int .u64 (t1.b : Int)) (.int .u64 (t1.c : Int)) (.int .u64 (t1.d : Int)) (.slice ad1 l1 c1))
      have B2s := hid (bl_ks B2n4.out (by omega) F1s.out)
      clear hKq K hH KQ
      have hH := hN
      clear hN
      have KQ := hH.2.2.2.2.2.2.out
      try simp only [ps]
      refine wpAnyH_ready (rs := [12]) (by kernel_rfl) (by simp) ?_
      refine AllReadyH.cons (o := { dst := none, op := Op.store 27 (Operand.tmp 9) (Operand.tmp 51), type := 0, pos := "keep.go:72", after := _, guard := none }) rfl (fun K hKq => ?_) AllReadyH.nil
      have u0 := bl_cell (B2s.out) 0 _ rfl
      have fu0 := bl_frozen (B2s.out) 0
      have u1 := bl_cell (B2s.out) 1 _ rfl
      have fu1 := bl_frozen (B2s.out) 1
      have u2 := bl_cell (B2s.out) 2 _ rfl
      have fu2 := bl_frozen (B2s.out) 2
      have u3 := bl_cell (B2s.out) 3 _ rfl
      have fu3 := bl_frozen (B2s.out) 3
      have u4 := bl_cell (B2s.out) 4 _ rfl
      have fu4 := bl_frozen (B2s.out) 4
      have u5 := bl_cell (B2s.out) 5 _ rfl
      have fu5 := bl_frozen (B2s.out) 5
      have u6 := bl_cell (B2s.out) 6 _ rfl
      have fu6 := bl_frozen (B2s.out) 6
      have u7 := bl_cell (B2s.out) 7 _ rfl
      have fu7 := bl_frozen (B2s.out) 7
      have u8 := bl_cell (B2s.out) 8 _ rfl
      have fu8 := bl_frozen (B2s.out) 8
      go_simp
      refine hKq.out _ _ (MK.out _ (Km.new (S := Y2.heap.size + 1) KQ (ks_set9 _ _ _ _ _ _ _ _ _) (by omega) (by omega))) (fun hN => ?_)
      clear u0 fu0 u1 fu1 u2 fu2 u3 fu3 u4 fu4 u5 fu5 u6 fu6 u7 fu7 u8 fu8
      clear hKq K hH KQ
      have hH := hN
      clear hN
      have KQ := hH.2.2.2.2.2.2.out
      try simp only [ps]
      refine wpAnyH_done (by kernel_rfl) ?_ _
      refine NoPanic.normal ?_
      go_wp2_with fail
      go_meet
      case rel => exact amid_of (u1 := W5.drew) (u2 := Y1) (u3 := U) hBw hm2 (by omega) K2.out (by repeat (first | exact Kp.refl _ | refine Kp.alloc ?_ _ | refine Kp.drew ?_)) KM1.out (by repeat (first | exact Kp.refl _ | refine Kp.alloc ?_ _ | refine Kp.drew ?_)) KU.out (by omega) (by omega) (by first | omega | (simp; omega) | simp) (by first | omega | (simp; omega) | simp) (by first | omega | (simp; omega) | simp) (by first | omega | (simp; omega) | simp) R2.out I1.out q1 q2 q3 SG1.out I2.out G2.out SG2.out F1s.out (ks_set9 _ _ _ _ _ _ _ _ _) (bl_ks B1s.out (by omega) (ks_set9 _ _ _ _ _ _ _ _ _)) (bl_set9 B2s.out _ _ _ _ _ _ _ _ _)
     refine AllReadyH.cons (o := { dst := some 9, op := Op.alloc 27, type := 0, pos := "keep.go:72", after := #[], guard := none }) rfl (fun K hKq => ?_) ?_
     ·
      go_simp
      refine hKq.out _ _ (MK.out _ (KQ.kp ((Kp.refl _).alloc _) (by omega))) (fun hN => ?_)
      have B2n3 : Hid ((Y2.alloc rzo).heap[Y2.heap.size]? = some rzo) := last_at _ _ _ (by simp)
      clear hKq K hH KQ
      have hH := hN
      clear hN
      have KQ := hH.2.2.2.2.2.2.out
      try simp only [ps]
      refine wpAnyH_ready (rs := [9]) (by kernel_rfl) (by simp) ?_
      refine AllReadyH.cons (o := { dst := some 8, op := Op.alloc 27, type := 0, pos := "keep.go:72", after := #[], guard := none }) rfl (fun K hKq => ?_) AllReadyH.nil
      go_simp
      refine hKq.out _ _ (MK.out _ (KQ.kp ((Kp.refl _).alloc _) (by omega))) (fun hN => ?_)
      have B2n4 : Hid (((Y2.alloc rzo).alloc rzo).heap[Y2.heap.size]? = some rzo) := bl_alloc B2n3.out _
      have B1n4 : Hid (((Y2.alloc rzo).alloc rzo).heap[Y2.heap.size + 1]? = some rzo) := last_at _ _ _ (by simp)
      clear hKq K hH KQ
      have hH := hN
      clear hN
      have KQ := hH.2.2.2.2.2.2.out
      try simp only [ps]
      refine wpAnyH_ready (rs := [11]) (by kernel_rfl) (by simp) ?_
      refine AllReadyH.cons (o := { dst := none, op := Op.store 27 (Operand.tmp 8) (Operand.tmp 48), type := 0, pos := "keep.go:72", after := _, guard := none }) rfl (fun K hKq => ?_) AllReadyH.nil
      obtain ⟨U, hU⟩ : ∃ U, ((Y2.alloc rzo).alloc rzo) = U := ⟨_, rfl⟩
      rw [hU] at hH KQ B1n4 B2n4 ⊢
      have KU : Hid (Kp Y2 U) := by subst hU; exact (by repeat (first | exact Kp.refl _ | refine Kp.alloc ?_ _ | refine Kp.drew ?_))
      clear hU
      have v0 := bl_cell (B1n4.out) 0 _ rfl
      have fv0 := bl_frozen (B1n4.out) 0
      have v1 := bl_cell (B1n4.out) 1 _ rfl
      have fv1 := bl_frozen (B1n4.out) 1
      have v2 := bl_cell (B1n4.out) 2 _ rfl
      have fv2 := bl_frozen (B1n4.out) 2
      have v3 := bl_cell (B1n4.out) 3 _ rfl
      have fv3 := bl_frozen (B1n4.out) 3
      have v4 := bl_cell (B1n4.out) 4 _ rfl
      have fv4 := bl_frozen (B1n4.out) 4
      have v5 := bl_cell (B1n4.out) 5 _ rfl
      have fv5 := bl_frozen (B1n4.out) 5
      have v6 := bl_cell (B1n4.out) 6 _ rfl
      have fv6 := bl_frozen (B1n4.out) 6
      have v7 := bl_cell (B1n4.out) 7 _ rfl
      have fv7 := bl_frozen (B1n4.out) 7
      have v8 := bl_cell (B1n4.out) 8 _ rfl
      have fv8 := bl_frozen (B1n4.out) 8
      go_simp
      refine hKq.out _ _ (MK.out _ (Km.new (S := Y2.heap.size + 1) KQ (ks_set9 _ _ _ _ _ _ _ _ _) (by omega) (by omega))) (fun hN => ?_)
      clear v0 fv0 v1 fv1 v2 fv2 v3 fv3 v4 fv4 v5 fv5 v6 fv6 v7 fv7 v8 fv8
      have B1s := hid (bl_set9 B1n4.out (.int .i64 k1) (.int .i64 mn1) (.int .i64 mx1) (.int .i64 mm1) (.int .u64 (t1.a : Int)) (.int .u64 (t1.b : Int)) (.int .u64 (t1.c : Int)) (.int .u64 (t1.d : Int)) (.slice ad1 l1 c1))
      have F1s := hid (ks_set9 (w := U) (B := Y2.heap.size + 1) (.int .i64 k1) (.int .i64 mn1) (.int .i64 mx1) (.int .i64 mm1) (.int .u64 (t1.a : Int)) (.int .u64 (t1.b : Int)) (.int .u64 (t1.c : Int)) (.int .u64 (t1.d : Int)) (.slice ad1 l1 c1))
      have B2s := hid (bl_ks B2n4.out (by omega) F1s.out)
      clear hKq K hH KQ
      have hH := hN
      clear hN
      have KQ := hH.2.2.2.2.2.2.out
      try simp only [ps]
      refine wpAnyH_ready (rs := [12]) (by kernel_rfl) (by simp) ?_
      refine AllReadyH.cons (o := { dst := none, op := Op.store 27 (Operand.tmp 9) (Operand.tmp 51), type := 0, pos := "keep.go:72", after := _, guard := none }) rfl (fun K hKq => ?_) AllReadyH.nil
      have u0 := bl_cell (B2s.out) 0 _ rfl
      have fu0 := bl_frozen (B2s.out) 0
      have u1 := bl_cell (B2s.out) 1 _ rfl
      have fu1 := bl_frozen (B2s.out) 1
      have u2 := bl_cell (B2s.out) 2 _ rfl
      have fu2 := bl_frozen (B2s.out) 2
      have u3 := bl_cell (B2s.out) 3 _ rfl
      have fu3 := bl_frozen (B2s.out) 3
      have u4 := bl_cell (B2s.out) 4 _ rfl
      have fu4 := bl_frozen (B2s.out) 4
      have u5 := bl_cell (B2s.out) 5 _ rfl
      have fu5 := bl_frozen (B2s.out) 5
      have u6 := bl_cell (B2s.out) 6 _ rfl
      have fu6 := bl_frozen (B2s.out) 6
      have u7 := bl_cell (B2s.out) 7 _ rfl
      have fu7 := bl_frozen (B2s.out) 7
      have u8 := bl_cell (B2s.out) 8 _ rfl
      have fu8 := bl_frozen (B2s.out) 8
      go_simp
      refine hKq.out _ _ (MK.out _ (Km.new (S := Y2.heap.size) KQ (ks_set9 _ _ _ _ _ _ _ _ _) (by omega) (by omega))) (fun hN => ?_)
      clear u0 fu0 u1 fu1 u2 fu2 u3 fu3 u4 fu4 u5 fu5 u6 fu6 u7 fu7 u8 fu8
      clear hKq K hH KQ
      have hH := hN
      clear hN
      have KQ := hH.2.2.2.2.2.2.out
      try simp only [ps]
      refine wpAnyH_done (by kernel_rfl) ?_ _
      refine NoPanic.normal ?_
      go_wp2_with fail
      go_meet
      case rel => exact amid_of (u1 := W5.drew) (u2 := Y1) (u3 := U) hBw hm2 (by omega) K2.out (by repeat (first | exact Kp.refl _ | refine Kp.alloc ?_ _ | refine Kp.drew ?_)) KM1.out (by repeat (first | exact Kp.refl _ | refine Kp.alloc ?_ _ | refine Kp.drew ?_)) KU.out (by omega) (by omega) (by first | omega | (simp; omega) | simp) (by first | omega | (simp; omega) | simp) (by first | omega | (simp; omega) | simp) (by first | omega | (simp; omega) | simp) R2.out I1.out q1 q2 q3 SG1.out I2.out G2.out SG2.out F1s.out (ks_set9 _ _ _ _ _ _ _ _ _) (bl_ks B1s.out (by omega) (ks_set9 _ _ _ _ _ _ _ _ _)) (bl_set9 B2s.out _ _ _ _ _ _ _ _ _)
     exact AllReadyH.nil
    refine AllReadyH.cons (o := { dst := some 8, op := Op.alloc 27, type := 0, pos := "keep.go:72", after := #[], guard := none }) rfl (fun K hKq => ?_) ?_
    ·
     go_simp
     refine hKq.out _ _ (MK.out _ (KQ.kp ((Kp.refl _).alloc _) (by omega))) (fun hN => ?_)
     have B1n2 : Hid ((Y1.alloc rzo).heap[Y1.heap.size]? = some rzo) := last_at _ _ _ (by simp)
     clear hKq K hH KQ
     have hH := hN
     clear hN
     have KQ := hH.2.2.2.2.2.2.out
     try simp only [ps]
     refine wpAnyH_ready (rs := [8, 10]) (by kernel_rfl) (by simp) ?_
     refine AllReadyH.cons (o := { dst := some 51, op := Op.call { callee := Callee.value (Operand.func 113), args := #[Operand.tmp 49, Operand.tmp 50, Operand.const (Value.int IntKind.i64 1)], argTypes := #[120, 3, 3] }, type := 27, pos := "keep.go:72", after := _, guard := none }) rfl (fun K hKq => ?_) ?_
     ·
      go_simp
      refine (PS2.out _ (by repeat (first | exact Kp.refl _ | refine Kp.alloc ?_ _ | refine Kp.drew ?_))).mono ?_
      rintro e Y2 ⟨⟨T2, v2, g2, rfl, hI, hp1, hp2, hGn⟩⟩
      obtain ⟨k2, mn2, mx2, mm2, t2, ad2, l2, c2, rfl⟩ := hI.form
      have SG2 := hid (hp1 rfl).part
      have I2 := hid hI
      have G2 := hid hGn
      have hy2 := hGn.km.size
      try simp at hy2
      have B1n3 : Hid (Y2.heap[Y1.heap.size]? = some rzo) := bl_km B1n2.out (by omega) G2.out.km
      clear hI hp1 hp2 hGn PS2
      refine hKq.out _ _ (MK.out _ (KQ.trans G2.out.km)) (fun hN => ?_)
      clear hKq K hH KQ
      have hH := hN
      clear hN
      have KQ := hH.2.2.2.2.2.2.out
      try simp only [ps]
      refine wpAnyH_ready (rs := [10]) (by kernel_rfl) (by simp) ?_
      refine AllReadyH.cons (o := { dst := some 9, op := Op.alloc 27, type := 0, pos := "keep.go:72", after := #[], guard := none }) rfl (fun K hKq => ?_) AllReadyH.nil
      go_simp
      refine hKq.out _ _ (MK.out _ (KQ.kp ((Kp.refl _).alloc _) (by omega))) (fun hN => ?_)
      have B1n4 : Hid ((Y2.alloc rzo).heap[Y1.heap.size]? = some rzo) := bl_alloc B1n3.out _
      have B2n4 : Hid ((Y2.alloc rzo).heap[Y2.heap.size]? = some rzo) := last_at _ _ _ (by simp)
      clear hKq K hH KQ
      have hH := hN
      clear hN
      have KQ := hH.2.2.2.2.2.2.out
      try simp only [ps]
      refine wpAnyH_ready (rs := [11]) (by kernel_rfl) (by simp) ?_
      refine AllReadyH.cons (o := { dst := none, op := Op.store 27 (Operand.tmp 8) (Operand.tmp 48), type := 0, pos := "keep.go:72", after := _, guard := none }) rfl (fun K hKq => ?_) AllReadyH.nil
      obtain ⟨U, hU⟩ : ∃ U, (Y2.alloc rzo) = U := ⟨_, rfl⟩
      rw [hU] at hH KQ B1n4 B2n4 ⊢
      have KU : Hid (Kp Y2 U) := by subst hU; exact (by repeat (first | exact Kp.refl _ | refine Kp.alloc ?_ _ | refine Kp.drew ?_))
      clear hU
      have v0 := bl_cell (B1n4.out) 0 _ rfl
      have fv0 := bl_frozen (B1n4.out) 0
      have v1 := bl_cell (B1n4.out) 1 _ rfl
      have fv1 := bl_frozen (B1n4.out) 1
      have v2 := bl_cell (B1n4.out) 2 _ rfl
      have fv2 := bl_frozen (B1n4.out) 2
      have v3 := bl_cell (B1n4.out) 3 _ rfl
      have fv3 := bl_frozen (B1n4.out) 3
      have v4 := bl_cell (B1n4.out) 4 _ rfl
      have fv4 := bl_frozen (B1n4.out) 4
      have v5 := bl_cell (B1n4.out) 5 _ rfl
      have fv5 := bl_frozen (B1n4.out) 5
      have v6 := bl_cell (B1n4.out) 6 _ rfl
      have fv6 := bl_frozen (B1n4.out) 6
      have v7 := bl_cell (B1n4.out) 7 _ rfl
      have fv7 := bl_frozen (B1n4.out) 7
      have v8 := bl_cell (B1n4.out) 8 _ rfl
      have fv8 := bl_frozen (B1n4.out) 8
      go_simp
      refine hKq.out _ _ (MK.out _ (Km.new (S := Y1.heap.size) KQ (ks_set9 _ _ _ _ _ _ _ _ _) (by omega) (by omega))) (fun hN => ?_)
      clear v0 fv0 v1 fv1 v2 fv2 v3 fv3 v4 fv4 v5 fv5 v6 fv6 v7 fv7 v8 fv8
      have B1s := hid (bl_set9 B1n4.out (.int .i64 k1) (.int .i64 mn1) (.int .i64 mx1) (.int .i64 mm1) (.int .u64 (t1.a : Int)) (.int .u64 (t1.b : Int)) (.int .u64 (t1.c : Int)) (.int .u64 (t1.d : Int)) (.slice ad1 l1 c1))
      have F1s := hid (ks_set9 (w := U) (B := Y1.heap.size) (.int .i64 k1) (.int .i64 mn1) (.int .i64 mx1) (.int .i64 mm1) (.int .u64 (t1.a : Int)) (.int .u64 (t1.b : Int)) (.int .u64 (t1.c : Int)) (.int .u64 (t1.d : Int)) (.slice ad1 l1 c1))
      have B2s := hid (bl_ks B2n4.out (by omega) F1s.out)
      clear hKq K hH KQ
      have hH := hN
      clear hN
      have KQ := hH.2.2.2.2.2.2.out
      try simp only [ps]
      refine wpAnyH_ready (rs := [12]) (by kernel_rfl) (by simp) ?_
      refine AllReadyH.cons (o := { dst := none, op := Op.store 27 (Operand.tmp 9) (Operand.tmp 51), type := 0, pos := "keep.go:72", after := _, guard := none }) rfl (fun K hKq => ?_) AllReadyH.nil
      have u0 := bl_cell (B2s.out) 0 _ rfl
      have fu0 := bl_frozen (B2s.out) 0
      have u1 := bl_cell (B2s.out) 1 _ rfl
      have fu1 := bl_frozen (B2s.out) 1
      have u2 := bl_cell (B2s.out) 2 _ rfl
      have fu2 := bl_frozen (B2s.out) 2
      have u3 := bl_cell (B2s.out) 3 _ rfl
      have fu3 := bl_frozen (B2s.out) 3
      have u4 := bl_cell (B2s.out) 4 _ rfl
      have fu4 := bl_frozen (B2s.out) 4
      have u5 := bl_cell (B2s.out) 5 _ rfl
      have fu5 := bl_frozen (B2s.out) 5
      have u6 := bl_cell (B2s.out) 6 _ rfl
      have fu6 := bl_frozen (B2s.out) 6
      have u7 := bl_cell (B2s.out) 7 _ rfl
      have fu7 := bl_frozen (B2s.out) 7
      have u8 := bl_cell (B2s.out) 8 _ rfl
      have fu8 := bl_frozen (B2s.out) 8
      go_simp
      refine hKq.out _ _ (MK.out _ (Km.new (S := Y2.heap.size) KQ (ks_set9 _ _ _ _ _ _ _ _ _) (by omega) (by omega))) (fun hN => ?_)
      clear u0 fu0 u1 fu1 u2 fu2 u3 fu3 u4 fu4 u5 fu5 u6 fu6 u7 fu7 u8 fu8
      clear hKq K hH KQ
      have hH := hN
      clear hN
      have KQ := hH.2.2.2.2.2.2.out
      try simp only [ps]
      refine wpAnyH_done (by kernel_rfl) ?_ _
      refine NoPanic.normal ?_
      go_wp2_with fail
      go_meet
      case rel => exact amid_of (u1 := W5.drew) (u2 := (Y1.alloc rzo)) (u3 := U) hBw hm2 (by omega) K2.out (by repeat (first | exact Kp.refl _ | refine Kp.alloc ?_ _ | refine Kp.drew ?_)) KM1.out (by repeat (first | exact Kp.refl _ | refine Kp.alloc ?_ _ | refine Kp.drew ?_)) KU.out (by omega) (by omega) (by first | omega | (simp; omega) | simp) (by first | omega | (simp; omega) | simp) (by first | omega | (simp; omega) | simp) (by first | omega | (simp; omega) | simp) R2.out I1.out q1 q2 q3 SG1.out I2.out G2.out SG2.out F1s.out (ks_set9 _ _ _ _ _ _ _ _ _) (bl_ks B1s.out (by omega) (ks_set9 _ _ _ _ _ _ _ _ _)) (bl_set9 B2s.out _ _ _ _ _ _ _ _ _)
     refine AllReadyH.cons (o := { dst := some 9, op := Op.alloc 27, type := 0, pos := "keep.go:72", after := #[], guard := none }) rfl (fun K hKq => ?_) ?_
     ·
      go_simp
      refine hKq.out _ _ (MK.out _ (KQ.kp ((Kp.refl _).alloc _) (by omega))) (fun hN => ?_)
      have B1n3 : Hid (((Y1.alloc rzo).alloc rzo).heap[Y1.heap.size]? = some rzo) := bl_alloc B1n2.out _
      have B2n3 : Hid (((Y1.alloc rzo).alloc rzo).heap[Y1.heap.size + 1]? = some rzo) := last_at _ _ _ (by simp)
      clear hKq K hH KQ
      have hH := hN
      clear hN
      have KQ := hH.2.2.2.2.2.2.out
      try simp only [ps]
      refine wpAnyH_ready (rs := [8]) (by kernel_rfl) (by simp) ?_
      refine AllReadyH.cons (o := { dst := some 51, op := Op.call { callee := Callee.value (Operand.func 113), args := #[Operand.tmp 49, Operand.tmp 50, Operand.const (Value.int IntKind.i64 1)], argTypes := #[120, 3, 3] }, type := 27, pos := "keep.go:72", after := _, guard := none }) rfl (fun K hKq => ?_) AllReadyH.nil
      go_simp
      refine (PS2.out _ (by repeat (first | exact Kp.refl _ | refine Kp.alloc ?_ _ | refine Kp.drew ?_))).mono ?_
      rintro e Y2 ⟨⟨T2, v2, g2, rfl, hI, hp1, hp2, hGn⟩⟩
      obtain ⟨k2, mn2, mx2, mm2, t2, ad2, l2, c2, rfl⟩ := hI.form
      have SG2 := hid (hp1 rfl).part
      have I2 := hid hI
      have G2 := hid hGn
      have hy2 := hGn.km.size
      try simp at hy2
      have B1n4 : Hid (Y2.heap[Y1.heap.size]? = some rzo) := bl_km B1n3.out (by omega) G2.out.km
      have B2n4 : Hid (Y2.heap[Y1.heap.size + 1]? = some rzo) := bl_km B2n3.out (by omega) G2.out.km
      clear hI hp1 hp2 hGn PS2
      refine hKq.out _ _ (MK.out _ (KQ.trans G2.out.km)) (fun hN => ?_)
      clear hKq K hH KQ
      have hH := hN
      clear hN
      have KQ := hH.2.2.2.2.2.2.out
      try simp only [ps]
      refine wpAnyH_ready (rs := [11]) (by kernel_rfl) (by simp) ?_
      refine AllReadyH.cons (o := { dst := none, op := Op.store 27 (Operand.tmp 8) (Operand.tmp 48), type := 0, pos := "keep.go:72", after := _, guard := none }) rfl (fun K hKq => ?_) AllReadyH.nil
      have v0 := bl_cell (B1n4.out) 0 _ rfl
      have fv0 := bl_frozen (B1n4.out) 0
      have v1 := bl_cell (B1n4.out) 1 _ rfl
      have fv1 := bl_frozen (B1n4.out) 1
      have v2 := bl_cell (B1n4.out) 2 _ rfl
      have fv2 := bl_frozen (B1n4.out) 2
      have v3 := bl_cell (B1n4.out) 3 _ rfl
      have fv3 := bl_frozen (B1n4.out) 3
      have v4 := bl_cell (B1n4.out) 4 _ rfl
      have fv4 := bl_frozen (B1n4.out) 4
      have v5 := bl_cell (B1n4.out) 5 _ rfl
      have fv5 := bl_frozen (B1n4.out) 5
      have v6 := bl_cell (B1n4.out) 6 _ rfl
      have fv6 := bl_frozen (B1n4.out) 6
      have v7 := bl_cell (B1n4.out) 7 _ rfl
      have fv7 := bl_frozen (B1n4.out) 7
      have v8 := bl_cell (B1n4.out) 8 _ rfl
      have fv8 := bl_frozen (B1n4.out) 8
      go_simp
      refine hKq.out _ _ (MK.out _ (Km.new (S := Y1.heap.size) KQ (ks_set9 _ _ _ _ _ _ _ _ _) (by omega) (by omega))) (fun hN => ?_)
      clear v0 fv0 v1 fv1 v2 fv2 v3 fv3 v4 fv4 v5 fv5 v6 fv6 v7 fv7 v8 fv8
      have B1s := hid (bl_set9 B1n4.out (.int .i64 k1) (.int .i64 mn1) (.int .i64 mx1) (.int .i64 mm1) (.int .u64 (t1.a : Int)) (.int .u64 (t1.b : Int)) (.int .u64 (t1.c : Int)) (.int .u64 (t1.d : Int)) (.slice ad1 l1 c1))
      have F1s := hid (ks_set9 (w := Y2) (B := Y1.heap.size) (.int .i64 k1) (.int .i64 mn1) (.int .i64 mx1) (.int .i64 mm1) (.int .u64 (t1.a : Int)) (.int .u64 (t1.b : Int)) (.int .u64 (t1.c : Int)) (.int .u64 (t1.d : Int)) (.slice ad1 l1 c1))
      have B2s := hid (bl_ks B2n4.out (by omega) F1s.out)
      clear hKq K hH KQ
      have hH := hN
      clear hN
      have KQ := hH.2.2.2.2.2.2.out
      try simp only [ps]
      refine wpAnyH_ready (rs := [12]) (by kernel_rfl) (by simp) ?_
      refine AllReadyH.cons (o := { dst := none, op := Op.store 27 (Operand.tmp 9) (Operand.tmp 51), type := 0, pos := "keep.go:72", after := _, guard := none }) rfl (fun K hKq => ?_) AllReadyH.nil
      have u0 := bl_cell (B2s.out) 0 _ rfl
      have fu0 := bl_frozen (B2s.out) 0
      have u1 := bl_cell (B2s.out) 1 _ rfl
      have fu1 := bl_frozen (B2s.out) 1
      have u2 := bl_cell (B2s.out) 2 _ rfl
      have fu2 := bl_frozen (B2s.out) 2
      have u3 := bl_cell (B2s.out) 3 _ rfl
      have fu3 := bl_frozen (B2s.out) 3
      have u4 := bl_cell (B2s.out) 4 _ rfl
      have fu4 := bl_frozen (B2s.out) 4
      have u5 := bl_cell (B2s.out) 5 _ rfl
      have fu5 := bl_frozen (B2s.out) 5
      have u6 := bl_cell (B2s.out) 6 _ rfl
      have fu6 := bl_frozen (B2s.out) 6
      have u7 := bl_cell (B2s.out) 7 _ rfl
      have fu7 := bl_frozen (B2s.out) 7
      have u8 := bl_cell (B2s.out) 8 _ rfl
      have fu8 := bl_frozen (B2s.out) 8
      go_simp
      refine hKq.out _ _ (MK.out _ (Km.new (S := Y1.heap.size + 1) KQ (ks_set9 _ _ _ _ _ _ _ _ _) (by omega) (by omega))) (fun hN => ?_)
      clear u0 fu0 u1 fu1 u2 fu2 u3 fu3 u4 fu4 u5 fu5 u6 fu6 u7 fu7 u8 fu8
      clear hKq K hH KQ
      have hH := hN
      clear hN
      have KQ := hH.2.2.2.2.2.2.out
      try simp only [ps]
      refine wpAnyH_done (by kernel_rfl) ?_ _
      refine NoPanic.normal ?_
      go_wp2_with fail
      go_meet
      case rel => exact amid_of (u1 := W5.drew) (u2 := ((Y1.alloc rzo).alloc rzo)) (u3 := Y2) hBw hm2 (by omega) K2.out (by repeat (first | exact Kp.refl _ | refine Kp.alloc ?_ _ | refine Kp.drew ?_)) KM1.out (by repeat (first | exact Kp.refl _ | refine Kp.alloc ?_ _ | refine Kp.drew ?_)) (Kp.refl _) (by omega) (by omega) (by first | omega | (simp; omega) | simp) (by first | omega | (simp; omega) | simp) (by first | omega | (simp; omega) | simp) (by first | omega | (simp; omega) | simp) R2.out I1.out q1 q2 q3 SG1.out I2.out G2.out SG2.out F1s.out (ks_set9 _ _ _ _ _ _ _ _ _) (bl_ks B1s.out (by omega) (ks_set9 _ _ _ _ _ _ _ _ _)) (bl_set9 B2s.out _ _ _ _ _ _ _ _ _)
     exact AllReadyH.nil
    refine AllReadyH.cons (o := { dst := some 9, op := Op.alloc 27, type := 0, pos := "keep.go:72", after := #[], guard := none }) rfl (fun K hKq => ?_) ?_
    ·
     go_simp
     refine hKq.out _ _ (MK.out _ (KQ.kp ((Kp.refl _).alloc _) (by omega))) (fun hN => ?_)
     have B2n2 : Hid ((Y1.alloc rzo).heap[Y1.heap.size]? = some rzo) := last_at _ _ _ (by simp)
     clear hKq K hH KQ
     have hH := hN
     clear hN
     have KQ := hH.2.2.2.2.2.2.out
     try simp only [ps]
     refine wpAnyH_ready (rs := [8, 9]) (by kernel_rfl) (by simp) ?_
     refine AllReadyH.cons (o := { dst := some 51, op := Op.call { callee := Callee.value (Operand.func 113), args := #[Operand.tmp 49, Operand.tmp 50, Operand.const (Value.int IntKind.i64 1)], argTypes := #[120, 3, 3] }, type := 27, pos := "keep.go:72", after := _, guard := none }) rfl (fun K hKq => ?_) ?_
     ·
      go_simp
      refine (PS2.out _ (by repeat (first | exact Kp.refl _ | refine Kp.alloc ?_ _ | refine Kp.drew ?_))).mono ?_
      rintro e Y2 ⟨⟨T2, v2, g2, rfl, hI, hp1, hp2, hGn⟩⟩
      obtain ⟨k2, mn2, mx2, mm2, t2, ad2, l2, c2, rfl⟩ := hI.form
      have SG2 := hid (hp1 rfl).part
      have I2 := hid hI
      have G2 := hid hGn
      have hy2 := hGn.km.size
      try simp at hy2
      have B2n3 : Hid (Y2.heap[Y1.heap.size]? = some rzo) := bl_km B2n2.out (by omega) G2.out.km
      clear hI hp1 hp2 hGn PS2
      refine hKq.out _ _ (MK.out _ (KQ.trans G2.out.km)) (fun hN => ?_)
      clear hKq K hH KQ
      have hH := hN
      clear hN
      have KQ := hH.2.2.2.2.2.2.out
      try simp only [ps]
      refine wpAnyH_ready (rs := [9]) (by kernel_rfl) (by simp) ?_
      refine AllReadyH.cons (o := { dst := some 8, op := Op.alloc 27, type := 0, pos := "keep.go:72", after := #[], guard := none }) rfl (fun K hKq => ?_) AllReadyH.nil
      go_simp
      refine hKq.out _ _ (MK.out _ (KQ.kp ((Kp.refl _).alloc _) (by omega))) (fun hN => ?_)
      have B2n4 : Hid ((Y2.alloc rzo).heap[Y1.heap.size]? = some rzo) := bl_alloc B2n3.out _
      have B1n4 : Hid ((Y2.alloc rzo).heap[Y2.heap.size]? = some rzo) := last_at _ _ _ (by simp)
      clear hKq K hH KQ
      have hH := hN
      clear hN
      have KQ := hH.2.2.2.2.2.2.out
      try simp only [ps]
      refine wpAnyH_ready (rs := [11]) (by kernel_rfl) (by simp) ?_
      refine AllReadyH.cons (o := { dst := none, op := Op.store 27 (Operand.tmp 8) (Operand.tmp 48), type := 0, pos := "keep.go:72", after := _, guard := none }) rfl (fun K hKq => ?_) AllReadyH.nil
      obtain ⟨U, hU⟩ : ∃ U, (Y2.alloc rzo) = U := ⟨_, rfl⟩
      rw [hU] at hH KQ B1n4 B2n4 ⊢
      have KU : Hid (Kp Y2 U) := by subst hU; exact (by repeat (first | exact Kp.refl _ | refine Kp.alloc ?_ _ | refine Kp.drew ?_))
      clear hU
      have v0 := bl_cell (B1n4.out) 0 _ rfl
      have fv0 := bl_frozen (B1n4.out) 0
      have v1 := bl_cell (B1n4.out) 1 _ rfl
      have fv1 := bl_frozen (B1n4.out) 1
      have v2 := bl_cell (B1n4.out) 2 _ rfl
      have fv2 := bl_frozen (B1n4.out) 2
      have v3 := bl_cell (B1n4.out) 3 _ rfl
      have fv3 := bl_frozen (B1n4.out) 3
      have v4 := bl_cell (B1n4.out) 4 _ rfl
      have fv4 := bl_frozen (B1n4.out) 4
      have v5 := bl_cell (B1n4.out) 5 _ rfl
      have fv5 := bl_frozen (B1n4.out) 5
      have v6 := bl_cell (B1n4.out) 6 _ rfl
      have fv6 := bl_frozen (B1n4.out) 6
      have v7 := bl_cell (B1n4.out) 7 _ rfl
      have fv7 := bl_frozen (B1n4.out) 7
      have v8 := bl_cell (B1n4.out) 8 _ rfl
      have fv8 := bl_frozen (B1n4.out) 8
      go_simp
      refine hKq.out _ _ (MK.out _ (Km.new (S := Y2.heap.size) KQ (ks_set9 _ _ _ _ _ _ _ _ _) (by omega) (by omega))) (fun hN => ?_)
      clear v0 fv0 v1 fv1 v2 fv2 v3 fv3 v4 fv4 v5 fv5 v6 fv6 v7 fv7 v8 fv8
      have B1s := hid (bl_set9 B1n4.out (.int .i64 k1) (.int .i64 mn1) (.int .i64 mx1) (.int .i64 mm1) (.int .u64 (t1.a : Int)) (.int .u64 (t1.b : Int)) (.int .u64 (t1.c : Int)) (.int .u64 (t1.d : Int)) (.slice ad1 l1 c1))
      have F1s := hid (ks_set9 (w := U) (B := Y2.heap.size) (.int .i64 k1) (.int .i64 mn1) (.int .i64 mx1) (.int .i64 mm1) (.int .u64 (t1.a : Int)) (.int .u64 (t1.b : Int)) (.int .u64 (t1.c : Int)) (.int .u64 (t1.d : Int)) (.slice ad1 l1 c1))
      have B2s := hid (bl_ks B2n4.out (by omega) F1s.out)
      clear hKq K hH KQ
      have hH := hN
      clear hN
      have KQ := hH.2.2.2.2.2.2.out
      try simp only [ps]
      refine wpAnyH_ready (rs := [12]) (by kernel_rfl) (by simp) ?_
      refine AllReadyH.cons (o := { dst := none, op := Op.store 27 (Operand.tmp 9) (Operand.tmp 51), type := 0, pos := "keep.go:72", after := _, guard := none }) rfl (fun K hKq => ?_) AllReadyH.nil
      have u0 := bl_cell (B2s.out) 0 _ rfl
      have fu0 := bl_frozen (B2s.out) 0
      have u1 := bl_cell (B2s.out) 1 _ rfl
      have fu1 := bl_frozen (B2s.out) 1
      have u2 := bl_cell (B2s.out) 2 _ rfl
      have fu2 := bl_frozen (B2s.out) 2
      have u3 := bl_cell (B2s.out) 3 _ rfl
      have fu3 := bl_frozen (B2s.out) 3
      have u4 := bl_cell (B2s.out) 4 _ rfl
      have fu4 := bl_frozen (B2s.out) 4
      have u5 := bl_cell (B2s.out) 5 _ rfl
      have fu5 := bl_frozen (B2s.out) 5
      have u6 := bl_cell (B2s.out) 6 _ rfl
      have fu6 := bl_frozen (B2s.out) 6
      have u7 := bl_cell (B2s.out) 7 _ rfl
      have fu7 := bl_frozen (B2s.out) 7
      have u8 := bl_cell (B2s.out) 8 _ rfl
      have fu8 := bl_frozen (B2s.out) 8
      go_simp
      refine hKq.out _ _ (MK.out _ (Km.new (S := Y1.heap.size) KQ (ks_set9 _ _ _ _ _ _ _ _ _) (by omega) (by omega))) (fun hN => ?_)
      clear u0 fu0 u1 fu1 u2 fu2 u3 fu3 u4 fu4 u5 fu5 u6 fu6 u7 fu7 u8 fu8
      clear hKq K hH KQ
      have hH := hN
      clear hN
      have KQ := hH.2.2.2.2.2.2.out
      try simp only [ps]
      refine wpAnyH_done (by kernel_rfl) ?_ _
      refine NoPanic.normal ?_
      go_wp2_with fail
      go_meet
      case rel => exact amid_of (u1 := W5.drew) (u2 := (Y1.alloc rzo)) (u3 := U) hBw hm2 (by omega) K2.out (by repeat (first | exact Kp.refl _ | refine Kp.alloc ?_ _ | refine Kp.drew ?_)) KM1.out (by repeat (first | exact Kp.refl _ | refine Kp.alloc ?_ _ | refine Kp.drew ?_)) KU.out (by omega) (by omega) (by first | omega | (simp; omega) | simp) (by first | omega | (simp; omega) | simp) (by first | omega | (simp; omega) | simp) (by first | omega | (simp; omega) | simp) R2.out I1.out q1 q2 q3 SG1.out I2.out G2.out SG2.out F1s.out (ks_set9 _ _ _ _ _ _ _ _ _) (bl_ks B1s.out (by omega) (ks_set9 _ _ _ _ _ _ _ _ _)) (bl_set9 B2s.out _ _ _ _ _ _ _ _ _)
     refine AllReadyH.cons (o := { dst := some 8, op := Op.alloc 27, type := 0, pos := "keep.go:72", after := #[], guard := none }) rfl (fun K hKq => ?_) ?_
     ·
      go_simp
      refine hKq.out _ _ (MK.out _ (KQ.kp ((Kp.refl _).alloc _) (by omega))) (fun hN => ?_)
      have B2n3 : Hid (((Y1.alloc rzo).alloc rzo).heap[Y1.heap.size]? = some rzo) := bl_alloc B2n2.out _
      have B1n3 : Hid (((Y1.alloc rzo).alloc rzo).heap[Y1.heap.size + 1]? = some rzo) := last_at _ _ _ (by simp)
      clear hKq K hH KQ
      have hH := hN
      clear hN
      have KQ := hH.2.2.2.2.2.2.out
      try simp only [ps]
      refine wpAnyH_ready (rs := [8]) (by kernel_rfl) (by simp) ?_
      refine AllReadyH.cons (o := { dst := some 51, op := Op.call { callee := Callee.value (Operand.func 113), args := #[Operand.tmp 49, Operand.tmp 50, Operand.const (Value.int IntKind.i64 1)], argTypes := #[120, 3, 3] }, type := 27, pos := "keep.go:72", after := _, guard := none }) rfl (fun K hKq => ?_) AllReadyH.nil
      go_simp
      refine (PS2.out _ (by repeat (first | exact Kp.refl _ | refine Kp.alloc ?_ _ | refine Kp.drew ?_))).mono ?_
      rintro e Y2 ⟨⟨T2, v2, g2, rfl, hI, hp1, hp2, hGn⟩⟩
      obtain ⟨k2, mn2, mx2, mm2, t2, ad2, l2, c2, rfl⟩ := hI.form
      have SG2 := hid (hp1 rfl).part
      have I2 := hid hI
      have G2 := hid hGn
      have hy2 := hGn.km.size
      try simp at hy2
      have B1n4 : Hid (Y2.heap[Y1.heap.size + 1]? = some rzo) := bl_km B1n3.out (by omega) G2.out.km
      have B2n4 : Hid (Y2.heap[Y1.heap.size]? = some rzo) := bl_km B2n3.out (by omega) G2.out.km
      clear hI hp1 hp2 hGn PS2
      refine hKq.out _ _ (MK.out _ (KQ.trans G2.out.km)) (fun hN => ?_)
      clear hKq K hH KQ
      have hH := hN
      clear hN
      have KQ := hH.2.2.2.2.2.2.out
      try simp only [ps]
      refine wpAnyH_ready (rs := [11]) (by kernel_rfl) (by simp) ?_
      refine AllReadyH.cons (o := { dst := none, op := Op.store 27 (Operand.tmp 8) (Operand.tmp 48), type := 0, pos := "keep.go:72", after := _, guard := none }) rfl (fun K hKq => ?_) AllReadyH.nil
      have v0 := bl_cell (B1n4.out) 0 _ rfl
      have fv0 := bl_frozen (B1n4.out) 0
      have v1 := bl_cell (B1n4.out) 1 _ rfl
      have fv1 := bl_frozen (B1n4.out) 1
      have v2 := bl_cell (B1n4.out) 2 _ rfl
      have fv2 := bl_frozen (B1n4.out) 2
      have v3 := bl_cell (B1n4.out) 3 _ rfl
      have fv3 := bl_frozen (B1n4.out) 3
      have v4 := bl_cell (B1n4.out) 4 _ rfl
      have fv4 := bl_frozen (B1n4.out) 4
      have v5 := bl_cell (B1n4.out) 5 _ rfl
      have fv5 := bl_frozen (B1n4.out) 5
      have v6 := bl_cell (B1n4.out) 6 _ rfl
      have fv6 := bl_frozen (B1n4.out) 6
      have v7 := bl_cell (B1n4.out) 7 _ rfl
      have fv7 := bl_frozen (B1n4.out) 7
      have v8 := bl_cell (B1n4.out) 8 _ rfl
      have fv8 := bl_frozen (B1n4.out) 8
      go_simp
      refine hKq.out _ _ (MK.out _ (Km.new (S := Y1.heap.size + 1) KQ (ks_set9 _ _ _ _ _ _ _ _ _) (by omega) (by omega))) (fun hN => ?_)
      clear v0 fv0 v1 fv1 v2 fv2 v3 fv3 v4 fv4 v5 fv5 v6 fv6 v7 fv7 v8 fv8
      have B1s := hid (bl_set9 B1n4.out (.int .i64 k1) (.int .i64 mn1) (.int .i64 mx1) (.int .i64 mm1) (.int .u64 (t1.a : Int)) (.int .u64 (t1.b : Int)) (.int .u64 (t1.c : Int)) (.int .u64 (t1.d : Int)) (.slice ad1 l1 c1))
      have F1s := hid (ks_set9 (w := Y2) (B := Y1.heap.size + 1) (.int .i64 k1) (.int .i64 mn1) (.int .i64 mx1) (.int .i64 mm1) (.int .u64 (t1.a : Int)) (.int .u64 (t1.b : Int)) (.int .u64 (t1.c : Int)) (.int .u64 (t1.d : Int)) (.slice ad1 l1 c1))
      have B2s := hid (bl_ks B2n4.out (by omega) F1s.out)
      clear hKq K hH KQ
      have hH := hN
      clear hN
      have KQ := hH.2.2.2.2.2.2.out
      try simp only [ps]
      refine wpAnyH_ready (rs := [12]) (by kernel_rfl) (by simp) ?_
      refine AllReadyH.cons (o := { dst := none, op := Op.store 27 (Operand.tmp 9) (Operand.tmp 51), type := 0, pos := "keep.go:72", after := _, guard := none }) rfl (fun K hKq => ?_) AllReadyH.nil
      have u0 := bl_cell (B2s.out) 0 _ rfl
      have fu0 := bl_frozen (B2s.out) 0
      have u1 := bl_cell (B2s.out) 1 _ rfl
      have fu1 := bl_frozen (B2s.out) 1
      have u2 := bl_cell (B2s.out) 2 _ rfl
      have fu2 := bl_frozen (B2s.out) 2
      have u3 := bl_cell (B2s.out) 3 _ rfl
      have fu3 := bl_frozen (B2s.out) 3
      have u4 := bl_cell (B2s.out) 4 _ rfl
      have fu4 := bl_frozen (B2s.out) 4
      have u5 := bl_cell (B2s.out) 5 _ rfl
      have fu5 := bl_frozen (B2s.out) 5
      have u6 := bl_cell (B2s.out) 6 _ rfl
      have fu6 := bl_frozen (B2s.out) 6
      have u7 := bl_cell (B2s.out) 7 _ rfl
      have fu7 := bl_frozen (B2s.out) 7
      have u8 := bl_cell (B2s.out) 8 _ rfl
      have fu8 := bl_frozen (B2s.out) 8
      go_simp
      refine hKq.out _ _ (MK.out _ (Km.new (S := Y1.heap.size) KQ (ks_set9 _ _ _ _ _ _ _ _ _) (by omega) (by omega))) (fun hN => ?_)
      clear u0 fu0 u1 fu1 u2 fu2 u3 fu3 u4 fu4 u5 fu5 u6 fu6 u7 fu7 u8 fu8
      clear hKq K hH KQ
      have hH := hN
      clear hN
      have KQ := hH.2.2.2.2.2.2.out
      try simp only [ps]
      refine wpAnyH_done (by kernel_rfl) ?_ _
      refine NoPanic.normal ?_
      go_wp2_with fail
      go_meet
      case rel => exact amid_of (u1 := W5.drew) (u2 := ((Y1.alloc rzo).alloc rzo)) (u3 := Y2) hBw hm2 (by omega) K2.out (by repeat (first | exact Kp.refl _ | refine Kp.alloc ?_ _ | refine Kp.drew ?_)) KM1.out (by repeat (first | exact Kp.refl _ | refine Kp.alloc ?_ _ | refine Kp.drew ?_)) (Kp.refl _) (by omega) (by omega) (by first | omega | (simp; omega) | simp) (by first | omega | (simp; omega) | simp) (by first | omega | (simp; omega) | simp) (by first | omega | (simp; omega) | simp) R2.out I1.out q1 q2 q3 SG1.out I2.out G2.out SG2.out F1s.out (ks_set9 _ _ _ _ _ _ _ _ _) (bl_ks B1s.out (by omega) (ks_set9 _ _ _ _ _ _ _ _ _)) (bl_set9 B2s.out _ _ _ _ _ _ _ _ _)
     exact AllReadyH.nil
    exact AllReadyH.nil
   refine AllReadyH.cons (o := { dst := some 8, op := Op.alloc 27, type := 0, pos := "keep.go:72", after := #[], guard := none }) rfl (fun K hKq => ?_) ?_
   ·
    go_simp
    refine hKq.out _ _ (MK.out _ (KQ.kp ((Kp.refl _).alloc _) (by omega))) (fun hN => ?_)
    have B1n1 : Hid ((W5.alloc rzo).heap[W5.heap.size]? = some rzo) := last_at _ _ _ (by simp)
    clear hKq K hH KQ
    have hH := hN
    clear hN
    have KQ := hH.2.2.2.2.2.2.out
    try simp only [ps]
    refine wpAnyH_ready (rs := [5, 10]) (by kernel_rfl) (by simp) ?_
    refine AllReadyH.cons (o := { dst := some 48, op := Op.call { callee := Callee.value (Operand.func 113), args := #[Operand.tmp 43, Operand.tmp 44, Operand.tmp 47], argTypes := #[120, 3, 3] }, type := 27, pos := "keep.go:72", after := _, guard := none }) rfl (fun K hKq => ?_) ?_
    ·
     go_simp
     refine (PS.out m hm1 hm2 _ (by repeat (first | exact Kp.refl _ | refine Kp.alloc ?_ _ | refine Kp.drew ?_))).mono ?_
     rintro e Y1 ⟨⟨T1, v1, g1, rfl, hI, hp1, hp2, hGn⟩⟩
     obtain ⟨k1, mn1, mx1, mm1, t1, ad1, l1, c1, rfl⟩ := hI.form
     have SG1 := hid (sg_of hg3 hm1 hm2 hp1 hp2)
     have I1 := hid hI
     have KM1 := hid hGn.km
     have hy1 := hGn.km.size
     try simp at hy1
     obtain ⟨x', z', hmk, q1, q2, q3⟩ := hGn.ex
     have hgg := SG1.out.g3
     have B1n2 : Hid (Y1.heap[W5.heap.size]? = some rzo) := bl_km (w := (W5.alloc rzo).drew) B1n1.out (by omega) KM1.out
     have PS2 := hid (fun (W : World) (k : Kp Y1 W) => parts_any aK lK cK aN lN cN true B d 1 x' g1 z' W (by omega) (by omega) HPS.out ⟨hmk.kp k, NKW.out _ ((Kp.km (B := B) (a := W5) (by repeat (first | exact Kp.refl _ | refine Kp.alloc ?_ _ | refine Kp.drew ?_)) (by omega)).trans (KM1.out.kp k (by first | omega | (simp; omega) | simp))), NNW.out _ ((Kp.km (B := B) (a := W5) (by repeat (first | exact Kp.refl _ | refine Kp.alloc ?_ _ | refine Kp.drew ?_)) (by omega)).trans (KM1.out.kp k (by first | omega | (simp; omega) | simp))), hgg, by omega, by omega, by omega⟩)
     clear hI hp1 hp2 hGn hmk
     refine hKq.out _ _ (MK.out _ (KQ.trans KM1.out)) (fun hN => ?_)
     clear hKq K hH KQ
     have hH := hN
     clear hN
     have KQ := hH.2.2.2.2.2.2.out
     try simp only [ps]
     refine wpAnyH_ready (rs := [8, 10]) (by kernel_rfl) (by simp) ?_
     refine AllReadyH.cons (o := { dst := some 51, op := Op.call { callee := Callee.value (Operand.func 113), args := #[Operand.tmp 49, Operand.tmp 50, Operand.const (Value.int IntKind.i64 1)], argTypes := #[120, 3, 3] }, type := 27, pos := "keep.go:72", after := _, guard := none }) rfl (fun K hKq => ?_) ?_
     ·
      go_simp
      refine (PS2.out _ (by repeat (first | exact Kp.refl _ | refine Kp.alloc ?_ _ | refine Kp.drew ?_))).mono ?_
      rintro e Y2 ⟨⟨T2, v2, g2, rfl, hI, hp1, hp2, hGn⟩⟩
      obtain ⟨k2, mn2, mx2, mm2, t2, ad2, l2, c2, rfl⟩ := hI.form
      have SG2 := hid (hp1 rfl).part
      have I2 := hid hI
      have G2 := hid hGn
      have hy2 := hGn.km.size
      try simp at hy2
      have B1n3 : Hid (Y2.heap[W5.heap.size]? = some rzo) := bl_km B1n2.out (by omega) G2.out.km
      clear hI hp1 hp2 hGn PS2
      refine hKq.out _ _ (MK.out _ (KQ.trans G2.out.km)) (fun hN => ?_)
      clear hKq K hH KQ
      have hH := hN
      clear hN
      have KQ := hH.2.2.2.2.2.2.out
      try simp only [ps]
      refine wpAnyH_ready (rs := [10]) (by kernel_rfl) (by simp) ?_
      refine AllReadyH.cons (o := { dst := some 9, op := Op.alloc 27, type := 0, pos := "keep.go:72", after := #[], guard := none }) rfl (fun K hKq => ?_) AllReadyH.nil
      go_simp
      refine hKq.out _ _ (MK.out _ (KQ.kp ((Kp.refl _).alloc _) (by omega))) (fun hN => ?_)
      have B1n4 : Hid ((Y2.alloc rzo).heap[W5.heap.size]? = some rzo) := bl_alloc B1n3.out _
      have B2n4 : Hid ((Y2.alloc rzo).heap[Y2.heap.size]? = some rzo) := last_at _ _ _ (by simp)
      clear hKq K hH KQ
      have hH := hN
      clear hN
      have KQ := hH.2.2.2.2.2.2.out
      try simp only [ps]
      refine wpAnyH_ready (rs := [11]) (by kernel_rfl) (by simp) ?_
      refine AllReadyH.cons (o := { dst := none, op := Op.store 27 (Operand.tmp 8) (Operand.tmp 48), type := 0, pos := "keep.go:72", after := _, guard := none }) rfl (fun K hKq => ?_) AllReadyH.nil
      obtain ⟨U, hU⟩ : ∃ U, (Y2.alloc rzo) = U := ⟨_, rfl⟩
      rw [hU] at hH KQ B1n4 B2n4 ⊢
      have KU : Hid (Kp Y2 U) := by subst hU; exact (by repeat (first | exact Kp.refl _ | refine Kp.alloc ?_ _ | refine Kp.drew ?_))
      clear hU
      have v0 := bl_cell (B1n4.out) 0 _ rfl
      have fv0 := bl_frozen (B1n4.out) 0
      have v1 := bl_cell (B1n4.out) 1 _ rfl
      have fv1 := bl_frozen (B1n4.out) 1
      have v2 := bl_cell (B1n4.out) 2 _ rfl
      have fv2 := bl_frozen (B1n4.out) 2
      have v3 := bl_cell (B1n4.out) 3 _ rfl
      have fv3 := bl_frozen (B1n4.out) 3
      have v4 := bl_cell (B1n4.out) 4 _ rfl
      have fv4 := bl_frozen (B1n4.out) 4
      have v5 := bl_cell (B1n4.out) 5 _ rfl
      have fv5 := bl_frozen (B1n4.out) 5
      have v6 := bl_cell (B1n4.out) 6 _ rfl
      have fv6 := bl_frozen (B1n4.out) 6
      have v7 := bl_cell (B1n4.out) 7 _ rfl
      have fv7 := bl_frozen (B1n4.out) 7
      have v8 := bl_cell (B1n4.out) 8 _ rfl
      have fv8 := bl_frozen (B1n4.out) 8
      go_simp
      refine hKq.out _ _ (MK.out _ (Km.new (S := W5.heap.size) KQ (ks_set9 _ _ _ _ _ _ _ _ _) (by omega) (by omega))) (fun hN => ?_)
      clear v0 fv0 v1 fv1 v2 fv2 v3 fv3 v4 fv4 v5 fv5 v6 fv6 v7 fv7 v8 fv8
      have B1s := hid (bl_set9 B1n4.out (.int .i64 k1) (.int .i64 mn1) (.int .i64 mx1) (.int .i64 mm1) (.int .u64 (t1.a : Int)) (.int .u64 (t1.b : Int)) (.int .u64 (t1.c : Int)) (.int .u64 (t1.d : Int)) (.slice ad1 l1 c1))
      have F1s := hid (ks_set9 (w := U) (B := W5.heap.size) (.int .i64 k1) (.int .i64 mn1) (.int .i64 mx1) (.int .i64 mm1) (.int .u64 (t1.a : Int)) (.int .u64 (t1.b : Int)) (.int .u64 (t1.c : Int)) (.int .u64 (t1.d : Int)) (.slice ad1 l1 c1))
      have B2s := hid (bl_ks B2n4.out (by omega) F1s.out)
      clear hKq K hH KQ
      have hH := hN
      clear hN
      have KQ := hH.2.2.2.2.2.2.out
      try simp only [ps]
      refine wpAnyH_ready (rs := [12]) (by kernel_rfl) (by simp) ?_
      refine AllReadyH.cons (o := { dst := none, op := Op.store 27 (Operand.tmp 9) (Operand.tmp 51), type := 0, pos := "keep.go:72", after := _, guard := none }) rfl (fun K hKq => ?_) AllReadyH.nil
      have u0 := bl_cell (B2s.out) 0 _ rfl
      have fu0 := bl_frozen (B2s.out) 0
      have u1 := bl_cell (B2s.out) 1 _ rfl
      have fu1 := bl_frozen (B2s.out) 1
      have u2 := bl_cell (B2s.out) 2 _ rfl
      have fu2 := bl_frozen (B2s.out) 2
      have u3 := bl_cell (B2s.out) 3 _ rfl
      have fu3 := bl_frozen (B2s.out) 3
      have u4 := bl_cell (B2s.out) 4 _ rfl
      have fu4 := bl_frozen (B2s.out) 4
      have u5 := bl_cell (B2s.out) 5 _ rfl
      have fu5 := bl_frozen (B2s.out) 5
      have u6 := bl_cell (B2s.out) 6 _ rfl
      have fu6 := bl_frozen (B2s.out) 6
      have u7 := bl_cell (B2s.out) 7 _ rfl
      have fu7 := bl_frozen (B2s.out) 7
      have u8 := bl_cell (B2s.out) 8 _ rfl
      have fu8 := bl_frozen (B2s.out) 8
      go_simp
      refine hKq.out _ _ (MK.out _ (Km.new (S := Y2.heap.size) KQ (ks_set9 _ _ _ _ _ _ _ _ _) (by omega) (by omega))) (fun hN => ?_)
      clear u0 fu0 u1 fu1 u2 fu2 u3 fu3 u4 fu4 u5 fu5 u6 fu6 u7 fu7 u8 fu8
      clear hKq K hH KQ
      have hH := hN
      clear hN
      have KQ := hH.2.2.2.2.2.2.out
      try simp only [ps]
      refine wpAnyH_done (by kernel_rfl) ?_ _
      refine NoPanic.normal ?_
      go_wp2_with fail
      go_meet
      case rel => exact amid_of (u1 := (W5.alloc rzo).drew) (u2 := Y1) (u3 := U) hBw hm2 (by omega) K2.out (by repeat (first | exact Kp.refl _ | refine Kp.alloc ?_ _ | refine Kp.drew ?_)) KM1.out (by repeat (first | exact Kp.refl _ | refine Kp.alloc ?_ _ | refine Kp.drew ?_)) KU.out (by omega) (by omega) (by first | omega | (simp; omega) | simp) (by first | omega | (simp; omega) | simp) (by first | omega | (simp; omega) | simp) (by first | omega | (simp; omega) | simp) R2.out I1.out q1 q2 q3 SG1.out I2.out G2.out SG2.out F1s.out (ks_set9 _ _ _ _ _ _ _ _ _) (bl_ks B1s.out (by omega) (ks_set9 _ _ _ _ _ _ _ _ _)) (bl_set9 B2s.out _ _ _ _ _ _ _ _ _)
     refine AllReadyH.cons (o := { dst := some 9, op := Op.alloc 27, type := 0, pos := "keep.go:72", after := #[], guard := none }) rfl (fun K hKq => ?_) ?_
     ·
      go_simp
      refine hKq.out _ _ (MK.out _ (KQ.kp ((Kp.refl _).alloc _) (by omega))) (fun hN => ?_)
      have B1n3 : Hid ((Y1.alloc rzo).heap[W5.heap.size]? = some rzo) := bl_alloc B1n2.out _
      have B2n3 : Hid ((Y1.alloc rzo).heap[Y1.heap.size]? = some rzo) := last_at _ _ _ (by simp)
      clear hKq K hH KQ
      have hH := hN
      clear hN
      have KQ := hH.2.2.2.2.2.2.out
      try simp only [ps]
      refine wpAnyH_ready (rs := [8]) (by kernel_rfl) (by simp) ?_
      refine AllReadyH.cons (o := { dst := some 51, op := Op.call { callee := Callee.value (Operand.func 113), args := #[Operand.tmp 49, Operand.tmp 50, Operand.const (Value.int IntKind.i64 1)], argTypes := #[120, 3, 3] }, type := 27, pos := "keep.go:72", after := _, guard := none }) rfl (fun K hKq => ?_) AllReadyH.nil
      go_simp
      refine (PS2.out _ (by repeat (first | exact Kp.refl _ | refine Kp.alloc ?_ _ | refine Kp.drew ?_))).mono ?_
      rintro e Y2 ⟨⟨T2, v2, g2, rfl, hI, hp1, hp2, hGn⟩⟩
      obtain ⟨k2, mn2, mx2, mm2, t2, ad2, l2, c2, rfl⟩ := hI.form
      have SG2 := hid (hp1 rfl).part
      have I2 := hid hI
      have G2 := hid hGn
      have hy2 := hGn.km.size
      try simp at hy2
      have B1n4 : Hid (Y2.heap[W5.heap.size]? = some rzo) := bl_km B1n3.out (by omega) G2.out.km
      have B2n4 : Hid (Y2.heap[Y1.heap.size]? = some rzo) := bl_km B2n3.out (by omega) G2.out.km
      clear hI hp1 hp2 hGn PS2
      refine hKq.out _ _ (MK.out _ (KQ.trans G2.out.km)) (fun hN => ?_)
      clear hKq K hH KQ
      have hH := hN
      clear hN
      have KQ := hH.2.2.2.2.2.2.out
      try simp only [ps]
      refine wpAnyH_ready (rs := [11]) (by kernel_rfl) (by simp) ?_
      refine AllReadyH.cons (o := { dst := none, op := Op.store 27 (Operand.tmp 8) (Operand.tmp 48), type := 0, pos := "keep.go:72", after := _, guard := none }) rfl (fun K hKq => ?_) AllReadyH.nil
      have v0 := bl_cell (B1n4.out) 0 _ rfl
      have fv0 := bl_frozen (B1n4.out) 0
      have v1 := bl_cell (B1n4.out) 1 _ rfl
      have fv1 := bl_frozen (B1n4.out) 1
      have v2 := bl_cell (B1n4.out) 2 _ rfl
      have fv2 := bl_frozen (B1n4.out) 2
      have v3 := bl_cell (B1n4.out) 3 _ rfl
      have fv3 := bl_frozen (B1n4.out) 3
      have v4 := bl_cell (B1n4.out) 4 _ rfl
      have fv4 := bl_frozen (B1n4.out) 4
      have v5 := bl_cell (B1n4.out) 5 _ rfl
      have fv5 := bl_frozen (B1n4.out) 5
      have v6 := bl_cell (B1n4.out) 6 _ rfl
      have fv6 := bl_frozen (B1n4.out) 6
      have v7 := bl_cell (B1n4.out) 7 _ rfl
      have fv7 := bl_frozen (B1n4.out) 7
      have v8 := bl_cell (B1n4.out) 8 _ rfl
      have fv8 := bl_frozen (B1n4.out) 8
      go_simp
      refine hKq.out _ _ (MK.out _ (Km.new (S := W5.heap.size) KQ (ks_set9 _ _ _ _ _ _ _ _ _) (by omega) (by omega))) (fun hN => ?_)
      clear v0 fv0 v1 fv1 v2 fv2 v3 fv3 v4 fv4 v5 fv5 v6 fv6 v7 fv7 v8 fv8
      have B1s := hid (bl_set9 B1n4.out (.int .i64 k1) (.int .i64 mn1) (.int .i64 mx1) (.int .i64 mm1) (.int .u64 (t1.a : Int)) (.int .u64 (t1.b : Int)) (.int .u64 (t1.c : Int)) (.int .u64 (t1.d : Int)) (.slice ad1 l1 c1))
      have F1s := hid (ks_set9 (w := Y2) (B := W5.heap.size) (.int .i64 k1) (.int .i64 mn1) (.int .i64 mx1) (.int .i64 mm1) (.int .u64 (t1.a : Int)) (.int .u64 (t1.b : Int)) (.int .u64 (t1.c : Int)) (.int .u64 (t1.d : Int)) (.slice ad1 l1 c1))
      have B2s := hid (bl_ks B2n4.out (by omega) F1s.out)
      clear hKq K hH KQ
      have hH := hN
      clear hN
      have KQ := hH.2.2.2.2.2.2.out
      try simp only [ps]
      refine wpAnyH_ready (rs := [12]) (by kernel_rfl) (by simp) ?_
      refine AllReadyH.cons (o := { dst := none, op := Op.store 27 (Operand.tmp 9) (Operand.tmp 51), type := 0, pos := "keep.go:72", after := _, guard := none }) rfl (fun K hKq => ?_) AllReadyH.nil
      have u0 := bl_cell (B2s.out) 0 _ rfl
      have fu0 := bl_frozen (B2s.out) 0
      have u1 := bl_cell (B2s.out) 1 _ rfl
      have fu1 := bl_frozen (B2s.out) 1
      have u2 := bl_cell (B2s.out) 2 _ rfl
      have fu2 := bl_frozen (B2s.out) 2
      have u3 := bl_cell (B2s.out) 3 _ rfl
      have fu3 := bl_frozen (B2s.out) 3
      have u4 := bl_cell (B2s.out) 4 _ rfl
      have fu4 := bl_frozen (B2s.out) 4
      have u5 := bl_cell (B2s.out) 5 _ rfl
      have fu5 := bl_frozen (B2s.out) 5
      have u6 := bl_cell (B2s.out) 6 _ rfl
      have fu6 := bl_frozen (B2s.out) 6
      have u7 := bl_cell (B2s.out) 7 _ rfl
      have fu7 := bl_frozen (B2s.out) 7
      have u8 := bl_cell (B2s.out) 8 _ rfl
      have fu8 := bl_frozen (B2s.out) 8
      go_simp
      refine hKq.out _ _ (MK.out _ (Km.new (S := Y1.heap.size) KQ (ks_set9 _ _ _ _ _ _ _ _ _) (by omega) (by omega))) (fun hN => ?_)
      clear u0 fu0 u1 fu1 u2 fu2 u3 fu3 u4 fu4 u5 fu5 u6 fu6 u7 fu7 u8 fu8
      clear hKq K hH KQ
      have hH := hN
      clear hN
      have KQ := hH.2.2.2.2.2.2.out
      try simp only [ps]
      refine wpAnyH_done (by kernel_rfl) ?_ _
      refine NoPanic.normal ?_
      go_wp2_with fail
      go_meet
      case rel => exact amid_of (u1 := (W5.alloc rzo).drew) (u2 := (Y1.alloc rzo)) (u3 := Y2) hBw hm2 (by omega) K2.out (by repeat (first | exact Kp.refl _ | refine Kp.alloc ?_ _ | refine Kp.drew ?_)) KM1.out (by repeat (first | exact Kp.refl _ | refine Kp.alloc ?_ _ | refine Kp.drew ?_)) (Kp.refl _) (by omega) (by omega) (by first | omega | (simp; omega) | simp) (by first | omega | (simp; omega) | simp) (by first | omega | (simp; omega) | simp) (by first | omega | (simp; omega) | simp) R2.out I1.out q1 q2 q3 SG1.out I2.out G2.out SG2.out F1s.out (ks_set9 _ _ _ _ _ _ _ _ _) (bl_ks B1s.out (by omega) (ks_set9 _ _ _ _ _ _ _ _ _)) (bl_set9 B2s.out _ _ _ _ _ _ _ _ _)
     exact AllReadyH.nil
    refine AllReadyH.cons (o := { dst := some 9, op := Op.alloc 27, type := 0, pos := "keep.go:72", after := #[], guard := none }) rfl (fun K hKq => ?_) ?_
    ·
     go_simp
     refine hKq.out _ _ (MK.out _ (KQ.kp ((Kp.refl _).alloc _) (by omega))) (fun hN => ?_)
     have B1n2 : Hid (((W5.alloc rzo).alloc rzo).heap[W5.heap.size]? = some rzo) := bl_alloc B1n1.out _
     have B2n2 : Hid (((W5.alloc rzo).alloc rzo).heap[W5.heap.size + 1]? = some rzo) := last_at _ _ _ (by simp)
     clear hKq K hH KQ
     have hH := hN
     clear hN
     have KQ := hH.2.2.2.2.2.2.out
     try simp only [ps]
     refine wpAnyH_ready (rs := [5]) (by kernel_rfl) (by simp) ?_
     refine AllReadyH.cons (o := { dst := some 48, op := Op.call { callee := Callee.value (Operand.func 113), args := #[Operand.tmp 43, Operand.tmp 44, Operand.tmp 47], argTypes := #[120, 3, 3] }, type := 27, pos := "keep.go:72", after := _, guard := none }) rfl (fun K hKq => ?_) AllReadyH.nil
     go_simp
     refine (PS.out m hm1 hm2 _ (by repeat (first | exact Kp.refl _ | refine Kp.alloc ?_ _ | refine Kp.drew ?_))).mono ?_
     rintro e Y1 ⟨⟨T1, v1, g1, rfl, hI, hp1, hp2, hGn⟩⟩
     obtain ⟨k1, mn1, mx1, mm1, t1, ad1, l1, c1, rfl⟩ := hI.form
     have SG1 := hid (sg_of hg3 hm1 hm2 hp1 hp2)
     have I1 := hid hI
     have KM1 := hid hGn.km
     have hy1 := hGn.km.size
     try simp at hy1
     obtain ⟨x', z', hmk, q1, q2, q3⟩ := hGn.ex
     have hgg := SG1.out.g3
     have B1n3 : Hid (Y1.heap[W5.heap.size]? = some rzo) := bl_km (w := ((W5.alloc rzo).alloc rzo).drew) B1n2.out (by omega) KM1.out
     have B2n3 : Hid (Y1.heap[W5.heap.size + 1]? = some rzo) := bl_km (w := ((W5.alloc rzo).alloc rzo).drew) B2n2.out (by omega) KM1.out
     have PS2 := hid (fun (W : World) (k : Kp Y1 W) => parts_any aK lK cK aN lN cN true B d 1 x' g1 z' W (by omega) (by omega) HPS.out ⟨hmk.kp k, NKW.out _ ((Kp.km (B := B) (a := W5) (by repeat (first | exact Kp.refl _ | refine Kp.alloc ?_ _ | refine Kp.drew ?_)) (by omega)).trans (KM1.out.kp k (by first | omega | (simp; omega) | simp))), NNW.out _ ((Kp.km (B := B) (a := W5) (by repeat (first | exact Kp.refl _ | refine Kp.alloc ?_ _ | refine Kp.drew ?_)) (by omega)).trans (KM1.out.kp k (by first | omega | (simp; omega) | simp))), hgg, by omega, by omega, by omega⟩)
     clear hI hp1 hp2 hGn hmk
     refine hKq.out _ _ (MK.out _ (KQ.trans KM1.out)) (fun hN => ?_)
     clear hKq K hH KQ
     have hH := hN
     clear hN
     have KQ := hH.2.2.2.2.2.2.out
     try simp only [ps]
     refine wpAnyH_ready (rs := [8]) (by kernel_rfl) (by simp) ?_
     refine AllReadyH.cons (o := { dst := some 51, op := Op.call { callee := Callee.value (Operand.func 113), args := #[Operand.tmp 49, Operand.tmp 50, Operand.const (Value.int IntKind.i64 1)], argTypes := #[120, 3, 3] }, type := 27, pos := "keep.go:72", after := _, guard := none }) rfl (fun K hKq => ?_) AllReadyH.nil
     go_simp
     refine (PS2.out _ (by repeat (first | exact Kp.refl _ | refine Kp.alloc ?_ _ | refine Kp.drew ?_))).mono ?_
     rintro e Y2 ⟨⟨T2, v2, g2, rfl, hI, hp1, hp2, hGn⟩⟩
     obtain ⟨k2, mn2, mx2, mm2, t2, ad2, l2, c2, rfl⟩ := hI.form
     have SG2 := hid (hp1 rfl).part
     have I2 := hid hI
     have G2 := hid hGn
     have hy2 := hGn.km.size
     try simp at hy2
     have B1n4 : Hid (Y2.heap[W5.heap.size]? = some rzo) := bl_km B1n3.out (by omega) G2.out.km
     have B2n4 : Hid (Y2.heap[W5.heap.size + 1]? = some rzo) := bl_km B2n3.out (by omega) G2.out.km
     clear hI hp1 hp2 hGn PS2
     refine hKq.out _ _ (MK.out _ (KQ.trans G2.out.km)) (fun hN => ?_)
     clear hKq K hH KQ
     have hH := hN
     clear hN
     have KQ := hH.2.2.2.2.2.2.out
     try simp only [ps]
     refine wpAnyH_ready (rs := [11]) (by kernel_rfl) (by simp) ?_
     refine AllReadyH.cons (o := { dst := none, op := Op.store 27 (Operand.tmp 8) (Operand.tmp 48), type := 0, pos := "keep.go:72", after := _, guard := none }) rfl (fun K hKq => ?_) AllReadyH.nil
     have v0 := bl_cell (B1n4.out) 0 _ rfl
     have fv0 := bl_frozen (B1n4.out) 0
     have v1 := bl_cell (B1n4.out) 1 _ rfl
     have fv1 := bl_frozen (B1n4.out) 1
     have v2 := bl_cell (B1n4.out) 2 _ rfl
     have fv2 := bl_frozen (B1n4.out) 2
     have v3 := bl_cell (B1n4.out) 3 _ rfl
     have fv3 := bl_frozen (B1n4.out) 3
     have v4 := bl_cell (B1n4.out) 4 _ rfl
     have fv4 := bl_frozen (B1n4.out) 4
     have v5 := bl_cell (B1n4.out) 5 _ rfl
     have fv5 := bl_frozen (B1n4.out) 5
     have v6 := bl_cell (B1n4.out) 6 _ rfl
     have fv6 := bl_frozen (B1n4.out) 6
     have v7 := bl_cell (B1n4.out) 7 _ rfl
     have fv7 := bl_frozen (B1n4.out) 7
     have v8 := bl_cell (B1n4.out) 8 _ rfl
     have fv8 := bl_frozen (B1n4.out) 8
     go_simp
     refine hKq.out _ _ (MK.out _ (Km.new (S := W5.heap.size) KQ (ks_set9 _ _ _ _ _ _ _ _ _) (by omega) (by omega))) (fun hN => ?_)
     clear v0 fv0 v1 fv1 v2 fv2 v3 fv3 v4 fv4 v5 fv5 v6 fv6 v7 fv7 v8 fv8
     have B1s := hid (bl_set9 B1n4.out (.int .i64 k1) (.int .i64 mn1) (.int .i64 mx1) (.int .i64 mm1) (.int .u64 (t1.a : Int)) (.int .u64 (t1.b : Int)) (.int .u64 (t1.c : Int)) (.int .u64 (t1.d : Int)) (.slice ad1 l1 c1))
     have F1s := hid (ks_set9 (w := Y2) (B := W5.heap.size) (.int .i64 k1) (.int .i64 mn1) (.int .i64 mx1) (.int .i64 mm1) (.int .u64 (t1.a : Int)) (.int .u64 (t1.b : Int)) (.int .u64 (t1.c : Int)) (.int .u64 (t1.d : Int)) (.slice ad1 l1 c1))
     have B2s := hid (bl_ks B2n4.out (by omega) F1s.out)
     clear hKq K hH KQ
     have hH := hN
     clear hN
     have KQ := hH.2.2.2.2.2.2.out
     try simp only [ps]
     refine wpAnyH_ready (rs := [12]) (by kernel_rfl) (by simp) ?_
     refine AllReadyH.cons (o := { dst := none, op := Op.store 27 (Operand.tmp 9) (Operand.tmp 51), type := 0, pos := "keep.go:72", after := _, guard := none }) rfl (fun K hKq => ?_) AllReadyH.nil
     have u0 := bl_cell (B2s.out) 0 _ rfl
     have fu0 := bl_frozen (B2s.out) 0
     have u1 := bl_cell (B2s.out) 1 _ rfl
     have fu1 := bl_frozen (B2s.out) 1
     have u2 := bl_cell (B2s.out) 2 _ rfl
     have fu2 := bl_frozen (B2s.out) 2
     have u3 := bl_cell (B2s.out) 3 _ rfl
     have fu3 := bl_frozen (B2s.out) 3
     have u4 := bl_cell (B2s.out) 4 _ rfl
     have fu4 := bl_frozen (B2s.out) 4
     have u5 := bl_cell (B2s.out) 5 _ rfl
     have fu5 := bl_frozen (B2s.out) 5
     have u6 := bl_cell (B2s.out) 6 _ rfl
     have fu6 := bl_frozen (B2s.out) 6
     have u7 := bl_cell (B2s.out) 7 _ rfl
     have fu7 := bl_frozen (B2s.out) 7
     have u8 := bl_cell (B2s.out) 8 _ rfl
     have fu8 := bl_frozen (B2s.out) 8
     go_simp
     refine hKq.out _ _ (MK.out _ (Km.new (S := W5.heap.size + 1) KQ (ks_set9 _ _ _ _ _ _ _ _ _) (by omega) (by omega))) (fun hN => ?_)
     clear u0 fu0 u1 fu1 u2 fu2 u3 fu3 u4 fu4 u5 fu5 u6 fu6 u7 fu7 u8 fu8
     clear hKq K hH KQ
     have hH := hN
     clear hN
     have KQ := hH.2.2.2.2.2.2.out
     try simp only [ps]
     refine wpAnyH_done (by kernel_rfl) ?_ _
     refine NoPanic.normal ?_
     go_wp2_with fail
     go_meet
     case rel => exact amid_of (u1 := ((W5.alloc rzo).alloc rzo).drew) (u2 := Y1) (u3 := Y2) hBw hm2 (by omega) K2.out (by repeat (first | exact Kp.refl _ | refine Kp.alloc ?_ _ | refine Kp.drew ?_)) KM1.out (by repeat (first | exact Kp.refl _ | refine Kp.alloc ?_ _ | refine Kp.drew ?_)) (Kp.refl _) (by omega) (by omega) (by first | omega | (simp; omega) | simp) (by first | omega | (simp; omega) | simp) (by first | omega | (simp; omega) | simp) (by first | omega | (simp; omega) | simp) R2.out I1.out q1 q2 q3 SG1.out I2.out G2.out SG2.out F1s.out (ks_set9 _ _ _ _ _ _ _ _ _) (bl_ks B1s.out (by omega) (ks_set9 _ _ _ _ _ _ _ _ _)) (bl_set9 B2s.out _ _ _ _ _ _ _ _ _)
    exact AllReadyH.nil
   refine AllReadyH.cons (o := { dst := some 9, op := Op.alloc 27, type := 0, pos := "keep.go:72", after := #[], guard := none }) rfl (fun K hKq => ?_) ?_
   ·
    go_simp
    refine hKq.out _ _ (MK.out _ (KQ.kp ((Kp.refl _).alloc _) (by omega))) (fun hN => ?_)
    have B2n1 : Hid ((W5.alloc rzo).heap[W5.heap.size]? = some rzo) := last_at _ _ _ (by simp)
    clear hKq K hH KQ
    have hH := hN
    clear hN
    have KQ := hH.2.2.2.2.2.2.out
    try simp only [ps]
    refine wpAnyH_ready (rs := [5, 9]) (by kernel_rfl) (by simp) ?_
    refine AllReadyH.cons (o := { dst := some 48, op := Op.call { callee := Callee.value (Operand.func 113), args := #[Operand.tmp 43, Operand.tmp 44, Operand.tmp 47], argTypes := #[120, 3, 3] }, type := 27, pos := "keep.go:72", after := _, guard := none }) rfl (fun K hKq => ?_) ?_
    ·
     go_simp
     refine (PS.out m hm1 hm2 _ (by repeat (first | exact Kp.refl _ | refine Kp.alloc ?_ _ | refine Kp.drew ?_))).mono ?_
     rintro e Y1 ⟨⟨T1, v1, g1, rfl, hI, hp1, hp2, hGn⟩⟩
     obtain ⟨k1, mn1, mx1, mm1, t1, ad1, l1, c1, rfl⟩ := hI.form
     have SG1 := hid (sg_of hg3 hm1 hm2 hp1 hp2)
     have I1 := hid hI
     have KM1 := hid hGn.km
     have hy1 := hGn.km.size
     try simp at hy1
     obtain ⟨x', z', hmk, q1, q2, q3⟩ := hGn.ex
     have hgg := SG1.out.g3
     have B2n2 : Hid (Y1.heap[W5.heap.size]? = some rzo) := bl_km (w := (W5.alloc rzo).drew) B2n1.out (by omega) KM1.out
     have PS2 := hid (fun (W : World) (k : Kp Y1 W) => parts_any aK lK cK aN lN cN true B d 1 x' g1 z' W (by omega) (by omega) HPS.out ⟨hmk.kp k, NKW.out _ ((Kp.km (B := B) (a := W5) (by repeat (first | exact Kp.refl _ | refine Kp.alloc ?_ _ | refine Kp.drew ?_)) (by omega)).trans (KM1.out.kp k (by first | omega | (simp; omega) | simp))), NNW.out _ ((Kp.km (B := B) (a := W5) (by repeat (first | exact Kp.refl _ | refine Kp.alloc ?_ _ | refine Kp.drew ?_)) (by omega)).trans (KM1.out.kp k (by first | omega | (simp; omega) | simp))), hgg, by omega, by omega, by omega⟩)
     clear hI hp1 hp2 hGn hmk
     refine hKq.out _ _ (MK.out _ (KQ.trans KM1.out)) (fun hN => ?_)
     clear hKq K hH KQ
     have hH := hN
     clear hN
     have KQ := hH.2.2.2.2.2.2.out
     try simp only [ps]
     refine wpAnyH_ready (rs := [8, 9]) (by kernel_rfl) (by simp) ?_
     refine AllReadyH.cons (o := { dst := some 51, op := Op.call { callee := Callee.value (Operand.func 113), args := #[Operand.tmp 49, Operand.tmp 50, Operand.const (Value.int IntKind.i64 1)], argTypes := #[120, 3, 3] }, type := 27, pos := "keep.go:72", after := _, guard := none }) rfl (fun K hKq => ?_) ?_
     ·
      go_simp
      refine (PS2.out _ (by repeat (first | exact Kp.refl _ | refine Kp.alloc ?_ _ | refine Kp.drew ?_))).mono ?_
      rintro e Y2 ⟨⟨T2, v2, g2, rfl, hI, hp1, hp2, hGn⟩⟩
      obtain ⟨k2, mn2, mx2, mm2, t2, ad2, l2, c2, rfl⟩ := hI.form
      have SG2 := hid (hp1 rfl).part
      have I2 := hid hI
      have G2 := hid hGn
      have hy2 := hGn.km.size
      try simp at hy2
      have B2n3 : Hid (Y2.heap[W5.heap.size]? = some rzo) := bl_km B2n2.out (by omega) G2.out.km
      clear hI hp1 hp2 hGn PS2
      refine hKq.out _ _ (MK.out _ (KQ.trans G2.out.km)) (fun hN => ?_)
      clear hKq K hH KQ
      have hH := hN
      clear hN
      have KQ := hH.2.2.2.2.2.2.out
      try simp only [ps]
      refine wpAnyH_ready (rs := [9]) (by kernel_rfl) (by simp) ?_
      refine AllReadyH.cons (o := { dst := some 8, op := Op.alloc 27, type := 0, pos := "keep.go:72", after := #[], guard := none }) rfl (fun K hKq => ?_) AllReadyH.nil
      go_simp
      refine hKq.out _ _ (MK.out _ (KQ.kp ((Kp.refl _).alloc _) (by omega))) (fun hN => ?_)
      have B2n4 : Hid ((Y2.alloc rzo).heap[W5.heap.size]? = some rzo) := bl_alloc B2n3.out _
      have B1n4 : Hid ((Y2.alloc rzo).heap[Y2.heap.size]? = some rzo) := last_at _ _ _ (by simp)
      clear hKq K hH KQ
      have hH := hN
      clear hN
      have KQ := hH.2.2.2.2.2.2.out
      try simp only [ps]
      refine wpAnyH_ready (rs := [11]) (by kernel_rfl) (by simp) ?_
      refine AllReadyH.cons (o := { dst := none, op := Op.store 27 (Operand.tmp 8) (Operand.tmp 48), type := 0, pos := "keep.go:72", after := _, guard := none }) rfl (fun K hKq => ?_) AllReadyH.nil
      obtain ⟨U, hU⟩ : ∃ U, (Y2.alloc rzo) = U := ⟨_, rfl⟩
      rw [hU] at hH KQ B1n4 B2n4 ⊢
      have KU : Hid (Kp Y2 U) := by subst hU; exact (by repeat (first | exact Kp.refl _ | refine Kp.alloc ?_ _ | refine Kp.drew ?_))
      clear hU
      have v0 := bl_cell (B1n4.out) 0 _ rfl
      have fv0 := bl_frozen (B1n4.out) 0
      have v1 := bl_cell (B1n4.out) 1 _ rfl
      have fv1 := bl_frozen (B1n4.out) 1
      have v2 := bl_cell (B1n4.out) 2 _ rfl
      have fv2 := bl_frozen (B1n4.out) 2
      have v3 := bl_cell (B1n4.out) 3 _ rfl
      have fv3 := bl_frozen (B1n4.out) 3
      have v4 := bl_cell (B1n4.out) 4 _ rfl
      have fv4 := bl_frozen (B1n4.out) 4
      have v5 := bl_cell (B1n4.out) 5 _ rfl
      have fv5 := bl_frozen (B1n4.out) 5
      have v6 := bl_cell (B1n4.out) 6 _ rfl
      have fv6 := bl_frozen (B1n4.out) 6
      have v7 := bl_cell (B1n4.out) 7 _ rfl
      have fv7 := bl_frozen (B1n4.out) 7
      have v8 := bl_cell (B1n4.out) 8 _ rfl
      have fv8 := bl_frozen (B1n4.out) 8
      go_simp
      refine hKq.out _ _ (MK.out _ (Km.new (S := Y2.heap.size) KQ (ks_set9 _ _ _ _ _ _ _ _ _) (by omega) (by omega))) (fun hN => ?_)
      clear v0 fv0 v1 fv1 v2 fv2 v3 fv3 v4 fv4 v5 fv5 v6 fv6 v7 fv7 v8 fv8
      have B1s := hid (bl_set9 B1n4.out (.int .i64 k1) (.int .i64 mn1) (.int .i64 mx1) (.int .i64 mm1) (.int .u64 (t1.a : Int)) (.int .u64 (t1.b : Int)) (.int .u64 (t1.c : Int)) (.int .u64 (t1.d : Int)) (.slice ad1 l1 c1))
      have F1s := hid (ks_set9 (w := U) (B := Y2.heap.size) (.int .i64 k1) (.int .i64 mn1) (.int .i64 mx1) (.int .i64 mm1) (.int .u64 (t1.a : Int)) (.int .u64 (t1.b : Int)) (.int .u64 (t1.c : Int)) (.int .u64 (t1.d : Int)) (.slice ad1 l1 c1))
      have B2s := hid (bl_ks B2n4.out (by omega) F1s.out)
      clear hKq K hH KQ
      have hH := hN
      clear hN
      have KQ := hH.2.2.2.2.2.2.out
      try simp only [ps]
      refine wpAnyH_ready (rs := [12]) (by kernel_rfl) (by simp) ?_
      refine AllReadyH.cons (o := { dst := none, op := Op.store 27 (Operand.tmp 9) (Operand.tmp 51), type := 0, pos := "keep.go:72", after := _, guard := none }) rfl (fun K hKq => ?_) AllReadyH.nil
      have u0 := bl_cell (B2s.out) 0 _ rfl
      have fu0 := bl_frozen (B2s.out) 0
      have u1 := bl_cell (B2s.out) 1 _ rfl
      have fu1 := bl_frozen (B2s.out) 1
      have u2 := bl_cell (B2s.out) 2 _ rfl
      have fu2 := bl_frozen (B2s.out) 2
      have u3 := bl_cell (B2s.out) 3 _ rfl
      have fu3 := bl_frozen (B2s.out) 3
      have u4 := bl_cell (B2s.out) 4 _ rfl
      have fu4 := bl_frozen (B2s.out) 4
      have u5 := bl_cell (B2s.out) 5 _ rfl
      have fu5 := bl_frozen (B2s.out) 5
      have u6 := bl_cell (B2s.out) 6 _ rfl
      have fu6 := bl_frozen (B2s.out) 6
      have u7 := bl_cell (B2s.out) 7 _ rfl
      have fu7 := bl_frozen (B2s.out) 7
      have u8 := bl_cell (B2s.out) 8 _ rfl
      have fu8 := bl_frozen (B2s.out) 8
      go_simp
      refine hKq.out _ _ (MK.out _ (Km.new (S := W5.heap.size) KQ (ks_set9 _ _ _ _ _ _ _ _ _) (by omega) (by omega))) (fun hN => ?_)
      clear u0 fu0 u1 fu1 u2 fu2 u3 fu3 u4 fu4 u5 fu5 u6 fu6 u7 fu7 u8 fu8
      clear hKq K hH KQ
      have hH := hN
      clear hN
      have KQ := hH.2.2.2.2.2.2.out
      try simp only [ps]
      refine wpAnyH_done (by kernel_rfl) ?_ _
      refine NoPanic.normal ?_
      go_wp2_with fail
      go_meet
      case rel => exact amid_of (u1 := (W5.alloc rzo).drew) (u2 := Y1) (u3 := U) hBw hm2 (by omega) K2.out (by repeat (first | exact Kp.refl _ | refine Kp.alloc ?_ _ | refine Kp.drew ?_)) KM1.out (by repeat (first | exact Kp.refl _ | refine Kp.alloc ?_ _ | refine Kp.drew ?_)) KU.out (by omega) (by omega) (by first | omega | (simp; omega) | simp) (by first | omega | (simp; omega) | simp) (by first | omega | (simp; omega) | simp) (by first | omega | (simp; omega) | simp) R2.out I1.out q1 q2 q3 SG1.out I2.out G2.out SG2.out F1s.out (ks_set9 _ _ _ _ _ _ _ _ _) (bl_ks B1s.out (by omega) (ks_set9 _ _ _ _ _ _ _ _ _)) (bl_set9 B2s.out _ _ _ _ _ _ _ _ _)
     refine AllReadyH.cons (o := { dst := some 8, op := Op.alloc 27, type := 0, pos := "keep.go:72", after := #[], guard := none }) rfl (fun K hKq => ?_) ?_
     ·
      go_simp
      refine hKq.out _ _ (MK.out _ (KQ.kp ((Kp.refl _).alloc _) (by omega))) (fun hN => ?_)
      have B2n3 : Hid ((Y1.alloc rzo).heap[W5.heap.size]? = some rzo) := bl_alloc B2n2.out _
      have B1n3 : Hid ((Y1.alloc rzo).heap[Y1.heap.size]? = some rzo) := last_at _ _ _ (by simp)
      clear hKq K hH KQ
      have hH := hN
      clear hN
      have KQ := hH.2.2.2.2.2.2.out
      try simp only [ps]
      refine wpAnyH_ready (rs := [8]) (by kernel_rfl) (by simp) ?_
      refine AllReadyH.cons (o := { dst := some 51, op := Op.call { callee := Callee.value (Operand.func 113), args := #[Operand.tmp 49, Operand.tmp 50, Operand.const (Value.int IntKind.i64 1)], argTypes := #[120, 3, 3] }, type := 27, pos := "keep.go:72", after := _, guard := none }) rfl (fun K hKq => ?_) AllReadyH.nil
      go_simp
      refine (PS2.out _ (by repeat (first | exact Kp.refl _ | refine Kp.alloc ?_ _ | refine Kp.drew ?_))).mono ?_
      rintro e Y2 ⟨⟨T2, v2, g2, rfl, hI, hp1, hp2, hGn⟩⟩
      obtain ⟨k2, mn2, mx2, mm2, t2, ad2, l2, c2, rfl⟩ := hI.form
      have SG2 := hid (hp1 rfl).part
      have I2 := hid hI
      have G2 := hid hGn
      have hy2 := hGn.km.size
      try simp at hy2
      have B1n4 : Hid (Y2.heap[Y1.heap.size]? = some rzo) := bl_km B1n3.out (by omega) G2.out.km
      have B2n4 : Hid (Y2.heap[W5.heap.size]? = some rzo) := bl_km B2n3.out (by omega) G2.out.km
      clear hI hp1 hp2 hGn PS2
      refine hKq.out _ _ (MK.out _ (KQ.trans G2.out.km)) (fun hN => ?_)
      clear hKq K hH KQ
      have hH := hN
      clear hN
      have KQ := hH.2.2.2.2.2.2.out
      try simp only [ps]
      refine wpAnyH_ready (rs := [11]) (by kernel_rfl) (by simp) ?_
      refine AllReadyH.cons (o := { dst := none, op := Op.store 27 (Operand.tmp 8) (Operand.tmp 48), type := 0, pos := "keep.go:72", after := _, guard := none }) rfl (fun K hKq => ?_) AllReadyH.nil
      have v0 := bl_cell (B1n4.out) 0 _ rfl
      have fv0 := bl_frozen (B1n4.out) 0
      have v1 := bl_cell (B1n4.out) 1 _ rfl
      have fv1 := bl_frozen (B1n4.out) 1
      have v2 := bl_cell (B1n4.out) 2 _ rfl
      have fv2 := bl_frozen (B1n4.out) 2
      have v3 := bl_cell (B1n4.out) 3 _ rfl
      have fv3 := bl_frozen (B1n4.out) 3
      have v4 := bl_cell (B1n4.out) 4 _ rfl
      have fv4 := bl_frozen (B1n4.out) 4
      have v5 := bl_cell (B1n4.out) 5 _ rfl
      have fv5 := bl_frozen (B1n4.out) 5
      have v6 := bl_cell (B1n4.out) 6 _ rfl
      have fv6 := bl_frozen (B1n4.out) 6
      have v7 := bl_cell (B1n4.out) 7 _ rfl
      have fv7 := bl_frozen (B1n4.out) 7
      have v8 := bl_cell (B1n4.out) 8 _ rfl
      have fv8 := bl_frozen (B1n4.out) 8
      go_simp
      refine hKq.out _ _ (MK.out _ (Km.new (S := Y1.heap.size) KQ (ks_set9 _ _ _ _ _ _ _ _ _) (by omega) (by omega))) (fun hN => ?_)
      clear v0 fv0 v1 fv1 v2 fv2 v3 fv3 v4 fv4 v5 fv5 v6 fv6 v7 fv7 v8 fv8
      have B1s := hid (bl_set9 B1n4.out (.int .i64 k1) (.int .i64 mn1) (.int .i64 mx1) (.int .i64 mm1) (.int .u64 (t1.a : Int)) (.int .u64 (t1.b : Int)) (.int .u64 (t1.c : Int)) (.int .u64 (t1.d : Int)) (.slice ad1 l1 c1))
      have F1s := hid (ks_set9 (w := Y2) (B := Y1.heap.size) (.int .i64 k1) (.int .i64 mn1) (.int .i64 mx1) (.int .i64 mm1) (.int .u64 (t1.a : Int)) (.int .u64 (t1.b : Int)) (.int .u64 (t1.c : Int)) (.int .u64 (t1.d : Int)) (.slice ad1 l1 c1))
      have B2s := hid (bl_ks B2n4.out (by omega) F1s.out)
      clear hKq K hH KQ
      have hH := hN
      clear hN
      have KQ := hH.2.2.2.2.2.2.out
      try simp only [ps]
      refine wpAnyH_ready (rs := [12]) (by kernel_rfl) (by simp) ?_
      refine AllReadyH.cons (o := { dst := none, op := Op.store 27 (Operand.tmp 9) (Operand.tmp 51), type := 0, pos := "keep.go:72", after := _, guard := none }) rfl (fun K hKq => ?_) AllReadyH.nil
      have u0 := bl_cell (B2s.out) 0 _ rfl
      have fu0 := bl_frozen (B2s.out) 0
      have u1 := bl_cell (B2s.out) 1 _ rfl
      have fu1 := bl_frozen (B2s.out) 1
      have u2 := bl_cell (B2s.out) 2 _ rfl
      have fu2 := bl_frozen (B2s.out) 2
      have u3 := bl_cell (B2s.out) 3 _ rfl
      have fu3 := bl_frozen (B2s.out) 3
      have u4 := bl_cell (B2s.out) 4 _ rfl
      have fu4 := bl_frozen (B2s.out) 4
      have u5 := bl_cell (B2s.out) 5 _ rfl
      have fu5 := bl_frozen (B2s.out) 5
      have u6 := bl_cell (B2s.out) 6 _ rfl
      have fu6 := bl_frozen (B2s.out) 6
      have u7 := bl_cell (B2s.out) 7 _ rfl
      have fu7 := bl_frozen (B2s.out) 7
      have u8 := bl_cell (B2s.out) 8 _ rfl
      have fu8 := bl_frozen (B2s.out) 8
      go_simp
      refine hKq.out _ _ (MK.out _ (Km.new (S := W5.heap.size) KQ (ks_set9 _ _ _ _ _ _ _ _ _) (by omega) (by omega))) (fun hN => ?_)
      clear u0 fu0 u1 fu1 u2 fu2 u3 fu3 u4 fu4 u5 fu5 u6 fu6 u7 fu7 u8 fu8
      clear hKq K hH KQ
      have hH := hN
      clear hN
      have KQ := hH.2.2.2.2.2.2.out
      try simp only [ps]
      refine wpAnyH_done (by kernel_rfl) ?_ _
      refine NoPanic.normal ?_
      go_wp2_with fail
      go_meet
      case rel => exact amid_of (u1 := (W5.alloc rzo).drew) (u2 := (Y1.alloc rzo)) (u3 := Y2) hBw hm2 (by omega) K2.out (by repeat (first | exact Kp.refl _ | refine Kp.alloc ?_ _ | refine Kp.drew ?_)) KM1.out (by repeat (first | exact Kp.refl _ | refine Kp.alloc ?_ _ | refine Kp.drew ?_)) (Kp.refl _) (by omega) (by omega) (by first | omega | (simp; omega) | simp) (by first | omega | (simp; omega) | simp) (by first | omega | (simp; omega) | simp) (by first | omega | (simp; omega) | simp) R2.out I1.out q1 q2 q3 SG1.out I2.out G2.out SG2.out F1s.out (ks_set9 _ _ _ _ _ _ _ _ _) (bl_ks B1s.out (by omega) (ks_set9 _ _ _ _ _ _ _ _ _)) (bl_set9 B2s.out _ _ _ _ _ _ _ _ _)
     exact AllReadyH.nil
    refine AllReadyH.cons (o := { dst := some 8, op := Op.alloc 27, type := 0, pos := "keep.go:72", after := #[], guard := none }) rfl (fun K hKq => ?_) ?_
    ·
     go_simp
     refine hKq.out _ _ (MK.out _ (KQ.kp ((Kp.refl _).alloc _) (by omega))) (fun hN => ?_)
     have B2n2 : Hid (((W5.alloc rzo).alloc rzo).heap[W5.heap.size]? = some rzo) := bl_alloc B2n1.out _
     have B1n2 : Hid (((W5.alloc rzo).alloc rzo).heap[W5.heap.size + 1]? = some rzo) := last_at _ _ _ (by simp)
     clear hKq K hH KQ
     have hH := hN
     clear hN
     have KQ := hH.2.2.2.2.2.2.out
     try simp only [ps]
     refine wpAnyH_ready (rs := [5]) (by kernel_rfl) (by simp) ?_
     refine AllReadyH.cons (o := { dst := some 48, op := Op.call { callee := Callee.value (Operand.func 113), args := #[Operand.tmp 43, Operand.tmp 44, Operand.tmp 47], argTypes := #[120, 3, 3] }, type := 27, pos := "keep.go:72", after := _, guard := none }) rfl (fun K hKq => ?_) AllReadyH.nil
     go_simp
     refine (PS.out m hm1 hm2 _ (by repeat (first | exact Kp.refl _ | refine Kp.alloc ?_ _ | refine Kp.drew ?_))).mono ?_
     rintro e Y1 ⟨⟨T1, v1, g1, rfl, hI, hp1, hp2, hGn⟩⟩
     obtain ⟨k1, mn1, mx1, mm1, t1, ad1, l1, c1, rfl⟩ := hI.form
     have SG1 := hid (sg_of hg3 hm1 hm2 hp1 hp2)
     have I1 := hid hI
     have KM1 := hid hGn.km
     have hy1 := hGn.km.size
     try simp at hy1
     obtain ⟨x', z', hmk, q1, q2, q3⟩ := hGn.ex
     have hgg := SG1.out.g3
     have B1n3 : Hid (Y1.heap[W5.heap.size + 1]? = some rzo) := bl_km (w := ((W5.alloc rzo).alloc rzo).drew) B1n2.out (by omega) KM1.out
     have B2n3 : Hid (Y1.heap[W5.heap.size]? = some rzo) := bl_km (w := ((W5.alloc rzo).alloc rzo).drew) B2n2.out (by omega) KM1.out
     have PS2 := hid (fun (W : World) (k : Kp Y1 W) => parts_any aK lK cK aN lN cN true B d 1 x' g1 z' W (by omega) (by omega) HPS.out ⟨hmk.kp k, NKW.out _ ((Kp.km (B := B) (a := W5) (by repeat (first | exact Kp.refl _ | refine Kp.alloc ?_ _ | refine Kp.drew ?_)) (by omega)).trans (KM1.out.kp k (by first | omega | (simp; omega) | simp))), NNW.out _ ((Kp.km (B := B) (a := W5) (by repeat (first | exact Kp.refl _ | refine Kp.alloc ?_ _ | refine Kp.drew ?_)) (by omega)).trans (KM1.out.kp k (by first | omega | (simp; omega) | simp))), hgg, by omega, by omega, by omega⟩)
     clear hI hp1 hp2 hGn hmk
     refine hKq.out _ _ (MK.out _ (KQ.trans KM1.out)) (fun hN => ?_)
     clear hKq K hH KQ
     have hH := hN
     clear hN
     have KQ := hH.2.2.2.2.2.2.out
     try simp only [ps]
     refine wpAnyH_ready (rs := [8]) (by kernel_rfl) (by simp) ?_
     refine AllReadyH.cons (o := { dst := some 51, op := Op.call { callee := Callee.value (Operand.func 113), args := #[Operand.tmp 49, Operand.tmp 50, Operand.const (Value.int IntKind.i64 1)], argTypes := #[120, 3, 3] }, type := 27, pos := "keep.go:72", after := _, guard := none }) rfl (fun K hKq => ?_) AllReadyH.nil
     go_simp
     refine (PS2.out _ (by repeat (first | exact Kp.refl _ | refine Kp.alloc ?_ _ | refine Kp.drew ?_))).mono ?_
     rintro e Y2 ⟨⟨T2, v2, g2, rfl, hI, hp1, hp2, hGn⟩⟩
     obtain ⟨k2, mn2, mx2, mm2, t2, ad2, l2, c2, rfl⟩ := hI.form
     have SG2 := hid (hp1 rfl).part
     have I2 := hid hI
     have G2 := hid hGn
     have hy2 := hGn.km.size
     try simp at hy2
     have B1n4 : Hid (Y2.heap[W5.heap.size + 1]? = some rzo) := bl_km B1n3.out (by omega) G2.out.km
     have B2n4 : Hid (Y2.heap[W5.heap.size]? = some rzo) := bl_km B2n3.out (by omega) G2.out.km
     clear hI hp1 hp2 hGn PS2
     refine hKq.out _ _ (MK.out _ (KQ.trans G2.out.km)) (fun hN => ?_)
     clear hKq K hH KQ
     have hH := hN
     clear hN
     have KQ := hH.2.2.2.2.2.2.out
     try simp only [ps]
     refine wpAnyH_ready (rs := [11]) (by kernel_rfl) (by simp) ?_
     refine AllReadyH.cons (o := { dst := none, op := Op.store 27 (Operand.tmp 8) (Operand.tmp 48), type := 0, pos := "keep.go:72", after := _, guard := none }) rfl (fun K hKq => ?_) AllReadyH.nil
     have v0 := bl_cell (B1n4.out) 0 _ rfl
     have fv0 := bl_frozen (B1n4.out) 0
     have v1 := bl_cell (B1n4.out) 1 _ rfl
     have fv1 := bl_frozen (B1n4.out) 1
     have v2 := bl_cell (B1n4.out) 2 _ rfl
     have fv2 := bl_frozen (B1n4.out) 2
     have v3 := bl_cell (B1n4.out) 3 _ rfl
     have fv3 := bl_frozen (B1n4.out) 3
     have v4 := bl_cell (B1n4.out) 4 _ rfl
     have fv4 := bl_frozen (B1n4.out) 4
     have v5 := bl_cell (B1n4.out) 5 _ rfl
     have fv5 := bl_frozen (B1n4.out) 5
     have v6 := bl_cell (B1n4.out) 6 _ rfl
     have fv6 := bl_frozen (B1n4.out) 6
     have v7 := bl_cell (B1n4.out) 7 _ rfl
     have fv7 := bl_frozen (B1n4.out) 7
     have v8 := bl_cell (B1n4.out) 8 _ rfl
     have fv8 := bl_frozen (B1n4.out) 8
     go_simp
     refine hKq.out _ _ (MK.out _ (Km.new (S := W5.heap.size + 1) KQ (ks_set9 _ _ _ _ _ _ _ _ _) (by omega) (by omega))) (fun hN => ?_)
     clear v0 fv0 v1 fv1 v2 fv2 v3 fv3 v4 fv4 v5 fv5 v6 fv6 v7 fv7 v8 fv8
     have B1s := hid (bl_set9 B1n4.out (.int .i64 k1) (.int .i64 mn1) (.int .i64 mx1) (.int .i64 mm1) (.int .u64 (t1.a : Int)) (.int .u64 (t1.b : Int)) (.int .u64 (t1.c : Int)) (.int .u64 (t1.d : Int)) (.slice ad1 l1 c1))
     have F1s := hid (ks_set9 (w := Y2) (B := W5.heap.size + 1) (.int .i64 k1) (.int .i64 mn1) (.int .i64 mx1) (.int .i64 mm1) (.int .u64 (t1.a : Int)) (.int .u64 (t1.b : Int)) (.int .u64 (t1.c : Int)) (.int .u64 (t1.d : Int)) (.slice ad1 l1 c1))
     have B2s := hid (bl_ks B2n4.out (by omega) F1s.out)
     clear hKq K hH KQ
     have hH := hN
     clear hN
     have KQ := hH.2.2.2.2.2.2.out
     try simp only [ps]
     refine wpAnyH_ready (rs := [12]) (by kernel_rfl) (by simp) ?_
     refine AllReadyH.cons (o := { dst := none, op := Op.store 27 (Operand.tmp 9) (Operand.tmp 51), type := 0, pos := "keep.go:72", after := _, guard := none }) rfl (fun K hKq => ?_) AllReadyH.nil
     have u0 := bl_cell (B2s.out) 0 _ rfl
     have fu0 := bl_frozen (B2s.out) 0
     have u1 := bl_cell (B2s.out) 1 _ rfl
     have fu1 := bl_frozen (B2s.out) 1
     have u2 := bl_cell (B2s.out) 2 _ rfl
     have fu2 := bl_frozen (B2s.out) 2
     have u3 := bl_cell (B2s.out) 3 _ rfl
     have fu3 := bl_frozen (B2s.out) 3
     have u4 := bl_cell (B2s.out) 4 _ rfl
     have fu4 := bl_frozen (B2s.out) 4
     have u5 := bl_cell (B2s.out) 5 _ rfl
     have fu5 := bl_frozen (B2s.out) 5
     have u6 := bl_cell (B2s.out) 6 _ rfl
     have fu6 := bl_frozen (B2s.out) 6
     have u7 := bl_cell (B2s.out) 7 _ rfl
     have fu7 := bl_frozen (B2s.out) 7
     have u8 := bl_cell (B2s.out) 8 _ rfl
     have fu8 := bl_frozen (B2s.out) 8
     go_simp
     refine hKq.out _ _ (MK.out _ (Km.new (S := W5.heap.size) KQ (ks_set9 _ _ _ _ _ _ _ _ _) (by omega) (by omega))) (fun hN => ?_)
     clear u0 fu0 u1 fu1 u2 fu2 u3 fu3 u4 fu4 u5 fu5 u6 fu6 u7 fu7 u8 fu8
     clear hKq K hH KQ
     have hH := hN
     clear hN
     have KQ := hH.2.2.2.2.2.2.out
     try simp only [ps]
     refine wpAnyH_done (by kernel_rfl) ?_ _
     refine NoPanic.normal ?_
     go_wp2_with fail
     go_meet
     case rel => exact amid_of (u1 := ((W5.alloc rzo).alloc rzo).drew) (u2 := Y1) (u3 := Y2) hBw hm2 (by omega) K2.out (by repeat (first | exact Kp.refl _ | refine Kp.alloc ?_ _ | refine Kp.drew ?_)) KM1.out (by repeat (first | exact Kp.refl _ | refine Kp.alloc ?_ _ | refine Kp.drew ?_)) (Kp.refl _) (by omega) (by omega) (by first | omega | (simp; omega) | simp) (by first | omega | (simp; omega) | simp) (by first | omega | (simp; omega) | simp) (by first | omega | (simp; omega) | simp) R2.out I1.out q1 q2 q3 SG1.out I2.out G2.out SG2.out F1s.out (ks_set9 _ _ _ _ _ _ _ _ _) (bl_ks B1s.out (by omega) (ks_set9 _ _ _ _ _ _ _ _ _)) (bl_set9 B2s.out _ _ _ _ _ _ _ _ _)
    exact AllReadyH.nil
   exact AllReadyH.nil
  case rest =>
  obtain ⟨⟨V1, V2, T1, T2, g1, g2, k1, mn1, mx1, mm1, t1, ad1, l1, c1, k2, mn2, mx2, mm2, t2, ad2, l2, c2, rfl, rfl, hV1, hV2, b1, b2, i1, i2, s1, s2, r6, g6⟩⟩ := hcut
  rename World => W6
  have hs6 := g6.km.size
  have P1 := hid b1
  have P2 := hid b2
  have I1 := hid i1
  have I2 := hid i2
  have RG := hid (Trip.alt_good T1 T2 d g g1 g2 s1 s2)
  have hs6' : w.heap.size + 1 < W6.heap.size := bl_lt r6
  have KI := hid ((RK.pair (base := 0) k1 mn1 mx1 mm1 t1 ad1 l1 c1 k2 mn2 mx2 mm2 t2 ad2 l2 c2 I1.out I2.out (by omega) (by omega)).is 3 0 0 0 W4.z)
  have R7 := hid (bl_alloc r6 (.cells #[.int .i64 k1, .int .i64 mn1, .int .i64 mx1, .int .i64 mm1, .int .u64 (t1.a : Int), .int .u64 (t1.b : Int), .int .u64 (t1.c : Int), .int .u64 (t1.d : Int), .slice ad1 l1 c1, .int .i64 k2, .int .i64 mn2, .int .i64 mx2, .int .i64 mm2, .int .u64 (t2.a : Int), .int .u64 (t2.b : Int), .int .u64 (t2.c : Int), .int .u64 (t2.d : Int), .slice ad2 l2 c2] 27))
  have G7 := hid (g6.kp ((Kp.refl _).alloc (.cells #[.int .i64 k1, .int .i64 mn1, .int .i64 mx1, .int .i64 mm1, .int .u64 (t1.a : Int), .int .u64 (t1.b : Int), .int .u64 (t1.c : Int), .int .u64 (t1.d : Int), .slice ad1 l1 c1, .int .i64 k2, .int .i64 mn2, .int .i64 mx2, .int .i64 mm2, .int .u64 (t2.a : Int), .int .u64 (t2.b : Int), .int .u64 (t2.c : Int), .int .u64 (t2.d : Int), .slice ad2 l2 c2] 27)) (by omega))
  clear b1 b2 i1 i2 s1 s2 r6 g6 M2 A2 R2 K2 PS NKW NNW hs6 hs6' hV1 hV2
  have p0 := bl_cell (P1.out) 0 _ rfl
  have p1 := bl_cell (P1.out) 1 _ rfl
  have p2 := bl_cell (P1.out) 2 _ rfl
  have p3 := bl_cell (P1.out) 3 _ rfl
  have p4 := bl_cell (P1.out) 4 _ rfl
  have p5 := bl_cell (P1.out) 5 _ rfl
  have p6 := bl_cell (P1.out) 6 _ rfl
  have p7 := bl_cell (P1.out) 7 _ rfl
  have p8 := bl_cell (P1.out) 8 _ rfl
  have u0 := bl_cell (P2.out) 0 _ rfl
  have u1 := bl_cell (P2.out) 1 _ rfl
  have u2 := bl_cell (P2.out) 2 _ rfl
  have u3 := bl_cell (P2.out) 3 _ rfl
  have u4 := bl_cell (P2.out) 4 _ rfl
  have u5 := bl_cell (P2.out) 5 _ rfl
  have u6 := bl_cell (P2.out) 6 _ rfl
  have u7 := bl_cell (P2.out) 7 _ rfl
  have u8 := bl_cell (P2.out) 8 _ rfl
  have r0 := bl_cell (R7.out) 0 _ rfl
  have fr0 := bl_frozen (R7.out) 0
  have r1 := bl_cell (R7.out) 1 _ rfl
  have fr1 := bl_frozen (R7.out) 1
  have r2 := bl_cell (R7.out) 2 _ rfl
  have fr2 := bl_frozen (R7.out) 2
  have r3 := bl_cell (R7.out) 3 _ rfl
  have fr3 := bl_frozen (R7.out) 3
  have r4 := bl_cell (R7.out) 4 _ rfl
  have fr4 := bl_frozen (R7.out) 4
  have r5 := bl_cell (R7.out) 5 _ rfl
  have fr5 := bl_frozen (R7.out) 5
  have r6 := bl_cell (R7.out) 6 _ rfl
  have fr6 := bl_frozen (R7.out) 6
  have r7 := bl_cell (R7.out) 7 _ rfl
  have fr7 := bl_frozen (R7.out) 7
  have r8 := bl_cell (R7.out) 8 _ rfl
  have fr8 := bl_frozen (R7.out) 8
  go_wp2_with fail
  refine bodyPost_ret (v := rxv 3 0 0 0 W4.z (.slice (some ⟨W6.heap.size, 0, none⟩) 2 2)) (rx_ret rfl _ _ _ _ rfl (bl_set9 R7.out _ _ _ _ _ _ _ _ _) rfl) rfl ⟨⟨.mk 3 0 0 0 W4.z [T1, T2], _, g2, rfl, ?_, RG.out, ?_⟩⟩
  ·
   exact (KI.out.ks (ks_set9 _ _ _ _ _ _ _ _ _) (fun b hb _ => by omega)).weak (fun b hb _ => by omega)
  ·
   exact G7.out.ks (S := w.heap.size + 1) (ks_set9 _ _ _ _ _ _ _ _ _) (by omega) (by omega)
 case false =>
 clear hq4
 go_upto_region 7 with fail
 have PS := hid (fun (m : Nat) (h1 : 1 ≤ m) (h3 : m ≤ 3) (W : World) (k : Kp W5 W) => parts_any aK lK cK aN lN cN ere B d m (x + 1) g (z - 1) W h1 h3 HPS.out ⟨M2.out.kp k, HA.out.nk.km (K2.out.kp k (by omega)), HA.out.nn.km (K2.out.kp k (by omega)), hg3, by omega, by omega, by omega⟩)
 go_cut [10] (fun v wc => RMid ere B d g x z w v wc)
 case first =>
  have Q0 : Km B W5 W5.drew := (Km.refl B W5).kp ((Kp.refl _).drew) (by omega)
  have MK : Hid (∀ W, Km B W5 W → W.cell? ⟨w.heap.size, 0, none⟩ = some (.slice aK lK cK) ∧ W.cell? ⟨w.heap.size, 1, none⟩ = some (.slice aN lN cN) ∧ W.cell? ⟨w.heap.size, 2, none⟩ = some (.bool ere) ∧ W.cell? ⟨w.heap.size, 3, none⟩ = some (.pointer (some ⟨B, 0, none⟩)) ∧ W.cell? ⟨w.heap.size, 4, none⟩ = some (.pointer (some ⟨B + 1, 0, none⟩)) ∧ W.cell? ⟨w.heap.size, 5, none⟩ = some (.pointer (some ⟨B + 2, 0, none⟩)) ∧ Hid (Km B W5 W)) := fun W k => ⟨bl_cell (bl_km A2.out (by omega) k) 0 _ rfl, bl_cell (bl_km A2.out (by omega) k) 1 _ rfl, bl_cell (bl_km A2.out (by omega) k) 2 _ rfl, bl_cell (bl_km A2.out (by omega) k) 3 _ rfl, bl_cell (bl_km A2.out (by omega) k) 4 _ rfl, bl_cell (bl_km A2.out (by omega) k) 5 _ rfl, k⟩
  refine wp_region_noPanic ?_
  refine hdrew MK Q0 (fun hH => ?_)
  have KQ := Q0
  refine tk 0 (some 56) (Op.load 120 (Operand.tmp 2)) 120 (v := ?v0q1) rfl ?h0q1 hH ?_
  case h0q1 => intro _ _; go_simp; try with_reducible rfl
  try simp only [ps]
  refine tk 1 (some 57) (Op.move (Operand.tmp 1)) 3 (v := ?v1q2) rfl ?h1q2 hH ?_
  case h1q2 => intro _ _; go_simp; try with_reducible rfl
  try simp only [ps]
  refine tk 2 (some 58) (Op.move (Operand.tmp 6)) 3 (v := ?v2q3) rfl ?h2q3 hH ?_
  case h2q3 => intro _ _; go_simp; try with_reducible rfl
  try simp only [ps]
  refine wpAnyH_ready (rs := [3, 6]) (by kernel_rfl) (by simp) ?_
  refine AllReadyH.cons (o := { dst := some 59, op := Op.call { callee := Callee.value (Operand.func 33), args := #[Operand.tmp 58, Operand.const (Value.int IntKind.i64 0), Operand.const (Value.int IntKind.i64 2)], argTypes := #[3, 3, 3] }, type := 3, pos := "keep.go:75", after := _, guard := none }) rfl (fun K hKq => ?_) ?_
  ·
   go_simp
   refine (within_nat _ 2 (by omega) _).mono ?_
   rintro e yy ⟨m2, hm2, rfl, rfl⟩
   obtain ⟨m, hm⟩ : ∃ m, 1 + m2 = m := ⟨_, rfl⟩
   have gm : 1 + (m2 : Int) = (m : Int) := by omega
   have gw : IntKind.i64.wrap (m : Int) = (m : Int) := by rw [IntKind.wrap_i64]; omega
   have hm1 : 1 ≤ m := by omega
   have hm3 : m ≤ 3 := by omega
   clear hm
   refine hKq.out _ _ (MK.out _ KQ) (fun hN => ?_)
   clear hKq K hH KQ
   have hH := hN
   clear hN
   have KQ := hH.2.2.2.2.2.2.out
   try simp only [ps]
   refine tk 4 (some 60) (Op.binOp BinOp.add 3 (Operand.const (Value.int IntKind.i64 1)) (Operand.tmp 59) 3) 3 (v := ?v4q4) rfl ?h4q4 hH ?_
   case h4q4 => intro _ _; go_simp; try with_reducible rfl
   try simp only [ps]
   refine wpAnyH_ready (rs := [5, 6]) (by kernel_rfl) (by simp) ?_
   refine AllReadyH.cons (o := { dst := some 61, op := Op.call { callee := Callee.value (Operand.func 113), args := #[Operand.tmp 56, Operand.tmp 57, Operand.tmp 60], argTypes := #[120, 3, 3] }, type := 27, pos := "keep.go:75", after := _, guard := none }) rfl (fun K hKq => ?_) ?_
   ·
    go_simp
    refine (PS.out m hm1 hm3 _ (by repeat (first | exact Kp.refl _ | refine Kp.alloc ?_ _ | refine Kp.drew ?_))).mono ?_
    rintro e Yp ⟨⟨T, v, g', rfl, hI, hp1, hp2, hGn⟩⟩
    obtain ⟨kk, mn, mx, mm, tt, ad, ll, cc, rfl⟩ := hI.form
    have HI := hid hI
    have HP1 := hid hp1
    have HP2 := hid hp2
    have HGN := hid hGn
    have hsy := hGn.km.size
    simp at hsy
    clear hI hp1 hp2 hGn
    refine hKq.out _ _ (MK.out _ (KQ.trans HGN.out.km)) (fun hN => ?_)
    clear hKq K hH KQ
    have hH := hN
    clear hN
    have KQ := hH.2.2.2.2.2.2.out
    try simp only [ps]
    refine wpAnyH_ready (rs := [6]) (by kernel_rfl) (by simp) ?_
    refine AllReadyH.cons (o := { dst := some 10, op := Op.alloc 27, type := 0, pos := "keep.go:75", after := #[], guard := none }) rfl (fun K hKq => ?_) AllReadyH.nil
    go_simp
    refine hKq.out _ _ (MK.out _ (KQ.kp ((Kp.refl _).alloc _) (by omega))) (fun hN => ?_)
    clear hKq K hH KQ
    have hH := hN
    clear hN
    have KQ := hH.2.2.2.2.2.2.out
    try simp only [ps]
    refine wpAnyH_ready (rs := [7]) (by kernel_rfl) (by simp) ?_
    refine AllReadyH.cons (o := { dst := none, op := Op.store 27 (Operand.tmp 10) (Operand.tmp 61), type := 0, pos := "keep.go:75", after := _, guard := none }) rfl (fun K hKq => ?_) AllReadyH.nil
    go_simp
    refine hKq.out _ _ (MK.out _ (((Kp.km (B := B) (a := W5) (by repeat (first | exact Kp.refl _ | refine Kp.alloc ?_ _ | refine Kp.drew ?_)) (by omega)).trans HGN.out.km).kp ((Kp.refl _).alloc _) (by omega))) (fun hN => ?_)
    clear hKq K hH KQ
    have hH := hN
    clear hN
    have KQ := hH.2.2.2.2.2.2.out
    try simp only [ps]
    refine wpAnyH_done (by kernel_rfl) ?_ _
    refine NoPanic.normal ?_
    go_wp2_with fail
    go_meet
    case rel => exact rmid_of hBw hg3 hm1 hm3 (by omega) K2.out (by repeat (first | exact Kp.refl _ | refine Kp.alloc ?_ _ | refine Kp.drew ?_)) (by omega) (Or.inr (Nat.le_refl _)) R2.out HI.out HP1.out HP2.out HGN.out (by by_cases hm : m = 1; exact (HP1.out hm).le; obtain ⟨ks, kv, _, _, _, _, hLG⟩ := HP2.out (by omega); exact hLG.facts.1) (Kp.refl _) (((Kp.refl _).alloc _).ks (Nat.le_refl _)) (last_of _ _)
   refine AllReadyH.cons (o := { dst := some 10, op := Op.alloc 27, type := 0, pos := "keep.go:75", after := #[], guard := none }) rfl (fun K hKq => ?_) ?_
   ·
    go_simp
    refine hKq.out _ _ (MK.out _ (KQ.kp ((Kp.refl _).alloc _) (by omega))) (fun hN => ?_)
    clear hKq K hH KQ
    have hH := hN
    clear hN
    have KQ := hH.2.2.2.2.2.2.out
    try simp only [ps]
    refine wpAnyH_ready (rs := [5]) (by kernel_rfl) (by simp) ?_
    refine AllReadyH.cons (o := { dst := some 61, op := Op.call { callee := Callee.value (Operand.func 113), args := #[Operand.tmp 56, Operand.tmp 57, Operand.tmp 60], argTypes := #[120, 3, 3] }, type := 27, pos := "keep.go:75", after := _, guard := none }) rfl (fun K hKq => ?_) AllReadyH.nil
    go_simp
    refine (PS.out m hm1 hm3 _ (by repeat (first | exact Kp.refl _ | refine Kp.alloc ?_ _ | refine Kp.drew ?_))).mono ?_
    rintro e Yp ⟨⟨T, v, g', rfl, hI, hp1, hp2, hGn⟩⟩
    obtain ⟨kk, mn, mx, mm, tt, ad, ll, cc, rfl⟩ := hI.form
    have HI := hid hI
    have HP1 := hid hp1
    have HP2 := hid hp2
    have HGN := hid hGn
    have hsy := hGn.km.size
    simp at hsy
    clear hI hp1 hp2 hGn
    refine hKq.out _ _ (MK.out _ (KQ.trans HGN.out.km)) (fun hN => ?_)
    clear hKq K hH KQ
    have hH := hN
    clear hN
    have KQ := hH.2.2.2.2.2.2.out
    try simp only [ps]
    refine wpAnyH_ready (rs := [7]) (by kernel_rfl) (by simp) ?_
    refine AllReadyH.cons (o := { dst := none, op := Op.store 27 (Operand.tmp 10) (Operand.tmp 61), type := 0, pos := "keep.go:75", after := _, guard := none }) rfl (fun K hKq => ?_) AllReadyH.nil
    have VB : Hid (Yp.heap[W5.heap.size]? = some rzo) := bl_km (last_drew W5 rzo) (by omega) HGN.out.km
    have v0 := bl_cell (VB.out) 0 _ rfl
    have fv0 := bl_frozen (VB.out) 0
    have v1 := bl_cell (VB.out) 1 _ rfl
    have fv1 := bl_frozen (VB.out) 1
    have v2 := bl_cell (VB.out) 2 _ rfl
    have fv2 := bl_frozen (VB.out) 2
    have v3 := bl_cell (VB.out) 3 _ rfl
    have fv3 := bl_frozen (VB.out) 3
    have v4 := bl_cell (VB.out) 4 _ rfl
    have fv4 := bl_frozen (VB.out) 4
    have v5 := bl_cell (VB.out) 5 _ rfl
    have fv5 := bl_frozen (VB.out) 5
    have v6 := bl_cell (VB.out) 6 _ rfl
    have fv6 := bl_frozen (VB.out) 6
    have v7 := bl_cell (VB.out) 7 _ rfl
    have fv7 := bl_frozen (VB.out) 7
    have v8 := bl_cell (VB.out) 8 _ rfl
    have fv8 := bl_frozen (VB.out) 8
    go_simp
    refine hKq.out _ _ (MK.out _ (Km.new (S := W5.heap.size) (b := Yp) KQ (ks_set9 _ _ _ _ _ _ _ _ _) (Nat.le_refl _) (by omega))) (fun hN => ?_)
    clear v0 fv0 v1 fv1 v2 fv2 v3 fv3 v4 fv4 v5 fv5 v6 fv6 v7 fv7 v8 fv8
    clear hKq K hH KQ
    have hH := hN
    clear hN
    have KQ := hH.2.2.2.2.2.2.out
    try simp only [ps]
    refine wpAnyH_done (by kernel_rfl) ?_ _
    refine NoPanic.normal ?_
    go_wp2_with fail
    go_meet
    case rel => exact rmid_of hBw hg3 hm1 hm3 (by omega) K2.out (by repeat (first | exact Kp.refl _ | refine Kp.alloc ?_ _ | refine Kp.drew ?_)) (by omega) (Or.inl (by simp; omega)) R2.out HI.out HP1.out HP2.out HGN.out (by by_cases hm : m = 1; exact (HP1.out hm).le; obtain ⟨ks, kv, _, _, _, _, hLG⟩ := HP2.out (by omega); exact hLG.facts.1) (Kp.refl _) (ks_set9 _ _ _ _ _ _ _ _ _) (bl_set9 VB.out _ _ _ _ _ _ _ _ _)
   exact AllReadyH.nil
  refine AllReadyH.cons (o := { dst := some 10, op := Op.alloc 27, type := 0, pos := "keep.go:75", after := #[], guard := none }) rfl (fun K hKq => ?_) ?_
  ·
   go_simp
   refine hKq.out _ _ (MK.out _ (KQ.kp ((Kp.refl _).alloc _) (by omega))) (fun hN => ?_)
   clear hKq K hH KQ
   have hH := hN
   clear hN
   have KQ := hH.2.2.2.2.2.2.out
   try simp only [ps]
   refine wpAnyH_ready (rs := [3]) (by kernel_rfl) (by simp) ?_
   refine AllReadyH.cons (o := { dst := some 59, op := Op.call { callee := Callee.value (Operand.func 33), args := #[Operand.tmp 58, Operand.const (Value.int IntKind.i64 0), Operand.const (Value.int IntKind.i64 2)], argTypes := #[3, 3, 3] }, type := 3, pos := "keep.go:75", after := _, guard := none }) rfl (fun K hKq => ?_) AllReadyH.nil
   go_simp
   refine (within_nat _ 2 (by omega) _).mono ?_
   rintro e yy ⟨m2, hm2, rfl, rfl⟩
   obtain ⟨m, hm⟩ : ∃ m, 1 + m2 = m := ⟨_, rfl⟩
   have gm : 1 + (m2 : Int) = (m : Int) := by omega
   have gw : IntKind.i64.wrap (m : Int) = (m : Int) := by rw [IntKind.wrap_i64]; omega
   have hm1 : 1 ≤ m := by omega
   have hm3 : m ≤ 3 := by omega
   clear hm
   refine hKq.out _ _ (MK.out _ KQ) (fun hN => ?_)
   clear hKq K hH KQ
   have hH := hN
   clear hN
   have KQ := hH.2.2.2.2.2.2.out
   try simp only [ps]
   refine tk 4 (some 60) (Op.binOp BinOp.add 3 (Operand.const (Value.int IntKind.i64 1)) (Operand.tmp 59) 3) 3 (v := ?v4q5) rfl ?h4q5 hH ?_
   case h4q5 => intro _ _; go_simp; try with_reducible rfl
   try simp only [ps]
   refine wpAnyH_ready (rs := [5]) (by kernel_rfl) (by simp) ?_
   refine AllReadyH.cons (o := { dst := some 61, op := Op.call { callee := Callee.value (Operand.func 113), args := #[Operand.tmp 56, Operand.tmp 57, Operand.tmp 60], argTypes := #[120, 3, 3] }, type := 27, pos := "keep.go:75", after := _, guard := none }) rfl (fun K hKq => ?_) AllReadyH.nil
   go_simp
   refine (PS.out m hm1 hm3 _ (by repeat (first | exact Kp.refl _ | refine Kp.alloc ?_ _ | refine Kp.drew ?_))).mono ?_
   rintro e Yp ⟨⟨T, v, g', rfl, hI, hp1, hp2, hGn⟩⟩
   obtain ⟨kk, mn, mx, mm, tt, ad, ll, cc, rfl⟩ := hI.form
   have HI := hid hI
   have HP1 := hid hp1
   have HP2 := hid hp2
   have HGN := hid hGn
   have hsy := hGn.km.size
   simp at hsy
   clear hI hp1 hp2 hGn
   refine hKq.out _ _ (MK.out _ (KQ.trans HGN.out.km)) (fun hN => ?_)
   clear hKq K hH KQ
   have hH := hN
   clear hN
   have KQ := hH.2.2.2.2.2.2.out
   try simp only [ps]
   refine wpAnyH_ready (rs := [7]) (by kernel_rfl) (by simp) ?_
   refine AllReadyH.cons (o := { dst := none, op := Op.store 27 (Operand.tmp 10) (Operand.tmp 61), type := 0, pos := "keep.go:75", after := _, guard := none }) rfl (fun K hKq => ?_) AllReadyH.nil
   have VB : Hid (Yp.heap[W5.heap.size]? = some rzo) := bl_km (last_drew W5 rzo) (by omega) HGN.out.km
   have v0 := bl_cell (VB.out) 0 _ rfl
   have fv0 := bl_frozen (VB.out) 0
   have v1 := bl_cell (VB.out) 1 _ rfl
   have fv1 := bl_frozen (VB.out) 1
   have v2 := bl_cell (VB.out) 2 _ rfl
   have fv2 := bl_frozen (VB.out) 2
   have v3 := bl_cell (VB.out) 3 _ rfl
   have fv3 := bl_frozen (VB.out) 3
   have v4 := bl_cell (VB.out) 4 _ rfl
   have fv4 := bl_frozen (VB.out) 4
   have v5 := bl_cell (VB.out) 5 _ rfl
   have fv5 := bl_frozen (VB.out) 5
   have v6 := bl_cell (VB.out) 6 _ rfl
   have fv6 := bl_frozen (VB.out) 6
   have v7 := bl_cell (VB.out) 7 _ rfl
   have fv7 := bl_frozen (VB.out) 7
   have v8 := bl_cell (VB.out) 8 _ rfl
   have fv8 := bl_frozen (VB.out) 8
   go_simp
   refine hKq.out _ _ (MK.out _ (Km.new (S := W5.heap.size) (b := Yp) KQ (ks_set9 _ _ _ _ _ _ _ _ _) (Nat.le_refl _) (by omega))) (fun hN => ?_)
   clear v0 fv0 v1 fv1 v2 fv2 v3 fv3 v4 fv4 v5 fv5 v6 fv6 v7 fv7 v8 fv8
   clear hKq K hH KQ
   have hH := hN
   clear hN
   have KQ := hH.2.2.2.2.2.2.out
   try simp only [ps]
   refine wpAnyH_done (by kernel_rfl) ?_ _
   refine NoPanic.normal ?_
   go_wp2_with fail
   go_meet
   case rel => exact rmid_of hBw hg3 hm1 hm3 (by omega) K2.out (by repeat (first | exact Kp.refl _ | refine Kp.alloc ?_ _ | refine Kp.drew ?_)) (by omega) (Or.inl (by simp; omega)) R2.out HI.out HP1.out HP2.out HGN.out (by by_cases hm : m = 1; exact (HP1.out hm).le; obtain ⟨ks, kv, _, _, _, _, hLG⟩ := HP2.out (by omega); exact hLG.facts.1) (Kp.refl _) (ks_set9 _ _ _ _ _ _ _ _ _) (bl_set9 VB.out _ _ _ _ _ _ _ _ _)
  exact AllReadyH.nil
 case rest =>
 obtain ⟨⟨V, T, g', m, k, mn, mx, mm, t, ad, l, cc, rfl, hV, hm1, hm3, hv, hI, hP, hL, hR, hG⟩⟩ := hcut
 rename World => W3
 have V3 := hid hv
 have I3 := hid hI
 have R3 := hid hR
 have G3 := hid hG
 have hkT : k = T.k := by
  have := (Pd.mk (hI.weak (fun _ _ _ => trivial))).all.2.1
  exact this
 have HKT := hid hkT
 have HP3 := hid hP
 have HL3 := hid hL
 have hs3 := hG.km.size
 clear hv hI hP hL hR hG hkT M2 A2 R2 K2 PS
 by_cases hm : m = 1
 ·
  have RG : Hid (Trip.RGood ere T d g g') := (HP3.out hm).part.row (by omega)
  have hk2 : (k == 2) = false := by rw [HKT.out]; simp; exact (HP3.out hm).k2
  have hk2' : ¬ k = 2 := by rw [HKT.out]; exact (HP3.out hm).k2
  have p0 := bl_cell (V3.out) 0 _ rfl
  have p1 := bl_cell (V3.out) 1 _ rfl
  have p2 := bl_cell (V3.out) 2 _ rfl
  have p3 := bl_cell (V3.out) 3 _ rfl
  have p4 := bl_cell (V3.out) 4 _ rfl
  have p5 := bl_cell (V3.out) 5 _ rfl
  have p6 := bl_cell (V3.out) 6 _ rfl
  have p7 := bl_cell (V3.out) 7 _ rfl
  have p8 := bl_cell (V3.out) 8 _ rfl
  have r0 := bl_cell (R3.out) 0 _ rfl
  have fr0 := bl_frozen (R3.out) 0
  have r1 := bl_cell (R3.out) 1 _ rfl
  have fr1 := bl_frozen (R3.out) 1
  have r2 := bl_cell (R3.out) 2 _ rfl
  have fr2 := bl_frozen (R3.out) 2
  have r3 := bl_cell (R3.out) 3 _ rfl
  have fr3 := bl_frozen (R3.out) 3
  have r4 := bl_cell (R3.out) 4 _ rfl
  have fr4 := bl_frozen (R3.out) 4
  have r5 := bl_cell (R3.out) 5 _ rfl
  have fr5 := bl_frozen (R3.out) 5
  have r6 := bl_cell (R3.out) 6 _ rfl
  have fr6 := bl_frozen (R3.out) 6
  have r7 := bl_cell (R3.out) 7 _ rfl
  have fr7 := bl_frozen (R3.out) 7
  have r8 := bl_cell (R3.out) 8 _ rfl
  have fr8 := bl_frozen (R3.out) 8
  by_cases h8 : c = 8
  ·
   subst h8
   go_wp2_with fail
   refine bodyPost_ret (v := rxv k mn mx mm t (.slice ad l cc)) (rx_ret rfl _ _ _ _ rfl (bl_set9 R3.out _ _ _ _ _ _ _ _ _) rfl) rfl ⟨⟨T, _, g', rfl, ?_, RG.out, ?_⟩⟩
   ·
    exact (I3.out.ks (ks_set9 _ _ _ _ _ _ _ _ _) (fun b hb _ => by have := hb.1; omega)).weak (fun b hb _ => by have := hb.1; omega)
   ·
    exact G3.out.ks (S := w.heap.size + 1) (ks_set9 _ _ _ _ _ _ _ _ _) (by omega) (by omega)
  ·
   have h8i : ((c : Int) == 8) = false := by simp; omega
   have h8j : ¬ (c : Int) = 8 := by omega
   by_cases h7 : c = 7
   ·
    subst h7
    go_wp2_with fail
    refine bodyPost_ret (v := rxv k mn mx mm t (.slice ad l cc)) (rx_ret rfl _ _ _ _ rfl (bl_set9 R3.out _ _ _ _ _ _ _ _ _) rfl) rfl ⟨⟨T, _, g', rfl, ?_, RG.out, ?_⟩⟩
    ·
     exact (I3.out.ks (ks_set9 _ _ _ _ _ _ _ _ _) (fun b hb _ => by have := hb.1; omega)).weak (fun b hb _ => by have := hb.1; omega)
    ·
     exact G3.out.ks (S := w.heap.size + 1) (ks_set9 _ _ _ _ _ _ _ _ _) (by omega) (by omega)
   ·
    have h7i : ((c : Int) == 7) = false := by simp; omega
    have h7j : ¬ (c : Int) = 7 := by omega
    go_wp2_with fail
    refine bodyPost_ret (v := rxv k mn mx mm t (.slice ad l cc)) (rx_ret rfl _ _ _ _ rfl (bl_set9 R3.out _ _ _ _ _ _ _ _ _) rfl) rfl ⟨⟨T, _, g', rfl, ?_, RG.out, ?_⟩⟩
    ·
     exact (I3.out.ks (ks_set9 _ _ _ _ _ _ _ _ _) (fun b hb _ => by have := hb.1; omega)).weak (fun b hb _ => by have := hb.1; omega)
    ·
     exact G3.out.ks (S := w.heap.size + 1) (ks_set9 _ _ _ _ _ _ _ _ _) (by omega) (by omega)
 ·
  obtain ⟨ks, rfl, rfl, rfl, rfl, rfl, rfl, hRK, hlen, hLG⟩ := HL3.out (by omega)
  have RK3 := hid hRK
  have LG3 := hid hLG
  have hV3 : V < W3.heap.size := bl_lt V3.out
  clear hRK hLG HL3 HP3 HKT
  by_cases h8 : c = 8
  ·
   subst h8
   have RKB : Hid (RK (fun b => w.heap.size + 1 < b ∧ b ≠ V) (w.heap.size + 2) (W3.alloc (rxo 7 0 0 0 W4.z (.slice none 0 0))) (.slice (some ⟨W3.heap.size, 0, none⟩) 1 1) [Rx.mk 7 0 0 0 W4.z []]) := RK.single 7 0 0 0 W4.z none 0 0 (Is.leaf _ _ _ _ _ _ _) (by omega) ⟨by omega, by omega⟩
   have HU : Hid (∃ ys : List Value, ys.length = ks.length ∧ (W3.alloc (rxo 7 0 0 0 W4.z (.slice none 0 0))).ownsRow (w.heap.size + 2) 27 9 (.slice ad l cc) ks.length (rowOf ys) ∧ ∀ (j : Nat) t y, ks[j]? = some t → ys[j]? = some y → Is (W3.alloc (rxo 7 0 0 0 W4.z (.slice none 0 0))) (fun b => (w.heap.size + 1 < b ∧ b ≠ V) ∧ (Value.slice (some ⟨W3.heap.size, 0, none⟩) 1 1).ownBlock ≠ some b) t y) := by
    obtain ⟨ys, i1, i2, i3, i4⟩ := RK3.out.ex
    have kal : Kp W3 (W3.alloc (rxo 7 0 0 0 W4.z (.slice none 0 0))) := (Kp.refl _).alloc _
    refine ⟨ys, i1, owns_same i2 (fun b _ hl => kal.block b hl), fun j t y hj hy => ?_⟩
    refine ((i4 j t y hj hy).weak (fun b hb hl => ⟨hb.1, ?_⟩)).kp kal
    show some W3.heap.size ≠ some b
    intro e
    injection e with e
    omega
   have p0 := bl_cell (V3.out) 0 _ rfl
   have p1 := bl_cell (V3.out) 1 _ rfl
   have p2 := bl_cell (V3.out) 2 _ rfl
   have p3 := bl_cell (V3.out) 3 _ rfl
   have p4 := bl_cell (V3.out) 4 _ rfl
   have p5 := bl_cell (V3.out) 5 _ rfl
   have p6 := bl_cell (V3.out) 6 _ rfl
   have p7 := bl_cell (V3.out) 7 _ rfl
   have p8 := bl_cell (V3.out) 8 _ rfl
   go_wp2_with (at_builtin; go_must (refine wpList_append_rkr (W3.alloc (rxo 7 0 0 0 W4.z (.slice none 0 0))) (by rfl) _ _ (by rfl) (fun b => w.heap.size + 1 < b ∧ b ≠ V) (w.heap.size + 2) (.slice (some ⟨W3.heap.size, 0, none⟩) 1 1) (.slice ad l cc) [Rx.mk 7 0 0 0 W4.z []] ks (by rfl) ?h0 RKB ?h3 HU (by rfl) ?h1 ?h2 ?_))
   case h0 => intro b hb; simp at hb; exact ⟨by omega, by omega⟩
   case h3 => omega
   case h1 => simp; omega
   case h2 => simp; omega
   intro v' w' hk' hg'
   have hrow : (Value.slice (some ⟨W3.heap.size, 0, none⟩) 1 1).ownBlock = some W3.heap.size := rfl
   rw [hrow] at hg'
   obtain ⟨ad', cc', hf', hc'⟩ := hk'.form
   obtain ⟨L, hLn⟩ : ∃ L, (Rx.mk 7 0 0 0 W4.z [] :: ks).length = L := ⟨_, rfl⟩
   rw [hLn] at hf'
   clear hLn hc'
   have V4 : Hid (w'.heap[V]? = some (rxo 2 0 0 0 W4.z (.slice ad l cc))) := bl_gr (bl_alloc V3.out _) hg' (by intro e; injection e with e; omega)
   have R4 : Hid (w'.heap[w.heap.size + 1]? = some rzo) := bl_gr (bl_alloc R3.out _) hg' (by intro e; injection e with e; omega)
   have G4 : Hid (Gone B 4 7 x g z w w' g') := (G3.out.kp ((Kp.refl _).alloc _) (by omega)).grown hg' (fun k e => by injection e with e; omega) (by omega)
   have RK4 := hid hk'
   clear hk' hg' hrow RKB HU p0 p1 p2 p3 p4 p5 p6 p7 p8
   subst hf'
   have v0 := bl_cell (V4.out) 0 _ rfl
   have fv0 := bl_frozen (V4.out) 0
   have v1 := bl_cell (V4.out) 1 _ rfl
   have fv1 := bl_frozen (V4.out) 1
   have v2 := bl_cell (V4.out) 2 _ rfl
   have fv2 := bl_frozen (V4.out) 2
   have v3 := bl_cell (V4.out) 3 _ rfl
   have fv3 := bl_frozen (V4.out) 3
   have v4 := bl_cell (V4.out) 4 _ rfl
   have fv4 := bl_frozen (V4.out) 4
   have v5 := bl_cell (V4.out) 5 _ rfl
   have fv5 := bl_frozen (V4.out) 5
   have v6 := bl_cell (V4.out) 6 _ rfl
   have fv6 := bl_frozen (V4.out) 6
   have v7 := bl_cell (V4.out) 7 _ rfl
   have fv7 := bl_frozen (V4.out) 7
   have v8 := bl_cell (V4.out) 8 _ rfl
   have fv8 := bl_frozen (V4.out) 8
   go_upto_region 10 with fail
   refine opq (fun W6 => W6.heap[V]? = some (rxo 2 0 0 0 W4.z (.slice ad' L cc')) ∧ W6.heap[(w.heap.size + 1)]? = some rzo ∧ RK (fun b => w.heap.size + 1 < b ∧ b ≠ V) (w.heap.size + 2) W6 (.slice ad' L cc') ([Rx.mk 7 0 0 0 W4.z []] ++ ks) ∧ Gone B 4 7 x g z w W6 g') ⟨by exact bl_put V4.out _, by exact bl_set R4.out (by omega) _, by exact RK4.out.ks ((Ks.refl _ _).set 8 _) (fun b hb => hb.2), by exact G4.out.ks (S := V) ((Ks.refl _ _).set 8 _) (by omega) (by omega)⟩ ?_
   rintro W6 ⟨xV6, xR6, xRK6, xG6⟩
   have V6 := hidT xV6
   have R6 := hidT xR6
   have RK6 := hidT xRK6
   have G6 := hidT xG6
   clear xV6 xR6 xRK6 xG6
   clear V4 R4 RK4 G4 v0 fv0 v1 fv1 v2 fv2 v3 fv3 v4 fv4 v5 fv5 v6 fv6 v7 fv7 v8 fv8
   have p0 := bl_cell (V6.out) 0 _ rfl
   have p1 := bl_cell (V6.out) 1 _ rfl
   have p2 := bl_cell (V6.out) 2 _ rfl
   have p3 := bl_cell (V6.out) 3 _ rfl
   have p4 := bl_cell (V6.out) 4 _ rfl
   have p5 := bl_cell (V6.out) 5 _ rfl
   have p6 := bl_cell (V6.out) 6 _ rfl
   have p7 := bl_cell (V6.out) 7 _ rfl
   have p8 := bl_cell (V6.out) 8 _ rfl
   have r0 := bl_cell (R6.out) 0 _ rfl
   have fr0 := bl_frozen (R6.out) 0
   have r1 := bl_cell (R6.out) 1 _ rfl
   have fr1 := bl_frozen (R6.out) 1
   have r2 := bl_cell (R6.out) 2 _ rfl
   have fr2 := bl_frozen (R6.out) 2
   have r3 := bl_cell (R6.out) 3 _ rfl
   have fr3 := bl_frozen (R6.out) 3
   have r4 := bl_cell (R6.out) 4 _ rfl
   have fr4 := bl_frozen (R6.out) 4
   have r5 := bl_cell (R6.out) 5 _ rfl
   have fr5 := bl_frozen (R6.out) 5
   have r6 := bl_cell (R6.out) 6 _ rfl
   have fr6 := bl_frozen (R6.out) 6
   have r7 := bl_cell (R6.out) 7 _ rfl
   have fr7 := bl_frozen (R6.out) 7
   have r8 := bl_cell (R6.out) 8 _ rfl
   have fr8 := bl_frozen (R6.out) 8
   go_wp2_with fail
   refine bodyPost_ret (v := rxv 2 0 0 0 W4.z (.slice ad' L cc')) (rx_ret rfl _ _ _ _ rfl (bl_set9 R6.out _ _ _ _ _ _ _ _ _) rfl) rfl ⟨⟨.mk 2 0 0 0 W4.z ([Rx.mk 7 0 0 0 W4.z []] ++ ks), _, g', rfl, ?_, Trip.begin_good ere d g g' hg3 ks LG3.out (by omega) (by omega), ?_⟩⟩
   ·
    exact ((RK6.out.is 2 0 0 0 W4.z).ks (ks_set9 _ _ _ _ _ _ _ _ _) (fun b hb _ => by have := hb.1; omega)).weak (fun b hb _ => by have := hb.1; omega)
   ·
    exact G6.out.ks (S := w.heap.size + 1) (ks_set9 _ _ _ _ _ _ _ _ _) (by omega) (by omega)
  have h8i : ((c : Int) == 8) = false := by simp; omega
  have h8j : ¬ (c : Int) = 8 := by omega
  by_cases h7 : c = 7
  ·
   subst h7
   have HIE : Hid (Is W3 (fun b => (w.heap.size + 1 < b ∧ b ≠ V) ∧ (Value.slice ad l cc).ownBlock ≠ some b) (.mk 8 0 0 0 W4.z []) (rxv 8 0 0 0 W4.z (.slice none 0 0))) := Is.leaf _ _ _ _ _ _ _
   have HRW := hid (RK3.out.block)
   have p0 := bl_cell (V3.out) 0 _ rfl
   have p1 := bl_cell (V3.out) 1 _ rfl
   have p2 := bl_cell (V3.out) 2 _ rfl
   have p3 := bl_cell (V3.out) 3 _ rfl
   have p4 := bl_cell (V3.out) 4 _ rfl
   have p5 := bl_cell (V3.out) 5 _ rfl
   have p6 := bl_cell (V3.out) 6 _ rfl
   have p7 := bl_cell (V3.out) 7 _ rfl
   have p8 := bl_cell (V3.out) 8 _ rfl
   go_wp2_with (at_builtin; go_must (refine wpList_append_rk W3 (by rfl) _ _ (by rfl) (w.heap.size + 2) (.slice ad l cc) ks (.mk 8 0 0 0 W4.z []) (by rfl) (fun b => w.heap.size + 1 < b ∧ b ≠ V) ?h0 RK3 8 0 0 0 W4.z none 0 0 HIE _ (by rfl) (by rfl) ?h1 ?h2 ?_))
   case h0 => intro b hb; exact ⟨by omega, by omega⟩
   case h1 => omega
   case h2 => omega
   intro v' w' hk' hg'
   obtain ⟨ad', cc', hf', hc'⟩ := hk'.form
   obtain ⟨L, hLn⟩ : ∃ L, (ks ++ [Rx.mk 8 0 0 0 W4.z []]).length = L := ⟨_, rfl⟩
   rw [hLn] at hf'
   clear hLn hc'
   have V4 : Hid (w'.heap[V]? = some (rxo 2 0 0 0 W4.z (.slice ad l cc))) := bl_gr V3.out hg' (fun e => (HRW.out _ e).1.2 rfl)
   have R4 : Hid (w'.heap[w.heap.size + 1]? = some rzo) := bl_gr R3.out hg' (fun e => by have := (HRW.out _ e).1.1; omega)
   have G4 : Hid (Gone B 4 7 x g z w w' g') := G3.out.grown hg' (fun k e => by have := (HRW.out _ e).1.1; omega) (by omega)
   have RK4 := hid hk'
   clear hk' hg' HRW HIE p0 p1 p2 p3 p4 p5 p6 p7 p8
   subst hf'
   have v0 := bl_cell (V4.out) 0 _ rfl
   have fv0 := bl_frozen (V4.out) 0
   have v1 := bl_cell (V4.out) 1 _ rfl
   have fv1 := bl_frozen (V4.out) 1
   have v2 := bl_cell (V4.out) 2 _ rfl
   have fv2 := bl_frozen (V4.out) 2
   have v3 := bl_cell (V4.out) 3 _ rfl
   have fv3 := bl_frozen (V4.out) 3
   have v4 := bl_cell (V4.out) 4 _ rfl
   have fv4 := bl_frozen (V4.out) 4
   have v5 := bl_cell (V4.out) 5 _ rfl
   have fv5 := bl_frozen (V4.out) 5
   have v6 := bl_cell (V4.out) 6 _ rfl
   have fv6 := bl_frozen (V4.out) 6
   have v7 := bl_cell (V4.out) 7 _ rfl
   have fv7 := bl_frozen (V4.out) 7
   have v8 := bl_cell (V4.out) 8 _ rfl
   have fv8 := bl_frozen (V4.out) 8
   go_upto_region 12 with fail
   refine opq (fun W6 => W6.heap[V]? = some (rxo 2 0 0 0 W4.z (.slice ad' L cc')) ∧ W6.heap[(w.heap.size + 1)]? = some rzo ∧ RK (fun b => w.heap.size + 1 < b ∧ b ≠ V) (w.heap.size + 2) W6 (.slice ad' L cc') (ks ++ [Rx.mk 8 0 0 0 W4.z []]) ∧ Gone B 4 7 x g z w W6 g') ⟨by exact bl_put V4.out _, by exact bl_set R4.out (by omega) _, by exact RK4.out.ks ((Ks.refl _ _).set 8 _) (fun b hb => hb.2), by exact G4.out.ks (S := V) ((Ks.refl _ _).set 8 _) (by omega) (by omega)⟩ ?_
   rintro W6 ⟨xV6, xR6, xRK6, xG6⟩
   have V6 := hidT xV6
   have R6 := hidT xR6
   have RK6 := hidT xRK6
   have G6 := hidT xG6
   clear xV6 xR6 xRK6 xG6
   clear V4 R4 RK4 G4 v0 fv0 v1 fv1 v2 fv2 v3 fv3 v4 fv4 v5 fv5 v6 fv6 v7 fv7 v8 fv8
   have p0 := bl_cell (V6.out) 0 _ rfl
   have p1 := bl_cell (V6.out) 1 _ rfl
   have p2 := bl_cell (V6.out) 2 _ rfl
   have p3 := bl_cell (V6.out) 3 _ rfl
   have p4 := bl_cell (V6.out) 4 _ rfl
   have p5 := bl_cell (V6.out) 5 _ rfl
   have p6 := bl_cell (V6.out) 6 _ rfl
   have p7 := bl_cell (V6.out) 7 _ rfl
   have p8 := bl_cell (V6.out) 8 _ rfl
   have r0 := bl_cell (R6.out) 0 _ rfl
   have fr0 := bl_frozen (R6.out) 0
   have r1 := bl_cell (R6.out) 1 _ rfl
   have fr1 := bl_frozen (R6.out) 1
   have r2 := bl_cell (R6.out) 2 _ rfl
   have fr2 := bl_frozen (R6.out) 2
   have r3 := bl_cell (R6.out) 3 _ rfl
   have fr3 := bl_frozen (R6.out) 3
   have r4 := bl_cell (R6.out) 4 _ rfl
   have fr4 := bl_frozen (R6.out) 4
   have r5 := bl_cell (R6.out) 5 _ rfl
   have fr5 := bl_frozen (R6.out) 5
   have r6 := bl_cell (R6.out) 6 _ rfl
   have fr6 := bl_frozen (R6.out) 6
   have r7 := bl_cell (R6.out) 7 _ rfl
   have fr7 := bl_frozen (R6.out) 7
   have r8 := bl_cell (R6.out) 8 _ rfl
   have fr8 := bl_frozen (R6.out) 8
   go_wp2_with fail
   refine bodyPost_ret (v := rxv 2 0 0 0 W4.z (.slice ad' L cc')) (rx_ret rfl _ _ _ _ rfl (bl_set9 R6.out _ _ _ _ _ _ _ _ _) rfl) rfl ⟨⟨.mk 2 0 0 0 W4.z (ks ++ [Rx.mk 8 0 0 0 W4.z []]), _, g', rfl, ?_, Trip.end_good ere d g g' hg3 ks LG3.out (by omega) (by omega), ?_⟩⟩
   ·
    exact ((RK6.out.is 2 0 0 0 W4.z).ks (ks_set9 _ _ _ _ _ _ _ _ _) (fun b hb _ => by have := hb.1; omega)).weak (fun b hb _ => by have := hb.1; omega)
   ·
    exact G6.out.ks (S := w.heap.size + 1) (ks_set9 _ _ _ _ _ _ _ _ _) (by omega) (by omega)
  have h7i : ((c : Int) == 7) = false := by simp; omega
  have h7j : ¬ (c : Int) = 7 := by omega
  have RG : Hid (Trip.RGood ere (.mk 2 0 0 0 W4.z ks) d g g') := (Trip.cat_good ere d g g' hg3 ks LG3.out (by omega) (by omega)).row (by omega)
  have p0 := bl_cell (V3.out) 0 _ rfl
  have p1 := bl_cell (V3.out) 1 _ rfl
  have p2 := bl_cell (V3.out) 2 _ rfl
  have p3 := bl_cell (V3.out) 3 _ rfl
  have p4 := bl_cell (V3.out) 4 _ rfl
  have p5 := bl_cell (V3.out) 5 _ rfl
  have p6 := bl_cell (V3.out) 6 _ rfl
  have p7 := bl_cell (V3.out) 7 _ rfl
  have p8 := bl_cell (V3.out) 8 _ rfl
  have r0 := bl_cell (R3.out) 0 _ rfl
  have fr0 := bl_frozen (R3.out) 0
  have r1 := bl_cell (R3.out) 1 _ rfl
  have fr1 := bl_frozen (R3.out) 1
  have r2 := bl_cell (R3.out) 2 _ rfl
  have fr2 := bl_frozen (R3.out) 2
  have r3 := bl_cell (R3.out) 3 _ rfl
  have fr3 := bl_frozen (R3.out) 3
  have r4 := bl_cell (R3.out) 4 _ rfl
  have fr4 := bl_frozen (R3.out) 4
  have r5 := bl_cell (R3.out) 5 _ rfl
  have fr5 := bl_frozen (R3.out) 5
  have r6 := bl_cell (R3.out) 6 _ rfl
  have fr6 := bl_frozen (R3.out) 6
  have r7 := bl_cell (R3.out) 7 _ rfl
  have fr7 := bl_frozen (R3.out) 7
  have r8 := bl_cell (R3.out) 8 _ rfl
  have fr8 := bl_frozen (R3.out) 8
  go_wp2_with fail
  refine bodyPost_ret (v := rxv 2 0 0 0 W4.z (.slice ad l cc)) (rx_ret rfl _ _ _ _ rfl (bl_set9 R3.out _ _ _ _ _ _ _ _ _) rfl) rfl ⟨⟨.mk 2 0 0 0 W4.z ks, _, g', rfl, ?_, RG.out, ?_⟩⟩
  ·
   exact (I3.out.ks (ks_set9 _ _ _ _ _ _ _ _ _) (fun b hb _ => by have := hb.1; omega)).weak (fun b hb _ => by have := hb.1; omega)
  ·
   exact G3.out.ks (S := w.heap.size + 1) (ks_set9 _ _ _ _ _ _ _ _ _) (by omega) (by omega)
theorem rowS_any (ere : Bool) : RowSaid ere 0 := row_deep ere (fun d HP => ⟨fun aK lK cK aN lN cN B x g z w hA => krow_any ere aK lK cK aN lN cN B d x g z w HP hA⟩)
end Go.Proofs.YtigdmebijbaofaaGreatDoor
