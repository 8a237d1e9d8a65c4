/-
  Texts of this claim: Mak4, Mak5, Rows9, MakR, MakD, And1, Mak8, KSame, SameEq, Talk.
-/
import Derived.Test.YtikmgckefbjbkaaGreatDoorM5
import Derived.Test.YtikmgckefbjbkaaGreatDoorM1
import Derived.Test.YtikmgckefbjbkaaGreatDoorM2
import Derived.Test.YtikmgckefbjbkaaGreatDoorM3

/-! ### Mak4 -/

namespace Go.Proofs.YtikmgckefbjbkaaGreatDoor
open Go.RowKit

/-- How far a call of the maker has come: x numbers read, g groups, z left. s: how many it may read, t: how much may go. -/
structure Gone (B : Nat) (s t : Nat) (x g : Nat) (z : Int) (w w' : World) (g' : Nat) : Prop where
 ex : ∃ (x' : Nat) (z' : Int), Mk w' B (x' : Int) (g' : Int) z' ∧ x' + 8 * (4 - g') ≤ x + 8 * (4 - g) + s ∧ z + 8 * g ≤ z' + 8 * g' + t ∧ z' ≤ z
 km : Km B w w'
/-- What a call of the maker asks. -/
structure Asks (w : World) (aK : Option Addr) (lK : Nat) (aN : Option Addr) (lN : Nat) (B s t x g : Nat) (z : Int) : Prop where
 mm : Mk w B (x : Int) (g : Int) z
 nk : Nums w B aK lK
 nn : Nums w B aN lN
 g3 : g ≤ 3
 bx : x + 8 * (4 - g) + s ≤ 150
 bz : -100 ≤ z + 8 * g - t
 z14 : z ≤ 14
structure RowD (ere : Bool) (B d x g : Nat) (z : Int) (w : World) (e : Ending) (w' : World) : Prop where
 ex : ∃ T v g', e = .returned v ∧ Is w' (fun b => w.heap.size ≤ b) T v ∧ Trip.RGood ere T d g g' ∧ Gone B 4 7 x g z w w' g'
structure RowSaid (ere : Bool) (d : Nat) : Prop where
 all : ∀ (aK : Option Addr) (lK cK : Nat) (aN : Option Addr) (lN cN : Nat) (B x g : Nat) (z : Int) (w : World), Asks w aK lK aN lN B 4 7 x g z → Calls Tryz.prog 28 #[mkv aK lK cK aN lN cN ere B, .int .i64 (d : Int)] w fun e w' => RowD ere B d x g z w e w'
structure PartD (ere : Bool) (B d x g : Nat) (z : Int) (w : World) (e : Ending) (w' : World) : Prop where
 ex : ∃ T v g', e = .returned v ∧ Is w' (fun b => w.heap.size ≤ b) T v ∧ Trip.PGood ere 2 T d g g' ∧ Gone B 1 2 x g z w w' g'
/-- What stands in the part's variable: something that may be repeated. -/
structure Mid (ere : Bool) (B V d g x : Nat) (z : Int) (w w' : World) : Prop where
 ex : ∃ T g' k mn mx m t ad l c, w'.heap[V]? = some (rxo k mn mx m t (.slice ad l c)) ∧ Is w' (fun b => w.heap.size + 1 < b ∧ b ≠ V) T (rxv k mn mx m t (.slice ad l c)) ∧ Trip.PGood ere 1 T d g g' ∧ mayRep T.k = true ∧ Gone B 1 2 x g z w w' g'

theorem Mk.ks {w w' : World} {B S : Nat} {x y z : Int} (h : Mk w B x y z) (k : Ks S w w') (hS : B + 2 < S) : Mk w' B x y z := ⟨bl_ks h.at_ (by omega) k, bl_ks h.gr (by omega) k, bl_ks h.lf (by omega) k⟩
theorem Km.new {B S : Nat} {a b c : World} (h : Km B a b) (k : Ks S b c) (hS : a.heap.size ≤ S) (hB : B ≤ a.heap.size) : Km B a c :=
 ⟨h.lo.trans (Below.mono k.lo (by omega)), fun j hj n0 n1 n2 => (k.block j (Nat.lt_of_lt_of_le hj h.size) (by omega)).trans (h.block j hj n0 n1 n2)⟩
theorem Gone.ks {B s t x g : Nat} {z : Int} {w w' w'' : World} {g' : Nat} {S : Nat} (h : Gone B s t x g z w w' g') (k : Ks S w' w'') (hS : w.heap.size ≤ S) (hB : B + 2 < w.heap.size) : Gone B s t x g z w w'' g' := by
 obtain ⟨x', z', h1, h2, h3, h4⟩ := h.ex
 exact ⟨⟨x', z', h1.ks k (by omega), h2, h3, h4⟩, h.km.new k hS (by omega)⟩
theorem Gone.kp {B s t x g : Nat} {z : Int} {w w' w'' : World} {g' : Nat} (h : Gone B s t x g z w w' g') (k : Kp w' w'') (hB : B + 2 < w.heap.size) : Gone B s t x g z w w'' g' := by
 obtain ⟨x', z', h1, h2, h3, h4⟩ := h.ex
 exact ⟨⟨x', z', h1.kp k, h2, h3, h4⟩, h.km.kp k (by omega)⟩
/-- A condition, and what it says where it holds. -/
structure Bq (P : Prop) (v : Value) : Prop where
 ex : ∃ q : Bool, v = .bool q ∧ (q = true → P)

set_option maxHeartbeats 2000000 in
set_option maxRecDepth 100000 in
theorem kpart_any (aK : Option Addr) (lK cK : Nat) (aN : Option Addr) (lN cN : Nat) (ere : Bool) (B : Nat) (d x g : Nat) (z : Int) (w : World) (hd : d ≤ 3) (HR : d < 3 → RowSaid ere (d + 1)) (hA : Asks w aK lK aN lN B 1 2 x g z) :
  Calls Tryz.prog 62 #[(mkv aK lK cK aN lN cN ere B), .int .i64 (d : Int)] w fun e w' => PartD ere B d x g z w e w' := by
 have HA := hid hA
 have hBw := hA.mm.lt
 have hg3 := hA.g3
 have hbx := hA.bx
 have hbz := hA.bz
 have hz14 := hA.z14
 have RS := hid HR
 clear hA HR
 go_enter Tryz.func62, Tryz.ntmps62
 go_upto_region 1 with fail
 refine opq (fun W0 => W0.heap[w.heap.size]? = some (mko aK lK cK aN lN cN ere B) ∧ W0.heap[(w.heap.size + 1)]? = some rzo ∧ Kp w W0) ⟨by exact bl_alloc (last_of _ _) _, by exact last_at _ _ _ (by simp), by exact (by repeat (first | exact Kp.refl _ | refine Kp.alloc ?_ _ | refine Kp.drew ?_ | refine Kp.drewN _ ?_))⟩ ?_
 rintro W0 ⟨xA0, xR0, xK0⟩
 have A0 : Hid (W0.heap[w.heap.size]? = some (mko aK lK cK aN lN cN ere B)) := xA0
 have R0 : Hid (W0.heap[(w.heap.size + 1)]? = some rzo) := xR0
 have K0 : Hid (Kp w W0) := xK0
 clear xA0 xR0 xK0
 have AS0 := hid (HA.out.mm.kp K0.out)
 have NK0 := hid (HA.out.nk.km (K0.out.km (B := B) (by omega)))
 have NN0 := hid (HA.out.nn.km (K0.out.km (B := B) (by omega)))
 have p0 := bl_cell (A0.out) 0 _ rfl
 have p1 := bl_cell (A0.out) 1 _ rfl
 have p2 := bl_cell (A0.out) 2 _ rfl
 have p3 := bl_cell (A0.out) 3 _ rfl
 have p4 := bl_cell (A0.out) 4 _ rfl
 have p5 := bl_cell (A0.out) 5 _ rfl
 go_wp2_with fail
 refine (next_any aK lK cK aN lN cN ere B x (g : Int) z _ AS0.out NK0.out NN0.out (by omega)).mono ?_
 rintro e W1 ⟨kd, n, rfl, m1, k1⟩
 have hs0 := K0.out.size
 have hs0' : w.heap.size + 1 < W0.heap.size := bl_lt R0.out
 have hs1 := k1.size
 have M1 := hid m1
 have A1 := hid (bl_km A0.out (by omega) k1)
 have R1 := hid (bl_km R0.out (by omega) k1)
 have K1 : Hid (Km B w W1) := (K0.out.km (by omega)).trans k1
 clear m1 k1 AS0 NK0 NN0 A0 R0 p0 p1 p2 p3 p4 p5
 go_upto_region 2 with fail
 have gz : IntKind.i64.wrap (z - 2) = z - 2 := by rw [IntKind.wrap_i64]; omega
 go_cut [] (fun wc => Mk wc B ((x + 1 : Nat) : Int) (g : Int) (z - 2) ∧ wc.heap[w.heap.size]? = some (mko aK lK cK aN lN cN ere B) ∧ wc.heap[w.heap.size + 1]? = some rzo ∧ Km B w wc ∧ W1.heap.size ≤ wc.heap.size)
 case first =>
  have Q0 : Kp W1 W1.drew := (Kp.refl _).drew
  have MK : Hid (∀ W, Kp W1 W → W.cell? ⟨w.heap.size, 5, none⟩ = some (.pointer (some ⟨B + 2, 0, none⟩)) ∧ W.cell? ⟨(B + 2), 0, none⟩ = some (.int .i64 z) ∧ Hid (Kp W1 W)) := fun W k => ⟨bl_cell (bl_kp A1.out k) 5 _ rfl, bl_cell (M1.out.kp k).lf 0 _ rfl, k⟩
  refine wp_region_noPanic ?_
  refine region_Z (z := 8) (S := (fun W => W.cell? ⟨w.heap.size, 5, none⟩ = some (.pointer (some ⟨B + 2, 0, none⟩)) ∧ W.cell? ⟨(B + 2), 0, none⟩ = some (.int .i64 z) ∧ Hid (Kp W1 W))) (by kernel_rfl) ?_ (fun hH => ?_)
  ·
   exact MK.out _ Q0
  have KQ := Q0
  refine anyZ_take (z := 8) (ks := []) (i := 0) (oi := { dst := some 17, op := Op.fieldAddr 61 (Operand.tmp 2) 4, type := 0, pos := "keep.go:100", after := #[], guard := none }) (v := ?v0a1) rfl (by kernel_rfl) (by kernel_rfl) (by kernel_rfl) (by kernel_rfl) (by kernel_rfl) (fun _ _ _ h => h) (Or.inl ⟨by rfl, ?hy0a1⟩) hH ?r0a1
  case hy0a1 => (intro W hSw; (try dsimp only at hSw); go_simp; try (with_reducible rfl))
  try simp only [Act.put, List.setIfInBounds_toArray, List.set_cons_zero, List.set_cons_succ]
  refine anyZ_take (z := 8) (ks := []) (i := 1) (oi := { dst := some 18, op := Op.load 59 (Operand.tmp 17), type := 59, pos := "keep.go:100", after := #[{ on := 0, ground := Ground.data }], guard := none }) (v := ?v1a2) rfl (by kernel_rfl) (by kernel_rfl) (by kernel_rfl) (by kernel_rfl) (by kernel_rfl) (fun _ _ _ h => h) (Or.inl ⟨by rfl, ?hy1a2⟩) hH ?r1a2
  case hy1a2 => (intro W hSw; (try dsimp only at hSw); go_simp; try (with_reducible rfl))
  try simp only [Act.put, List.setIfInBounds_toArray, List.set_cons_zero, List.set_cons_succ]
  refine anyZ_take (z := 8) (ks := []) (i := 2) (oi := { dst := some 19, op := Op.fieldAddr 61 (Operand.tmp 2) 4, type := 0, pos := "keep.go:100", after := #[], guard := none }) (v := ?v2a3) rfl (by kernel_rfl) (by kernel_rfl) (by kernel_rfl) (by kernel_rfl) (by kernel_rfl) (fun _ _ _ h => h) (Or.inl ⟨by rfl, ?hy2a3⟩) hH ?r2a3
  case hy2a3 => (intro W hSw; (try dsimp only at hSw); go_simp; try (with_reducible rfl))
  try simp only [Act.put, List.setIfInBounds_toArray, List.set_cons_zero, List.set_cons_succ]
  refine anyZ_take (z := 8) (ks := []) (i := 3) (oi := { dst := some 20, op := Op.load 59 (Operand.tmp 19), type := 59, pos := "keep.go:100", after := #[{ on := 2, ground := Ground.data }], guard := none }) (v := ?v3a4) rfl (by kernel_rfl) (by kernel_rfl) (by kernel_rfl) (by kernel_rfl) (by kernel_rfl) (fun _ _ _ h => h) (Or.inl ⟨by rfl, ?hy3a4⟩) hH ?r3a4
  case hy3a4 => (intro W hSw; (try dsimp only at hSw); go_simp; try (with_reducible rfl))
  try simp only [Act.put, List.setIfInBounds_toArray, List.set_cons_zero, List.set_cons_succ]
  refine anyZ_take (z := 8) (ks := []) (i := 4) (oi := { dst := some 21, op := Op.nilCheck (Operand.tmp 20), type := 0, pos := "keep.go:100", after := #[{ on := 3, ground := Ground.data }], guard := none }) (v := ?v4a5) rfl (by kernel_rfl) (by kernel_rfl) (by kernel_rfl) (by kernel_rfl) (by kernel_rfl) (fun _ _ _ h => h) (Or.inl ⟨by rfl, ?hy4a5⟩) hH ?r4a5
  case hy4a5 => (intro W hSw; (try dsimp only at hSw); go_simp; try (with_reducible rfl))
  try simp only [Act.put, List.setIfInBounds_toArray, List.set_cons_zero, List.set_cons_succ]
  refine anyZ_take (z := 8) (ks := []) (i := 5) (oi := { dst := some 22, op := Op.load 3 (Operand.tmp 21), type := 3, pos := "keep.go:100", after := #[{ on := 4, ground := Ground.data }], guard := none }) (v := ?v5a6) rfl (by kernel_rfl) (by kernel_rfl) (by kernel_rfl) (by kernel_rfl) (by kernel_rfl) (fun _ _ _ h => h) (Or.inl ⟨by rfl, ?hy5a6⟩) hH ?r5a6
  case hy5a6 => (intro W hSw; (try dsimp only at hSw); go_simp; try (with_reducible rfl))
  try simp only [Act.put, List.setIfInBounds_toArray, List.set_cons_zero, List.set_cons_succ]
  refine anyZ_take (z := 8) (ks := []) (i := 6) (oi := { dst := some 23, op := Op.binOp BinOp.sub 3 (Operand.tmp 22) (Operand.const (Value.int IntKind.i64 2)) 3, type := 3, pos := "keep.go:100", after := #[{ on := 5, ground := Ground.data }], guard := none }) (v := ?v6a7) rfl (by kernel_rfl) (by kernel_rfl) (by kernel_rfl) (by kernel_rfl) (by kernel_rfl) (fun _ _ _ h => h) (Or.inl ⟨by rfl, ?hy6a7⟩) hH ?r6a7
  case hy6a7 => (intro W hSw; (try dsimp only at hSw); go_simp; try (with_reducible rfl))
  try simp only [Act.put, List.setIfInBounds_toArray, List.set_cons_zero, List.set_cons_succ]
  refine anyZ_take (z := 8) (ks := []) (i := 7) (oi := { dst := some 24, op := Op.nilCheck (Operand.tmp 18), type := 0, pos := "keep.go:100", after := #[{ on := 1, ground := Ground.data }, { on := 0, ground := Ground.phase }, { on := 1, ground := Ground.phase }, { on := 2, ground := Ground.phase }, { on := 3, ground := Ground.phase }, { on := 4, ground := Ground.phase }, { on := 5, ground := Ground.phase }, { on := 6, ground := Ground.phase }], guard := none }) (v := ?v7a8) rfl (by kernel_rfl) (by kernel_rfl) (by kernel_rfl) (by kernel_rfl) (by kernel_rfl) (fun _ _ _ h => h) (Or.inl ⟨by rfl, ?hy7a8⟩) hH ?r7a8
  case hy7a8 => (intro W hSw; (try dsimp only at hSw); go_simp; try (with_reducible rfl))
  try simp only [Act.put, List.setIfInBounds_toArray, List.set_cons_zero, List.set_cons_succ]
  refine anyZ_ready (rs := [8]) (by kernel_rfl) (by simp) ?_
  refine AllZ.last (o := { dst := none, op := Op.store 3 (Operand.tmp 24) (Operand.tmp 23), type := 0, pos := "keep.go:100", after := #[{ on := 7, ground := Ground.data }, { on := 6, ground := Ground.data }, { on := 0, ground := Ground.phase }, { on := 1, ground := Ground.phase }, { on := 2, ground := Ground.phase }, { on := 3, ground := Ground.phase }, { on := 4, ground := Ground.phase }, { on := 5, ground := Ground.phase }, { on := 6, ground := Ground.phase }], guard := none }) rfl (Or.inl rfl) (fun K hKq => ?_) AllZ.nil
  have fq2 := bl_frozen (M1.out.kp KQ).lf 0
  have cq2 := bl_cell (M1.out.kp KQ).lf 0 _ rfl
  go_simp
  refine hKq.out _ _ ?_
  clear fq2 cq2
  clear hKq K
  try simp only [Act.put, List.setIfInBounds_toArray, List.set_cons_zero, List.set_cons_succ]
  refine anyZ_done (by kernel_rfl) ?_ _
  refine NoPanic.normal ?_
  go_wp2_with fail
  go_meet
  case rel => exact ⟨(M1.out.kp KQ).setL _, bl_set (bl_kp A1.out KQ) (by omega) _, bl_set (bl_kp R1.out KQ) (by omega) _, (K1.out.kp KQ (by omega)).set 2 (by omega) 0 _, by simp⟩
 case rest =>
 obtain ⟨m2, a2, r2, k2, hs2⟩ := hcut
 rename World => W2
 have M2 := hid m2
 have A2 := hid a2
 have R2 := hid r2
 have K2 := hid k2
 clear m2 a2 r2 k2 M1 A1 R1 K1 gz
 go_wp2_with fail
 refine (byteSet_any n _).mono ?_
 rintro e W3 ⟨q, rfl, hq, k3⟩
 have hs3 := k3.size
 have M3 := hid (M2.out.kp k3)
 have A3 := hid (bl_kp A2.out k3)
 have R3 := hid (bl_kp R2.out k3)
 have K3 := hid (K2.out.kp k3 (by omega))
 have HQ := hid hq
 clear k3 hq M2 A2 R2 K2
 go_upto_region 4 with fail
 refine opq (fun W4w => Mk W4w B ((x + 1 : Nat) : Int) (g : Int) (z - 2) ∧ W4w.heap[w.heap.size]? = some (mko aK lK cK aN lN cN ere B) ∧ W4w.heap[(w.heap.size + 1)]? = some rzo ∧ W4w.heap[W3.heap.size]? = some (rxo 1 0 0 0 (W4.of q) (.slice none 0 0)) ∧ Km B w W4w) ⟨by exact M3.out.kp (by repeat (first | exact Kp.refl _ | refine Kp.alloc ?_ _ | refine Kp.drew ?_ | refine Kp.drewN _ ?_)), by exact bl_kp A3.out (by repeat (first | exact Kp.refl _ | refine Kp.alloc ?_ _ | refine Kp.drew ?_ | refine Kp.drewN _ ?_)), by exact bl_kp R3.out (by repeat (first | exact Kp.refl _ | refine Kp.alloc ?_ _ | refine Kp.drew ?_ | refine Kp.drewN _ ?_)), by (first | exact last_at _ _ _ (by simp) | (refine bl_alloc ?_ _; first | exact last_at _ _ _ (by simp) | (refine bl_alloc ?_ _; first | exact last_at _ _ _ (by simp) | (refine bl_alloc ?_ _; exact last_at _ _ _ (by simp))))), by exact K3.out.kp (by repeat (first | exact Kp.refl _ | refine Kp.alloc ?_ _ | refine Kp.drew ?_ | refine Kp.drewN _ ?_)) (by omega)⟩ ?_
 rintro W4w ⟨xM4, xA4, xR4, xV4, xK4⟩
 have M4 : Hid (Mk W4w B ((x + 1 : Nat) : Int) (g : Int) (z - 2)) := xM4
 have A4 : Hid (W4w.heap[w.heap.size]? = some (mko aK lK cK aN lN cN ere B)) := xA4
 have R4 : Hid (W4w.heap[(w.heap.size + 1)]? = some rzo) := xR4
 have V4 : Hid (W4w.heap[W3.heap.size]? = some (rxo 1 0 0 0 (W4.of q) (.slice none 0 0))) := xV4
 have K4 : Hid (Km B w W4w) := xK4
 clear xM4 xA4 xR4 xV4 xK4
 have hs4 : W3.heap.size < W4w.heap.size := bl_lt V4.out
 clear M3 A3 R3 K3
 go_wp2_with fail
 refine (within_nat _ 9 (by omega) _).mono ?_
 rintro e W4w ⟨c, hc9, rfl, rfl⟩
 have p0 := bl_cell (A4.out) 0 _ rfl
 have p1 := bl_cell (A4.out) 1 _ rfl
 have p2 := bl_cell (A4.out) 2 _ rfl
 have p3 := bl_cell (A4.out) 3 _ rfl
 have p4 := bl_cell (A4.out) 4 _ rfl
 have p5 := bl_cell (A4.out) 5 _ rfl
 have q0 := bl_cell M4.out.lf 0 _ rfl
 have q1 := bl_cell M4.out.gr 0 _ rfl
 go_upto_region 5 with fail
 go_cut [49] (fun v wc => Bq (d < 3 ∧ g < 3) v ∧ Kp W4w wc)
 case first =>
  by_cases h6 : 6 ≤ c
  ·
   have h6i : (6 : Int) ≤ (c : Int) := by omega
   by_cases hl : 3 < z - 2
   ·
    have hli : (3 : Int) < z - 2 := by omega
    by_cases hd3 : d < 3
    ·
     have hd3i : (d : Int) < 3 := by omega
     by_cases hg2 : g < 3
     ·
      have hg2i : (g : Int) < 3 := by omega
      go_wp2_with fail
      go_meet
      case rel => exact ⟨⟨_, rfl, fun _ => ⟨hd3, hg2⟩⟩, Kp.refl _⟩
     ·
      have hg2i : ¬ (g : Int) < 3 := by omega
      go_wp2_with fail
      go_meet
      case rel => exact ⟨⟨_, rfl, fun h => by cases h⟩, Kp.refl _⟩
    ·
     have hd3i : ¬ (d : Int) < 3 := by omega
     go_wp2_with fail
     go_meet
     case rel => exact ⟨⟨_, rfl, fun h => by cases h⟩, Kp.refl _⟩
   ·
    have hli : ¬ (3 : Int) < z - 2 := by omega
    go_wp2_with fail
    go_meet
    case rel => exact ⟨⟨_, rfl, fun h => by cases h⟩, Kp.refl _⟩
  ·
   have h6i : ¬ (6 : Int) ≤ (c : Int) := by omega
   go_wp2_with fail
   go_meet
   case rel => exact ⟨⟨_, rfl, fun h => by cases h⟩, Kp.refl _⟩
 case rest =>
 obtain ⟨⟨⟨q5, rfl, hq5⟩⟩, k5⟩ := hcut
 rename World => W5
 have hs5 := k5.size
 have M5 := hid (M4.out.kp k5)
 have A5 := hid (bl_kp A4.out k5)
 have R5 := hid (bl_kp R4.out k5)
 have V5 := hid (bl_kp V4.out k5)
 have K5 := hid (K4.out.kp k5 (by omega))
 clear k5 M4 A4 R4 V4 K4 q0 q1 p0 p1 p2 p3 p4 p5
 go_upto_if 49 with fail
 go_cut [] (fun wc => Mid ere B W3.heap.size d g x z w wc ∧ wc.heap[w.heap.size + 1]? = some rzo)
 case first =>
  cases q5 with
  | true =>
   obtain ⟨hd3, hg2⟩ := hq5 rfl
   have RSx := hid ((RS.out hd3).all aK lK cK aN lN cN B (x + 1) (g + 1) (z - 2))
   have gg : IntKind.i64.wrap ((g : Int) + 1) = ((g + 1 : Nat) : Int) := by rw [IntKind.wrap_i64]; omega
   have gd : IntKind.i64.wrap ((d : Int) + 1) = ((d + 1 : Nat) : Int) := by rw [IntKind.wrap_i64]; omega
   go_upto_region 6 with fail
   go_cut [] (fun wc => Mk wc B ((x + 1 : Nat) : Int) ((g + 1 : Nat) : Int) (z - 2) ∧ wc.heap[w.heap.size]? = some (mko aK lK cK aN lN cN ere B) ∧ wc.heap[w.heap.size + 1]? = some rzo ∧ wc.heap[W3.heap.size]? = some (rxo 1 0 0 0 (W4.of q) (.slice none 0 0)) ∧ Km B w wc ∧ W5.heap.size ≤ wc.heap.size)
   case first =>
    have Q0 : Kp W5 W5.drew := (Kp.refl _).drew
    have MK : Hid (∀ W, Kp W5 W → W.cell? ⟨w.heap.size, 4, none⟩ = some (.pointer (some ⟨B + 1, 0, none⟩)) ∧ W.cell? ⟨(B + 1), 0, none⟩ = some (.int .i64 (g : Int)) ∧ Hid (Kp W5 W)) := fun W k => ⟨bl_cell (bl_kp A5.out k) 4 _ rfl, bl_cell (M5.out.kp k).gr 0 _ rfl, k⟩
    refine wp_region_noPanic ?_
    refine region_Z (z := 8) (S := (fun W => W.cell? ⟨w.heap.size, 4, none⟩ = some (.pointer (some ⟨B + 1, 0, none⟩)) ∧ W.cell? ⟨(B + 1), 0, none⟩ = some (.int .i64 (g : Int)) ∧ Hid (Kp W5 W))) (by kernel_rfl) ?_ (fun hH => ?_)
    ·
     exact MK.out _ Q0
    have KQ := Q0
    refine anyZ_take (z := 8) (ks := []) (i := 0) (oi := { dst := some 50, op := Op.fieldAddr 61 (Operand.tmp 2) 3, type := 0, pos := "keep.go:104", after := #[], guard := none }) (v := ?v0b1) rfl (by kernel_rfl) (by kernel_rfl) (by kernel_rfl) (by kernel_rfl) (by kernel_rfl) (fun _ _ _ h => h) (Or.inl ⟨by rfl, ?hy0b1⟩) hH ?r0b1
    case hy0b1 => (intro W hSw; (try dsimp only at hSw); go_simp; try (with_reducible rfl))
    try simp only [Act.put, List.setIfInBounds_toArray, List.set_cons_zero, List.set_cons_succ]
    refine anyZ_take (z := 8) (ks := []) (i := 1) (oi := { dst := some 51, op := Op.load 59 (Operand.tmp 50), type := 59, pos := "keep.go:104", after := #[{ on := 0, ground := Ground.data }], guard := none }) (v := ?v1b2) rfl (by kernel_rfl) (by kernel_rfl) (by kernel_rfl) (by kernel_rfl) (by kernel_rfl) (fun _ _ _ h => h) (Or.inl ⟨by rfl, ?hy1b2⟩) hH ?r1b2
    case hy1b2 => (intro W hSw; (try dsimp only at hSw); go_simp; try (with_reducible rfl))
    try simp only [Act.put, List.setIfInBounds_toArray, List.set_cons_zero, List.set_cons_succ]
    refine anyZ_take (z := 8) (ks := []) (i := 2) (oi := { dst := some 52, op := Op.fieldAddr 61 (Operand.tmp 2) 3, type := 0, pos := "keep.go:104", after := #[], guard := none }) (v := ?v2b3) rfl (by kernel_rfl) (by kernel_rfl) (by kernel_rfl) (by kernel_rfl) (by kernel_rfl) (fun _ _ _ h => h) (Or.inl ⟨by rfl, ?hy2b3⟩) hH ?r2b3
    case hy2b3 => (intro W hSw; (try dsimp only at hSw); go_simp; try (with_reducible rfl))
    try simp only [Act.put, List.setIfInBounds_toArray, List.set_cons_zero, List.set_cons_succ]
    refine anyZ_take (z := 8) (ks := []) (i := 3) (oi := { dst := some 53, op := Op.load 59 (Operand.tmp 52), type := 59, pos := "keep.go:104", after := #[{ on := 2, ground := Ground.data }], guard := none }) (v := ?v3b4) rfl (by kernel_rfl) (by kernel_rfl) (by kernel_rfl) (by kernel_rfl) (by kernel_rfl) (fun _ _ _ h => h) (Or.inl ⟨by rfl, ?hy3b4⟩) hH ?r3b4
    case hy3b4 => (intro W hSw; (try dsimp only at hSw); go_simp; try (with_reducible rfl))
    try simp only [Act.put, List.setIfInBounds_toArray, List.set_cons_zero, List.set_cons_succ]
    refine anyZ_take (z := 8) (ks := []) (i := 4) (oi := { dst := some 54, op := Op.nilCheck (Operand.tmp 53), type := 0, pos := "keep.go:104", after := #[{ on := 3, ground := Ground.data }], guard := none }) (v := ?v4b5) rfl (by kernel_rfl) (by kernel_rfl) (by kernel_rfl) (by kernel_rfl) (by kernel_rfl) (fun _ _ _ h => h) (Or.inl ⟨by rfl, ?hy4b5⟩) hH ?r4b5
    case hy4b5 => (intro W hSw; (try dsimp only at hSw); go_simp; try (with_reducible rfl))
    try simp only [Act.put, List.setIfInBounds_toArray, List.set_cons_zero, List.set_cons_succ]
    refine anyZ_take (z := 8) (ks := []) (i := 5) (oi := { dst := some 55, op := Op.load 3 (Operand.tmp 54), type := 3, pos := "keep.go:104", after := #[{ on := 4, ground := Ground.data }], guard := none }) (v := ?v5b6) rfl (by kernel_rfl) (by kernel_rfl) (by kernel_rfl) (by kernel_rfl) (by kernel_rfl) (fun _ _ _ h => h) (Or.inl ⟨by rfl, ?hy5b6⟩) hH ?r5b6
    case hy5b6 => (intro W hSw; (try dsimp only at hSw); go_simp; try (with_reducible rfl))
    try simp only [Act.put, List.setIfInBounds_toArray, List.set_cons_zero, List.set_cons_succ]
    refine anyZ_take (z := 8) (ks := []) (i := 6) (oi := { dst := some 56, op := Op.binOp BinOp.add 3 (Operand.tmp 55) (Operand.const (Value.int IntKind.i64 1)) 3, type := 3, pos := "keep.go:104", after := #[{ on := 5, ground := Ground.data }], guard := none }) (v := ?v6b7) rfl (by kernel_rfl) (by kernel_rfl) (by kernel_rfl) (by kernel_rfl) (by kernel_rfl) (fun _ _ _ h => h) (Or.inl ⟨by rfl, ?hy6b7⟩) hH ?r6b7
    case hy6b7 => (intro W hSw; (try dsimp only at hSw); go_simp; try (with_reducible rfl))
    try simp only [Act.put, List.setIfInBounds_toArray, List.set_cons_zero, List.set_cons_succ]
    refine anyZ_take (z := 8) (ks := []) (i := 7) (oi := { dst := some 57, op := Op.nilCheck (Operand.tmp 51), type := 0, pos := "keep.go:104", after := #[{ on := 1, ground := Ground.data }, { on := 0, ground := Ground.phase }, { on := 1, ground := Ground.phase }, { on := 2, ground := Ground.phase }, { on := 3, ground := Ground.phase }, { on := 4, ground := Ground.phase }, { on := 5, ground := Ground.phase }, { on := 6, ground := Ground.phase }], guard := none }) (v := ?v7b8) rfl (by kernel_rfl) (by kernel_rfl) (by kernel_rfl) (by kernel_rfl) (by kernel_rfl) (fun _ _ _ h => h) (Or.inl ⟨by rfl, ?hy7b8⟩) hH ?r7b8
    case hy7b8 => (intro W hSw; (try dsimp only at hSw); go_simp; try (with_reducible rfl))
    try simp only [Act.put, List.setIfInBounds_toArray, List.set_cons_zero, List.set_cons_succ]
    refine anyZ_ready (rs := [8]) (by kernel_rfl) (by simp) ?_
    refine AllZ.last (o := { dst := none, op := Op.store 3 (Operand.tmp 57) (Operand.tmp 56), type := 0, pos := "keep.go:104", after := #[{ on := 7, ground := Ground.data }, { on := 6, ground := Ground.data }, { on := 0, ground := Ground.phase }, { on := 1, ground := Ground.phase }, { on := 2, ground := Ground.phase }, { on := 3, ground := Ground.phase }, { on := 4, ground := Ground.phase }, { on := 5, ground := Ground.phase }, { on := 6, ground := Ground.phase }], guard := none }) rfl (Or.inl rfl) (fun K hKq => ?_) AllZ.nil
    have fq2 := bl_frozen (M5.out.kp KQ).gr 0
    have cq2 := bl_cell (M5.out.kp KQ).gr 0 _ rfl
    go_simp
    refine hKq.out _ _ ?_
    clear fq2 cq2
    clear hKq K
    try simp only [Act.put, List.setIfInBounds_toArray, List.set_cons_zero, List.set_cons_succ]
    refine anyZ_done (by kernel_rfl) ?_ _
    refine NoPanic.normal ?_
    go_wp2_with fail
    go_meet
    case rel => exact ⟨(M5.out.kp KQ).setG _, bl_set (bl_kp A5.out KQ) (by omega) _, bl_set (bl_kp R5.out KQ) (by omega) _, bl_set (bl_kp V5.out KQ) (by omega) _, (K5.out.kp KQ (by omega)).set 1 (by omega) 0 _, by simp⟩
   case rest =>
   obtain ⟨m6, a6, r6, v6, k6, hs6⟩ := hcut
   rename World => W6
   have M6 := hid m6
   have A6 := hid a6
   have R6 := hid r6
   have V6 := hid v6
   have K6 := hid k6
   have AX := hid (RSx.out W6 ⟨m6, HA.out.nk.km k6, HA.out.nn.km k6, by omega, by omega, by omega, by omega⟩)
   clear m6 a6 r6 v6 k6 M5 A5 R5 V5 K5 gg RSx
   have p0 := bl_cell (A6.out) 0 _ rfl
   have p1 := bl_cell (A6.out) 1 _ rfl
   have p2 := bl_cell (A6.out) 2 _ rfl
   have p3 := bl_cell (A6.out) 3 _ rfl
   have p4 := bl_cell (A6.out) 4 _ rfl
   have p5 := bl_cell (A6.out) 5 _ rfl
   have q1 := bl_cell M6.out.gr 0 _ rfl
   go_wp2_with fail
   refine AX.out.mono ?_
   rintro e W8 ⟨⟨T, v, g', rfl, hI, hG, hGn⟩⟩
   obtain ⟨kk, mn, mx, mm, tt, ad, ll, cc, rfl⟩ := hI.form
   have hs8 := hGn.km.size
   have I8 := hid (hI.weak (ok' := fun b => w.heap.size + 1 < b ∧ b ≠ W3.heap.size) (fun b hb _ => ⟨by omega, by omega⟩))
   have V8 : Hid ((W8.alloc (rxo kk mn mx mm tt (.slice ad ll cc))).heap[W3.heap.size]? = some (rxo 1 0 0 0 (W4.of q) (.slice none 0 0))) := bl_alloc (bl_km V6.out (by omega) hGn.km) _
   have R8 := hid (bl_km R6.out (by omega) hGn.km)
   have K8 := hid (K6.out.trans hGn.km)
   have HG := hid hG
   have GX := hid hGn.ex
   have KI := hid ((RK.single (base := 0) kk mn mx mm tt ad ll cc I8.out (by omega) ⟨by omega, by omega⟩).is 5 0 0 ((g + 1 : Nat) : Int) W4.z)
   clear hI hG hGn M6 A6 R6 V6 K6 q1 I8 p0 p1 p2 p3 p4 p5
   obtain ⟨v0, fv0, v1, fv1, v2, fv2, v3, fv3, v4, fv4, v5, fv5, v6, fv6, v7, fv7, v8, fv8⟩ := cells9 V8.out
   go_wp2_with fail
   go_meet
   case rel =>
    refine ⟨⟨.mk 5 0 0 ((g + 1 : Nat) : Int) W4.z [T], g', 5, 0, 0, ((g + 1 : Nat) : Int), W4.z, _, _, _, bl_set9 V8.out _ _ _ _ _ _ _ _ _, KI.out.ks (ks_set9 _ _ _ _ _ _ _ _ _) (fun b hb _ => hb.2), Trip.group_good ere T d g g' (by omega) (by omega) HG.out, rfl, ?_⟩, bl_set (bl_set (bl_set (bl_set (bl_set (bl_set (bl_set (bl_set (bl_set (bl_alloc R8.out _) (by omega) _) (by omega) _) (by omega) _) (by omega) _) (by omega) _) (by omega) _) (by omega) _) (by omega) _) (by omega) _⟩
    obtain ⟨x', z', h1, h2, h3, h4⟩ := GX.out
    exact Gone.ks ⟨⟨x', z', h1.kp ((Kp.refl _).alloc _), by omega, by omega, by omega⟩, K8.out.kp ((Kp.refl _).alloc _) (by omega)⟩ (ks_set9 _ _ _ _ _ _ _ _ _) (by omega) (by omega)
  | false =>
   have GN5 : Hid (Gone B 1 2 x g z w W5 g) := ⟨⟨x + 1, z - 2, M5.out, by omega, by omega, by omega⟩, K5.out⟩
   have MS : Hid (Mid ere B W3.heap.size d g x z w W5) := ⟨⟨Trip.setR q, g, 1, 0, 0, 0, W4.of q, none, 0, 0, V5.out, Is.leaf _ _ _ _ _ _ _, Trip.set_good ere q HQ.out d g hg3, rfl, GN5.out⟩⟩
   have p0 := bl_cell (A5.out) 0 _ rfl
   have p1 := bl_cell (A5.out) 1 _ rfl
   have p2 := bl_cell (A5.out) 2 _ rfl
   have p3 := bl_cell (A5.out) 3 _ rfl
   have p4 := bl_cell (A5.out) 4 _ rfl
   have p5 := bl_cell (A5.out) 5 _ rfl
   have q1 := bl_cell M5.out.gr 0 _ rfl
   by_cases hc5 : c = 5
   ·
    subst hc5
    by_cases hg0 : 0 < g
    ·
     have hg0i : (0 : Int) < (g : Int) := by omega
     have wl := wit_le n 1 (g : Int) (by omega)
     obtain ⟨b, hb⟩ : ∃ b : Nat, wit n 1 (g : Int) = (b : Int) := ⟨(wit n 1 (g : Int)).toNat, by omega⟩
     rw [hb] at wl
     have WN := hid (fun w => within_any n 1 (g : Int) w (by omega) (by omega) (by omega))
     rw [hb] at WN
     clear hb
     go_wp2_with fail
     refine (WN.out _).mono ?_
     rintro e W5 ⟨rfl, rfl⟩
     obtain ⟨v0, fv0, v1, fv1, v2, fv2, v3, fv3, v4, fv4, v5, fv5, v6, fv6, v7, fv7, v8, fv8⟩ := cells9 V5.out
     go_wp2_with fail
     go_meet
     case rel => exact ⟨⟨.mk 6 0 0 (b : Int) W4.z [], g, 6, 0, 0, (b : Int), W4.z, none, 0, 0, bl_set9 V5.out _ _ _ _ _ _ _ _ _, Is.leaf _ _ _ _ _ _ _, Trip.back_good ere b d g hg3 (by omega) (by omega), rfl, GN5.out.ks (ks_set9 _ _ _ _ _ _ _ _ _) (by omega) (by omega)⟩, bl_set (bl_set (bl_set (bl_set (bl_set (bl_set (bl_set (bl_set (bl_set R5.out (by omega) _) (by omega) _) (by omega) _) (by omega) _) (by omega) _) (by omega) _) (by omega) _) (by omega) _) (by omega) _⟩
    ·
     have hg0i : ¬ (0 : Int) < (g : Int) := by omega
     go_wp2_with fail
     go_meet
     case rel => exact ⟨MS.out, R5.out⟩
   ·
    have hc5i : ((c : Int) == 5) = false := by simp; omega
    have hc5j : ¬ (c : Int) = 5 := by omega
    go_wp2_with fail
    go_meet
    case rel => exact ⟨MS.out, R5.out⟩
 case rest =>
 obtain ⟨⟨T, g', kk, mn, mx, mm, tt, ad, ll, cc, v6, i6, p6, hm6, gn6⟩, r6⟩ := hcut
 rename World => W6
 have V6 := hid v6
 have I6 := hid i6
 have R6 := hid r6
 have hs6 := gn6.km.size
 have hR6 : w.heap.size + 1 < W6.heap.size := bl_lt r6
 have PG := hid p6
 have HM6 := hid hm6
 have GN := hid gn6
 clear v6 i6 r6 p6 hm6 gn6 M5 A5 R5 V5 K5
 obtain ⟨qa, hqa⟩ : ∃ q, (bits .and .i64 (c : Int) 1 == 0) = q := ⟨_, rfl⟩
 obtain ⟨p0, p1, p2, p3, p4, p5, p6, p7, p8⟩ := cells9c V6.out
 obtain ⟨r0, fr0, r1, fr1, r2, fr2, r3, fr3, r4, fr4, r5, fr5, r6, fr6, r7, fr7, r8, fr8⟩ := cells9 R6.out
 cases qa with
 | true =>
  go_wp2_with fail
  refine bodyPost_ret (v := rxv kk mn mx mm tt (.slice ad ll cc)) (rx_ret rfl _ _ _ _ rfl (bl_set9 R6.out _ _ _ _ _ _ _ _ _) rfl) rfl ⟨⟨T, _, g', rfl, ?_, PG.out.more (by omega), ?_⟩⟩
  ·
   exact (I6.out.ks (ks_set9 _ _ _ _ _ _ _ _ _) (fun b hb _ => by omega)).weak (fun b hb _ => by omega)
  ·
   exact GN.out.ks (ks_set9 _ _ _ _ _ _ _ _ _) (by omega) (by omega)
 | false =>
  clear p0 p1 p2 p3 p4 p5 p6 p7 p8 r0 r1 r2 r3 r4 r5 r6 r7 r8 fr0 fr1 fr2 fr3 fr4 fr5 fr6 fr7 fr8
  go_wp2_with fail
  refine (within_nat _ 2 (by omega) _).mono ?_
  rintro e W6 ⟨lo, hlo, rfl, rfl⟩
  obtain ⟨qb, hqb⟩ : ∃ q, (bits .and .i64 n 4 == 4) = q := ⟨_, rfl⟩
  cases qb with
  | true =>
   go_wp2_with fail
   refine (within_nat _ 2 (by omega) _).mono ?_
   rintro e W6 ⟨h2, hh2, rfl, rfl⟩
   obtain ⟨hi, hhi⟩ : ∃ hi : Nat, max lo 1 + h2 = hi := ⟨_, rfl⟩
   have eh : max (lo : Int) 1 + (h2 : Int) = (hi : Int) := by omega
   have ew : IntKind.i64.wrap (max (lo : Int) 1 + (h2 : Int)) = (hi : Int) := by rw [IntKind.wrap_i64]; omega
   have ew2 : IntKind.i64.wrap (hi : Int) = (hi : Int) := by rw [IntKind.wrap_i64]; omega
   go_upto_region 17 with fail
   refine opq (fun W7 => W7.heap[W3.heap.size]? = some (rxo kk mn mx mm tt (.slice ad ll cc)) ∧ Is W7 (fun b => w.heap.size + 1 < b ∧ b ≠ W3.heap.size) T (rxv kk mn mx mm tt (.slice ad ll cc)) ∧ W7.heap[(w.heap.size + 1)]? = some rzo ∧ Gone B 1 2 x g z w W7 g') ⟨by exact V6.out, by exact I6.out, by exact R6.out, by exact GN.out⟩ ?_
   rintro W7 ⟨xV7, xI7, xR7, xGN7⟩
   have V7 : Hid (W7.heap[W3.heap.size]? = some (rxo kk mn mx mm tt (.slice ad ll cc))) := xV7
   have I7 : Hid (Is W7 (fun b => w.heap.size + 1 < b ∧ b ≠ W3.heap.size) T (rxv kk mn mx mm tt (.slice ad ll cc))) := xI7
   have R7 : Hid (W7.heap[(w.heap.size + 1)]? = some rzo) := xR7
   have GN7 : Hid (Gone B 1 2 x g z w W7 g') := xGN7
   clear xV7 xI7 xR7 xGN7
   have hs7 : W3.heap.size < W7.heap.size := bl_lt V7.out
   have KI := hid ((RK.single (base := 0) kk mn mx mm tt ad ll cc I7.out (by omega) ⟨by omega, by omega⟩).is 4 (lo : Int) (hi : Int) 0 W4.z)
   have R8 : Hid ((W7.alloc (rxo kk mn mx mm tt (.slice ad ll cc))).heap[w.heap.size + 1]? = some rzo) := bl_alloc R7.out _
   have GN8 := hid (GN7.out.kp ((Kp.refl _).alloc (rxo kk mn mx mm tt (.slice ad ll cc))) (by omega))
   obtain ⟨p0, p1, p2, p3, p4, p5, p6, p7, p8⟩ := cells9c V7.out
   obtain ⟨r0, fr0, r1, fr1, r2, fr2, r3, fr3, r4, fr4, r5, fr5, r6, fr6, r7, fr7, r8, fr8⟩ := cells9 R8.out
   go_wp2_with fail
   refine bodyPost_ret (v := rxv 4 (lo : Int) (hi : Int) 0 W4.z (.slice (some ⟨W7.heap.size, 0, none⟩) 1 1)) (rx_ret rfl _ _ _ _ rfl (bl_set9 R8.out _ _ _ _ _ _ _ _ _) rfl) rfl ⟨⟨.mk 4 (lo : Int) (hi : Int) 0 W4.z [T], _, g', rfl, ?_, Trip.rep_good ere T (lo : Int) (hi : Int) d g g' PG.out HM6.out (by unfold timesFit; rw [if_neg (by omega)]; simp; omega), ?_⟩⟩
   ·
    exact (KI.out.ks (ks_set9 _ _ _ _ _ _ _ _ _) (fun b hb _ => by omega)).weak (fun b hb _ => by omega)
   ·
    exact GN8.out.ks (ks_set9 _ _ _ _ _ _ _ _ _) (by omega) (by omega)
  | false =>
   go_upto_region 17 with fail
   refine opq (fun W7 => W7.heap[W3.heap.size]? = some (rxo kk mn mx mm tt (.slice ad ll cc)) ∧ Is W7 (fun b => w.heap.size + 1 < b ∧ b ≠ W3.heap.size) T (rxv kk mn mx mm tt (.slice ad ll cc)) ∧ W7.heap[(w.heap.size + 1)]? = some rzo ∧ Gone B 1 2 x g z w W7 g') ⟨by exact V6.out, by exact I6.out, by exact R6.out, by exact GN.out⟩ ?_
   rintro W7 ⟨xV7, xI7, xR7, xGN7⟩
   have V7 : Hid (W7.heap[W3.heap.size]? = some (rxo kk mn mx mm tt (.slice ad ll cc))) := xV7
   have I7 : Hid (Is W7 (fun b => w.heap.size + 1 < b ∧ b ≠ W3.heap.size) T (rxv kk mn mx mm tt (.slice ad ll cc))) := xI7
   have R7 : Hid (W7.heap[(w.heap.size + 1)]? = some rzo) := xR7
   have GN7 : Hid (Gone B 1 2 x g z w W7 g') := xGN7
   clear xV7 xI7 xR7 xGN7
   have hs7 : W3.heap.size < W7.heap.size := bl_lt V7.out
   have KI := hid ((RK.single (base := 0) kk mn mx mm tt ad ll cc I7.out (by omega) ⟨by omega, by omega⟩).is 4 (lo : Int) (-1) 0 W4.z)
   have R8 : Hid ((W7.alloc (rxo kk mn mx mm tt (.slice ad ll cc))).heap[w.heap.size + 1]? = some rzo) := bl_alloc R7.out _
   have GN8 := hid (GN7.out.kp ((Kp.refl _).alloc (rxo kk mn mx mm tt (.slice ad ll cc))) (by omega))
   obtain ⟨p0, p1, p2, p3, p4, p5, p6, p7, p8⟩ := cells9c V7.out
   obtain ⟨r0, fr0, r1, fr1, r2, fr2, r3, fr3, r4, fr4, r5, fr5, r6, fr6, r7, fr7, r8, fr8⟩ := cells9 R8.out
   go_wp2_with fail
   refine bodyPost_ret (v := rxv 4 (lo : Int) (-1) 0 W4.z (.slice (some ⟨W7.heap.size, 0, none⟩) 1 1)) (rx_ret rfl _ _ _ _ rfl (bl_set9 R8.out _ _ _ _ _ _ _ _ _) rfl) rfl ⟨⟨.mk 4 (lo : Int) (-1) 0 W4.z [T], _, g', rfl, ?_, Trip.rep_good ere T (lo : Int) (-1) d g g' PG.out HM6.out (by unfold timesFit; rw [if_neg (by omega)]; simp), ?_⟩⟩
   ·
    exact (KI.out.ks (ks_set9 _ _ _ _ _ _ _ _ _) (fun b hb _ => by omega)).weak (fun b hb _ => by omega)
   ·
    exact GN8.out.ks (ks_set9 _ _ _ _ _ _ _ _ _) (by omega) (by omega)
end Go.Proofs.YtikmgckefbjbkaaGreatDoor

/-! ### Mak5 -/

namespace Go.Proofs.YtikmgckefbjbkaaGreatDoor
open Go.RowKit

theorem RKids.km {base B : Nat} {w w' : World} {v : Value} {ts : List Rx} (h : RKids base w v ts) (k : Km B w w') (hB : B + 2 < base) : RKids base w' v ts := h.turn k.size (fun b hb hl => k.block b hl (by omega) (by omega) (by omega))
theorem Km.grown {B : Nat} {a b c : World} {row : Option Nat} (h : Km B a b) (gr : b.grownBy c row) (hr : ∀ k, row = some k → a.heap.size ≤ k) (hB : B ≤ a.heap.size) : Km B a c :=
 ⟨⟨gr.os.trans h.lo.os, gr.tape.trans h.lo.tape, gr.output.trans h.lo.output, Nat.le_trans h.size gr.size, fun k hk => (gr.block k (Nat.lt_of_lt_of_le (Nat.lt_of_lt_of_le hk hB) h.size) (fun e => by have := hr k e.symm; omega)).trans (h.lo.block k hk)⟩,
  fun k hk n0 n1 n2 => (gr.block k (Nat.lt_of_lt_of_le hk h.size) (fun e => by have := hr k e.symm; omega)).trans (h.block k hk n0 n1 n2)⟩
theorem bl_gr {w w' : World} {S : Nat} {o : Obj} {row : Option Nat} (h : w.heap[S]? = some o) (gr : w.grownBy w' row) (hr : row ≠ some S) : w'.heap[S]? = some o := (gr.block S (bl_lt h) (fun e => hr e.symm)).trans h
theorem Gone.grown {B s t x g : Nat} {z : Int} {w w' w'' : World} {g' : Nat} {row : Option Nat} (h : Gone B s t x g z w w' g') (gr : w'.grownBy w'' row) (hr : ∀ k, row = some k → w.heap.size ≤ k) (hB : B + 2 < w.heap.size) : Gone B s t x g z w w'' g' := by
 obtain ⟨x', z', h1, h2, h3, h4⟩ := h.ex
 exact ⟨⟨x', z', ⟨bl_gr h1.at_ gr (fun e => by have := hr _ e; omega), bl_gr h1.gr gr (fun e => by have := hr _ e; omega), bl_gr h1.lf gr (fun e => by have := hr _ e; omega)⟩, h2, h3, h4⟩, h.km.grown gr hr (by omega)⟩
theorem LG_one {ere : Bool} {d : Nat} {r : Rx} {g g' : Nat} (h : Trip.LG ere d [r] g g') : Trip.PGood ere 2 r d g g' := by
 cases h with
 | cons h r =>
  cases r
  exact h
structure PartsD (ere : Bool) (B d m x g : Nat) (z : Int) (w : World) (e : Ending) (w' : World) : Prop where
 ex : ∃ T v g', e = .returned v ∧ Is w' (fun b => w.heap.size + 2 ≤ b) T v ∧ (m = 1 → Trip.PGood ere 2 T d g g') ∧ (2 ≤ m → ∃ ks kv, v = rxv 2 0 0 0 W4.z kv ∧ T = .mk 2 0 0 0 W4.z ks ∧ RKids (w.heap.size + 2) w' kv ks ∧ ks.length = m ∧ Trip.LG ere d ks g g') ∧ Gone B m (2 * m) x g z w w' g'
/-- What is asked of a part. -/
structure PartSaid (ere : Bool) (d : Nat) : Prop where
 all : ∀ (aK : Option Addr) (lK cK : Nat) (aN : Option Addr) (lN cN : Nat) (B x g : Nat) (z : Int) (w : World), Asks w aK lK aN lN B 1 2 x g z → Calls Tryz.prog 62 #[mkv aK lK cK aN lN cN ere B, .int .i64 (d : Int)] w fun e w' => PartD ere B d x g z w e w'
set_option maxHeartbeats 2000000 in
set_option maxRecDepth 100000 in
theorem parts_any (aK : Option Addr) (lK cK : Nat) (aN : Option Addr) (lN cN : Nat) (ere : Bool) (B : Nat) (d m x g : Nat) (z : Int) (w : World) (hm1 : 1 ≤ m) (hm3 : m ≤ 3) (HP : PartSaid ere d) (hA : Asks w aK lK aN lN B m (2 * m) x g z) :
  Calls Tryz.prog 43 #[(mkv aK lK cK aN lN cN ere B), .int .i64 (d : Int), .int .i64 (m : Int)] w fun e w' => PartsD ere B d m x g z w e w' := by
 have HA := hid hA
 have hBw := hA.mm.lt
 have hg3 := hA.g3
 have hbx := hA.bx
 have hbz := hA.bz
 have hz14 := hA.z14
 have HPS := hid HP
 clear hA HP
 go_enter Tryz.func43, Tryz.ntmps43
 go_upto_region 1 with fail
 refine opq (fun W0 => W0.heap[w.heap.size]? = some (mko aK lK cK aN lN cN ere B) ∧ W0.heap[(w.heap.size + 1)]? = some rzo ∧ Kp w W0) ⟨by exact bl_alloc (last_of _ _) _, by exact last_at _ _ _ (by simp), by exact (by repeat (first | exact Kp.refl _ | refine Kp.alloc ?_ _ | refine Kp.drew ?_ | refine Kp.drewN _ ?_))⟩ ?_
 rintro W0 ⟨xA0, xR0, xK0⟩
 have A0 : Hid (W0.heap[w.heap.size]? = some (mko aK lK cK aN lN cN ere B)) := xA0
 have R0 : Hid (W0.heap[(w.heap.size + 1)]? = some rzo) := xR0
 have K0 : Hid (Kp w W0) := xK0
 clear xA0 xR0 xK0
 have hs0 : w.heap.size + 1 < W0.heap.size := bl_lt R0.out
 go_wp2_with fail
 go_loopg [7, 9] (m + 1) (fun gk v7 v9 wr => ∃ (i g1 : Nat) (ks : List Rx), v9 = .int .i64 (i : Int) ∧ i ≤ m ∧ m < gk + i ∧ ks.length = i ∧ Trip.LG ere d ks g g1 ∧ RKids (w.heap.size + 2) wr v7 ks ∧ Gone B i (2 * i) x g z w wr g1 ∧ wr.heap[w.heap.size]? = some (mko aK lK cK aN lN cN ere B) ∧ wr.heap[w.heap.size + 1]? = some rzo)
 case atStart => exact ⟨0, g, [], rfl, by omega, by omega, rfl, .nil _, RKids.nil _ _, ⟨⟨x, z, HA.out.mm.kp K0.out, by omega, by omega, by omega⟩, K0.out.km (by omega)⟩, A0.out, R0.out⟩
 case round =>
  obtain ⟨i, g1, ks, rfl, hi, hgk, hlen, hLG, hRK, hGo, hA1, hR1⟩ := hrel
  have LG := hid hLG
  have RKx := hid hRK
  have GO := hid hGo
  have A1 := hid hA1
  have R1 := hid hR1
  have hs1 : w.heap.size + 1 < wr.heap.size := bl_lt hR1
  have hgl := hLG.facts.1
  have hgl3 := hLG.facts.2.1 hg3
  clear hLG hRK hGo hA1 hR1
  by_cases hlt : i < m
  ·
   have hli : (i : Int) < (m : Int) := by omega
   have gi : IntKind.i64.wrap ((i : Int) + 1) = (i : Int) + 1 := by rw [IntKind.wrap_i64]; omega
   obtain ⟨x1, z1, m1, b1, b2, b3⟩ := GO.out.ex
   have PX := hid (HPS.out.all aK lK cK aN lN cN B x1 g1 z1 wr ⟨m1, HA.out.nk.km GO.out.km, HA.out.nn.km GO.out.km, hgl3, by omega, by omega, by omega⟩)
   clear m1
   have p0 := bl_cell (A1.out) 0 _ rfl
   have p1 := bl_cell (A1.out) 1 _ rfl
   have p2 := bl_cell (A1.out) 2 _ rfl
   have p3 := bl_cell (A1.out) 3 _ rfl
   have p4 := bl_cell (A1.out) 4 _ rfl
   have p5 := bl_cell (A1.out) 5 _ rfl
   go_wp2_with fail
   refine PX.out.mono ?_
   rintro e W2 ⟨⟨T, v, g2, rfl, hI, hPG, hGn⟩⟩
   obtain ⟨kk, mn, mx, mm, tt, ad, ll, cc, rfl⟩ := hI.form
   have hs2 := hGn.km.size
   have RK2 := hid (RKx.out.km hGn.km (by omega))
   have HI2 : Hid (Is W2 (fun b => w.heap.size + 2 ≤ b ∧ u7.ownBlock ≠ some b) T (rxv kk mn mx mm tt (.slice ad ll cc))) := hI.weak (fun b hb _ => ⟨by omega, fun e => by have := (RKx.out.block b e).2; omega⟩)
   have hub : ∀ k, u7.ownBlock = some k → w.heap.size + 2 ≤ k := fun k e => (RKx.out.block k e).1
   have HUB := hid hub
   have A2 := hid (bl_km A1.out (by omega) hGn.km)
   have R2 := hid (bl_km R1.out (by omega) hGn.km)
   obtain ⟨x2, z2, m2, c1, c2, c3⟩ := hGn.ex
   have hPl := hPG.le
   have GO2 : Hid (Gone B (i + 1) (2 * (i + 1)) x g z w W2 g2) := ⟨⟨x2, z2, m2, by omega, by omega, by omega⟩, GO.out.km.trans hGn.km⟩
   have LG2 := hid (LG.out.snoc hPG)
   clear hI hPG hGn hub m2 A1 R1 GO RKx LG p0 p1 p2 p3 p4 p5
   go_wp2_with (at_builtin; go_must (refine wpList_append_rx W2 (by rfl) _ _ (by rfl) (w.heap.size + 2) u7 ks T (by rfl) RK2 kk mn mx mm tt ad ll cc HI2 _ (by rfl) (by rfl) ?h1 ?h2 ?_))
   case h1 => omega
   case h2 => omega
   intro v' w' hk' hg'
   have HK' := hid hk'
   have GO3 := hid (GO2.out.grown hg' (fun k e => by have := HUB.out k e; omega) (by omega))
   have A3 := hid (bl_gr A2.out hg' (fun e => by have := HUB.out _ e; omega))
   have R3 := hid (bl_gr R2.out hg' (fun e => by have := HUB.out _ e; omega))
   clear hk' hg' A2 R2 GO2 RK2 HI2
   go_wp2_with fail
   go_roundg (gk - 1)
   case measure => omega
   case rel => exact ⟨i + 1, g2, ks ++ [T], by go_num, by omega, by omega, by simp [hlen], LG2.out, HK'.out, GO3.out, A3.out, R3.out⟩
  ·
   have hli : ¬ (i : Int) < (m : Int) := by omega
   have him : i = m := by omega
   subst him
   by_cases h1 : i = 1
   ·
    subst h1
    obtain ⟨r, rfl⟩ : ∃ r, ks = [r] := List.length_eq_one_iff.1 hlen
    obtain ⟨gb, cap, hv4, hcap, hb1, hb2, hcells⟩ := RKx.out.get (by simp)
    obtain ⟨u, hIs, hCe⟩ := hcells 0 r rfl
    obtain ⟨kk, mn, mx, mm, tt, ad, ll, cc, rfl⟩ := hIs.form
    have IS := hid hIs
    have a0 := hCe 0 _ rfl
    have a1 := hCe 1 _ rfl
    have a2 := hCe 2 _ rfl
    have a3 := hCe 3 _ rfl
    have a4 := hCe 4 _ rfl
    have a5 := hCe 5 _ rfl
    have a6 := hCe 6 _ rfl
    have a7 := hCe 7 _ rfl
    have a8 := hCe 8 _ rfl
    simp only [Nat.mul_zero, Nat.zero_add] at a0 a1 a2 a3 a4 a5 a6 a7 a8
    have hv4' : u7 = .slice (some ⟨gb, 0, none⟩) 1 cap := hv4
    clear hv4 hCe hcells hIs
    subst hv4'
    obtain ⟨r0, fr0, r1, fr1, r2, fr2, r3, fr3, r4, fr4, r5, fr5, r6, fr6, r7, fr7, r8, fr8⟩ := cells9 R1.out
    go_wp2_with fail
    refine bodyPost_ret (v := rxv kk mn mx mm tt (.slice ad ll cc)) (rx_ret rfl _ _ _ _ rfl (bl_set9 R1.out _ _ _ _ _ _ _ _ _) rfl) rfl ⟨⟨r, _, g1, rfl, ?_, fun _ => LG_one LG.out, fun h => by omega, ?_⟩⟩
    ·
     exact (IS.out.ks (ks_set9 _ _ _ _ _ _ _ _ _) (fun b hb _ => by have := hb.1; omega)).weak (fun b hb _ => hb.1)
    ·
     exact GO.out.ks (S := w.heap.size + 1) (ks_set9 _ _ _ _ _ _ _ _ _) (by omega) (by omega)
   ·
    subst hlen
    obtain ⟨ad, cap, hv4, hcap⟩ := RKx.out.form
    have g1 : ((ks.length : Int) == 1) = false := by simp; omega
    have g1' : ¬ (ks.length : Int) = 1 := by omega
    have g1'' : ¬ ks.length = 1 := by omega
    subst hv4
    obtain ⟨r0, fr0, r1, fr1, r2, fr2, r3, fr3, r4, fr4, r5, fr5, r6, fr6, r7, fr7, r8, fr8⟩ := cells9 R1.out
    go_wp2_with fail
    refine bodyPost_ret (v := rxv 2 0 0 0 W4.z (.slice ad ks.length cap)) (rx_ret rfl _ _ _ _ rfl (bl_set9 R1.out _ _ _ _ _ _ _ _ _) rfl) rfl ⟨⟨.mk 2 0 0 0 W4.z ks, _, _, rfl, ?_, fun h => absurd h h1, fun _ => ⟨ks, _, rfl, rfl, ?_, rfl, LG.out⟩, ?_⟩⟩
    ·
     exact ((RKx.out.is 2 0 0 0 W4.z).ks (ks_set9 _ _ _ _ _ _ _ _ _) (fun b hb _ => by omega)).weak (fun b hb _ => by omega)
    ·
     exact RKx.out.ks (ks_set9 _ _ _ _ _ _ _ _ _) (by omega)
    ·
     exact GO.out.ks (S := w.heap.size + 1) (ks_set9 _ _ _ _ _ _ _ _ _) (by omega) (by omega)
end Go.Proofs.YtikmgckefbjbkaaGreatDoor

/-! ### Rows9 -/

namespace Go.Proofs.YtikmgckefbjbkaaGreatDoor
open Go.RowKit

theorem rowOf_one9 : ∀ (vs : List Value), (∀ v ∈ vs, ∃ k mn mx m t ad l c, v = rxv k mn mx m t (.slice ad l c)) → (∀ u ∈ rowOf vs, u.oneCell' = true) ∧ (rowOf vs).length = vs.length * 9
 | [], _ => ⟨by intro u hu; simp [rowOf] at hu, rfl⟩
 | v :: vs, h => by
  obtain ⟨k, mn, mx, m, t, ad, l, c, rfl⟩ := h v (by simp)
  obtain ⟨i1, i2⟩ := rowOf_one9 vs (fun x hx => h x (by simp [hx]))
  have e : rowOf (rxv k mn mx m t (.slice ad l c) :: vs) = cellsOf (rxv k mn mx m t (.slice ad l c)) ++ rowOf vs := by simp [rowOf]
  rw [e]
  refine ⟨fun u hu => ?_, ?_⟩
  ·
   rcases List.mem_append.1 hu with hu | hu
   ·
    exact rx_one _ _ _ _ _ _ _ _ u hu
   ·
    exact i1 u hu
  ·
   rw [List.length_append, i2, List.length_cons]
   show 9 + vs.length * 9 = _
   omega
/-- Trees that lie in a row of their own, put behind those that the call owns. -/
theorem wpList_append_rows {ops : Array Oper} {rest : List Oper} {o : Oper} {a : Act} {Q : Exit → Act → World → Prop} (W : World) (hgd : o.guard = none) (s x : Operand)
  (ho : o.op = .call { callee := .builtin .append, args := #[s, x], argTypes := #[25, 25] })
  (base : Nat) (v u : Value) (ts us : List Rx) (hs : a.eval s = v) (hK : Hid (RKids base W v ts)) (hne : 0 < us.length)
  (hU : Hid (∃ ys : List Value, ys.length = us.length ∧ W.ownsRow base 27 9 u us.length (rowOf ys) ∧ ∀ (j : Nat) t y, us[j]? = some t → ys[j]? = some y → Is W (fun b => base ≤ b ∧ v.ownBlock ≠ some b) t y))
  (hx : a.eval x = u) (h63 : ts.length + us.length ≤ 1000000) (hbase : base ≤ W.heap.size)
  (h : ∀ v' w', RKids base w' v' (ts ++ us) → W.grownBy w' v.ownBlock → wpList Tryz.prog ops Q rest (a.put o.dst v') w') :
  wpList Tryz.prog ops Q (o :: rest) a W := by
 obtain ⟨i, hi, hz, hsz, hby⟩ := info27
 obtain ⟨vs, hv1, hv2, hv3⟩ := hK.out.ex
 obtain ⟨ys, hy1, hy2, hy3⟩ := hU.out
 obtain ⟨g, cap, hu, hcap, hbg, hgl, hcell⟩ := owns_cells hy2 hne
 have hform : ∀ y ∈ ys, ∃ k mn mx m t ad l c, y = rxv k mn mx m t (.slice ad l c) := by
  intro y hy
  obtain ⟨q, hq⟩ := List.mem_iff_getElem?.1 hy
  have hq' : q < us.length := by rw [← hy1]; exact (List.getElem?_eq_some_iff.1 hq).1
  exact (hy3 q _ y (List.getElem?_eq_getElem hq') hq).form
 obtain ⟨o1, o2⟩ := rowOf_one9 ys hform
 refine wpList_append_own_at W hgd s x 25 ho base 27 i rz 9 88 Tryz.underlying25 hi hz hsz hby rfl (by omega) v ts.length (rowOf vs) hs hv2 ⟨g, 0, none⟩ us.length cap (rowOf ys) (hx.trans hu) (by rw [o2, hy1]) ?_ o1 (by unfold maxLen; omega) (by omega) hbase ?_
 ·
  intro j y hj
  rw [show (⟨g, 0, none⟩ : Addr).add j = ⟨g, j, none⟩ by simp [Addr.add]; exact Eq.symm]
  exact hcell j y hj
 ·
  intro v' w' a1 a2 _ a4
  refine h v' w' ⟨vs ++ ys, by simp [hv1, hy1], ?_, ?_⟩ a2
  ·
   rw [List.length_append, rowOf_append]; exact a1
  ·
   have hok : ∀ b, (base ≤ b ∧ v.ownBlock ≠ some b) → b < W.heap.size → (base ≤ b ∧ v'.ownBlock ≠ some b) ∧ w'.heap[b]? = W.heap[b]? := by
    intro b hb hl
    refine ⟨⟨hb.1, ?_⟩, a2.block b hl (Ne.symm hb.2)⟩
    rcases a4 with a4 | a4
    ·
     rw [a4]; exact hb.2
    ·
     rw [a4]; intro he; injection he with he; omega
   intro j t' y hj hy
   by_cases hlt : j < ts.length
   ·
    rw [List.getElem?_append_left hlt] at hj
    rw [List.getElem?_append_left (by omega)] at hy
    exact Is.turn a2.size hok t' y (hv3 j t' y hj hy)
   ·
    rw [List.getElem?_append_right (by omega)] at hj
    rw [List.getElem?_append_right (by omega), hv1] at hy
    exact Is.turn a2.size hok t' y (hy3 _ t' y hj hy)
/-- Trees that lie in a row of their own, put behind those that the call owns. -/
theorem wpList_append_rkr {ops : Array Oper} {rest : List Oper} {o : Oper} {a : Act} {Q : Exit → Act → World → Prop} (W : World) (hgd : o.guard = none) (s x : Operand)
  (ho : o.op = .call { callee := .builtin .append, args := #[s, x], argTypes := #[25, 25] })
  (ok : Nat → Prop) (base : Nat) (v u : Value) (ts us : List Rx) (hs : a.eval s = v) (hnew : ∀ b, W.heap.size ≤ b → ok b) (hK : Hid (RK ok base W v ts)) (hne : 0 < us.length)
  (hU : Hid (∃ ys : List Value, ys.length = us.length ∧ W.ownsRow base 27 9 u us.length (rowOf ys) ∧ ∀ (j : Nat) t y, us[j]? = some t → ys[j]? = some y → Is W (fun b => ok b ∧ v.ownBlock ≠ some b) t y))
  (hx : a.eval x = u) (h63 : ts.length + us.length ≤ 1000000) (hbase : base ≤ W.heap.size)
  (h : ∀ v' w', RK ok base w' v' (ts ++ us) → W.grownBy w' v.ownBlock → wpList Tryz.prog ops Q rest (a.put o.dst v') w') :
  wpList Tryz.prog ops Q (o :: rest) a W := by
 obtain ⟨i, hi, hz, hsz, hby⟩ := info27
 obtain ⟨vs, hv1, hv2, hv0, hv3⟩ := hK.out.ex
 obtain ⟨ys, hy1, hy2, hy3⟩ := hU.out
 obtain ⟨g, cap, hu, hcap, hbg, hgl, hcell⟩ := owns_cells hy2 hne
 have hform : ∀ y ∈ ys, ∃ k mn mx m t ad l c, y = rxv k mn mx m t (.slice ad l c) := by
  intro y hy
  obtain ⟨q, hq⟩ := List.mem_iff_getElem?.1 hy
  have hq' : q < us.length := by rw [← hy1]; exact (List.getElem?_eq_some_iff.1 hq).1
  exact (hy3 q _ y (List.getElem?_eq_getElem hq') hq).form
 obtain ⟨o1, o2⟩ := rowOf_one9 ys hform
 refine wpList_append_own_at W hgd s x 25 ho base 27 i rz 9 88 Tryz.underlying25 hi hz hsz hby rfl (by omega) v ts.length (rowOf vs) hs hv2 ⟨g, 0, none⟩ us.length cap (rowOf ys) (hx.trans hu) (by rw [o2, hy1]) ?_ o1 (by unfold maxLen; omega) (by omega) hbase ?_
 ·
  intro j y hj
  rw [show (⟨g, 0, none⟩ : Addr).add j = ⟨g, j, none⟩ by simp [Addr.add]; exact Eq.symm]
  exact hcell j y hj
 ·
  intro v' w' a1 a2 _ a4
  refine h v' w' ⟨vs ++ ys, by simp [hv1, hy1], ?_, ?_, ?_⟩ a2
  ·
   rw [List.length_append, rowOf_append]; exact a1
  ·
   intro b hb
   rcases a4 with a4 | a4
   ·
    rw [a4] at hb; exact hv0 b hb
   ·
    rw [a4] at hb; injection hb with hb; exact hnew b (by omega)
  ·
   have hok : ∀ b, (ok b ∧ v.ownBlock ≠ some b) → b < W.heap.size → (ok b ∧ v'.ownBlock ≠ some b) ∧ w'.heap[b]? = W.heap[b]? := by
    intro b hb hl
    refine ⟨⟨hb.1, ?_⟩, a2.block b hl (Ne.symm hb.2)⟩
    rcases a4 with a4 | a4
    ·
     rw [a4]; exact hb.2
    ·
     rw [a4]; intro he; injection he with he; omega
   intro j t' y hj hy
   by_cases hlt : j < ts.length
   ·
    rw [List.getElem?_append_left hlt] at hj
    rw [List.getElem?_append_left (by omega)] at hy
    exact Is.turn a2.size hok t' y (hv3 j t' y hj hy)
   ·
    rw [List.getElem?_append_right (by omega)] at hj
    rw [List.getElem?_append_right (by omega), hv1] at hy
    exact Is.turn a2.size hok t' y (hy3 _ t' y hj hy)
end Go.Proofs.YtikmgckefbjbkaaGreatDoor

/-! ### MakR -/

namespace Go.Proofs.YtikmgckefbjbkaaGreatDoor
open Go.RowKit

/-- What stands in the row's variable: so many parts. -/
structure RMid (ere : Bool) (B d g x : Nat) (z : Int) (w : World) (v : Value) (w' : World) : Prop where
 ex : ∃ V T g' m k mn mx mm t ad l c, v = .pointer (some ⟨V, 0, none⟩) ∧ w.heap.size + 1 < V ∧ 1 ≤ m ∧ m ≤ 3 ∧ w'.heap[V]? = some (rxo k mn mx mm t (.slice ad l c)) ∧ Is w' (fun b => w.heap.size + 1 < b ∧ b ≠ V) T (rxv k mn mx mm t (.slice ad l c)) ∧
  (m = 1 → Trip.PGood ere 2 T d g g') ∧ (2 ≤ m → ∃ ks, k = 2 ∧ mn = 0 ∧ mx = 0 ∧ mm = 0 ∧ t = W4.z ∧ T = .mk 2 0 0 0 W4.z ks ∧ RK (fun b => w.heap.size + 1 < b ∧ b ≠ V) (w.heap.size + 2) w' (.slice ad l c) ks ∧ ks.length = m ∧ Trip.LG ere d ks g g') ∧
  w'.heap[w.heap.size + 1]? = some rzo ∧ Gone B 4 7 x g z w w' g'

/-- The row's variable behind the parts. -/
theorem rmid_of {ere : Bool} {B d g x m V : Nat} {z : Int} {w W2 cur Yp Yq Wf : World} {T : Rx} {g' : Nat} {k mn mx mm : Int} {t : W4} {ad : Option Addr} {l c : Nat} (hBw : B + 2 < w.heap.size) (_hg3 : g ≤ 3) (h1 : 1 ≤ m) (h3 : m ≤ 3)
  (hs : w.heap.size + 1 < W2.heap.size) (K2 : Km B w W2) (kc : Kp W2 cur) (hV : w.heap.size + 1 < V) (hVY : V < cur.heap.size + 2 ∨ Yp.heap.size ≤ V) (R2 : W2.heap[w.heap.size + 1]? = some rzo)
  (hI : Is Yp (fun b => cur.heap.size + 2 ≤ b) T (rxv k mn mx mm t (.slice ad l c))) (hP : m = 1 → Trip.PGood ere 2 T d g g')
  (hL : 2 ≤ m → ∃ ks kv, rxv k mn mx mm t (.slice ad l c) = rxv 2 0 0 0 W4.z kv ∧ T = .mk 2 0 0 0 W4.z ks ∧ RKids (cur.heap.size + 2) Yp kv ks ∧ ks.length = m ∧ Trip.LG ere d ks g g')
  (hG : Gone B m (2 * m) (x + 1) g (z - 1) cur Yp g') (_hgg : g ≤ g') (kq : Kp Yp Yq) (kf : Ks V Yq Wf) (hf : Wf.heap[V]? = some (rxo k mn mx mm t (.slice ad l c))) : RMid ere B d g x z w (.pointer (some ⟨V, 0, none⟩)) Wf := by
 have hsc := kc.size
 have hsy := hG.km.size
 have hsq := kq.size
 refine ⟨V, T, g', m, k, mn, mx, mm, t, ad, l, c, rfl, hV, h1, h3, hf, ?_, hP, ?_, ?_, ?_⟩
 ·
  refine Is.turn (Nat.le_trans hsq kf.size) (fun b hb hl => ⟨⟨by omega, by omega⟩, (kf.block b (by omega) (by omega)).trans (kq.block b hl)⟩) _ _ hI
 ·
  intro h2
  obtain ⟨ks, kv, he, hT, hR, hl, hLG⟩ := hL h2
  injection he with he
  injection he with he
  simp at he
  obtain ⟨rfl, rfl, rfl, rfl, e1, e2, e3, e4, rfl⟩ := he
  refine ⟨ks, rfl, rfl, rfl, rfl, ?_, hT, ?_, hl, hLG⟩
  ·
   obtain ⟨t1, t2, t3, t4⟩ := t
   unfold W4.z at e1 e2 e3 e4 ⊢
   simp at e1 e2 e3 e4
   rw [e1, e2, e3, e4]
  ·
   obtain ⟨vs, i1, i2, i3⟩ := hR.ex
   have hlt : ∀ b, (Value.slice ad l c).ownBlock = some b → cur.heap.size + 2 ≤ b ∧ b < Yp.heap.size := hR.block
   refine ⟨vs, i1, ?_, fun b hb => ?_, fun j t' u hj hu => ?_⟩
   ·
    obtain ⟨j1, j2⟩ := i2
    refine ⟨j1, ?_⟩
    rcases j2 with j2 | ⟨g0, cap, cu, hv, hb, hg, hr⟩
    ·
     exact .inl j2
    ·
     have hgl := (Array.getElem?_eq_some_iff.1 hg).1
     exact .inr ⟨g0, cap, cu, hv, by omega, ((kf.block g0 (by omega) (by omega)).trans (kq.block g0 hgl)).trans hg, hr⟩
   ·
    have := hlt b hb
    exact ⟨by omega, by omega⟩
   ·
    refine Is.turn (Nat.le_trans hsq kf.size) (fun b hb hl => ⟨⟨⟨by omega, by omega⟩, hb.2⟩, (kf.block b (by omega) (by omega)).trans (kq.block b hl)⟩) _ _ (i3 j t' u hj hu)
 ·
  exact bl_ks (bl_kp (bl_km (bl_kp R2 kc) (by omega) hG.km) kq) (by omega) kf
 ·
  obtain ⟨x', z', hm, q1, q2, q3⟩ := hG.ex
  exact ⟨⟨x', z', (hm.kp kq).ks kf (by omega), by omega, by omega, by omega⟩, (((K2.kp kc (by omega)).trans hG.km).kp kq (by omega)).new kf (by omega) (by omega)⟩
end Go.Proofs.YtikmgckefbjbkaaGreatDoor

/-! ### MakD -/

namespace Go.Proofs.YtikmgckefbjbkaaGreatDoor
open Go.RowKit

theorem row_deep (ere : Bool) (H : ∀ d, PartSaid ere d → RowSaid ere d) : RowSaid ere 0 := by
 have p3 : PartSaid ere 3 := ⟨fun aK lK cK aN lN cN B x g z w hA => kpart_any aK lK cK aN lN cN ere B 3 x g z w (by omega) (fun h => absurd h (by omega)) hA⟩
 have p2 : PartSaid ere 2 := ⟨fun aK lK cK aN lN cN B x g z w hA => kpart_any aK lK cK aN lN cN ere B 2 x g z w (by omega) (fun _ => H 3 p3) hA⟩
 have p1 : PartSaid ere 1 := ⟨fun aK lK cK aN lN cN B x g z w hA => kpart_any aK lK cK aN lN cN ere B 1 x g z w (by omega) (fun _ => H 2 p2) hA⟩
 have p0 : PartSaid ere 0 := ⟨fun aK lK cK aN lN cN B x g z w hA => kpart_any aK lK cK aN lN cN ere B 0 x g z w (by omega) (fun _ => H 1 p1) hA⟩
 exact H 0 p0
theorem Nums.up {w : World} {B B' : Nat} {a : Option Addr} {l : Nat} (h : Nums w B a l) (hB : B ≤ B') : Nums w B' a l := ⟨fun hl => by
 obtain ⟨b, o, h1, h2, h3⟩ := h.ex hl
 exact ⟨b, o, h1, by omega, h3⟩⟩
/-- What the maker makes. -/
structure Made (ere : Bool) (w : World) (e : Ending) (w' : World) : Prop where
 ex : ∃ T v, e = .returned v ∧ Is w' (fun b => w.heap.size ≤ b) T v ∧ right ere T = true ∧ RxOk T ∧ Kp w w'
set_option maxHeartbeats 2000000 in
set_option maxRecDepth 100000 in
theorem made_any (ere : Bool) (HR : RowSaid ere 0) (aK : Option Addr) (lK cK : Nat) (aN : Option Addr) (lN cN : Nat) (w : World) (hK : Nums w w.heap.size aK lK) (hN : Nums w w.heap.size aN lN) :
  Calls Tryz.prog 13 #[.agg #[.slice aK lK cK, .slice aN lN cN], .bool ere] w fun e w' => Made ere w e w' := by
 have HRS := hid HR
 have HK := hid hK
 have HN := hid hN
 clear HR hK hN
 go_enter Tryz.func13, Tryz.ntmps13
 go_upto_region 2 with fail
 refine opq (fun W0 => W0.heap[w.heap.size]? = some (.cells #[.slice aK lK cK, .slice aN lN cN] 36) ∧ W0.heap[w.heap.size + 1]? = some rzo ∧ Mk W0 (w.heap.size + 1 + 1) ((0 : Nat) : Int) ((0 : Nat) : Int) 14 ∧ Kp w W0) ⟨bl_alloc (bl_alloc (bl_alloc (bl_alloc (last_of _ _) _) _) _) _, bl_alloc (bl_alloc (bl_alloc (last_at _ _ _ (by simp)) _) _) _, ⟨bl_alloc (bl_alloc (last_at _ _ _ (by simp)) _) _, bl_alloc (last_at _ _ _ (by simp)) _, last_at _ _ _ (by simp)⟩, by repeat (first | exact Kp.refl _ | refine Kp.alloc ?_ _)⟩ ?_
 rintro W0 ⟨xA, xR, xM, xK⟩
 have A0 := hid xA
 have R0 := hid xR
 have M0 := hid xM
 have K0 := hid xK
 have hs0 : w.heap.size + 1 < W0.heap.size := bl_lt xR
 clear xA xR xM xK
 have p0 := bl_cell A0.out 0 _ rfl
 have p1 := bl_cell A0.out 1 _ rfl
 go_upto_region 3 with fail
 refine opq (fun W1 => W1.heap[W0.heap.size]? = some (mko aK lK cK aN lN cN ere (w.heap.size + 1 + 1)) ∧ Kp W0 W1) ⟨last_of _ _, (Kp.refl _).alloc _⟩ ?_
 rintro W1 ⟨xA, xK⟩
 have A1 := hid xA
 have R1 := hid (bl_kp R0.out xK)
 have M1 := hid (M0.out.kp xK)
 have K1 := hid (K0.out.trans xK)
 have NK := hid ((HK.out.km (K1.out.km (Nat.le_refl _))).up (B' := w.heap.size + 1 + 1) (by omega))
 have NN := hid ((HN.out.km (K1.out.km (Nat.le_refl _))).up (B' := w.heap.size + 1 + 1) (by omega))
 have hs1 := xK.size
 clear xA xK p0 p1 A0 R0 M0 K0
 have p0 := bl_cell A1.out 0 _ rfl
 have p1 := bl_cell A1.out 1 _ rfl
 have p2 := bl_cell A1.out 2 _ rfl
 have p3 := bl_cell A1.out 3 _ rfl
 have p4 := bl_cell A1.out 4 _ rfl
 have p5 := bl_cell A1.out 5 _ rfl
 go_wp2_with fail
 refine (HRS.out.all aK lK cK aN lN cN (w.heap.size + 1 + 1) 0 0 14 W1 ⟨M1.out, NK.out, NN.out, by omega, by omega, by omega, by omega⟩).mono ?_
 rintro e W2 ⟨⟨T, v, g', rfl, hI, hG, hGo⟩⟩
 obtain ⟨kk, mn, mx, mm, tt, ad, ll, cc, rfl⟩ := hI.form
 have hm1 := M1.out.lt
 have hs2 := hGo.km.size
 have hR2 : W2.heap[w.heap.size + 1]? = some rzo := (hGo.km.block _ (by omega) (by omega) (by omega) (by omega)).trans R1.out
 have R2 := hid hR2
 have I2 := hid hI
 have G2 := hid hG
 have K2 := hid (hGo.km.up K1.out (by omega))
 clear hI hG hGo hR2 p0 p1 p2 p3 p4 p5
 have r0 := bl_cell R2.out 0 _ rfl
 have fr0 := bl_frozen R2.out 0
 have r1 := bl_cell R2.out 1 _ rfl
 have fr1 := bl_frozen R2.out 1
 have r2 := bl_cell R2.out 2 _ rfl
 have fr2 := bl_frozen R2.out 2
 have r3 := bl_cell R2.out 3 _ rfl
 have fr3 := bl_frozen R2.out 3
 have r4 := bl_cell R2.out 4 _ rfl
 have fr4 := bl_frozen R2.out 4
 have r5 := bl_cell R2.out 5 _ rfl
 have fr5 := bl_frozen R2.out 5
 have r6 := bl_cell R2.out 6 _ rfl
 have fr6 := bl_frozen R2.out 6
 have r7 := bl_cell R2.out 7 _ rfl
 have fr7 := bl_frozen R2.out 7
 have r8 := bl_cell R2.out 8 _ rfl
 have fr8 := bl_frozen R2.out 8
 go_wp2_with fail
 refine bodyPost_ret (v := rxv kk mn mx mm tt (.slice ad ll cc)) (rx_ret rfl _ _ _ _ rfl (bl_set9 R2.out _ _ _ _ _ _ _ _ _) rfl) rfl ⟨⟨T, _, rfl, ?_, G2.out.right, G2.out.ok, ?_⟩⟩
 ·
  exact (I2.out.ks (ks_set9 _ _ _ _ _ _ _ _ _) (fun b hb _ => by omega)).weak (fun b hb _ => by omega)
 ·
  exact Ks.up (P := w.heap.size + 1) (ks_set9 _ _ _ _ _ _ _ _ _) K2.out (by omega)
end Go.Proofs.YtikmgckefbjbkaaGreatDoor

/-! ### And1 -/

namespace Go.Proofs.YtikmgckefbjbkaaGreatDoor
open Go.RowKit

theorem i64_and1 (n : Int) : bits .and .i64 n 1 = n % 2 := by
 have h1 : (BitVec.ofInt 64 1).toNat = 2 ^ 1 - 1 := by decide
 have key : (BitVec.ofInt 64 n &&& BitVec.ofInt 64 1).toNat = (n % ((2 ^ 64 : Nat) : Int)).toNat % 2 ^ 1 := by
  rw [BitVec.toNat_and, BitVec.toNat_ofInt, h1, Nat.and_two_pow_sub_one_eq_mod]
 show IntKind.i64.wrap ((BitVec.ofInt 64 n &&& BitVec.ofInt 64 1).toNat : Nat) = n % 2
 rw [key, IntKind.wrap_i64]
 omega
/-- One, and one more where a number is odd. -/
theorem one_or_two (n : Int) : ∃ m : Nat, 1 + bits .and .i64 n 1 = (m : Int) ∧ 1 ≤ m ∧ m ≤ 2 := by
 rw [i64_and1]
 exact ⟨(1 + n % 2).toNat, by omega, by omega, by omega⟩
end Go.Proofs.YtikmgckefbjbkaaGreatDoor

/-! ### Mak8 -/

namespace Go.Proofs.YtikmgckefbjbkaaGreatDoor
open Go.RowKit

theorem RK.pair {ok : Nat → Prop} {base : Nat} {w : World} {r r' : Rx} (k1 mn1 mx1 mm1 : Int) (t1 : W4) (ad1 : Option Addr) (l1 c1 : Nat) (k2 mn2 mx2 mm2 : Int) (t2 : W4) (ad2 : Option Addr) (l2 c2 : Nat)
  (hI : Is w ok r (rxv k1 mn1 mx1 mm1 t1 (.slice ad1 l1 c1))) (hJ : Is w ok r' (rxv k2 mn2 mx2 mm2 t2 (.slice ad2 l2 c2))) (hb : base ≤ w.heap.size) (ho : ok w.heap.size) :
  RK ok base (w.alloc (.cells #[.int .i64 k1, .int .i64 mn1, .int .i64 mx1, .int .i64 mm1, .int .u64 (t1.a : Int), .int .u64 (t1.b : Int), .int .u64 (t1.c : Int), .int .u64 (t1.d : Int), .slice ad1 l1 c1, .int .i64 k2, .int .i64 mn2, .int .i64 mx2, .int .i64 mm2, .int .u64 (t2.a : Int), .int .u64 (t2.b : Int), .int .u64 (t2.c : Int), .int .u64 (t2.d : Int), .slice ad2 l2 c2] 27)) (.slice (some ⟨w.heap.size, 0, none⟩) 2 2) [r, r'] := by
 refine ⟨[rxv k1 mn1 mx1 mm1 t1 (.slice ad1 l1 c1), rxv k2 mn2 mx2 mm2 t2 (.slice ad2 l2 c2)], rfl, ⟨rfl, .inr ⟨w.heap.size, 2, _, rfl, hb, last_of w _, Nat.le_refl _, by unfold maxLen; omega, rfl, rfl⟩⟩, ?_, ?_⟩
 ·
  intro b hb'
  injection hb' with hb'
  rw [← hb']; exact ho
 intro j t' u hj hu
 have key : ∀ (q : Rx) (v : Value), Is w ok q v → Is (w.alloc (.cells #[.int .i64 k1, .int .i64 mn1, .int .i64 mx1, .int .i64 mm1, .int .u64 (t1.a : Int), .int .u64 (t1.b : Int), .int .u64 (t1.c : Int), .int .u64 (t1.d : Int), .slice ad1 l1 c1, .int .i64 k2, .int .i64 mn2, .int .i64 mx2, .int .i64 mm2, .int .u64 (t2.a : Int), .int .u64 (t2.b : Int), .int .u64 (t2.c : Int), .int .u64 (t2.d : Int), .slice ad2 l2 c2] 27)) (fun b => ok b ∧ (Value.slice (some ⟨w.heap.size, 0, none⟩) 2 2).ownBlock ≠ some b) q v := fun q v h => by
  refine (h.weak (fun b hb hl => ⟨hb, ?_⟩)).kp ((Kp.refl _).alloc _)
  show some w.heap.size ≠ some b
  intro he; injection he with he; omega
 match j, hj, hu with
 | 0, hj, hu =>
  simp at hj hu
  subst hj
  subst hu
  exact key _ _ hI
 | 1, hj, hu =>
  simp at hj hu
  subst hj
  subst hu
  exact key _ _ hJ
 | j + 2, hj, _ => simp at hj
theorem sg_of {m : Nat} {T : Rx} {d g g' : Nat} {v : Value} {base : Nat} {w : World} (hg : g ≤ 3) (h1 : 1 ≤ m) (h2 : m ≤ 2) (hp : m = 1 → Trip.PGood true 2 T d g g')
  (hL : 2 ≤ m → ∃ ks kv, v = rxv 2 0 0 0 W4.z kv ∧ T = .mk 2 0 0 0 W4.z ks ∧ RKids base w kv ks ∧ ks.length = m ∧ Trip.LG true d ks g g') : Trip.SGood true 5 T d g g' := by
 by_cases hm : m = 1
 ·
  exact ((hp hm).more (by omega)).part
 ·
  obtain ⟨ks, kv, _, rfl, _, hl, hLG⟩ := hL (by omega)
  have := Trip.cat_good true d g g' hg ks hLG (by omega) (by omega)
  rw [show 1 + 2 * ks.length = 5 by omega] at this
  exact this
/-- What stands in the two variables. -/
structure AMid (B d g x : Nat) (z : Int) (w : World) (v v' : Value) (w' : World) : Prop where
 ex : ∃ V1 V2 T1 T2 g1 g2, ∃ (k1 mn1 mx1 mm1 : Int) (t1 : W4) (ad1 : Option Addr) (l1 c1 : Nat), ∃ (k2 mn2 mx2 mm2 : Int) (t2 : W4) (ad2 : Option Addr) (l2 c2 : Nat), v = .pointer (some ⟨V1, 0, none⟩) ∧ v' = .pointer (some ⟨V2, 0, none⟩) ∧ w.heap.size + 1 < V1 ∧ w.heap.size + 1 < V2 ∧
  w'.heap[V1]? = some (rxo k1 mn1 mx1 mm1 t1 (.slice ad1 l1 c1)) ∧ w'.heap[V2]? = some (rxo k2 mn2 mx2 mm2 t2 (.slice ad2 l2 c2)) ∧ Is w' (fun b => w.heap.size + 1 < b) T1 (rxv k1 mn1 mx1 mm1 t1 (.slice ad1 l1 c1)) ∧ Is w' (fun b => w.heap.size + 1 < b) T2 (rxv k2 mn2 mx2 mm2 t2 (.slice ad2 l2 c2)) ∧
  Trip.SGood true 5 T1 d g g1 ∧ Trip.SGood true 2 T2 d g1 g2 ∧ w'.heap[w.heap.size + 1]? = some rzo ∧ Gone B 4 7 x g z w w' g2
theorem amid_of {B d g x m x' V1 V2 g1 g2 : Nat} {z z' : Int} {w W5 u1 Y1 u2 Y2 u3 Z Wf : World} {T1 T2 : Rx} {k1 mn1 mx1 mm1 : Int} {t1 : W4} {ad1 : Option Addr} {l1 c1 : Nat} {k2 mn2 mx2 mm2 : Int} {t2 : W4} {ad2 : Option Addr} {l2 c2 : Nat}
  (hBw : B + 2 < w.heap.size) (h2 : m ≤ 2) (hs : w.heap.size + 1 < W5.heap.size) (K5 : Km B w W5) (kc1 : Kp W5 u1) (km1 : Km B u1 Y1) (kc2 : Kp Y1 u2) (kc3 : Kp Y2 u3)
  (hV1 : w.heap.size + 1 < V1) (hV2 : w.heap.size + 1 < V2) (o11 : V1 < u1.heap.size + 2 ∨ Y1.heap.size ≤ V1) (o12 : V1 < u2.heap.size + 2 ∨ Y2.heap.size ≤ V1) (o21 : V2 < u1.heap.size + 2 ∨ Y1.heap.size ≤ V2) (o22 : V2 < u2.heap.size + 2 ∨ Y2.heap.size ≤ V2)
  (R5 : W5.heap[w.heap.size + 1]? = some rzo) (I1 : Is Y1 (fun b => u1.heap.size + 2 ≤ b) T1 (rxv k1 mn1 mx1 mm1 t1 (.slice ad1 l1 c1))) (q1 : x' + 8 * (4 - g1) ≤ x + 1 + 8 * (4 - g) + m) (q2 : z - 1 + 8 * g ≤ z' + 8 * g1 + (2 * m : Nat)) (q3 : z' ≤ z - 1) (S1 : Trip.SGood true 5 T1 d g g1)
  (I2 : Is Y2 (fun b => u2.heap.size + 2 ≤ b) T2 (rxv k2 mn2 mx2 mm2 t2 (.slice ad2 l2 c2))) (G2 : Gone B 1 (2 * 1) x' g1 z' u2 Y2 g2) (S2 : Trip.SGood true 2 T2 d g1 g2)
  (f1 : Ks V1 u3 Z) (f2 : Ks V2 Z Wf) (b1 : Wf.heap[V1]? = some (rxo k1 mn1 mx1 mm1 t1 (.slice ad1 l1 c1))) (b2 : Wf.heap[V2]? = some (rxo k2 mn2 mx2 mm2 t2 (.slice ad2 l2 c2))) : AMid B d g x z w (.pointer (some ⟨V1, 0, none⟩)) (.pointer (some ⟨V2, 0, none⟩)) Wf := by
 have s1 := kc1.size
 have s2 := km1.size
 have s3 := kc2.size
 have s4 := G2.km.size
 have s5 := kc3.size
 have s6 := f1.size
 have s7 := f2.size
 refine ⟨V1, V2, T1, T2, g1, g2, k1, mn1, mx1, mm1, t1, ad1, l1, c1, k2, mn2, mx2, mm2, t2, ad2, l2, c2, rfl, rfl, hV1, hV2, b1, b2, ?_, ?_, S1, S2, ?_, ?_⟩
 ·
  refine Is.turn (by omega) (fun b hb hl => ⟨by omega, ?_⟩) _ _ I1
  exact (f2.block b (by omega) (by omega)).trans ((f1.block b (by omega) (by omega)).trans ((kc3.block b (by omega)).trans ((G2.km.block b (by omega) (by omega) (by omega) (by omega)).trans (kc2.block b hl))))
 ·
  refine Is.turn (by omega) (fun b hb hl => ⟨by omega, ?_⟩) _ _ I2
  exact (f2.block b (by omega) (by omega)).trans ((f1.block b (by omega) (by omega)).trans (kc3.block b hl))
 ·
  exact bl_ks (bl_ks (bl_kp (bl_km (bl_kp (bl_km (bl_kp R5 kc1) (by omega) km1) kc2) (by omega) G2.km) kc3) (by omega) f1) (by omega) f2
 ·
  obtain ⟨x'', z'', hm, p1, p2, p3⟩ := G2.ex
  exact ⟨⟨x'', z'', ((hm.kp kc3).ks f1 (by omega)).ks f2 (by omega), by omega, by omega, by omega⟩, ((((((K5.kp kc1 (by omega)).trans km1).kp kc2 (by omega)).trans G2.km).kp kc3 (by omega)).new f1 (by omega) (by omega)).new f2 (by omega) (by omega)⟩

set_option maxHeartbeats 8000000 in
set_option maxRecDepth 100000 in
theorem krow_any (ere : Bool) (aK : Option Addr) (lK cK : Nat) (aN : Option Addr) (lN cN : Nat) (B : Nat) (d x g : Nat) (z : Int) (w : World) (HP : PartSaid ere d) (hA : Asks w aK lK aN lN B 4 7 x g z) :
  Calls Tryz.prog 28 #[(mkv aK lK cK aN lN cN ere B), .int .i64 (d : Int)] w fun e w' => RowD ere B d x g z w e w' := by
 have HA := hid hA
 have hBw := hA.mm.lt
 have hg3 := hA.g3
 have hbx := hA.bx
 have hbz := hA.bz
 have hz14 := hA.z14
 have HPS := hid HP
 clear hA HP
 go_enter Tryz.func28, Tryz.ntmps28
 go_upto_region 1 with fail
 refine opq (fun W0 => W0.heap[w.heap.size]? = some (mko aK lK cK aN lN cN ere B) ∧ W0.heap[(w.heap.size + 1)]? = some rzo ∧ Kp w W0) ⟨by exact bl_alloc (last_of _ _) _, by exact last_at _ _ _ (by simp), by exact (by repeat (first | exact Kp.refl _ | refine Kp.alloc ?_ _ | refine Kp.drew ?_ | refine Kp.drewN _ ?_))⟩ ?_
 rintro W0 ⟨xA0, xR0, xK0⟩
 have A0 : Hid (W0.heap[w.heap.size]? = some (mko aK lK cK aN lN cN ere B)) := xA0
 have R0 : Hid (W0.heap[(w.heap.size + 1)]? = some rzo) := xR0
 have K0 : Hid (Kp w W0) := xK0
 clear xA0 xR0 xK0
 have AS0 := hid (HA.out.mm.kp K0.out)
 have NK0 := hid (HA.out.nk.km (K0.out.km (B := B) (by omega)))
 have NN0 := hid (HA.out.nn.km (K0.out.km (B := B) (by omega)))
 have p0 := bl_cell (A0.out) 0 _ rfl
 have p1 := bl_cell (A0.out) 1 _ rfl
 have p2 := bl_cell (A0.out) 2 _ rfl
 have p3 := bl_cell (A0.out) 3 _ rfl
 have p4 := bl_cell (A0.out) 4 _ rfl
 have p5 := bl_cell (A0.out) 5 _ rfl
 go_wp2_with fail
 refine (next_any aK lK cK aN lN cN ere B x (g : Int) z _ AS0.out NK0.out NN0.out (by omega)).mono ?_
 rintro e W1 ⟨kd, n, rfl, m1, k1⟩
 have hs0 := K0.out.size
 have hs0' : w.heap.size + 1 < W0.heap.size := bl_lt R0.out
 have hs1 := k1.size
 have M1 := hid m1
 have A1 := hid (bl_km A0.out (by omega) k1)
 have R1 := hid (bl_km R0.out (by omega) k1)
 have K1 : Hid (Km B w W1) := (K0.out.km (by omega)).trans k1
 clear m1 k1 AS0 NK0 NN0 A0 R0 p0 p1 p2 p3 p4 p5
 go_upto_region 2 with fail
 have gz : IntKind.i64.wrap (z - 1) = z - 1 := by rw [IntKind.wrap_i64]; omega
 go_cut [] (fun wc => Mk wc B ((x + 1 : Nat) : Int) (g : Int) (z - 1) ∧ wc.heap[w.heap.size]? = some (mko aK lK cK aN lN cN ere B) ∧ wc.heap[w.heap.size + 1]? = some rzo ∧ Km B w wc ∧ W1.heap.size ≤ wc.heap.size)
 case first =>
  have Q0 : Kp W1 W1.drew := (Kp.refl _).drew
  have MK : Hid (∀ W, Kp W1 W → W.cell? ⟨w.heap.size, 5, none⟩ = some (.pointer (some ⟨B + 2, 0, none⟩)) ∧ W.cell? ⟨(B + 2), 0, none⟩ = some (.int .i64 z) ∧ Hid (Kp W1 W)) := fun W k => ⟨bl_cell (bl_kp A1.out k) 5 _ rfl, bl_cell (M1.out.kp k).lf 0 _ rfl, k⟩
  refine wp_region_noPanic ?_
  refine region_Z (z := 8) (S := (fun W => W.cell? ⟨w.heap.size, 5, none⟩ = some (.pointer (some ⟨B + 2, 0, none⟩)) ∧ W.cell? ⟨(B + 2), 0, none⟩ = some (.int .i64 z) ∧ Hid (Kp W1 W))) (by kernel_rfl) ?_ (fun hH => ?_)
  ·
   exact MK.out _ Q0
  have KQ := Q0
  refine anyZ_take (z := 8) (ks := []) (i := 0) (v := ?v0a1) rfl (by kernel_rfl) (by kernel_rfl) (by kernel_rfl) (by kernel_rfl) (by kernel_rfl) (fun _ _ _ h => h) (Or.inl ⟨by rfl, ?hy0a1⟩) hH ?r0a1
  case hy0a1 => (intro W hSw; (try dsimp only at hSw); go_simp; try (with_reducible rfl))
  try simp only [Act.put, List.setIfInBounds_toArray]
  refine anyZ_take (z := 8) (ks := []) (i := 1) (v := ?v1a2) rfl (by kernel_rfl) (by kernel_rfl) (by kernel_rfl) (by kernel_rfl) (by kernel_rfl) (fun _ _ _ h => h) (Or.inl ⟨by rfl, ?hy1a2⟩) hH ?r1a2
  case hy1a2 => (intro W hSw; (try dsimp only at hSw); go_simp; try (with_reducible rfl))
  try simp only [Act.put]
  refine anyZ_take (z := 8) (ks := []) (i := 2) (v := ?v2a3) rfl (by kernel_rfl) (by kernel_rfl) (by kernel_rfl) (by kernel_rfl) (by kernel_rfl) (fun _ _ _ h => h) (Or.inl ⟨by rfl, ?hy2a3⟩) hH ?r2a3
  case hy2a3 => (intro W hSw; (try dsimp only at hSw); go_simp; try (with_reducible rfl))
  try simp only [Act.put]
  refine anyZ_take (z := 8) (ks := []) (i := 3) (v := ?v3a4) rfl (by kernel_rfl) (by kernel_rfl) (by kernel_rfl) (by kernel_rfl) (by kernel_rfl) (fun _ _ _ h => h) (Or.inl ⟨by rfl, ?hy3a4⟩) hH ?r3a4
  case hy3a4 => (intro W hSw; (try dsimp only at hSw); go_simp; try (with_reducible rfl))
  try simp only [Act.put]
  refine anyZ_take (z := 8) (ks := []) (i := 4) (v := ?v4a5) rfl (by kernel_rfl) (by kernel_rfl) (by kernel_rfl) (by kernel_rfl) (by kernel_rfl) (fun _ _ _ h => h) (Or.inl ⟨by rfl, ?hy4a5⟩) hH ?r4a5
  case hy4a5 => (intro W hSw; (try dsimp only at hSw); go_simp; try (with_reducible rfl))
  try simp only [Act.put]
  refine anyZ_take (z := 8) (ks := []) (i := 5) (v := ?v5a6) rfl (by kernel_rfl) (by kernel_rfl) (by kernel_rfl) (by kernel_rfl) (by kernel_rfl) (fun _ _ _ h => h) (Or.inl ⟨by rfl, ?hy5a6⟩) hH ?r5a6
  case hy5a6 => (intro W hSw; (try dsimp only at hSw); go_simp; try (with_reducible rfl))
  try simp only [Act.put]
  refine anyZ_take (z := 8) (ks := []) (i := 6) (v := ?v6a7) rfl (by kernel_rfl) (by kernel_rfl) (by kernel_rfl) (by kernel_rfl) (by kernel_rfl) (fun _ _ _ h => h) (Or.inl ⟨by rfl, ?hy6a7⟩) hH ?r6a7
  case hy6a7 => (intro W hSw; (try dsimp only at hSw); go_simp; try (with_reducible rfl))
  try simp only [Act.put]
  refine anyZ_take (z := 8) (ks := []) (i := 7) (v := ?v7a8) rfl (by kernel_rfl) (by kernel_rfl) (by kernel_rfl) (by kernel_rfl) (by kernel_rfl) (fun _ _ _ h => h) (Or.inl ⟨by rfl, ?hy7a8⟩) hH ?r7a8
  case hy7a8 => (intro W hSw; (try dsimp only at hSw); go_simp; try (with_reducible rfl))
  try simp only [Act.put]
  refine anyZ_ready (rs := [8]) (by kernel_rfl) (by simp) ?_
  refine AllZ.last rfl (Or.inl rfl) (fun K hKq => ?_) AllZ.nil
  have fq2 := bl_frozen (M1.out.kp KQ).lf 0
  have cq2 := bl_cell (M1.out.kp KQ).lf 0 _ rfl
  go_simp
  refine hKq.out _ _ ?_
  clear fq2 cq2
  clear hKq K
  try simp only [Act.put, List.setIfInBounds_toArray, List.set_cons_zero, List.set_cons_succ]
  refine anyZ_done (by kernel_rfl) ?_ _
  refine NoPanic.normal ?_
  go_wp2_with fail
  go_meet
  case rel => exact ⟨(M1.out.kp KQ).setL _, bl_set (bl_kp A1.out KQ) (by omega) _, bl_set (bl_kp R1.out KQ) (by omega) _, (K1.out.kp KQ (by omega)).set 2 (by omega) 0 _, by simp⟩
 case rest =>
 obtain ⟨m2, a2, r2, k2, hs2⟩ := hcut
 rename World => W2
 have M2 := hid m2
 have A2 := hid a2
 have R2 := hid r2
 have K2 := hid k2
 clear m2 a2 r2 k2 M1 A1 R1 K1 gz
 go_wp2_with fail
 refine (within_nat _ 9 (by omega) _).mono ?_
 rintro e W2 ⟨c, hc9, rfl, rfl⟩
 have p0 := bl_cell (A2.out) 0 _ rfl
 have p1 := bl_cell (A2.out) 1 _ rfl
 have p2 := bl_cell (A2.out) 2 _ rfl
 have p3 := bl_cell (A2.out) 3 _ rfl
 have p4 := bl_cell (A2.out) 4 _ rfl
 have p5 := bl_cell (A2.out) 5 _ rfl
 have q0 := bl_cell M2.out.lf 0 _ rfl
 go_upto_region 4 with fail
 go_cut [42] (fun v wc => Bq (ere = true ∧ d < 3) v ∧ Kp W2 wc)
 case first =>
  cases ere with
  | false =>
   go_wp2_with fail
   go_meet
   case rel => exact ⟨⟨_, rfl, fun h => by cases h⟩, Kp.refl _⟩
  | true =>
  by_cases h9 : c = 9
  ·
   subst h9
   by_cases hl : 4 < z - 1
   ·
    have hli : (4 : Int) < z - 1 := hl
    by_cases hd3 : d < 3
    ·
     have hd3i : (d : Int) < 3 := by omega
     go_wp2_with fail
     go_meet
     case rel => exact ⟨⟨_, rfl, fun _ => ⟨by trivial, hd3⟩⟩, Kp.refl _⟩
    ·
     have hd3i : ¬ (d : Int) < 3 := by omega
     go_wp2_with fail
     go_meet
     case rel => exact ⟨⟨_, rfl, fun h => by cases h⟩, Kp.refl _⟩
   ·
    have hli : ¬ (4 : Int) < z - 1 := hl
    go_wp2_with fail
    go_meet
    case rel => exact ⟨⟨_, rfl, fun h => by cases h⟩, Kp.refl _⟩
  ·
   have h9i : ((c : Int) == 9) = false := by simp; omega
   have h9j : ¬ (c : Int) = 9 := by omega
   go_wp2_with fail
   go_meet
   case rel => exact ⟨⟨_, rfl, fun h => by cases h⟩, Kp.refl _⟩
 case rest =>
 obtain ⟨⟨⟨q4, rfl, hq4⟩⟩, k4⟩ := hcut
 rename World => W5
 have hs4 := k4.size
 have M5 := hid (M2.out.kp k4)
 have A5 := hid (bl_kp A2.out k4)
 have R5 := hid (bl_kp R2.out k4)
 have K5 := hid (K2.out.kp k4 (by omega))
 have hs5 : w.heap.size + 1 < W5.heap.size := bl_lt R5.out
 clear k4 q0 M2 A2 R2 K2 p0 p1 p2 p3 p4 p5
 have M2 := M5
 have A2 := A5
 have R2 := R5
 have K2 := K5
 clear M5 A5 R5 K5
 cases q4
 case true =>
  obtain ⟨rfl, _⟩ := hq4 rfl
  go_upto_region 5 with fail
  have NKW := hid (fun (W : World) (k : Km B W5 W) => HA.out.nk.km (K2.out.trans k))
  have NNW := hid (fun (W : World) (k : Km B W5 W) => HA.out.nn.km (K2.out.trans k))
  obtain ⟨m, hm, hm1, hm2⟩ := one_or_two n
  have hmc : 1 + bits .and .i64 n 1 = (m : Int) := hm
  have gw : IntKind.i64.wrap (m : Int) = (m : Int) := by rw [IntKind.wrap_i64]; omega
  clear hm
  have PS := hid (fun (m : Nat) (h1 : 1 ≤ m) (h3 : m ≤ 2) (W : World) (k : Kp W5 W) => parts_any aK lK cK aN lN cN true B d m (x + 1) g (z - 1) W h1 (by omega) HPS.out ⟨M2.out.kp k, NKW.out _ (k.km (by omega)), NNW.out _ (k.km (by omega)), hg3, by omega, by omega, by omega⟩)
  go_cut [8, 9] (fun v v' wc => AMid B d g x z w v v' wc)
  case first =>
   have Q0 : Km B W5 W5.drew := (Km.refl B W5).kp ((Kp.refl _).drew) (by omega)
   have MK : Hid (∀ W, Km B W5 W → W.cell? ⟨w.heap.size, 0, none⟩ = some (.slice aK lK cK) ∧ W.cell? ⟨w.heap.size, 1, none⟩ = some (.slice aN lN cN) ∧ W.cell? ⟨w.heap.size, 2, none⟩ = some (.bool true) ∧ W.cell? ⟨w.heap.size, 3, none⟩ = some (.pointer (some ⟨B, 0, none⟩)) ∧ W.cell? ⟨w.heap.size, 4, none⟩ = some (.pointer (some ⟨B + 1, 0, none⟩)) ∧ W.cell? ⟨w.heap.size, 5, none⟩ = some (.pointer (some ⟨B + 2, 0, none⟩)) ∧ Hid (Km B W5 W)) := fun W k => ⟨bl_cell (bl_km A2.out (by omega) k) 0 _ rfl, bl_cell (bl_km A2.out (by omega) k) 1 _ rfl, bl_cell (bl_km A2.out (by omega) k) 2 _ rfl, bl_cell (bl_km A2.out (by omega) k) 3 _ rfl, bl_cell (bl_km A2.out (by omega) k) 4 _ rfl, bl_cell (bl_km A2.out (by omega) k) 5 _ rfl, k⟩
   refine wp_region_noPanic ?_
   refine wp_region_held_drew (S := (fun W => W.cell? ⟨w.heap.size, 0, none⟩ = some (.slice aK lK cK) ∧ W.cell? ⟨w.heap.size, 1, none⟩ = some (.slice aN lN cN) ∧ W.cell? ⟨w.heap.size, 2, none⟩ = some (.bool true) ∧ W.cell? ⟨w.heap.size, 3, none⟩ = some (.pointer (some ⟨B, 0, none⟩)) ∧ W.cell? ⟨w.heap.size, 4, none⟩ = some (.pointer (some ⟨B + 1, 0, none⟩)) ∧ W.cell? ⟨w.heap.size, 5, none⟩ = some (.pointer (some ⟨B + 2, 0, none⟩)) ∧ Hid (Km B W5 W))) (by kernel_rfl) ?_ (fun hH => ?_)
   ·
    exact MK.out _ Q0
   have KQ := Q0
   refine wpAnyH_take (i := 0) (v := ?v0e1) rfl (by kernel_rfl) (by kernel_rfl) (by kernel_rfl) (fun _ _ _ h => h) (Or.inl ⟨by rfl, ?hy0e1⟩) hH ?r0e1
   case hy0e1 => (intro W hSw; (try dsimp only at hSw); go_simp; try (with_reducible rfl))
   try simp only [Act.put, List.setIfInBounds_toArray]
   refine wpAnyH_take (i := 1) (v := ?v1e2) rfl (by kernel_rfl) (by kernel_rfl) (by kernel_rfl) (fun _ _ _ h => h) (Or.inl ⟨by rfl, ?hy1e2⟩) hH ?r1e2
   case hy1e2 => (intro W hSw; (try dsimp only at hSw); go_simp; try (with_reducible rfl))
   try simp only [Act.put]
   refine wpAnyH_take (i := 2) (v := ?v2e3) rfl (by kernel_rfl) (by kernel_rfl) (by kernel_rfl) (fun _ _ _ h => h) (Or.inl ⟨by rfl, ?hy2e3⟩) hH ?r2e3
   case hy2e3 => (intro W hSw; (try dsimp only at hSw); go_simp; try (with_reducible rfl))
   try simp only [Act.put]
   refine wpAnyH_take (i := 3) (v := ?v3e4) rfl (by kernel_rfl) (by kernel_rfl) (by kernel_rfl) (fun _ _ _ h => h) (Or.inl ⟨by rfl, ?hy3e4⟩) hH ?r3e4
   case hy3e4 => (intro W hSw; (try dsimp only at hSw); go_simp; try (with_reducible rfl))
   try simp only [Act.put]
   refine wpAnyH_take (i := 4) (v := ?v4e5) rfl (by kernel_rfl) (by kernel_rfl) (by kernel_rfl) (fun _ _ _ h => h) (Or.inl ⟨by rfl, ?hy4e5⟩) hH ?r4e5
   case hy4e5 => (intro W hSw; (try dsimp only at hSw); go_simp; try (with_reducible rfl))
   try simp only [Act.put]
   refine wpAnyH_take (i := 6) (v := ?v6e6) rfl (by kernel_rfl) (by kernel_rfl) (by kernel_rfl) (fun _ _ _ h => h) (Or.inl ⟨by rfl, ?hy6e6⟩) hH ?r6e6
   case hy6e6 => (intro W hSw; (try dsimp only at hSw); go_simp; try (with_reducible rfl))
   try simp only [Act.put]
   refine wpAnyH_take (i := 7) (v := ?v7e7) rfl (by kernel_rfl) (by kernel_rfl) (by kernel_rfl) (fun _ _ _ h => h) (Or.inl ⟨by rfl, ?hy7e7⟩) hH ?r7e7
   case hy7e7 => (intro W hSw; (try dsimp only at hSw); go_simp; try (with_reducible rfl))
   try simp only [Act.put]
   refine wpAnyH_ready (rs := [5, 9, 10]) (by kernel_rfl) (by simp) ?_
   refine AllReadyH.cons rfl (fun K hKq => ?_) ?_
   ·
    go_simp
    refine (PS.out m hm1 hm2 _ (by repeat (first | exact Kp.refl _ | refine Kp.alloc ?_ _ | refine Kp.drew ?_))).mono ?_
    rintro e Y1 ⟨⟨T1, v1, g1, rfl, hI, hp1, hp2, hGn⟩⟩
    obtain ⟨k1, mn1, mx1, mm1, t1, ad1, l1, c1, rfl⟩ := hI.form
    have SG1 := hid (sg_of hg3 hm1 hm2 hp1 hp2)
    have I1 := hid hI
    have KM1 := hid hGn.km
    have hy1 := hGn.km.size
    try simp at hy1
    obtain ⟨x', z', hmk, q1, q2, q3⟩ := hGn.ex
    have hgg := SG1.out.g3
    have PS2 := hid (fun (W : World) (k : Kp Y1 W) => parts_any aK lK cK aN lN cN true B d 1 x' g1 z' W (by omega) (by omega) HPS.out ⟨hmk.kp k, NKW.out _ ((Kp.km (B := B) (a := W5) (by repeat (first | exact Kp.refl _ | refine Kp.alloc ?_ _ | refine Kp.drew ?_)) (by omega)).trans (KM1.out.kp k (by first | omega | (simp; omega) | simp))), NNW.out _ ((Kp.km (B := B) (a := W5) (by repeat (first | exact Kp.refl _ | refine Kp.alloc ?_ _ | refine Kp.drew ?_)) (by omega)).trans (KM1.out.kp k (by first | omega | (simp; omega) | simp))), hgg, by omega, by omega, by omega⟩)
    clear hI hp1 hp2 hGn hmk
    refine hKq.out _ _ (MK.out _ (KQ.trans KM1.out)) (fun hN => ?_)
    clear hKq K hH KQ
    have hH := hN
    clear hN
    have KQ := hH.2.2.2.2.2.2.out
    try simp only [Act.put, List.setIfInBounds_toArray, List.set_cons_zero, List.set_cons_succ]
    refine wpAnyH_ready (rs := [8, 9, 10]) (by kernel_rfl) (by simp) ?_
    refine AllReadyH.cons rfl (fun K hKq => ?_) ?_
    ·
     go_simp
     refine (PS2.out _ (by repeat (first | exact Kp.refl _ | refine Kp.alloc ?_ _ | refine Kp.drew ?_))).mono ?_
     rintro e Y2 ⟨⟨T2, v2, g2, rfl, hI, hp1, hp2, hGn⟩⟩
     obtain ⟨k2, mn2, mx2, mm2, t2, ad2, l2, c2, rfl⟩ := hI.form
     have SG2 := hid (hp1 rfl).part
     have I2 := hid hI
     have G2 := hid hGn
     have hy2 := hGn.km.size
     try simp at hy2
     clear hI hp1 hp2 hGn PS2
     refine hKq.out _ _ (MK.out _ (KQ.trans G2.out.km)) (fun hN => ?_)
     clear hKq K hH KQ
     have hH := hN
     clear hN
     have KQ := hH.2.2.2.2.2.2.out
     try simp only [Act.put, List.setIfInBounds_toArray, List.set_cons_zero, List.set_cons_succ]
     refine wpAnyH_ready (rs := [9, 10]) (by kernel_rfl) (by simp) ?_
     refine AllReadyH.cons rfl (fun K hKq => ?_) ?_
     ·
      go_simp
      refine hKq.out _ _ (MK.out _ (KQ.kp ((Kp.refl _).alloc _) (by omega))) (fun hN => ?_)
      have B1n3 : Hid ((Y2.alloc rzo).heap[Y2.heap.size]? = some rzo) := last_at _ _ _ (by simp)
      clear hKq K hH KQ
      have hH := hN
      clear hN
      have KQ := hH.2.2.2.2.2.2.out
      try simp only [Act.put, List.setIfInBounds_toArray, List.set_cons_zero, List.set_cons_succ]
      refine wpAnyH_ready (rs := [10]) (by kernel_rfl) (by simp) ?_
      refine AllReadyH.cons rfl (fun K hKq => ?_) AllReadyH.nil
      go_simp
      refine hKq.out _ _ (MK.out _ (KQ.kp ((Kp.refl _).alloc _) (by omega))) (fun hN => ?_)
      have B1n4 : Hid (((Y2.alloc rzo).alloc rzo).heap[Y2.heap.size]? = some rzo) := bl_alloc B1n3.out _
      have B2n4 : Hid (((Y2.alloc rzo).alloc rzo).heap[Y2.heap.size + 1]? = some rzo) := last_at _ _ _ (by simp)
      clear hKq K hH KQ
      have hH := hN
      clear hN
      have KQ := hH.2.2.2.2.2.2.out
      try simp only [Act.put, List.setIfInBounds_toArray, List.set_cons_zero, List.set_cons_succ]
      refine wpAnyH_ready (rs := [11]) (by kernel_rfl) (by simp) ?_
      refine AllReadyH.cons rfl (fun K hKq => ?_) AllReadyH.nil
      obtain ⟨U, hU⟩ : ∃ U, ((Y2.alloc rzo).alloc rzo) = U := ⟨_, rfl⟩
      rw [hU] at hH KQ B1n4 B2n4 ⊢
      have KU : Hid (Kp Y2 U) := by subst hU; exact (by repeat (first | exact Kp.refl _ | refine Kp.alloc ?_ _ | refine Kp.drew ?_))
      clear hU
      have v0 := bl_cell (B1n4.out) 0 _ rfl
      have fv0 := bl_frozen (B1n4.out) 0
      have v1 := bl_cell (B1n4.out) 1 _ rfl
      have fv1 := bl_frozen (B1n4.out) 1
      have v2 := bl_cell (B1n4.out) 2 _ rfl
      have fv2 := bl_frozen (B1n4.out) 2
      have v3 := bl_cell (B1n4.out) 3 _ rfl
      have fv3 := bl_frozen (B1n4.out) 3
      have v4 := bl_cell (B1n4.out) 4 _ rfl
      have fv4 := bl_frozen (B1n4.out) 4
      have v5 := bl_cell (B1n4.out) 5 _ rfl
      have fv5 := bl_frozen (B1n4.out) 5
      have v6 := bl_cell (B1n4.out) 6 _ rfl
      have fv6 := bl_frozen (B1n4.out) 6
      have v7 := bl_cell (B1n4.out) 7 _ rfl
      have fv7 := bl_frozen (B1n4.out) 7
      have v8 := bl_cell (B1n4.out) 8 _ rfl
      have fv8 := bl_frozen (B1n4.out) 8
      go_simp
      refine hKq.out _ _ (MK.out _ (Km.new (S := Y2.heap.size) KQ (ks_set9 _ _ _ _ _ _ _ _ _) (by omega) (by omega))) (fun hN => ?_)
      clear v0 fv0 v1 fv1 v2 fv2 v3 fv3 v4 fv4 v5 fv5 v6 fv6 v7 fv7 v8 fv8
      have B1s := hid (bl_set9 B1n4.out (.int .i64 k1) (.int .i64 mn1) (.int .i64 mx1) (.int .i64 mm1) (.int .u64 (t1.a : Int)) (.int .u64 (t1.b : Int)) (.int .u64 (t1.c : Int)) (.int .u64 (t1.d : Int)) (.slice ad1 l1 c1))
      have F1s := hid (ks_set9 (w := U) (B := Y2.heap.size) (.int .i64 k1) (.int .i64 mn1) (.int .i64 mx1) (.int .i64 mm1) (.int .u64 (t1.a : Int)) (.int .u64 (t1.b : Int)) (.int .u64 (t1.c : Int)) (.int .u64 (t1.d : Int)) (.slice ad1 l1 c1))
      have B2s := hid (bl_ks B2n4.out (by omega) F1s.out)
      clear hKq K hH KQ
      have hH := hN
      clear hN
      have KQ := hH.2.2.2.2.2.2.out
      try simp only [Act.put, List.setIfInBounds_toArray, List.set_cons_zero, List.set_cons_succ]
      refine wpAnyH_ready (rs := [12]) (by kernel_rfl) (by simp) ?_
      refine AllReadyH.cons rfl (fun K hKq => ?_) AllReadyH.nil
      have u0 := bl_cell (B2s.out) 0 _ rfl
      have fu0 := bl_frozen (B2s.out) 0
      have u1 := bl_cell (B2s.out) 1 _ rfl
      have fu1 := bl_frozen (B2s.out) 1
      have u2 := bl_cell (B2s.out) 2 _ rfl
      have fu2 := bl_frozen (B2s.out) 2
      have u3 := bl_cell (B2s.out) 3 _ rfl
      have fu3 := bl_frozen (B2s.out) 3
      have u4 := bl_cell (B2s.out) 4 _ rfl
      have fu4 := bl_frozen (B2s.out) 4
      have u5 := bl_cell (B2s.out) 5 _ rfl
      have fu5 := bl_frozen (B2s.out) 5
      have u6 := bl_cell (B2s.out) 6 _ rfl
      have fu6 := bl_frozen (B2s.out) 6
      have u7 := bl_cell (B2s.out) 7 _ rfl
      have fu7 := bl_frozen (B2s.out) 7
      have u8 := bl_cell (B2s.out) 8 _ rfl
      have fu8 := bl_frozen (B2s.out) 8
      go_simp
      refine hKq.out _ _ (MK.out _ (Km.new (S := Y2.heap.size + 1) KQ (ks_set9 _ _ _ _ _ _ _ _ _) (by omega) (by omega))) (fun hN => ?_)
      clear u0 fu0 u1 fu1 u2 fu2 u3 fu3 u4 fu4 u5 fu5 u6 fu6 u7 fu7 u8 fu8
      clear hKq K hH KQ
      have hH := hN
      clear hN
      have KQ := hH.2.2.2.2.2.2.out
      try simp only [Act.put, List.setIfInBounds_toArray, List.set_cons_zero, List.set_cons_succ]
      refine wpAnyH_done (by kernel_rfl) ?_ _
      refine NoPanic.normal ?_
      go_wp2_with fail
      go_meet
      case rel => exact amid_of (u1 := W5.drew) (u2 := Y1) (u3 := U) hBw hm2 (by omega) K2.out (by repeat (first | exact Kp.refl _ | refine Kp.alloc ?_ _ | refine Kp.drew ?_)) KM1.out (by repeat (first | exact Kp.refl _ | refine Kp.alloc ?_ _ | refine Kp.drew ?_)) KU.out (by omega) (by omega) (by first | omega | (simp; omega) | simp) (by first | omega | (simp; omega) | simp) (by first | omega | (simp; omega) | simp) (by first | omega | (simp; omega) | simp) R2.out I1.out q1 q2 q3 SG1.out I2.out G2.out SG2.out F1s.out (ks_set9 _ _ _ _ _ _ _ _ _) (bl_ks B1s.out (by omega) (ks_set9 _ _ _ _ _ _ _ _ _)) (bl_set9 B2s.out _ _ _ _ _ _ _ _ _)
     refine AllReadyH.cons rfl (fun K hKq => ?_) ?_
     ·
      go_simp
      refine hKq.out _ _ (MK.out _ (KQ.kp ((Kp.refl _).alloc _) (by omega))) (fun hN => ?_)
      have B2n3 : Hid ((Y2.alloc rzo).heap[Y2.heap.size]? = some rzo) := last_at _ _ _ (by simp)
      clear hKq K hH KQ
      have hH := hN
      clear hN
      have KQ := hH.2.2.2.2.2.2.out
      try simp only [Act.put, List.setIfInBounds_toArray, List.set_cons_zero, List.set_cons_succ]
      refine wpAnyH_ready (rs := [9]) (by kernel_rfl) (by simp) ?_
      refine AllReadyH.cons rfl (fun K hKq => ?_) AllReadyH.nil
      go_simp
      refine hKq.out _ _ (MK.out _ (KQ.kp ((Kp.refl _).alloc _) (by omega))) (fun hN => ?_)
      have B2n4 : Hid (((Y2.alloc rzo).alloc rzo).heap[Y2.heap.size]? = some rzo) := bl_alloc B2n3.out _
      have B1n4 : Hid (((Y2.alloc rzo).alloc rzo).heap[Y2.heap.size + 1]? = some rzo) := last_at _ _ _ (by simp)
      clear hKq K hH KQ
      have hH := hN
      clear hN
      have KQ := hH.2.2.2.2.2.2.out
      try simp only [Act.put, List.setIfInBounds_toArray, List.set_cons_zero, List.set_cons_succ]
      refine wpAnyH_ready (rs := [11]) (by kernel_rfl) (by simp) ?_
      refine AllReadyH.cons rfl (fun K hKq => ?_) AllReadyH.nil
      obtain ⟨U, hU⟩ : ∃ U, ((Y2.alloc rzo).alloc rzo) = U := ⟨_, rfl⟩
      rw [hU] at hH KQ B1n4 B2n4 ⊢
      have KU : Hid (Kp Y2 U) := by subst hU; exact (by repeat (first | exact Kp.refl _ | refine Kp.alloc ?_ _ | refine Kp.drew ?_))
      clear hU
      have v0 := bl_cell (B1n4.out) 0 _ rfl
      have fv0 := bl_frozen (B1n4.out) 0
      have v1 := bl_cell (B1n4.out) 1 _ rfl
      have fv1 := bl_frozen (B1n4.out) 1
      have v2 := bl_cell (B1n4.out) 2 _ rfl
      have fv2 := bl_frozen (B1n4.out) 2
      have v3 := bl_cell (B1n4.out) 3 _ rfl
      have fv3 := bl_frozen (B1n4.out) 3
      have v4 := bl_cell (B1n4.out) 4 _ rfl
      have fv4 := bl_frozen (B1n4.out) 4
      have v5 := bl_cell (B1n4.out) 5 _ rfl
      have fv5 := bl_frozen (B1n4.out) 5
      have v6 := bl_cell (B1n4.out) 6 _ rfl
      have fv6 := bl_frozen (B1n4.out) 6
      have v7 := bl_cell (B1n4.out) 7 _ rfl
      have fv7 := bl_frozen (B1n4.out) 7
      have v8 := bl_cell (B1n4.out) 8 _ rfl
      have fv8 := bl_frozen (B1n4.out) 8
      go_simp
      refine hKq.out _ _ (MK.out _ (Km.new (S := Y2.heap.size + 1) KQ (ks_set9 _ _ _ _ _ _ _ _ _) (by omega) (by omega))) (fun hN => ?_)
      clear v0 fv0 v1 fv1 v2 fv2 v3 fv3 v4 fv4 v5 fv5 v6 fv6 v7 fv7 v8 fv8
      have B1s := hid (bl_set9 B1n4.out (.int .i64 k1) (.int .i64 mn1) (.int .i64 mx1) (.int .i64 mm1) (.int .u64 (t1.a : Int)) (.int .u64 (t1.b : Int)) (.int .u64 (t1.c : Int)) (.int .u64 (t1.d : Int)) (.slice ad1 l1 c1))
      have F1s := hid (ks_set9 (w := U) (B := Y2.heap.size + 1) (.int .i64 k1) (.int .i64 mn1) (.int .i64 mx1) (.int .i64 mm1) (.int .u64 (t1.a : Int)) (.int .u64 (t1.b : Int)) (.int .u64 (t1.c : Int)) (.int .u64 (t1.d : Int)) (.slice ad1 l1 c1))
      have B2s := hid (bl_ks B2n4.out (by omega) F1s.out)
      clear hKq K hH KQ
      have hH := hN
      clear hN
      have KQ := hH.2.2.2.2.2.2.out
      try simp only [Act.put, List.setIfInBounds_toArray, List.set_cons_zero, List.set_cons_succ]
      refine wpAnyH_ready (rs := [12]) (by kernel_rfl) (by simp) ?_
      refine AllReadyH.cons rfl (fun K hKq => ?_) AllReadyH.nil
      have u0 := bl_cell (B2s.out) 0 _ rfl
      have fu0 := bl_frozen (B2s.out) 0
      have u1 := bl_cell (B2s.out) 1 _ rfl
      have fu1 := bl_frozen (B2s.out) 1
      have u2 := bl_cell (B2s.out) 2 _ rfl
      have fu2 := bl_frozen (B2s.out) 2
      have u3 := bl_cell (B2s.out) 3 _ rfl
      have fu3 := bl_frozen (B2s.out) 3
      have u4 := bl_cell (B2s.out) 4 _ rfl
      have fu4 := bl_frozen (B2s.out) 4
      have u5 := bl_cell (B2s.out) 5 _ rfl
      have fu5 := bl_frozen (B2s.out) 5
      have u6 := bl_cell (B2s.out) 6 _ rfl
      have fu6 := bl_frozen (B2s.out) 6
      have u7 := bl_cell (B2s.out) 7 _ rfl
      have fu7 := bl_frozen (B2s.out) 7
      have u8 := bl_cell (B2s.out) 8 _ rfl
      have fu8 := bl_frozen (B2s.out) 8
      go_simp
      refine hKq.out _ _ (MK.out _ (Km.new (S := Y2.heap.size) KQ (ks_set9 _ _ _ _ _ _ _ _ _) (by omega) (by omega))) (fun hN => ?_)
      clear u0 fu0 u1 fu1 u2 fu2 u3 fu3 u4 fu4 u5 fu5 u6 fu6 u7 fu7 u8 fu8
      clear hKq K hH KQ
      have hH := hN
      clear hN
      have KQ := hH.2.2.2.2.2.2.out
      try simp only [Act.put, List.setIfInBounds_toArray, List.set_cons_zero, List.set_cons_succ]
      refine wpAnyH_done (by kernel_rfl) ?_ _
      refine NoPanic.normal ?_
      go_wp2_with fail
      go_meet
      case rel => exact amid_of (u1 := W5.drew) (u2 := Y1) (u3 := U) hBw hm2 (by omega) K2.out (by repeat (first | exact Kp.refl _ | refine Kp.alloc ?_ _ | refine Kp.drew ?_)) KM1.out (by repeat (first | exact Kp.refl _ | refine Kp.alloc ?_ _ | refine Kp.drew ?_)) KU.out (by omega) (by omega) (by first | omega | (simp; omega) | simp) (by first | omega | (simp; omega) | simp) (by first | omega | (simp; omega) | simp) (by first | omega | (simp; omega) | simp) R2.out I1.out q1 q2 q3 SG1.out I2.out G2.out SG2.out F1s.out (ks_set9 _ _ _ _ _ _ _ _ _) (bl_ks B1s.out (by omega) (ks_set9 _ _ _ _ _ _ _ _ _)) (bl_set9 B2s.out _ _ _ _ _ _ _ _ _)
     exact AllReadyH.nil
    refine AllReadyH.cons rfl (fun K hKq => ?_) ?_
    ·
     go_simp
     refine hKq.out _ _ (MK.out _ (KQ.kp ((Kp.refl _).alloc _) (by omega))) (fun hN => ?_)
     have B1n2 : Hid ((Y1.alloc rzo).heap[Y1.heap.size]? = some rzo) := last_at _ _ _ (by simp)
     clear hKq K hH KQ
     have hH := hN
     clear hN
     have KQ := hH.2.2.2.2.2.2.out
     try simp only [Act.put, List.setIfInBounds_toArray, List.set_cons_zero, List.set_cons_succ]
     refine wpAnyH_ready (rs := [8, 10]) (by kernel_rfl) (by simp) ?_
     refine AllReadyH.cons rfl (fun K hKq => ?_) ?_
     ·
      go_simp
      refine (PS2.out _ (by repeat (first | exact Kp.refl _ | refine Kp.alloc ?_ _ | refine Kp.drew ?_))).mono ?_
      rintro e Y2 ⟨⟨T2, v2, g2, rfl, hI, hp1, hp2, hGn⟩⟩
      obtain ⟨k2, mn2, mx2, mm2, t2, ad2, l2, c2, rfl⟩ := hI.form
      have SG2 := hid (hp1 rfl).part
      have I2 := hid hI
      have G2 := hid hGn
      have hy2 := hGn.km.size
      try simp at hy2
      have B1n3 : Hid (Y2.heap[Y1.heap.size]? = some rzo) := bl_km B1n2.out (by omega) G2.out.km
      clear hI hp1 hp2 hGn PS2
      refine hKq.out _ _ (MK.out _ (KQ.trans G2.out.km)) (fun hN => ?_)
      clear hKq K hH KQ
      have hH := hN
      clear hN
      have KQ := hH.2.2.2.2.2.2.out
      try simp only [Act.put, List.setIfInBounds_toArray, List.set_cons_zero, List.set_cons_succ]
      refine wpAnyH_ready (rs := [10]) (by kernel_rfl) (by simp) ?_
      refine AllReadyH.cons rfl (fun K hKq => ?_) AllReadyH.nil
      go_simp
      refine hKq.out _ _ (MK.out _ (KQ.kp ((Kp.refl _).alloc _) (by omega))) (fun hN => ?_)
      have B1n4 : Hid ((Y2.alloc rzo).heap[Y1.heap.size]? = some rzo) := bl_alloc B1n3.out _
      have B2n4 : Hid ((Y2.alloc rzo).heap[Y2.heap.size]? = some rzo) := last_at _ _ _ (by simp)
      clear hKq K hH KQ
      have hH := hN
      clear hN
      have KQ := hH.2.2.2.2.2.2.out
      try simp only [Act.put, List.setIfInBounds_toArray, List.set_cons_zero, List.set_cons_succ]
      refine wpAnyH_ready (rs := [11]) (by kernel_rfl) (by simp) ?_
      refine AllReadyH.cons rfl (fun K hKq => ?_) AllReadyH.nil
      obtain ⟨U, hU⟩ : ∃ U, (Y2.alloc rzo) = U := ⟨_, rfl⟩
      rw [hU] at hH KQ B1n4 B2n4 ⊢
      have KU : Hid (Kp Y2 U) := by subst hU; exact (by repeat (first | exact Kp.refl _ | refine Kp.alloc ?_ _ | refine Kp.drew ?_))
      clear hU
      have v0 := bl_cell (B1n4.out) 0 _ rfl
      have fv0 := bl_frozen (B1n4.out) 0
      have v1 := bl_cell (B1n4.out) 1 _ rfl
      have fv1 := bl_frozen (B1n4.out) 1
      have v2 := bl_cell (B1n4.out) 2 _ rfl
      have fv2 := bl_frozen (B1n4.out) 2
      have v3 := bl_cell (B1n4.out) 3 _ rfl
      have fv3 := bl_frozen (B1n4.out) 3
      have v4 := bl_cell (B1n4.out) 4 _ rfl
      have fv4 := bl_frozen (B1n4.out) 4
      have v5 := bl_cell (B1n4.out) 5 _ rfl
      have fv5 := bl_frozen (B1n4.out) 5
      have v6 := bl_cell (B1n4.out) 6 _ rfl
      have fv6 := bl_frozen (B1n4.out) 6
      have v7 := bl_cell (B1n4.out) 7 _ rfl
      have fv7 := bl_frozen (B1n4.out) 7
      have v8 := bl_cell (B1n4.out) 8 _ rfl
      have fv8 := bl_frozen (B1n4.out) 8
      go_simp
      refine hKq.out _ _ (MK.out _ (Km.new (S := Y1.heap.size) KQ (ks_set9 _ _ _ _ _ _ _ _ _) (by omega) (by omega))) (fun hN => ?_)
      clear v0 fv0 v1 fv1 v2 fv2 v3 fv3 v4 fv4 v5 fv5 v6 fv6 v7 fv7 v8 fv8
      have B1s := hid (bl_set9 B1n4.out (.int .i64 k1) (.int .i64 mn1) (.int .i64 mx1) (.int .i64 mm1) (.int .u64 (t1.a : Int)) (.int .u64 (t1.b : Int)) (.int .u64 (t1.c : Int)) (.int .u64 (t1.d : Int)) (.slice ad1 l1 c1))
      have F1s := hid (ks_set9 (w := U) (B := Y1.heap.size) (.int .i64 k1) (.int .i64 mn1) (.int .i64 mx1) (.int .i64 mm1) (.int .u64 (t1.a : Int)) (.int .u64 (t1.b : Int)) (.int .u64 (t1.c : Int)) (.int .u64 (t1.d : Int)) (.slice ad1 l1 c1))
      have B2s := hid (bl_ks B2n4.out (by omega) F1s.out)
      clear hKq K hH KQ
      have hH := hN
      clear hN
      have KQ := hH.2.2.2.2.2.2.out
      try simp only [Act.put, List.setIfInBounds_toArray, List.set_cons_zero, List.set_cons_succ]
      refine wpAnyH_ready (rs := [12]) (by kernel_rfl) (by simp) ?_
      refine AllReadyH.cons rfl (fun K hKq => ?_) AllReadyH.nil
      have u0 := bl_cell (B2s.out) 0 _ rfl
      have fu0 := bl_frozen (B2s.out) 0
      have u1 := bl_cell (B2s.out) 1 _ rfl
      have fu1 := bl_frozen (B2s.out) 1
      have u2 := bl_cell (B2s.out) 2 _ rfl
      have fu2 := bl_frozen (B2s.out) 2
      have u3 := bl_cell (B2s.out) 3 _ rfl
      have fu3 := bl_frozen (B2s.out) 3
      have u4 := bl_cell (B2s.out) 4 _ rfl
      have fu4 := bl_frozen (B2s.out) 4
      have u5 := bl_cell (B2s.out) 5 _ rfl
      have fu5 := bl_frozen (B2s.out) 5
      have u6 := bl_cell (B2s.out) 6 _ rfl
      have fu6 := bl_frozen (B2s.out) 6
      have u7 := bl_cell (B2s.out) 7 _ rfl
      have fu7 := bl_frozen (B2s.out) 7
      have u8 := bl_cell (B2s.out) 8 _ rfl
      have fu8 := bl_frozen (B2s.out) 8
      go_simp
      refine hKq.out _ _ (MK.out _ (Km.new (S := Y2.heap.size) KQ (ks_set9 _ _ _ _ _ _ _ _ _) (by omega) (by omega))) (fun hN => ?_)
      clear u0 fu0 u1 fu1 u2 fu2 u3 fu3 u4 fu4 u5 fu5 u6 fu6 u7 fu7 u8 fu8
      clear hKq K hH KQ
      have hH := hN
      clear hN
      have KQ := hH.2.2.2.2.2.2.out
      try simp only [Act.put, List.setIfInBounds_toArray, List.set_cons_zero, List.set_cons_succ]
      refine wpAnyH_done (by kernel_rfl) ?_ _
      refine NoPanic.normal ?_
      go_wp2_with fail
      go_meet
      case rel => exact amid_of (u1 := W5.drew) (u2 := (Y1.alloc rzo)) (u3 := U) hBw hm2 (by omega) K2.out (by repeat (first | exact Kp.refl _ | refine Kp.alloc ?_ _ | refine Kp.drew ?_)) KM1.out (by repeat (first | exact Kp.refl _ | refine Kp.alloc ?_ _ | refine Kp.drew ?_)) KU.out (by omega) (by omega) (by first | omega | (simp; omega) | simp) (by first | omega | (simp; omega) | simp) (by first | omega | (simp; omega) | simp) (by first | omega | (simp; omega) | simp) R2.out I1.out q1 q2 q3 SG1.out I2.out G2.out SG2.out F1s.out (ks_set9 _ _ _ _ _ _ _ _ _) (bl_ks B1s.out (by omega) (ks_set9 _ _ _ _ _ _ _ _ _)) (bl_set9 B2s.out _ _ _ _ _ _ _ _ _)
     refine AllReadyH.cons rfl (fun K hKq => ?_) ?_
     ·
      go_simp
      refine hKq.out _ _ (MK.out _ (KQ.kp ((Kp.refl _).alloc _) (by omega))) (fun hN => ?_)
      have B1n3 : Hid (((Y1.alloc rzo).alloc rzo).heap[Y1.heap.size]? = some rzo) := bl_alloc B1n2.out _
      have B2n3 : Hid (((Y1.alloc rzo).alloc rzo).heap[Y1.heap.size + 1]? = some rzo) := last_at _ _ _ (by simp)
      clear hKq K hH KQ
      have hH := hN
      clear hN
      have KQ := hH.2.2.2.2.2.2.out
      try simp only [Act.put, List.setIfInBounds_toArray, List.set_cons_zero, List.set_cons_succ]
      refine wpAnyH_ready (rs := [8]) (by kernel_rfl) (by simp) ?_
      refine AllReadyH.cons rfl (fun K hKq => ?_) AllReadyH.nil
      go_simp
      refine (PS2.out _ (by repeat (first | exact Kp.refl _ | refine Kp.alloc ?_ _ | refine Kp.drew ?_))).mono ?_
      rintro e Y2 ⟨⟨T2, v2, g2, rfl, hI, hp1, hp2, hGn⟩⟩
      obtain ⟨k2, mn2, mx2, mm2, t2, ad2, l2, c2, rfl⟩ := hI.form
      have SG2 := hid (hp1 rfl).part
      have I2 := hid hI
      have G2 := hid hGn
      have hy2 := hGn.km.size
      try simp at hy2
      have B1n4 : Hid (Y2.heap[Y1.heap.size]? = some rzo) := bl_km B1n3.out (by omega) G2.out.km
      have B2n4 : Hid (Y2.heap[Y1.heap.size + 1]? = some rzo) := bl_km B2n3.out (by omega) G2.out.km
      clear hI hp1 hp2 hGn PS2
      refine hKq.out _ _ (MK.out _ (KQ.trans G2.out.km)) (fun hN => ?_)
      clear hKq K hH KQ
      have hH := hN
      clear hN
      have KQ := hH.2.2.2.2.2.2.out
      try simp only [Act.put, List.setIfInBounds_toArray, List.set_cons_zero, List.set_cons_succ]
      refine wpAnyH_ready (rs := [11]) (by kernel_rfl) (by simp) ?_
      refine AllReadyH.cons rfl (fun K hKq => ?_) AllReadyH.nil
      have v0 := bl_cell (B1n4.out) 0 _ rfl
      have fv0 := bl_frozen (B1n4.out) 0
      have v1 := bl_cell (B1n4.out) 1 _ rfl
      have fv1 := bl_frozen (B1n4.out) 1
      have v2 := bl_cell (B1n4.out) 2 _ rfl
      have fv2 := bl_frozen (B1n4.out) 2
      have v3 := bl_cell (B1n4.out) 3 _ rfl
      have fv3 := bl_frozen (B1n4.out) 3
      have v4 := bl_cell (B1n4.out) 4 _ rfl
      have fv4 := bl_frozen (B1n4.out) 4
      have v5 := bl_cell (B1n4.out) 5 _ rfl
      have fv5 := bl_frozen (B1n4.out) 5
      have v6 := bl_cell (B1n4.out) 6 _ rfl
      have fv6 := bl_frozen (B1n4.out) 6
      have v7 := bl_cell (B1n4.out) 7 _ rfl
      have fv7 := bl_frozen (B1n4.out) 7
      have v8 := bl_cell (B1n4.out) 8 _ rfl
      have fv8 := bl_frozen (B1n4.out) 8
      go_simp
      refine hKq.out _ _ (MK.out _ (Km.new (S := Y1.heap.size) KQ (ks_set9 _ _ _ _ _ _ _ _ _) (by omega) (by omega))) (fun hN => ?_)
      clear v0 fv0 v1 fv1 v2 fv2 v3 fv3 v4 fv4 v5 fv5 v6 fv6 v7 fv7 v8 fv8
      have B1s := hid (bl_set9 B1n4.out (.int .i64 k1) (.int .i64 mn1) (.int .i64 mx1) (.int .i64 mm1) (.int .u64 (t1.a : Int)) (.int .u64 (t1.b : Int)) (.int .u64 (t1.c : Int)) (.int .u64 (t1.d : Int)) (.slice ad1 l1 c1))
      have F1s := hid (ks_set9 (w := Y2) (B := Y1.heap.size) (.int .i64 k1) (.int .i64 mn1) (.int .i64 mx1) (.int .i64 mm1) (.int .u64 (t1.a : Int)) (.int .u64 (t1.b : Int)) (.int .u64 (t1.c : Int)) (.int .u64 (t1.d : Int)) (.slice ad1 l1 c1))
      have B2s := hid (bl_ks B2n4.out (by omega) F1s.out)
      clear hKq K hH KQ
      have hH := hN
      clear hN
      have KQ := hH.2.2.2.2.2.2.out
      try simp only [Act.put, List.setIfInBounds_toArray, List.set_cons_zero, List.set_cons_succ]
      refine wpAnyH_ready (rs := [12]) (by kernel_rfl) (by simp) ?_
      refine AllReadyH.cons rfl (fun K hKq => ?_) AllReadyH.nil
      have u0 := bl_cell (B2s.out) 0 _ rfl
      have fu0 := bl_frozen (B2s.out) 0
      have u1 := bl_cell (B2s.out) 1 _ rfl
      have fu1 := bl_frozen (B2s.out) 1
      have u2 := bl_cell (B2s.out) 2 _ rfl
      have fu2 := bl_frozen (B2s.out) 2
      have u3 := bl_cell (B2s.out) 3 _ rfl
      have fu3 := bl_frozen (B2s.out) 3
      have u4 := bl_cell (B2s.out) 4 _ rfl
      have fu4 := bl_frozen (B2s.out) 4
      have u5 := bl_cell (B2s.out) 5 _ rfl
      have fu5 := bl_frozen (B2s.out) 5
      have u6 := bl_cell (B2s.out) 6 _ rfl
      have fu6 := bl_frozen (B2s.out) 6
      have u7 := bl_cell (B2s.out) 7 _ rfl
      have fu7 := bl_frozen (B2s.out) 7
      have u8 := bl_cell (B2s.out) 8 _ rfl
      have fu8 := bl_frozen (B2s.out) 8
      go_simp
      refine hKq.out _ _ (MK.out _ (Km.new (S := Y1.heap.size + 1) KQ (ks_set9 _ _ _ _ _ _ _ _ _) (by omega) (by omega))) (fun hN => ?_)
      clear u0 fu0 u1 fu1 u2 fu2 u3 fu3 u4 fu4 u5 fu5 u6 fu6 u7 fu7 u8 fu8
      clear hKq K hH KQ
      have hH := hN
      clear hN
      have KQ := hH.2.2.2.2.2.2.out
      try simp only [Act.put, List.setIfInBounds_toArray, List.set_cons_zero, List.set_cons_succ]
      refine wpAnyH_done (by kernel_rfl) ?_ _
      refine NoPanic.normal ?_
      go_wp2_with fail
      go_meet
      case rel => exact amid_of (u1 := W5.drew) (u2 := ((Y1.alloc rzo).alloc rzo)) (u3 := Y2) hBw hm2 (by omega) K2.out (by repeat (first | exact Kp.refl _ | refine Kp.alloc ?_ _ | refine Kp.drew ?_)) KM1.out (by repeat (first | exact Kp.refl _ | refine Kp.alloc ?_ _ | refine Kp.drew ?_)) (Kp.refl _) (by omega) (by omega) (by first | omega | (simp; omega) | simp) (by first | omega | (simp; omega) | simp) (by first | omega | (simp; omega) | simp) (by first | omega | (simp; omega) | simp) R2.out I1.out q1 q2 q3 SG1.out I2.out G2.out SG2.out F1s.out (ks_set9 _ _ _ _ _ _ _ _ _) (bl_ks B1s.out (by omega) (ks_set9 _ _ _ _ _ _ _ _ _)) (bl_set9 B2s.out _ _ _ _ _ _ _ _ _)
     exact AllReadyH.nil
    refine AllReadyH.cons rfl (fun K hKq => ?_) ?_
    ·
     go_simp
     refine hKq.out _ _ (MK.out _ (KQ.kp ((Kp.refl _).alloc _) (by omega))) (fun hN => ?_)
     have B2n2 : Hid ((Y1.alloc rzo).heap[Y1.heap.size]? = some rzo) := last_at _ _ _ (by simp)
     clear hKq K hH KQ
     have hH := hN
     clear hN
     have KQ := hH.2.2.2.2.2.2.out
     try simp only [Act.put, List.setIfInBounds_toArray, List.set_cons_zero, List.set_cons_succ]
     refine wpAnyH_ready (rs := [8, 9]) (by kernel_rfl) (by simp) ?_
     refine AllReadyH.cons rfl (fun K hKq => ?_) ?_
     ·
      go_simp
      refine (PS2.out _ (by repeat (first | exact Kp.refl _ | refine Kp.alloc ?_ _ | refine Kp.drew ?_))).mono ?_
      rintro e Y2 ⟨⟨T2, v2, g2, rfl, hI, hp1, hp2, hGn⟩⟩
      obtain ⟨k2, mn2, mx2, mm2, t2, ad2, l2, c2, rfl⟩ := hI.form
      have SG2 := hid (hp1 rfl).part
      have I2 := hid hI
      have G2 := hid hGn
      have hy2 := hGn.km.size
      try simp at hy2
      have B2n3 : Hid (Y2.heap[Y1.heap.size]? = some rzo) := bl_km B2n2.out (by omega) G2.out.km
      clear hI hp1 hp2 hGn PS2
      refine hKq.out _ _ (MK.out _ (KQ.trans G2.out.km)) (fun hN => ?_)
      clear hKq K hH KQ
      have hH := hN
      clear hN
      have KQ := hH.2.2.2.2.2.2.out
      try simp only [Act.put, List.setIfInBounds_toArray, List.set_cons_zero, List.set_cons_succ]
      refine wpAnyH_ready (rs := [9]) (by kernel_rfl) (by simp) ?_
      refine AllReadyH.cons rfl (fun K hKq => ?_) AllReadyH.nil
      go_simp
      refine hKq.out _ _ (MK.out _ (KQ.kp ((Kp.refl _).alloc _) (by omega))) (fun hN => ?_)
      have B2n4 : Hid ((Y2.alloc rzo).heap[Y1.heap.size]? = some rzo) := bl_alloc B2n3.out _
      have B1n4 : Hid ((Y2.alloc rzo).heap[Y2.heap.size]? = some rzo) := last_at _ _ _ (by simp)
      clear hKq K hH KQ
      have hH := hN
      clear hN
      have KQ := hH.2.2.2.2.2.2.out
      try simp only [Act.put, List.setIfInBounds_toArray, List.set_cons_zero, List.set_cons_succ]
      refine wpAnyH_ready (rs := [11]) (by kernel_rfl) (by simp) ?_
      refine AllReadyH.cons rfl (fun K hKq => ?_) AllReadyH.nil
      obtain ⟨U, hU⟩ : ∃ U, (Y2.alloc rzo) = U := ⟨_, rfl⟩
      rw [hU] at hH KQ B1n4 B2n4 ⊢
      have KU : Hid (Kp Y2 U) := by subst hU; exact (by repeat (first | exact Kp.refl _ | refine Kp.alloc ?_ _ | refine Kp.drew ?_))
      clear hU
      have v0 := bl_cell (B1n4.out) 0 _ rfl
      have fv0 := bl_frozen (B1n4.out) 0
      have v1 := bl_cell (B1n4.out) 1 _ rfl
      have fv1 := bl_frozen (B1n4.out) 1
      have v2 := bl_cell (B1n4.out) 2 _ rfl
      have fv2 := bl_frozen (B1n4.out) 2
      have v3 := bl_cell (B1n4.out) 3 _ rfl
      have fv3 := bl_frozen (B1n4.out) 3
      have v4 := bl_cell (B1n4.out) 4 _ rfl
      have fv4 := bl_frozen (B1n4.out) 4
      have v5 := bl_cell (B1n4.out) 5 _ rfl
      have fv5 := bl_frozen (B1n4.out) 5
      have v6 := bl_cell (B1n4.out) 6 _ rfl
      have fv6 := bl_frozen (B1n4.out) 6
      have v7 := bl_cell (B1n4.out) 7 _ rfl
      have fv7 := bl_frozen (B1n4.out) 7
      have v8 := bl_cell (B1n4.out) 8 _ rfl
      have fv8 := bl_frozen (B1n4.out) 8
      go_simp
      refine hKq.out _ _ (MK.out _ (Km.new (S := Y2.heap.size) KQ (ks_set9 _ _ _ _ _ _ _ _ _) (by omega) (by omega))) (fun hN => ?_)
      clear v0 fv0 v1 fv1 v2 fv2 v3 fv3 v4 fv4 v5 fv5 v6 fv6 v7 fv7 v8 fv8
      have B1s := hid (bl_set9 B1n4.out (.int .i64 k1) (.int .i64 mn1) (.int .i64 mx1) (.int .i64 mm1) (.int .u64 (t1.a : Int)) (.int .u64 (t1.b : Int)) (.int .u64 (t1.c : Int)) (.int .u64 (t1.d : Int)) (.slice ad1 l1 c1))
      have F1s := hid (ks_set9 (w := U) (B := Y2.heap.size) (.int .i64 k1) (.int .i64 mn1) (.int .i64 mx1) (.int .i64 mm1) (.int .u64 (t1.a : Int)) (.int .u64 (t1.b : Int)) (.int .u64 (t1.c : Int)) (.int .u64 (t1.d : Int)) (.slice ad1 l1 c1))
      have B2s := hid (bl_ks B2n4.out (by omega) F1s.out)
      clear hKq K hH KQ
      have hH := hN
      clear hN
      have KQ := hH.2.2.2.2.2.2.out
      try simp only [Act.put, List.setIfInBounds_toArray, List.set_cons_zero, List.set_cons_succ]
      refine wpAnyH_ready (rs := [12]) (by kernel_rfl) (by simp) ?_
      refine AllReadyH.cons rfl (fun K hKq => ?_) AllReadyH.nil
      have u0 := bl_cell (B2s.out) 0 _ rfl
      have fu0 := bl_frozen (B2s.out) 0
      have u1 := bl_cell (B2s.out) 1 _ rfl
      have fu1 := bl_frozen (B2s.out) 1
      have u2 := bl_cell (B2s.out) 2 _ rfl
      have fu2 := bl_frozen (B2s.out) 2
      have u3 := bl_cell (B2s.out) 3 _ rfl
      have fu3 := bl_frozen (B2s.out) 3
      have u4 := bl_cell (B2s.out) 4 _ rfl
      have fu4 := bl_frozen (B2s.out) 4
      have u5 := bl_cell (B2s.out) 5 _ rfl
      have fu5 := bl_frozen (B2s.out) 5
      have u6 := bl_cell (B2s.out) 6 _ rfl
      have fu6 := bl_frozen (B2s.out) 6
      have u7 := bl_cell (B2s.out) 7 _ rfl
      have fu7 := bl_frozen (B2s.out) 7
      have u8 := bl_cell (B2s.out) 8 _ rfl
      have fu8 := bl_frozen (B2s.out) 8
      go_simp
      refine hKq.out _ _ (MK.out _ (Km.new (S := Y1.heap.size) KQ (ks_set9 _ _ _ _ _ _ _ _ _) (by omega) (by omega))) (fun hN => ?_)
      clear u0 fu0 u1 fu1 u2 fu2 u3 fu3 u4 fu4 u5 fu5 u6 fu6 u7 fu7 u8 fu8
      clear hKq K hH KQ
      have hH := hN
      clear hN
      have KQ := hH.2.2.2.2.2.2.out
      try simp only [Act.put, List.setIfInBounds_toArray, List.set_cons_zero, List.set_cons_succ]
      refine wpAnyH_done (by kernel_rfl) ?_ _
      refine NoPanic.normal ?_
      go_wp2_with fail
      go_meet
      case rel => exact amid_of (u1 := W5.drew) (u2 := (Y1.alloc rzo)) (u3 := U) hBw hm2 (by omega) K2.out (by repeat (first | exact Kp.refl _ | refine Kp.alloc ?_ _ | refine Kp.drew ?_)) KM1.out (by repeat (first | exact Kp.refl _ | refine Kp.alloc ?_ _ | refine Kp.drew ?_)) KU.out (by omega) (by omega) (by first | omega | (simp; omega) | simp) (by first | omega | (simp; omega) | simp) (by first | omega | (simp; omega) | simp) (by first | omega | (simp; omega) | simp) R2.out I1.out q1 q2 q3 SG1.out I2.out G2.out SG2.out F1s.out (ks_set9 _ _ _ _ _ _ _ _ _) (bl_ks B1s.out (by omega) (ks_set9 _ _ _ _ _ _ _ _ _)) (bl_set9 B2s.out _ _ _ _ _ _ _ _ _)
     refine AllReadyH.cons rfl (fun K hKq => ?_) ?_
     ·
      go_simp
      refine hKq.out _ _ (MK.out _ (KQ.kp ((Kp.refl _).alloc _) (by omega))) (fun hN => ?_)
      have B2n3 : Hid (((Y1.alloc rzo).alloc rzo).heap[Y1.heap.size]? = some rzo) := bl_alloc B2n2.out _
      have B1n3 : Hid (((Y1.alloc rzo).alloc rzo).heap[Y1.heap.size + 1]? = some rzo) := last_at _ _ _ (by simp)
      clear hKq K hH KQ
      have hH := hN
      clear hN
      have KQ := hH.2.2.2.2.2.2.out
      try simp only [Act.put, List.setIfInBounds_toArray, List.set_cons_zero, List.set_cons_succ]
      refine wpAnyH_ready (rs := [8]) (by kernel_rfl) (by simp) ?_
      refine AllReadyH.cons rfl (fun K hKq => ?_) AllReadyH.nil
      go_simp
      refine (PS2.out _ (by repeat (first | exact Kp.refl _ | refine Kp.alloc ?_ _ | refine Kp.drew ?_))).mono ?_
      rintro e Y2 ⟨⟨T2, v2, g2, rfl, hI, hp1, hp2, hGn⟩⟩
      obtain ⟨k2, mn2, mx2, mm2, t2, ad2, l2, c2, rfl⟩ := hI.form
      have SG2 := hid (hp1 rfl).part
      have I2 := hid hI
      have G2 := hid hGn
      have hy2 := hGn.km.size
      try simp at hy2
      have B1n4 : Hid (Y2.heap[Y1.heap.size + 1]? = some rzo) := bl_km B1n3.out (by omega) G2.out.km
      have B2n4 : Hid (Y2.heap[Y1.heap.size]? = some rzo) := bl_km B2n3.out (by omega) G2.out.km
      clear hI hp1 hp2 hGn PS2
      refine hKq.out _ _ (MK.out _ (KQ.trans G2.out.km)) (fun hN => ?_)
      clear hKq K hH KQ
      have hH := hN
      clear hN
      have KQ := hH.2.2.2.2.2.2.out
      try simp only [Act.put, List.setIfInBounds_toArray, List.set_cons_zero, List.set_cons_succ]
      refine wpAnyH_ready (rs := [11]) (by kernel_rfl) (by simp) ?_
      refine AllReadyH.cons rfl (fun K hKq => ?_) AllReadyH.nil
      have v0 := bl_cell (B1n4.out) 0 _ rfl
      have fv0 := bl_frozen (B1n4.out) 0
      have v1 := bl_cell (B1n4.out) 1 _ rfl
      have fv1 := bl_frozen (B1n4.out) 1
      have v2 := bl_cell (B1n4.out) 2 _ rfl
      have fv2 := bl_frozen (B1n4.out) 2
      have v3 := bl_cell (B1n4.out) 3 _ rfl
      have fv3 := bl_frozen (B1n4.out) 3
      have v4 := bl_cell (B1n4.out) 4 _ rfl
      have fv4 := bl_frozen (B1n4.out) 4
      have v5 := bl_cell (B1n4.out) 5 _ rfl
      have fv5 := bl_frozen (B1n4.out) 5
      have v6 := bl_cell (B1n4.out) 6 _ rfl
      have fv6 := bl_frozen (B1n4.out) 6
      have v7 := bl_cell (B1n4.out) 7 _ rfl
      have fv7 := bl_frozen (B1n4.out) 7
      have v8 := bl_cell (B1n4.out) 8 _ rfl
      have fv8 := bl_frozen (B1n4.out) 8
      go_simp
      refine hKq.out _ _ (MK.out _ (Km.new (S := Y1.heap.size + 1) KQ (ks_set9 _ _ _ _ _ _ _ _ _) (by omega) (by omega))) (fun hN => ?_)
      clear v0 fv0 v1 fv1 v2 fv2 v3 fv3 v4 fv4 v5 fv5 v6 fv6 v7 fv7 v8 fv8
      have B1s := hid (bl_set9 B1n4.out (.int .i64 k1) (.int .i64 mn1) (.int .i64 mx1) (.int .i64 mm1) (.int .u64 (t1.a : Int)) (.int .u64 (t1.b : Int)) (.int .u64 (t1.c : Int)) (.int .u64 (t1.d : Int)) (.slice ad1 l1 c1))
      have F1s := hid (ks_set9 (w := Y2) (B := Y1.heap.size + 1) (.int .i64 k1) (.int .i64 mn1) (.int .i64 mx1) (.int .i64 mm1) (.int .u64 (t1.a : Int)) (.int .u64 (t1.b : Int)) (.int .u64 (t1.c : Int)) (.int .u64 (t1.d : Int)) (.slice ad1 l1 c1))
      have B2s := hid (bl_ks B2n4.out (by omega) F1s.out)
      clear hKq K hH KQ
      have hH := hN
      clear hN
      have KQ := hH.2.2.2.2.2.2.out
      try simp only [Act.put, List.setIfInBounds_toArray, List.set_cons_zero, List.set_cons_succ]
      refine wpAnyH_ready (rs := [12]) (by kernel_rfl) (by simp) ?_
      refine AllReadyH.cons rfl (fun K hKq => ?_) AllReadyH.nil
      have u0 := bl_cell (B2s.out) 0 _ rfl
      have fu0 := bl_frozen (B2s.out) 0
      have u1 := bl_cell (B2s.out) 1 _ rfl
      have fu1 := bl_frozen (B2s.out) 1
      have u2 := bl_cell (B2s.out) 2 _ rfl
      have fu2 := bl_frozen (B2s.out) 2
      have u3 := bl_cell (B2s.out) 3 _ rfl
      have fu3 := bl_frozen (B2s.out) 3
      have u4 := bl_cell (B2s.out) 4 _ rfl
      have fu4 := bl_frozen (B2s.out) 4
      have u5 := bl_cell (B2s.out) 5 _ rfl
      have fu5 := bl_frozen (B2s.out) 5
      have u6 := bl_cell (B2s.out) 6 _ rfl
      have fu6 := bl_frozen (B2s.out) 6
      have u7 := bl_cell (B2s.out) 7 _ rfl
      have fu7 := bl_frozen (B2s.out) 7
      have u8 := bl_cell (B2s.out) 8 _ rfl
      have fu8 := bl_frozen (B2s.out) 8
      go_simp
      refine hKq.out _ _ (MK.out _ (Km.new (S := Y1.heap.size) KQ (ks_set9 _ _ _ _ _ _ _ _ _) (by omega) (by omega))) (fun hN => ?_)
      clear u0 fu0 u1 fu1 u2 fu2 u3 fu3 u4 fu4 u5 fu5 u6 fu6 u7 fu7 u8 fu8
      clear hKq K hH KQ
      have hH := hN
      clear hN
      have KQ := hH.2.2.2.2.2.2.out
      try simp only [Act.put, List.setIfInBounds_toArray, List.set_cons_zero, List.set_cons_succ]
      refine wpAnyH_done (by kernel_rfl) ?_ _
      refine NoPanic.normal ?_
      go_wp2_with fail
      go_meet
      case rel => exact amid_of (u1 := W5.drew) (u2 := ((Y1.alloc rzo).alloc rzo)) (u3 := Y2) hBw hm2 (by omega) K2.out (by repeat (first | exact Kp.refl _ | refine Kp.alloc ?_ _ | refine Kp.drew ?_)) KM1.out (by repeat (first | exact Kp.refl _ | refine Kp.alloc ?_ _ | refine Kp.drew ?_)) (Kp.refl _) (by omega) (by omega) (by first | omega | (simp; omega) | simp) (by first | omega | (simp; omega) | simp) (by first | omega | (simp; omega) | simp) (by first | omega | (simp; omega) | simp) R2.out I1.out q1 q2 q3 SG1.out I2.out G2.out SG2.out F1s.out (ks_set9 _ _ _ _ _ _ _ _ _) (bl_ks B1s.out (by omega) (ks_set9 _ _ _ _ _ _ _ _ _)) (bl_set9 B2s.out _ _ _ _ _ _ _ _ _)
     exact AllReadyH.nil
    exact AllReadyH.nil
   refine AllReadyH.cons rfl (fun K hKq => ?_) ?_
   ·
    go_simp
    refine hKq.out _ _ (MK.out _ (KQ.kp ((Kp.refl _).alloc _) (by omega))) (fun hN => ?_)
    have B1n1 : Hid ((W5.alloc rzo).heap[W5.heap.size]? = some rzo) := last_at _ _ _ (by simp)
    clear hKq K hH KQ
    have hH := hN
    clear hN
    have KQ := hH.2.2.2.2.2.2.out
    try simp only [Act.put, List.setIfInBounds_toArray, List.set_cons_zero, List.set_cons_succ]
    refine wpAnyH_ready (rs := [5, 10]) (by kernel_rfl) (by simp) ?_
    refine AllReadyH.cons rfl (fun K hKq => ?_) ?_
    ·
     go_simp
     refine (PS.out m hm1 hm2 _ (by repeat (first | exact Kp.refl _ | refine Kp.alloc ?_ _ | refine Kp.drew ?_))).mono ?_
     rintro e Y1 ⟨⟨T1, v1, g1, rfl, hI, hp1, hp2, hGn⟩⟩
     obtain ⟨k1, mn1, mx1, mm1, t1, ad1, l1, c1, rfl⟩ := hI.form
     have SG1 := hid (sg_of hg3 hm1 hm2 hp1 hp2)
     have I1 := hid hI
     have KM1 := hid hGn.km
     have hy1 := hGn.km.size
     try simp at hy1
     obtain ⟨x', z', hmk, q1, q2, q3⟩ := hGn.ex
     have hgg := SG1.out.g3
     have B1n2 : Hid (Y1.heap[W5.heap.size]? = some rzo) := bl_km (w := (W5.alloc rzo).drew) B1n1.out (by omega) KM1.out
     have PS2 := hid (fun (W : World) (k : Kp Y1 W) => parts_any aK lK cK aN lN cN true B d 1 x' g1 z' W (by omega) (by omega) HPS.out ⟨hmk.kp k, NKW.out _ ((Kp.km (B := B) (a := W5) (by repeat (first | exact Kp.refl _ | refine Kp.alloc ?_ _ | refine Kp.drew ?_)) (by omega)).trans (KM1.out.kp k (by first | omega | (simp; omega) | simp))), NNW.out _ ((Kp.km (B := B) (a := W5) (by repeat (first | exact Kp.refl _ | refine Kp.alloc ?_ _ | refine Kp.drew ?_)) (by omega)).trans (KM1.out.kp k (by first | omega | (simp; omega) | simp))), hgg, by omega, by omega, by omega⟩)
     clear hI hp1 hp2 hGn hmk
     refine hKq.out _ _ (MK.out _ (KQ.trans KM1.out)) (fun hN => ?_)
     clear hKq K hH KQ
     have hH := hN
     clear hN
     have KQ := hH.2.2.2.2.2.2.out
     try simp only [Act.put, List.setIfInBounds_toArray, List.set_cons_zero, List.set_cons_succ]
     refine wpAnyH_ready (rs := [8, 10]) (by kernel_rfl) (by simp) ?_
     refine AllReadyH.cons rfl (fun K hKq => ?_) ?_
     ·
      go_simp
      refine (PS2.out _ (by repeat (first | exact Kp.refl _ | refine Kp.alloc ?_ _ | refine Kp.drew ?_))).mono ?_
      rintro e Y2 ⟨⟨T2, v2, g2, rfl, hI, hp1, hp2, hGn⟩⟩
      obtain ⟨k2, mn2, mx2, mm2, t2, ad2, l2, c2, rfl⟩ := hI.form
      have SG2 := hid (hp1 rfl).part
      have I2 := hid hI
      have G2 := hid hGn
      have hy2 := hGn.km.size
      try simp at hy2
      have B1n3 : Hid (Y2.heap[W5.heap.size]? = some rzo) := bl_km B1n2.out (by omega) G2.out.km
      clear hI hp1 hp2 hGn PS2
      refine hKq.out _ _ (MK.out _ (KQ.trans G2.out.km)) (fun hN => ?_)
      clear hKq K hH KQ
      have hH := hN
      clear hN
      have KQ := hH.2.2.2.2.2.2.out
      try simp only [Act.put, List.setIfInBounds_toArray, List.set_cons_zero, List.set_cons_succ]
      refine wpAnyH_ready (rs := [10]) (by kernel_rfl) (by simp) ?_
      refine AllReadyH.cons rfl (fun K hKq => ?_) AllReadyH.nil
      go_simp
      refine hKq.out _ _ (MK.out _ (KQ.kp ((Kp.refl _).alloc _) (by omega))) (fun hN => ?_)
      have B1n4 : Hid ((Y2.alloc rzo).heap[W5.heap.size]? = some rzo) := bl_alloc B1n3.out _
      have B2n4 : Hid ((Y2.alloc rzo).heap[Y2.heap.size]? = some rzo) := last_at _ _ _ (by simp)
      clear hKq K hH KQ
      have hH := hN
      clear hN
      have KQ := hH.2.2.2.2.2.2.out
      try simp only [Act.put, List.setIfInBounds_toArray, List.set_cons_zero, List.set_cons_succ]
      refine wpAnyH_ready (rs := [11]) (by kernel_rfl) (by simp) ?_
      refine AllReadyH.cons rfl (fun K hKq => ?_) AllReadyH.nil
      obtain ⟨U, hU⟩ : ∃ U, (Y2.alloc rzo) = U := ⟨_, rfl⟩
      rw [hU] at hH KQ B1n4 B2n4 ⊢
      have KU : Hid (Kp Y2 U) := by subst hU; exact (by repeat (first | exact Kp.refl _ | refine Kp.alloc ?_ _ | refine Kp.drew ?_))
      clear hU
      have v0 := bl_cell (B1n4.out) 0 _ rfl
      have fv0 := bl_frozen (B1n4.out) 0
      have v1 := bl_cell (B1n4.out) 1 _ rfl
      have fv1 := bl_frozen (B1n4.out) 1
      have v2 := bl_cell (B1n4.out) 2 _ rfl
      have fv2 := bl_frozen (B1n4.out) 2
      have v3 := bl_cell (B1n4.out) 3 _ rfl
      have fv3 := bl_frozen (B1n4.out) 3
      have v4 := bl_cell (B1n4.out) 4 _ rfl
      have fv4 := bl_frozen (B1n4.out) 4
      have v5 := bl_cell (B1n4.out) 5 _ rfl
      have fv5 := bl_frozen (B1n4.out) 5
      have v6 := bl_cell (B1n4.out) 6 _ rfl
      have fv6 := bl_frozen (B1n4.out) 6
      have v7 := bl_cell (B1n4.out) 7 _ rfl
      have fv7 := bl_frozen (B1n4.out) 7
      have v8 := bl_cell (B1n4.out) 8 _ rfl
      have fv8 := bl_frozen (B1n4.out) 8
      go_simp
      refine hKq.out _ _ (MK.out _ (Km.new (S := W5.heap.size) KQ (ks_set9 _ _ _ _ _ _ _ _ _) (by omega) (by omega))) (fun hN => ?_)
      clear v0 fv0 v1 fv1 v2 fv2 v3 fv3 v4 fv4 v5 fv5 v6 fv6 v7 fv7 v8 fv8
      have B1s := hid (bl_set9 B1n4.out (.int .i64 k1) (.int .i64 mn1) (.int .i64 mx1) (.int .i64 mm1) (.int .u64 (t1.a : Int)) (.int .u64 (t1.b : Int)) (.int .u64 (t1.c : Int)) (.int .u64 (t1.d : Int)) (.slice ad1 l1 c1))
      have F1s := hid (ks_set9 (w := U) (B := W5.heap.size) (.int .i64 k1) (.int .i64 mn1) (.int .i64 mx1) (.int .i64 mm1) (.int .u64 (t1.a : Int)) (.int .u64 (t1.b : Int)) (.int .u64 (t1.c : Int)) (.int .u64 (t1.d : Int)) (.slice ad1 l1 c1))
      have B2s := hid (bl_ks B2n4.out (by omega) F1s.out)
      clear hKq K hH KQ
      have hH := hN
      clear hN
      have KQ := hH.2.2.2.2.2.2.out
      try simp only [Act.put, List.setIfInBounds_toArray, List.set_cons_zero, List.set_cons_succ]
      refine wpAnyH_ready (rs := [12]) (by kernel_rfl) (by simp) ?_
      refine AllReadyH.cons rfl (fun K hKq => ?_) AllReadyH.nil
      have u0 := bl_cell (B2s.out) 0 _ rfl
      have fu0 := bl_frozen (B2s.out) 0
      have u1 := bl_cell (B2s.out) 1 _ rfl
      have fu1 := bl_frozen (B2s.out) 1
      have u2 := bl_cell (B2s.out) 2 _ rfl
      have fu2 := bl_frozen (B2s.out) 2
      have u3 := bl_cell (B2s.out) 3 _ rfl
      have fu3 := bl_frozen (B2s.out) 3
      have u4 := bl_cell (B2s.out) 4 _ rfl
      have fu4 := bl_frozen (B2s.out) 4
      have u5 := bl_cell (B2s.out) 5 _ rfl
      have fu5 := bl_frozen (B2s.out) 5
      have u6 := bl_cell (B2s.out) 6 _ rfl
      have fu6 := bl_frozen (B2s.out) 6
      have u7 := bl_cell (B2s.out) 7 _ rfl
      have fu7 := bl_frozen (B2s.out) 7
      have u8 := bl_cell (B2s.out) 8 _ rfl
      have fu8 := bl_frozen (B2s.out) 8
      go_simp
      refine hKq.out _ _ (MK.out _ (Km.new (S := Y2.heap.size) KQ (ks_set9 _ _ _ _ _ _ _ _ _) (by omega) (by omega))) (fun hN => ?_)
      clear u0 fu0 u1 fu1 u2 fu2 u3 fu3 u4 fu4 u5 fu5 u6 fu6 u7 fu7 u8 fu8
      clear hKq K hH KQ
      have hH := hN
      clear hN
      have KQ := hH.2.2.2.2.2.2.out
      try simp only [Act.put, List.setIfInBounds_toArray, List.set_cons_zero, List.set_cons_succ]
      refine wpAnyH_done (by kernel_rfl) ?_ _
      refine NoPanic.normal ?_
      go_wp2_with fail
      go_meet
      case rel => exact amid_of (u1 := (W5.alloc rzo).drew) (u2 := Y1) (u3 := U) hBw hm2 (by omega) K2.out (by repeat (first | exact Kp.refl _ | refine Kp.alloc ?_ _ | refine Kp.drew ?_)) KM1.out (by repeat (first | exact Kp.refl _ | refine Kp.alloc ?_ _ | refine Kp.drew ?_)) KU.out (by omega) (by omega) (by first | omega | (simp; omega) | simp) (by first | omega | (simp; omega) | simp) (by first | omega | (simp; omega) | simp) (by first | omega | (simp; omega) | simp) R2.out I1.out q1 q2 q3 SG1.out I2.out G2.out SG2.out F1s.out (ks_set9 _ _ _ _ _ _ _ _ _) (bl_ks B1s.out (by omega) (ks_set9 _ _ _ _ _ _ _ _ _)) (bl_set9 B2s.out _ _ _ _ _ _ _ _ _)
     refine AllReadyH.cons rfl (fun K hKq => ?_) ?_
     ·
      go_simp
      refine hKq.out _ _ (MK.out _ (KQ.kp ((Kp.refl _).alloc _) (by omega))) (fun hN => ?_)
      have B1n3 : Hid ((Y1.alloc rzo).heap[W5.heap.size]? = some rzo) := bl_alloc B1n2.out _
      have B2n3 : Hid ((Y1.alloc rzo).heap[Y1.heap.size]? = some rzo) := last_at _ _ _ (by simp)
      clear hKq K hH KQ
      have hH := hN
      clear hN
      have KQ := hH.2.2.2.2.2.2.out
      try simp only [Act.put, List.setIfInBounds_toArray, List.set_cons_zero, List.set_cons_succ]
      refine wpAnyH_ready (rs := [8]) (by kernel_rfl) (by simp) ?_
      refine AllReadyH.cons rfl (fun K hKq => ?_) AllReadyH.nil
      go_simp
      refine (PS2.out _ (by repeat (first | exact Kp.refl _ | refine Kp.alloc ?_ _ | refine Kp.drew ?_))).mono ?_
      rintro e Y2 ⟨⟨T2, v2, g2, rfl, hI, hp1, hp2, hGn⟩⟩
      obtain ⟨k2, mn2, mx2, mm2, t2, ad2, l2, c2, rfl⟩ := hI.form
      have SG2 := hid (hp1 rfl).part
      have I2 := hid hI
      have G2 := hid hGn
      have hy2 := hGn.km.size
      try simp at hy2
      have B1n4 : Hid (Y2.heap[W5.heap.size]? = some rzo) := bl_km B1n3.out (by omega) G2.out.km
      have B2n4 : Hid (Y2.heap[Y1.heap.size]? = some rzo) := bl_km B2n3.out (by omega) G2.out.km
      clear hI hp1 hp2 hGn PS2
      refine hKq.out _ _ (MK.out _ (KQ.trans G2.out.km)) (fun hN => ?_)
      clear hKq K hH KQ
      have hH := hN
      clear hN
      have KQ := hH.2.2.2.2.2.2.out
      try simp only [Act.put, List.setIfInBounds_toArray, List.set_cons_zero, List.set_cons_succ]
      refine wpAnyH_ready (rs := [11]) (by kernel_rfl) (by simp) ?_
      refine AllReadyH.cons rfl (fun K hKq => ?_) AllReadyH.nil
      have v0 := bl_cell (B1n4.out) 0 _ rfl
      have fv0 := bl_frozen (B1n4.out) 0
      have v1 := bl_cell (B1n4.out) 1 _ rfl
      have fv1 := bl_frozen (B1n4.out) 1
      have v2 := bl_cell (B1n4.out) 2 _ rfl
      have fv2 := bl_frozen (B1n4.out) 2
      have v3 := bl_cell (B1n4.out) 3 _ rfl
      have fv3 := bl_frozen (B1n4.out) 3
      have v4 := bl_cell (B1n4.out) 4 _ rfl
      have fv4 := bl_frozen (B1n4.out) 4
      have v5 := bl_cell (B1n4.out) 5 _ rfl
      have fv5 := bl_frozen (B1n4.out) 5
      have v6 := bl_cell (B1n4.out) 6 _ rfl
      have fv6 := bl_frozen (B1n4.out) 6
      have v7 := bl_cell (B1n4.out) 7 _ rfl
      have fv7 := bl_frozen (B1n4.out) 7
      have v8 := bl_cell (B1n4.out) 8 _ rfl
      have fv8 := bl_frozen (B1n4.out) 8
      go_simp
      refine hKq.out _ _ (MK.out _ (Km.new (S := W5.heap.size) KQ (ks_set9 _ _ _ _ _ _ _ _ _) (by omega) (by omega))) (fun hN => ?_)
      clear v0 fv0 v1 fv1 v2 fv2 v3 fv3 v4 fv4 v5 fv5 v6 fv6 v7 fv7 v8 fv8
      have B1s := hid (bl_set9 B1n4.out (.int .i64 k1) (.int .i64 mn1) (.int .i64 mx1) (.int .i64 mm1) (.int .u64 (t1.a : Int)) (.int .u64 (t1.b : Int)) (.int .u64 (t1.c : Int)) (.int .u64 (t1.d : Int)) (.slice ad1 l1 c1))
      have F1s := hid (ks_set9 (w := Y2) (B := W5.heap.size) (.int .i64 k1) (.int .i64 mn1) (.int .i64 mx1) (.int .i64 mm1) (.int .u64 (t1.a : Int)) (.int .u64 (t1.b : Int)) (.int .u64 (t1.c : Int)) (.int .u64 (t1.d : Int)) (.slice ad1 l1 c1))
      have B2s := hid (bl_ks B2n4.out (by omega) F1s.out)
      clear hKq K hH KQ
      have hH := hN
      clear hN
      have KQ := hH.2.2.2.2.2.2.out
      try simp only [Act.put, List.setIfInBounds_toArray, List.set_cons_zero, List.set_cons_succ]
      refine wpAnyH_ready (rs := [12]) (by kernel_rfl) (by simp) ?_
      refine AllReadyH.cons rfl (fun K hKq => ?_) AllReadyH.nil
      have u0 := bl_cell (B2s.out) 0 _ rfl
      have fu0 := bl_frozen (B2s.out) 0
      have u1 := bl_cell (B2s.out) 1 _ rfl
      have fu1 := bl_frozen (B2s.out) 1
      have u2 := bl_cell (B2s.out) 2 _ rfl
      have fu2 := bl_frozen (B2s.out) 2
      have u3 := bl_cell (B2s.out) 3 _ rfl
      have fu3 := bl_frozen (B2s.out) 3
      have u4 := bl_cell (B2s.out) 4 _ rfl
      have fu4 := bl_frozen (B2s.out) 4
      have u5 := bl_cell (B2s.out) 5 _ rfl
      have fu5 := bl_frozen (B2s.out) 5
      have u6 := bl_cell (B2s.out) 6 _ rfl
      have fu6 := bl_frozen (B2s.out) 6
      have u7 := bl_cell (B2s.out) 7 _ rfl
      have fu7 := bl_frozen (B2s.out) 7
      have u8 := bl_cell (B2s.out) 8 _ rfl
      have fu8 := bl_frozen (B2s.out) 8
      go_simp
      refine hKq.out _ _ (MK.out _ (Km.new (S := Y1.heap.size) KQ (ks_set9 _ _ _ _ _ _ _ _ _) (by omega) (by omega))) (fun hN => ?_)
      clear u0 fu0 u1 fu1 u2 fu2 u3 fu3 u4 fu4 u5 fu5 u6 fu6 u7 fu7 u8 fu8
      clear hKq K hH KQ
      have hH := hN
      clear hN
      have KQ := hH.2.2.2.2.2.2.out
      try simp only [Act.put, List.setIfInBounds_toArray, List.set_cons_zero, List.set_cons_succ]
      refine wpAnyH_done (by kernel_rfl) ?_ _
      refine NoPanic.normal ?_
      go_wp2_with fail
      go_meet
      case rel => exact amid_of (u1 := (W5.alloc rzo).drew) (u2 := (Y1.alloc rzo)) (u3 := Y2) hBw hm2 (by omega) K2.out (by repeat (first | exact Kp.refl _ | refine Kp.alloc ?_ _ | refine Kp.drew ?_)) KM1.out (by repeat (first | exact Kp.refl _ | refine Kp.alloc ?_ _ | refine Kp.drew ?_)) (Kp.refl _) (by omega) (by omega) (by first | omega | (simp; omega) | simp) (by first | omega | (simp; omega) | simp) (by first | omega | (simp; omega) | simp) (by first | omega | (simp; omega) | simp) R2.out I1.out q1 q2 q3 SG1.out I2.out G2.out SG2.out F1s.out (ks_set9 _ _ _ _ _ _ _ _ _) (bl_ks B1s.out (by omega) (ks_set9 _ _ _ _ _ _ _ _ _)) (bl_set9 B2s.out _ _ _ _ _ _ _ _ _)
     exact AllReadyH.nil
    refine AllReadyH.cons rfl (fun K hKq => ?_) ?_
    ·
     go_simp
     refine hKq.out _ _ (MK.out _ (KQ.kp ((Kp.refl _).alloc _) (by omega))) (fun hN => ?_)
     have B1n2 : Hid (((W5.alloc rzo).alloc rzo).heap[W5.heap.size]? = some rzo) := bl_alloc B1n1.out _
     have B2n2 : Hid (((W5.alloc rzo).alloc rzo).heap[W5.heap.size + 1]? = some rzo) := last_at _ _ _ (by simp)
     clear hKq K hH KQ
     have hH := hN
     clear hN
     have KQ := hH.2.2.2.2.2.2.out
     try simp only [Act.put, List.setIfInBounds_toArray, List.set_cons_zero, List.set_cons_succ]
     refine wpAnyH_ready (rs := [5]) (by kernel_rfl) (by simp) ?_
     refine AllReadyH.cons rfl (fun K hKq => ?_) AllReadyH.nil
     go_simp
     refine (PS.out m hm1 hm2 _ (by repeat (first | exact Kp.refl _ | refine Kp.alloc ?_ _ | refine Kp.drew ?_))).mono ?_
     rintro e Y1 ⟨⟨T1, v1, g1, rfl, hI, hp1, hp2, hGn⟩⟩
     obtain ⟨k1, mn1, mx1, mm1, t1, ad1, l1, c1, rfl⟩ := hI.form
     have SG1 := hid (sg_of hg3 hm1 hm2 hp1 hp2)
     have I1 := hid hI
     have KM1 := hid hGn.km
     have hy1 := hGn.km.size
     try simp at hy1
     obtain ⟨x', z', hmk, q1, q2, q3⟩ := hGn.ex
     have hgg := SG1.out.g3
     have B1n3 : Hid (Y1.heap[W5.heap.size]? = some rzo) := bl_km (w := ((W5.alloc rzo).alloc rzo).drew) B1n2.out (by omega) KM1.out
     have B2n3 : Hid (Y1.heap[W5.heap.size + 1]? = some rzo) := bl_km (w := ((W5.alloc rzo).alloc rzo).drew) B2n2.out (by omega) KM1.out
     have PS2 := hid (fun (W : World) (k : Kp Y1 W) => parts_any aK lK cK aN lN cN true B d 1 x' g1 z' W (by omega) (by omega) HPS.out ⟨hmk.kp k, NKW.out _ ((Kp.km (B := B) (a := W5) (by repeat (first | exact Kp.refl _ | refine Kp.alloc ?_ _ | refine Kp.drew ?_)) (by omega)).trans (KM1.out.kp k (by first | omega | (simp; omega) | simp))), NNW.out _ ((Kp.km (B := B) (a := W5) (by repeat (first | exact Kp.refl _ | refine Kp.alloc ?_ _ | refine Kp.drew ?_)) (by omega)).trans (KM1.out.kp k (by first | omega | (simp; omega) | simp))), hgg, by omega, by omega, by omega⟩)
     clear hI hp1 hp2 hGn hmk
     refine hKq.out _ _ (MK.out _ (KQ.trans KM1.out)) (fun hN => ?_)
     clear hKq K hH KQ
     have hH := hN
     clear hN
     have KQ := hH.2.2.2.2.2.2.out
     try simp only [Act.put, List.setIfInBounds_toArray, List.set_cons_zero, List.set_cons_succ]
     refine wpAnyH_ready (rs := [8]) (by kernel_rfl) (by simp) ?_
     refine AllReadyH.cons rfl (fun K hKq => ?_) AllReadyH.nil
     go_simp
     refine (PS2.out _ (by repeat (first | exact Kp.refl _ | refine Kp.alloc ?_ _ | refine Kp.drew ?_))).mono ?_
     rintro e Y2 ⟨⟨T2, v2, g2, rfl, hI, hp1, hp2, hGn⟩⟩
     obtain ⟨k2, mn2, mx2, mm2, t2, ad2, l2, c2, rfl⟩ := hI.form
     have SG2 := hid (hp1 rfl).part
     have I2 := hid hI
     have G2 := hid hGn
     have hy2 := hGn.km.size
     try simp at hy2
     have B1n4 : Hid (Y2.heap[W5.heap.size]? = some rzo) := bl_km B1n3.out (by omega) G2.out.km
     have B2n4 : Hid (Y2.heap[W5.heap.size + 1]? = some rzo) := bl_km B2n3.out (by omega) G2.out.km
     clear hI hp1 hp2 hGn PS2
     refine hKq.out _ _ (MK.out _ (KQ.trans G2.out.km)) (fun hN => ?_)
     clear hKq K hH KQ
     have hH := hN
     clear hN
     have KQ := hH.2.2.2.2.2.2.out
     try simp only [Act.put, List.setIfInBounds_toArray, List.set_cons_zero, List.set_cons_succ]
     refine wpAnyH_ready (rs := [11]) (by kernel_rfl) (by simp) ?_
     refine AllReadyH.cons rfl (fun K hKq => ?_) AllReadyH.nil
     have v0 := bl_cell (B1n4.out) 0 _ rfl
     have fv0 := bl_frozen (B1n4.out) 0
     have v1 := bl_cell (B1n4.out) 1 _ rfl
     have fv1 := bl_frozen (B1n4.out) 1
     have v2 := bl_cell (B1n4.out) 2 _ rfl
     have fv2 := bl_frozen (B1n4.out) 2
     have v3 := bl_cell (B1n4.out) 3 _ rfl
     have fv3 := bl_frozen (B1n4.out) 3
     have v4 := bl_cell (B1n4.out) 4 _ rfl
     have fv4 := bl_frozen (B1n4.out) 4
     have v5 := bl_cell (B1n4.out) 5 _ rfl
     have fv5 := bl_frozen (B1n4.out) 5
     have v6 := bl_cell (B1n4.out) 6 _ rfl
     have fv6 := bl_frozen (B1n4.out) 6
     have v7 := bl_cell (B1n4.out) 7 _ rfl
     have fv7 := bl_frozen (B1n4.out) 7
     have v8 := bl_cell (B1n4.out) 8 _ rfl
     have fv8 := bl_frozen (B1n4.out) 8
     go_simp
     refine hKq.out _ _ (MK.out _ (Km.new (S := W5.heap.size) KQ (ks_set9 _ _ _ _ _ _ _ _ _) (by omega) (by omega))) (fun hN => ?_)
     clear v0 fv0 v1 fv1 v2 fv2 v3 fv3 v4 fv4 v5 fv5 v6 fv6 v7 fv7 v8 fv8
     have B1s := hid (bl_set9 B1n4.out (.int .i64 k1) (.int .i64 mn1) (.int .i64 mx1) (.int .i64 mm1) (.int .u64 (t1.a : Int)) (.int .u64 (t1.b : Int)) (.int .u64 (t1.c : Int)) (.int .u64 (t1.d : Int)) (.slice ad1 l1 c1))
     have F1s := hid (ks_set9 (w := Y2) (B := W5.heap.size) (.int .i64 k1) (.int .i64 mn1) (.int .i64 mx1) (.int .i64 mm1) (.int .u64 (t1.a : Int)) (.int .u64 (t1.b : Int)) (.int .u64 (t1.c : Int)) (.int .u64 (t1.d : Int)) (.slice ad1 l1 c1))
     have B2s := hid (bl_ks B2n4.out (by omega) F1s.out)
     clear hKq K hH KQ
     have hH := hN
     clear hN
     have KQ := hH.2.2.2.2.2.2.out
     try simp only [Act.put, List.setIfInBounds_toArray, List.set_cons_zero, List.set_cons_succ]
     refine wpAnyH_ready (rs := [12]) (by kernel_rfl) (by simp) ?_
     refine AllReadyH.cons rfl (fun K hKq => ?_) AllReadyH.nil
     have u0 := bl_cell (B2s.out) 0 _ rfl
     have fu0 := bl_frozen (B2s.out) 0
     have u1 := bl_cell (B2s.out) 1 _ rfl
     have fu1 := bl_frozen (B2s.out) 1
     have u2 := bl_cell (B2s.out) 2 _ rfl
     have fu2 := bl_frozen (B2s.out) 2
     have u3 := bl_cell (B2s.out) 3 _ rfl
     have fu3 := bl_frozen (B2s.out) 3
     have u4 := bl_cell (B2s.out) 4 _ rfl
     have fu4 := bl_frozen (B2s.out) 4
     have u5 := bl_cell (B2s.out) 5 _ rfl
     have fu5 := bl_frozen (B2s.out) 5
     have u6 := bl_cell (B2s.out) 6 _ rfl
     have fu6 := bl_frozen (B2s.out) 6
     have u7 := bl_cell (B2s.out) 7 _ rfl
     have fu7 := bl_frozen (B2s.out) 7
     have u8 := bl_cell (B2s.out) 8 _ rfl
     have fu8 := bl_frozen (B2s.out) 8
     go_simp
     refine hKq.out _ _ (MK.out _ (Km.new (S := W5.heap.size + 1) KQ (ks_set9 _ _ _ _ _ _ _ _ _) (by omega) (by omega))) (fun hN => ?_)
     clear u0 fu0 u1 fu1 u2 fu2 u3 fu3 u4 fu4 u5 fu5 u6 fu6 u7 fu7 u8 fu8
     clear hKq K hH KQ
     have hH := hN
     clear hN
     have KQ := hH.2.2.2.2.2.2.out
     try simp only [Act.put, List.setIfInBounds_toArray, List.set_cons_zero, List.set_cons_succ]
     refine wpAnyH_done (by kernel_rfl) ?_ _
     refine NoPanic.normal ?_
     go_wp2_with fail
     go_meet
     case rel => exact amid_of (u1 := ((W5.alloc rzo).alloc rzo).drew) (u2 := Y1) (u3 := Y2) hBw hm2 (by omega) K2.out (by repeat (first | exact Kp.refl _ | refine Kp.alloc ?_ _ | refine Kp.drew ?_)) KM1.out (by repeat (first | exact Kp.refl _ | refine Kp.alloc ?_ _ | refine Kp.drew ?_)) (Kp.refl _) (by omega) (by omega) (by first | omega | (simp; omega) | simp) (by first | omega | (simp; omega) | simp) (by first | omega | (simp; omega) | simp) (by first | omega | (simp; omega) | simp) R2.out I1.out q1 q2 q3 SG1.out I2.out G2.out SG2.out F1s.out (ks_set9 _ _ _ _ _ _ _ _ _) (bl_ks B1s.out (by omega) (ks_set9 _ _ _ _ _ _ _ _ _)) (bl_set9 B2s.out _ _ _ _ _ _ _ _ _)
    exact AllReadyH.nil
   refine AllReadyH.cons rfl (fun K hKq => ?_) ?_
   ·
    go_simp
    refine hKq.out _ _ (MK.out _ (KQ.kp ((Kp.refl _).alloc _) (by omega))) (fun hN => ?_)
    have B2n1 : Hid ((W5.alloc rzo).heap[W5.heap.size]? = some rzo) := last_at _ _ _ (by simp)
    clear hKq K hH KQ
    have hH := hN
    clear hN
    have KQ := hH.2.2.2.2.2.2.out
    try simp only [Act.put, List.setIfInBounds_toArray, List.set_cons_zero, List.set_cons_succ]
    refine wpAnyH_ready (rs := [5, 9]) (by kernel_rfl) (by simp) ?_
    refine AllReadyH.cons rfl (fun K hKq => ?_) ?_
    ·
     go_simp
     refine (PS.out m hm1 hm2 _ (by repeat (first | exact Kp.refl _ | refine Kp.alloc ?_ _ | refine Kp.drew ?_))).mono ?_
     rintro e Y1 ⟨⟨T1, v1, g1, rfl, hI, hp1, hp2, hGn⟩⟩
     obtain ⟨k1, mn1, mx1, mm1, t1, ad1, l1, c1, rfl⟩ := hI.form
     have SG1 := hid (sg_of hg3 hm1 hm2 hp1 hp2)
     have I1 := hid hI
     have KM1 := hid hGn.km
     have hy1 := hGn.km.size
     try simp at hy1
     obtain ⟨x', z', hmk, q1, q2, q3⟩ := hGn.ex
     have hgg := SG1.out.g3
     have B2n2 : Hid (Y1.heap[W5.heap.size]? = some rzo) := bl_km (w := (W5.alloc rzo).drew) B2n1.out (by omega) KM1.out
     have PS2 := hid (fun (W : World) (k : Kp Y1 W) => parts_any aK lK cK aN lN cN true B d 1 x' g1 z' W (by omega) (by omega) HPS.out ⟨hmk.kp k, NKW.out _ ((Kp.km (B := B) (a := W5) (by repeat (first | exact Kp.refl _ | refine Kp.alloc ?_ _ | refine Kp.drew ?_)) (by omega)).trans (KM1.out.kp k (by first | omega | (simp; omega) | simp))), NNW.out _ ((Kp.km (B := B) (a := W5) (by repeat (first | exact Kp.refl _ | refine Kp.alloc ?_ _ | refine Kp.drew ?_)) (by omega)).trans (KM1.out.kp k (by first | omega | (simp; omega) | simp))), hgg, by omega, by omega, by omega⟩)
     clear hI hp1 hp2 hGn hmk
     refine hKq.out _ _ (MK.out _ (KQ.trans KM1.out)) (fun hN => ?_)
     clear hKq K hH KQ
     have hH := hN
     clear hN
     have KQ := hH.2.2.2.2.2.2.out
     try simp only [Act.put, List.setIfInBounds_toArray, List.set_cons_zero, List.set_cons_succ]
     refine wpAnyH_ready (rs := [8, 9]) (by kernel_rfl) (by simp) ?_
     refine AllReadyH.cons rfl (fun K hKq => ?_) ?_
     ·
      go_simp
      refine (PS2.out _ (by repeat (first | exact Kp.refl _ | refine Kp.alloc ?_ _ | refine Kp.drew ?_))).mono ?_
      rintro e Y2 ⟨⟨T2, v2, g2, rfl, hI, hp1, hp2, hGn⟩⟩
      obtain ⟨k2, mn2, mx2, mm2, t2, ad2, l2, c2, rfl⟩ := hI.form
      have SG2 := hid (hp1 rfl).part
      have I2 := hid hI
      have G2 := hid hGn
      have hy2 := hGn.km.size
      try simp at hy2
      have B2n3 : Hid (Y2.heap[W5.heap.size]? = some rzo) := bl_km B2n2.out (by omega) G2.out.km
      clear hI hp1 hp2 hGn PS2
      refine hKq.out _ _ (MK.out _ (KQ.trans G2.out.km)) (fun hN => ?_)
      clear hKq K hH KQ
      have hH := hN
      clear hN
      have KQ := hH.2.2.2.2.2.2.out
      try simp only [Act.put, List.setIfInBounds_toArray, List.set_cons_zero, List.set_cons_succ]
      refine wpAnyH_ready (rs := [9]) (by kernel_rfl) (by simp) ?_
      refine AllReadyH.cons rfl (fun K hKq => ?_) AllReadyH.nil
      go_simp
      refine hKq.out _ _ (MK.out _ (KQ.kp ((Kp.refl _).alloc _) (by omega))) (fun hN => ?_)
      have B2n4 : Hid ((Y2.alloc rzo).heap[W5.heap.size]? = some rzo) := bl_alloc B2n3.out _
      have B1n4 : Hid ((Y2.alloc rzo).heap[Y2.heap.size]? = some rzo) := last_at _ _ _ (by simp)
      clear hKq K hH KQ
      have hH := hN
      clear hN
      have KQ := hH.2.2.2.2.2.2.out
      try simp only [Act.put, List.setIfInBounds_toArray, List.set_cons_zero, List.set_cons_succ]
      refine wpAnyH_ready (rs := [11]) (by kernel_rfl) (by simp) ?_
      refine AllReadyH.cons rfl (fun K hKq => ?_) AllReadyH.nil
      obtain ⟨U, hU⟩ : ∃ U, (Y2.alloc rzo) = U := ⟨_, rfl⟩
      rw [hU] at hH KQ B1n4 B2n4 ⊢
      have KU : Hid (Kp Y2 U) := by subst hU; exact (by repeat (first | exact Kp.refl _ | refine Kp.alloc ?_ _ | refine Kp.drew ?_))
      clear hU
      have v0 := bl_cell (B1n4.out) 0 _ rfl
      have fv0 := bl_frozen (B1n4.out) 0
      have v1 := bl_cell (B1n4.out) 1 _ rfl
      have fv1 := bl_frozen (B1n4.out) 1
      have v2 := bl_cell (B1n4.out) 2 _ rfl
      have fv2 := bl_frozen (B1n4.out) 2
      have v3 := bl_cell (B1n4.out) 3 _ rfl
      have fv3 := bl_frozen (B1n4.out) 3
      have v4 := bl_cell (B1n4.out) 4 _ rfl
      have fv4 := bl_frozen (B1n4.out) 4
      have v5 := bl_cell (B1n4.out) 5 _ rfl
      have fv5 := bl_frozen (B1n4.out) 5
      have v6 := bl_cell (B1n4.out) 6 _ rfl
      have fv6 := bl_frozen (B1n4.out) 6
      have v7 := bl_cell (B1n4.out) 7 _ rfl
      have fv7 := bl_frozen (B1n4.out) 7
      have v8 := bl_cell (B1n4.out) 8 _ rfl
      have fv8 := bl_frozen (B1n4.out) 8
      go_simp
      refine hKq.out _ _ (MK.out _ (Km.new (S := Y2.heap.size) KQ (ks_set9 _ _ _ _ _ _ _ _ _) (by omega) (by omega))) (fun hN => ?_)
      clear v0 fv0 v1 fv1 v2 fv2 v3 fv3 v4 fv4 v5 fv5 v6 fv6 v7 fv7 v8 fv8
      have B1s := hid (bl_set9 B1n4.out (.int .i64 k1) (.int .i64 mn1) (.int .i64 mx1) (.int .i64 mm1) (.int .u64 (t1.a : Int)) (.int .u64 (t1.b : Int)) (.int .u64 (t1.c : Int)) (.int .u64 (t1.d : Int)) (.slice ad1 l1 c1))
      have F1s := hid (ks_set9 (w := U) (B := Y2.heap.size) (.int .i64 k1) (.int .i64 mn1) (.int .i64 mx1) (.int .i64 mm1) (.int .u64 (t1.a : Int)) (.int .u64 (t1.b : Int)) (.int .u64 (t1.c : Int)) (.int .u64 (t1.d : Int)) (.slice ad1 l1 c1))
      have B2s := hid (bl_ks B2n4.out (by omega) F1s.out)
      clear hKq K hH KQ
      have hH := hN
      clear hN
      have KQ := hH.2.2.2.2.2.2.out
      try simp only [Act.put, List.setIfInBounds_toArray, List.set_cons_zero, List.set_cons_succ]
      refine wpAnyH_ready (rs := [12]) (by kernel_rfl) (by simp) ?_
      refine AllReadyH.cons rfl (fun K hKq => ?_) AllReadyH.nil
      have u0 := bl_cell (B2s.out) 0 _ rfl
      have fu0 := bl_frozen (B2s.out) 0
      have u1 := bl_cell (B2s.out) 1 _ rfl
      have fu1 := bl_frozen (B2s.out) 1
      have u2 := bl_cell (B2s.out) 2 _ rfl
      have fu2 := bl_frozen (B2s.out) 2
      have u3 := bl_cell (B2s.out) 3 _ rfl
      have fu3 := bl_frozen (B2s.out) 3
      have u4 := bl_cell (B2s.out) 4 _ rfl
      have fu4 := bl_frozen (B2s.out) 4
      have u5 := bl_cell (B2s.out) 5 _ rfl
      have fu5 := bl_frozen (B2s.out) 5
      have u6 := bl_cell (B2s.out) 6 _ rfl
      have fu6 := bl_frozen (B2s.out) 6
      have u7 := bl_cell (B2s.out) 7 _ rfl
      have fu7 := bl_frozen (B2s.out) 7
      have u8 := bl_cell (B2s.out) 8 _ rfl
      have fu8 := bl_frozen (B2s.out) 8
      go_simp
      refine hKq.out _ _ (MK.out _ (Km.new (S := W5.heap.size) KQ (ks_set9 _ _ _ _ _ _ _ _ _) (by omega) (by omega))) (fun hN => ?_)
      clear u0 fu0 u1 fu1 u2 fu2 u3 fu3 u4 fu4 u5 fu5 u6 fu6 u7 fu7 u8 fu8
      clear hKq K hH KQ
      have hH := hN
      clear hN
      have KQ := hH.2.2.2.2.2.2.out
      try simp only [Act.put, List.setIfInBounds_toArray, List.set_cons_zero, List.set_cons_succ]
      refine wpAnyH_done (by kernel_rfl) ?_ _
      refine NoPanic.normal ?_
      go_wp2_with fail
      go_meet
      case rel => exact amid_of (u1 := (W5.alloc rzo).drew) (u2 := Y1) (u3 := U) hBw hm2 (by omega) K2.out (by repeat (first | exact Kp.refl _ | refine Kp.alloc ?_ _ | refine Kp.drew ?_)) KM1.out (by repeat (first | exact Kp.refl _ | refine Kp.alloc ?_ _ | refine Kp.drew ?_)) KU.out (by omega) (by omega) (by first | omega | (simp; omega) | simp) (by first | omega | (simp; omega) | simp) (by first | omega | (simp; omega) | simp) (by first | omega | (simp; omega) | simp) R2.out I1.out q1 q2 q3 SG1.out I2.out G2.out SG2.out F1s.out (ks_set9 _ _ _ _ _ _ _ _ _) (bl_ks B1s.out (by omega) (ks_set9 _ _ _ _ _ _ _ _ _)) (bl_set9 B2s.out _ _ _ _ _ _ _ _ _)
     refine AllReadyH.cons rfl (fun K hKq => ?_) ?_
     ·
      go_simp
      refine hKq.out _ _ (MK.out _ (KQ.kp ((Kp.refl _).alloc _) (by omega))) (fun hN => ?_)
      have B2n3 : Hid ((Y1.alloc rzo).heap[W5.heap.size]? = some rzo) := bl_alloc B2n2.out _
      have B1n3 : Hid ((Y1.alloc rzo).heap[Y1.heap.size]? = some rzo) := last_at _ _ _ (by simp)
      clear hKq K hH KQ
      have hH := hN
      clear hN
      have KQ := hH.2.2.2.2.2.2.out
      try simp only [Act.put, List.setIfInBounds_toArray, List.set_cons_zero, List.set_cons_succ]
      refine wpAnyH_ready (rs := [8]) (by kernel_rfl) (by simp) ?_
      refine AllReadyH.cons rfl (fun K hKq => ?_) AllReadyH.nil
      go_simp
      refine (PS2.out _ (by repeat (first | exact Kp.refl _ | refine Kp.alloc ?_ _ | refine Kp.drew ?_))).mono ?_
      rintro e Y2 ⟨⟨T2, v2, g2, rfl, hI, hp1, hp2, hGn⟩⟩
      obtain ⟨k2, mn2, mx2, mm2, t2, ad2, l2, c2, rfl⟩ := hI.form
      have SG2 := hid (hp1 rfl).part
      have I2 := hid hI
      have G2 := hid hGn
      have hy2 := hGn.km.size
      try simp at hy2
      have B1n4 : Hid (Y2.heap[Y1.heap.size]? = some rzo) := bl_km B1n3.out (by omega) G2.out.km
      have B2n4 : Hid (Y2.heap[W5.heap.size]? = some rzo) := bl_km B2n3.out (by omega) G2.out.km
      clear hI hp1 hp2 hGn PS2
      refine hKq.out _ _ (MK.out _ (KQ.trans G2.out.km)) (fun hN => ?_)
      clear hKq K hH KQ
      have hH := hN
      clear hN
      have KQ := hH.2.2.2.2.2.2.out
      try simp only [Act.put, List.setIfInBounds_toArray, List.set_cons_zero, List.set_cons_succ]
      refine wpAnyH_ready (rs := [11]) (by kernel_rfl) (by simp) ?_
      refine AllReadyH.cons rfl (fun K hKq => ?_) AllReadyH.nil
      have v0 := bl_cell (B1n4.out) 0 _ rfl
      have fv0 := bl_frozen (B1n4.out) 0
      have v1 := bl_cell (B1n4.out) 1 _ rfl
      have fv1 := bl_frozen (B1n4.out) 1
      have v2 := bl_cell (B1n4.out) 2 _ rfl
      have fv2 := bl_frozen (B1n4.out) 2
      have v3 := bl_cell (B1n4.out) 3 _ rfl
      have fv3 := bl_frozen (B1n4.out) 3
      have v4 := bl_cell (B1n4.out) 4 _ rfl
      have fv4 := bl_frozen (B1n4.out) 4
      have v5 := bl_cell (B1n4.out) 5 _ rfl
      have fv5 := bl_frozen (B1n4.out) 5
      have v6 := bl_cell (B1n4.out) 6 _ rfl
      have fv6 := bl_frozen (B1n4.out) 6
      have v7 := bl_cell (B1n4.out) 7 _ rfl
      have fv7 := bl_frozen (B1n4.out) 7
      have v8 := bl_cell (B1n4.out) 8 _ rfl
      have fv8 := bl_frozen (B1n4.out) 8
      go_simp
      refine hKq.out _ _ (MK.out _ (Km.new (S := Y1.heap.size) KQ (ks_set9 _ _ _ _ _ _ _ _ _) (by omega) (by omega))) (fun hN => ?_)
      clear v0 fv0 v1 fv1 v2 fv2 v3 fv3 v4 fv4 v5 fv5 v6 fv6 v7 fv7 v8 fv8
      have B1s := hid (bl_set9 B1n4.out (.int .i64 k1) (.int .i64 mn1) (.int .i64 mx1) (.int .i64 mm1) (.int .u64 (t1.a : Int)) (.int .u64 (t1.b : Int)) (.int .u64 (t1.c : Int)) (.int .u64 (t1.d : Int)) (.slice ad1 l1 c1))
      have F1s := hid (ks_set9 (w := Y2) (B := Y1.heap.size) (.int .i64 k1) (.int .i64 mn1) (.int .i64 mx1) (.int .i64 mm1) (.int .u64 (t1.a : Int)) (.int .u64 (t1.b : Int)) (.int .u64 (t1.c : Int)) (.int .u64 (t1.d : Int)) (.slice ad1 l1 c1))
      have B2s := hid (bl_ks B2n4.out (by omega) F1s.out)
      clear hKq K hH KQ
      have hH := hN
      clear hN
      have KQ := hH.2.2.2.2.2.2.out
      try simp only [Act.put, List.setIfInBounds_toArray, List.set_cons_zero, List.set_cons_succ]
      refine wpAnyH_ready (rs := [12]) (by kernel_rfl) (by simp) ?_
      refine AllReadyH.cons rfl (fun K hKq => ?_) AllReadyH.nil
      have u0 := bl_cell (B2s.out) 0 _ rfl
      have fu0 := bl_frozen (B2s.out) 0
      have u1 := bl_cell (B2s.out) 1 _ rfl
      have fu1 := bl_frozen (B2s.out) 1
      have u2 := bl_cell (B2s.out) 2 _ rfl
      have fu2 := bl_frozen (B2s.out) 2
      have u3 := bl_cell (B2s.out) 3 _ rfl
      have fu3 := bl_frozen (B2s.out) 3
      have u4 := bl_cell (B2s.out) 4 _ rfl
      have fu4 := bl_frozen (B2s.out) 4
      have u5 := bl_cell (B2s.out) 5 _ rfl
      have fu5 := bl_frozen (B2s.out) 5
      have u6 := bl_cell (B2s.out) 6 _ rfl
      have fu6 := bl_frozen (B2s.out) 6
      have u7 := bl_cell (B2s.out) 7 _ rfl
      have fu7 := bl_frozen (B2s.out) 7
      have u8 := bl_cell (B2s.out) 8 _ rfl
      have fu8 := bl_frozen (B2s.out) 8
      go_simp
      refine hKq.out _ _ (MK.out _ (Km.new (S := W5.heap.size) KQ (ks_set9 _ _ _ _ _ _ _ _ _) (by omega) (by omega))) (fun hN => ?_)
      clear u0 fu0 u1 fu1 u2 fu2 u3 fu3 u4 fu4 u5 fu5 u6 fu6 u7 fu7 u8 fu8
      clear hKq K hH KQ
      have hH := hN
      clear hN
      have KQ := hH.2.2.2.2.2.2.out
      try simp only [Act.put, List.setIfInBounds_toArray, List.set_cons_zero, List.set_cons_succ]
      refine wpAnyH_done (by kernel_rfl) ?_ _
      refine NoPanic.normal ?_
      go_wp2_with fail
      go_meet
      case rel => exact amid_of (u1 := (W5.alloc rzo).drew) (u2 := (Y1.alloc rzo)) (u3 := Y2) hBw hm2 (by omega) K2.out (by repeat (first | exact Kp.refl _ | refine Kp.alloc ?_ _ | refine Kp.drew ?_)) KM1.out (by repeat (first | exact Kp.refl _ | refine Kp.alloc ?_ _ | refine Kp.drew ?_)) (Kp.refl _) (by omega) (by omega) (by first | omega | (simp; omega) | simp) (by first | omega | (simp; omega) | simp) (by first | omega | (simp; omega) | simp) (by first | omega | (simp; omega) | simp) R2.out I1.out q1 q2 q3 SG1.out I2.out G2.out SG2.out F1s.out (ks_set9 _ _ _ _ _ _ _ _ _) (bl_ks B1s.out (by omega) (ks_set9 _ _ _ _ _ _ _ _ _)) (bl_set9 B2s.out _ _ _ _ _ _ _ _ _)
     exact AllReadyH.nil
    refine AllReadyH.cons rfl (fun K hKq => ?_) ?_
    ·
     go_simp
     refine hKq.out _ _ (MK.out _ (KQ.kp ((Kp.refl _).alloc _) (by omega))) (fun hN => ?_)
     have B2n2 : Hid (((W5.alloc rzo).alloc rzo).heap[W5.heap.size]? = some rzo) := bl_alloc B2n1.out _
     have B1n2 : Hid (((W5.alloc rzo).alloc rzo).heap[W5.heap.size + 1]? = some rzo) := last_at _ _ _ (by simp)
     clear hKq K hH KQ
     have hH := hN
     clear hN
     have KQ := hH.2.2.2.2.2.2.out
     try simp only [Act.put, List.setIfInBounds_toArray, List.set_cons_zero, List.set_cons_succ]
     refine wpAnyH_ready (rs := [5]) (by kernel_rfl) (by simp) ?_
     refine AllReadyH.cons rfl (fun K hKq => ?_) AllReadyH.nil
     go_simp
     refine (PS.out m hm1 hm2 _ (by repeat (first | exact Kp.refl _ | refine Kp.alloc ?_ _ | refine Kp.drew ?_))).mono ?_
     rintro e Y1 ⟨⟨T1, v1, g1, rfl, hI, hp1, hp2, hGn⟩⟩
     obtain ⟨k1, mn1, mx1, mm1, t1, ad1, l1, c1, rfl⟩ := hI.form
     have SG1 := hid (sg_of hg3 hm1 hm2 hp1 hp2)
     have I1 := hid hI
     have KM1 := hid hGn.km
     have hy1 := hGn.km.size
     try simp at hy1
     obtain ⟨x', z', hmk, q1, q2, q3⟩ := hGn.ex
     have hgg := SG1.out.g3
     have B1n3 : Hid (Y1.heap[W5.heap.size + 1]? = some rzo) := bl_km (w := ((W5.alloc rzo).alloc rzo).drew) B1n2.out (by omega) KM1.out
     have B2n3 : Hid (Y1.heap[W5.heap.size]? = some rzo) := bl_km (w := ((W5.alloc rzo).alloc rzo).drew) B2n2.out (by omega) KM1.out
     have PS2 := hid (fun (W : World) (k : Kp Y1 W) => parts_any aK lK cK aN lN cN true B d 1 x' g1 z' W (by omega) (by omega) HPS.out ⟨hmk.kp k, NKW.out _ ((Kp.km (B := B) (a := W5) (by repeat (first | exact Kp.refl _ | refine Kp.alloc ?_ _ | refine Kp.drew ?_)) (by omega)).trans (KM1.out.kp k (by first | omega | (simp; omega) | simp))), NNW.out _ ((Kp.km (B := B) (a := W5) (by repeat (first | exact Kp.refl _ | refine Kp.alloc ?_ _ | refine Kp.drew ?_)) (by omega)).trans (KM1.out.kp k (by first | omega | (simp; omega) | simp))), hgg, by omega, by omega, by omega⟩)
     clear hI hp1 hp2 hGn hmk
     refine hKq.out _ _ (MK.out _ (KQ.trans KM1.out)) (fun hN => ?_)
     clear hKq K hH KQ
     have hH := hN
     clear hN
     have KQ := hH.2.2.2.2.2.2.out
     try simp only [Act.put, List.setIfInBounds_toArray, List.set_cons_zero, List.set_cons_succ]
     refine wpAnyH_ready (rs := [8]) (by kernel_rfl) (by simp) ?_
     refine AllReadyH.cons rfl (fun K hKq => ?_) AllReadyH.nil
     go_simp
     refine (PS2.out _ (by repeat (first | exact Kp.refl _ | refine Kp.alloc ?_ _ | refine Kp.drew ?_))).mono ?_
     rintro e Y2 ⟨⟨T2, v2, g2, rfl, hI, hp1, hp2, hGn⟩⟩
     obtain ⟨k2, mn2, mx2, mm2, t2, ad2, l2, c2, rfl⟩ := hI.form
     have SG2 := hid (hp1 rfl).part
     have I2 := hid hI
     have G2 := hid hGn
     have hy2 := hGn.km.size
     try simp at hy2
     have B1n4 : Hid (Y2.heap[W5.heap.size + 1]? = some rzo) := bl_km B1n3.out (by omega) G2.out.km
     have B2n4 : Hid (Y2.heap[W5.heap.size]? = some rzo) := bl_km B2n3.out (by omega) G2.out.km
     clear hI hp1 hp2 hGn PS2
     refine hKq.out _ _ (MK.out _ (KQ.trans G2.out.km)) (fun hN => ?_)
     clear hKq K hH KQ
     have hH := hN
     clear hN
     have KQ := hH.2.2.2.2.2.2.out
     try simp only [Act.put, List.setIfInBounds_toArray, List.set_cons_zero, List.set_cons_succ]
     refine wpAnyH_ready (rs := [11]) (by kernel_rfl) (by simp) ?_
     refine AllReadyH.cons rfl (fun K hKq => ?_) AllReadyH.nil
     have v0 := bl_cell (B1n4.out) 0 _ rfl
     have fv0 := bl_frozen (B1n4.out) 0
     have v1 := bl_cell (B1n4.out) 1 _ rfl
     have fv1 := bl_frozen (B1n4.out) 1
     have v2 := bl_cell (B1n4.out) 2 _ rfl
     have fv2 := bl_frozen (B1n4.out) 2
     have v3 := bl_cell (B1n4.out) 3 _ rfl
     have fv3 := bl_frozen (B1n4.out) 3
     have v4 := bl_cell (B1n4.out) 4 _ rfl
     have fv4 := bl_frozen (B1n4.out) 4
     have v5 := bl_cell (B1n4.out) 5 _ rfl
     have fv5 := bl_frozen (B1n4.out) 5
     have v6 := bl_cell (B1n4.out) 6 _ rfl
     have fv6 := bl_frozen (B1n4.out) 6
     have v7 := bl_cell (B1n4.out) 7 _ rfl
     have fv7 := bl_frozen (B1n4.out) 7
     have v8 := bl_cell (B1n4.out) 8 _ rfl
     have fv8 := bl_frozen (B1n4.out) 8
     go_simp
     refine hKq.out _ _ (MK.out _ (Km.new (S := W5.heap.size + 1) KQ (ks_set9 _ _ _ _ _ _ _ _ _) (by omega) (by omega))) (fun hN => ?_)
     clear v0 fv0 v1 fv1 v2 fv2 v3 fv3 v4 fv4 v5 fv5 v6 fv6 v7 fv7 v8 fv8
     have B1s := hid (bl_set9 B1n4.out (.int .i64 k1) (.int .i64 mn1) (.int .i64 mx1) (.int .i64 mm1) (.int .u64 (t1.a : Int)) (.int .u64 (t1.b : Int)) (.int .u64 (t1.c : Int)) (.int .u64 (t1.d : Int)) (.slice ad1 l1 c1))
     have F1s := hid (ks_set9 (w := Y2) (B := W5.heap.size + 1) (.int .i64 k1) (.int .i64 mn1) (.int .i64 mx1) (.int .i64 mm1) (.int .u64 (t1.a : Int)) (.int .u64 (t1.b : Int)) (.int .u64 (t1.c : Int)) (.int .u64 (t1.d : Int)) (.slice ad1 l1 c1))
     have B2s := hid (bl_ks B2n4.out (by omega) F1s.out)
     clear hKq K hH KQ
     have hH := hN
     clear hN
     have KQ := hH.2.2.2.2.2.2.out
     try simp only [Act.put, List.setIfInBounds_toArray, List.set_cons_zero, List.set_cons_succ]
     refine wpAnyH_ready (rs := [12]) (by kernel_rfl) (by simp) ?_
     refine AllReadyH.cons rfl (fun K hKq => ?_) AllReadyH.nil
     have u0 := bl_cell (B2s.out) 0 _ rfl
     have fu0 := bl_frozen (B2s.out) 0
     have u1 := bl_cell (B2s.out) 1 _ rfl
     have fu1 := bl_frozen (B2s.out) 1
     have u2 := bl_cell (B2s.out) 2 _ rfl
     have fu2 := bl_frozen (B2s.out) 2
     have u3 := bl_cell (B2s.out) 3 _ rfl
     have fu3 := bl_frozen (B2s.out) 3
     have u4 := bl_cell (B2s.out) 4 _ rfl
     have fu4 := bl_frozen (B2s.out) 4
     have u5 := bl_cell (B2s.out) 5 _ rfl
     have fu5 := bl_frozen (B2s.out) 5
     have u6 := bl_cell (B2s.out) 6 _ rfl
     have fu6 := bl_frozen (B2s.out) 6
     have u7 := bl_cell (B2s.out) 7 _ rfl
     have fu7 := bl_frozen (B2s.out) 7
     have u8 := bl_cell (B2s.out) 8 _ rfl
     have fu8 := bl_frozen (B2s.out) 8
     go_simp
     refine hKq.out _ _ (MK.out _ (Km.new (S := W5.heap.size) KQ (ks_set9 _ _ _ _ _ _ _ _ _) (by omega) (by omega))) (fun hN => ?_)
     clear u0 fu0 u1 fu1 u2 fu2 u3 fu3 u4 fu4 u5 fu5 u6 fu6 u7 fu7 u8 fu8
     clear hKq K hH KQ
     have hH := hN
     clear hN
     have KQ := hH.2.2.2.2.2.2.out
     try simp only [Act.put, List.setIfInBounds_toArray, List.set_cons_zero, List.set_cons_succ]
     refine wpAnyH_done (by kernel_rfl) ?_ _
     refine NoPanic.normal ?_
     go_wp2_with fail
     go_meet
     case rel => exact amid_of (u1 := ((W5.alloc rzo).alloc rzo).drew) (u2 := Y1) (u3 := Y2) hBw hm2 (by omega) K2.out (by repeat (first | exact Kp.refl _ | refine Kp.alloc ?_ _ | refine Kp.drew ?_)) KM1.out (by repeat (first | exact Kp.refl _ | refine Kp.alloc ?_ _ | refine Kp.drew ?_)) (Kp.refl _) (by omega) (by omega) (by first | omega | (simp; omega) | simp) (by first | omega | (simp; omega) | simp) (by first | omega | (simp; omega) | simp) (by first | omega | (simp; omega) | simp) R2.out I1.out q1 q2 q3 SG1.out I2.out G2.out SG2.out F1s.out (ks_set9 _ _ _ _ _ _ _ _ _) (bl_ks B1s.out (by omega) (ks_set9 _ _ _ _ _ _ _ _ _)) (bl_set9 B2s.out _ _ _ _ _ _ _ _ _)
    exact AllReadyH.nil
   exact AllReadyH.nil
  case rest =>
  obtain ⟨⟨V1, V2, T1, T2, g1, g2, k1, mn1, mx1, mm1, t1, ad1, l1, c1, k2, mn2, mx2, mm2, t2, ad2, l2, c2, rfl, rfl, hV1, hV2, b1, b2, i1, i2, s1, s2, r6, g6⟩⟩ := hcut
  rename World => W6
  have hs6 := g6.km.size
  have P1 := hid b1
  have P2 := hid b2
  have I1 := hid i1
  have I2 := hid i2
  have RG := hid (Trip.alt_good T1 T2 d g g1 g2 s1 s2)
  have hs6' : w.heap.size + 1 < W6.heap.size := bl_lt r6
  have KI := hid ((RK.pair (base := 0) k1 mn1 mx1 mm1 t1 ad1 l1 c1 k2 mn2 mx2 mm2 t2 ad2 l2 c2 I1.out I2.out (by omega) (by omega)).is 3 0 0 0 W4.z)
  have R7 := hid (bl_alloc r6 (.cells #[.int .i64 k1, .int .i64 mn1, .int .i64 mx1, .int .i64 mm1, .int .u64 (t1.a : Int), .int .u64 (t1.b : Int), .int .u64 (t1.c : Int), .int .u64 (t1.d : Int), .slice ad1 l1 c1, .int .i64 k2, .int .i64 mn2, .int .i64 mx2, .int .i64 mm2, .int .u64 (t2.a : Int), .int .u64 (t2.b : Int), .int .u64 (t2.c : Int), .int .u64 (t2.d : Int), .slice ad2 l2 c2] 27))
  have G7 := hid (g6.kp ((Kp.refl _).alloc (.cells #[.int .i64 k1, .int .i64 mn1, .int .i64 mx1, .int .i64 mm1, .int .u64 (t1.a : Int), .int .u64 (t1.b : Int), .int .u64 (t1.c : Int), .int .u64 (t1.d : Int), .slice ad1 l1 c1, .int .i64 k2, .int .i64 mn2, .int .i64 mx2, .int .i64 mm2, .int .u64 (t2.a : Int), .int .u64 (t2.b : Int), .int .u64 (t2.c : Int), .int .u64 (t2.d : Int), .slice ad2 l2 c2] 27)) (by omega))
  clear b1 b2 i1 i2 s1 s2 r6 g6 M2 A2 R2 K2 PS NKW NNW hs6 hs6' hV1 hV2
  have p0 := bl_cell (P1.out) 0 _ rfl
  have p1 := bl_cell (P1.out) 1 _ rfl
  have p2 := bl_cell (P1.out) 2 _ rfl
  have p3 := bl_cell (P1.out) 3 _ rfl
  have p4 := bl_cell (P1.out) 4 _ rfl
  have p5 := bl_cell (P1.out) 5 _ rfl
  have p6 := bl_cell (P1.out) 6 _ rfl
  have p7 := bl_cell (P1.out) 7 _ rfl
  have p8 := bl_cell (P1.out) 8 _ rfl
  have u0 := bl_cell (P2.out) 0 _ rfl
  have u1 := bl_cell (P2.out) 1 _ rfl
  have u2 := bl_cell (P2.out) 2 _ rfl
  have u3 := bl_cell (P2.out) 3 _ rfl
  have u4 := bl_cell (P2.out) 4 _ rfl
  have u5 := bl_cell (P2.out) 5 _ rfl
  have u6 := bl_cell (P2.out) 6 _ rfl
  have u7 := bl_cell (P2.out) 7 _ rfl
  have u8 := bl_cell (P2.out) 8 _ rfl
  have r0 := bl_cell (R7.out) 0 _ rfl
  have fr0 := bl_frozen (R7.out) 0
  have r1 := bl_cell (R7.out) 1 _ rfl
  have fr1 := bl_frozen (R7.out) 1
  have r2 := bl_cell (R7.out) 2 _ rfl
  have fr2 := bl_frozen (R7.out) 2
  have r3 := bl_cell (R7.out) 3 _ rfl
  have fr3 := bl_frozen (R7.out) 3
  have r4 := bl_cell (R7.out) 4 _ rfl
  have fr4 := bl_frozen (R7.out) 4
  have r5 := bl_cell (R7.out) 5 _ rfl
  have fr5 := bl_frozen (R7.out) 5
  have r6 := bl_cell (R7.out) 6 _ rfl
  have fr6 := bl_frozen (R7.out) 6
  have r7 := bl_cell (R7.out) 7 _ rfl
  have fr7 := bl_frozen (R7.out) 7
  have r8 := bl_cell (R7.out) 8 _ rfl
  have fr8 := bl_frozen (R7.out) 8
  go_wp2_with fail
  refine bodyPost_ret (v := rxv 3 0 0 0 W4.z (.slice (some ⟨W6.heap.size, 0, none⟩) 2 2)) (rx_ret rfl _ _ _ _ rfl (bl_set9 R7.out _ _ _ _ _ _ _ _ _) rfl) rfl ⟨⟨.mk 3 0 0 0 W4.z [T1, T2], _, g2, rfl, ?_, RG.out, ?_⟩⟩
  ·
   exact (KI.out.ks (ks_set9 _ _ _ _ _ _ _ _ _) (fun b hb _ => by omega)).weak (fun b hb _ => by omega)
  ·
   exact G7.out.ks (S := w.heap.size + 1) (ks_set9 _ _ _ _ _ _ _ _ _) (by omega) (by omega)
 case false =>
 clear hq4
 go_upto_region 7 with fail
 have PS := hid (fun (m : Nat) (h1 : 1 ≤ m) (h3 : m ≤ 3) (W : World) (k : Kp W5 W) => parts_any aK lK cK aN lN cN ere B d m (x + 1) g (z - 1) W h1 h3 HPS.out ⟨M2.out.kp k, HA.out.nk.km (K2.out.kp k (by omega)), HA.out.nn.km (K2.out.kp k (by omega)), hg3, by omega, by omega, by omega⟩)
 go_cut [10] (fun v wc => RMid ere B d g x z w v wc)
 case first =>
  have Q0 : Km B W5 W5.drew := (Km.refl B W5).kp ((Kp.refl _).drew) (by omega)
  have MK : Hid (∀ W, Km B W5 W → W.cell? ⟨w.heap.size, 0, none⟩ = some (.slice aK lK cK) ∧ W.cell? ⟨w.heap.size, 1, none⟩ = some (.slice aN lN cN) ∧ W.cell? ⟨w.heap.size, 2, none⟩ = some (.bool ere) ∧ W.cell? ⟨w.heap.size, 3, none⟩ = some (.pointer (some ⟨B, 0, none⟩)) ∧ W.cell? ⟨w.heap.size, 4, none⟩ = some (.pointer (some ⟨B + 1, 0, none⟩)) ∧ W.cell? ⟨w.heap.size, 5, none⟩ = some (.pointer (some ⟨B + 2, 0, none⟩)) ∧ Hid (Km B W5 W)) := fun W k => ⟨bl_cell (bl_km A2.out (by omega) k) 0 _ rfl, bl_cell (bl_km A2.out (by omega) k) 1 _ rfl, bl_cell (bl_km A2.out (by omega) k) 2 _ rfl, bl_cell (bl_km A2.out (by omega) k) 3 _ rfl, bl_cell (bl_km A2.out (by omega) k) 4 _ rfl, bl_cell (bl_km A2.out (by omega) k) 5 _ rfl, k⟩
  refine wp_region_noPanic ?_
  refine wp_region_held_drew (S := (fun W => W.cell? ⟨w.heap.size, 0, none⟩ = some (.slice aK lK cK) ∧ W.cell? ⟨w.heap.size, 1, none⟩ = some (.slice aN lN cN) ∧ W.cell? ⟨w.heap.size, 2, none⟩ = some (.bool ere) ∧ W.cell? ⟨w.heap.size, 3, none⟩ = some (.pointer (some ⟨B, 0, none⟩)) ∧ W.cell? ⟨w.heap.size, 4, none⟩ = some (.pointer (some ⟨B + 1, 0, none⟩)) ∧ W.cell? ⟨w.heap.size, 5, none⟩ = some (.pointer (some ⟨B + 2, 0, none⟩)) ∧ Hid (Km B W5 W))) (by kernel_rfl) ?_ (fun hH => ?_)
  ·
   exact MK.out _ Q0
  have KQ := Q0
  refine wpAnyH_take (i := 0) (v := ?v0q1) rfl (by kernel_rfl) (by kernel_rfl) (by kernel_rfl) (fun _ _ _ h => h) (Or.inl ⟨by rfl, ?hy0q1⟩) hH ?r0q1
  case hy0q1 => (intro W hSw; (try dsimp only at hSw); go_simp; try (with_reducible rfl))
  try simp only [Act.put, List.setIfInBounds_toArray]
  refine wpAnyH_take (i := 1) (v := ?v1q2) rfl (by kernel_rfl) (by kernel_rfl) (by kernel_rfl) (fun _ _ _ h => h) (Or.inl ⟨by rfl, ?hy1q2⟩) hH ?r1q2
  case hy1q2 => (intro W hSw; (try dsimp only at hSw); go_simp; try (with_reducible rfl))
  try simp only [Act.put]
  refine wpAnyH_take (i := 2) (v := ?v2q3) rfl (by kernel_rfl) (by kernel_rfl) (by kernel_rfl) (fun _ _ _ h => h) (Or.inl ⟨by rfl, ?hy2q3⟩) hH ?r2q3
  case hy2q3 => (intro W hSw; (try dsimp only at hSw); go_simp; try (with_reducible rfl))
  try simp only [Act.put]
  refine wpAnyH_ready (rs := [3, 6]) (by kernel_rfl) (by simp) ?_
  refine AllReadyH.cons rfl (fun K hKq => ?_) ?_
  ·
   go_simp
   refine (within_nat _ 2 (by omega) _).mono ?_
   rintro e yy ⟨m2, hm2, rfl, rfl⟩
   obtain ⟨m, hm⟩ : ∃ m, 1 + m2 = m := ⟨_, rfl⟩
   have gm : 1 + (m2 : Int) = (m : Int) := by omega
   have gw : IntKind.i64.wrap (m : Int) = (m : Int) := by rw [IntKind.wrap_i64]; omega
   have hm1 : 1 ≤ m := by omega
   have hm3 : m ≤ 3 := by omega
   clear hm
   refine hKq.out _ _ (MK.out _ KQ) (fun hN => ?_)
   clear hKq K hH KQ
   have hH := hN
   clear hN
   have KQ := hH.2.2.2.2.2.2.out
   try simp only [Act.put, List.setIfInBounds_toArray, List.set_cons_zero, List.set_cons_succ]
   refine wpAnyH_take (i := 4) (v := ?v4q4) rfl (by kernel_rfl) (by kernel_rfl) (by kernel_rfl) (fun _ _ _ h => h) (Or.inl ⟨by rfl, ?hy4q4⟩) hH ?r4q4
   case hy4q4 => (intro W hSw; (try dsimp only at hSw); go_simp; try (with_reducible rfl))
   try simp only [Act.put, List.setIfInBounds_toArray]
   refine wpAnyH_ready (rs := [5, 6]) (by kernel_rfl) (by simp) ?_
   refine AllReadyH.cons rfl (fun K hKq => ?_) ?_
   ·
    go_simp
    refine (PS.out m hm1 hm3 _ (by repeat (first | exact Kp.refl _ | refine Kp.alloc ?_ _ | refine Kp.drew ?_))).mono ?_
    rintro e Yp ⟨⟨T, v, g', rfl, hI, hp1, hp2, hGn⟩⟩
    obtain ⟨kk, mn, mx, mm, tt, ad, ll, cc, rfl⟩ := hI.form
    have HI := hid hI
    have HP1 := hid hp1
    have HP2 := hid hp2
    have HGN := hid hGn
    have hsy := hGn.km.size
    simp at hsy
    clear hI hp1 hp2 hGn
    refine hKq.out _ _ (MK.out _ (KQ.trans HGN.out.km)) (fun hN => ?_)
    clear hKq K hH KQ
    have hH := hN
    clear hN
    have KQ := hH.2.2.2.2.2.2.out
    try simp only [Act.put, List.setIfInBounds_toArray, List.set_cons_zero, List.set_cons_succ]
    refine wpAnyH_ready (rs := [6]) (by kernel_rfl) (by simp) ?_
    refine AllReadyH.cons rfl (fun K hKq => ?_) AllReadyH.nil
    go_simp
    refine hKq.out _ _ (MK.out _ (KQ.kp ((Kp.refl _).alloc _) (by omega))) (fun hN => ?_)
    clear hKq K hH KQ
    have hH := hN
    clear hN
    have KQ := hH.2.2.2.2.2.2.out
    try simp only [Act.put, List.setIfInBounds_toArray, List.set_cons_zero, List.set_cons_succ]
    refine wpAnyH_ready (rs := [7]) (by kernel_rfl) (by simp) ?_
    refine AllReadyH.cons rfl (fun K hKq => ?_) AllReadyH.nil
    go_simp
    refine hKq.out _ _ (MK.out _ (((Kp.km (B := B) (a := W5) (by repeat (first | exact Kp.refl _ | refine Kp.alloc ?_ _ | refine Kp.drew ?_)) (by omega)).trans HGN.out.km).kp ((Kp.refl _).alloc _) (by omega))) (fun hN => ?_)
    clear hKq K hH KQ
    have hH := hN
    clear hN
    have KQ := hH.2.2.2.2.2.2.out
    try simp only [Act.put, List.setIfInBounds_toArray, List.set_cons_zero, List.set_cons_succ]
    refine wpAnyH_done (by kernel_rfl) ?_ _
    refine NoPanic.normal ?_
    go_wp2_with fail
    go_meet
    case rel => exact rmid_of hBw hg3 hm1 hm3 (by omega) K2.out (by repeat (first | exact Kp.refl _ | refine Kp.alloc ?_ _ | refine Kp.drew ?_)) (by omega) (Or.inr (Nat.le_refl _)) R2.out HI.out HP1.out HP2.out HGN.out (by by_cases hm : m = 1; exact (HP1.out hm).le; obtain ⟨ks, kv, _, _, _, _, hLG⟩ := HP2.out (by omega); exact hLG.facts.1) (Kp.refl _) (((Kp.refl _).alloc _).ks (Nat.le_refl _)) (last_of _ _)
   refine AllReadyH.cons rfl (fun K hKq => ?_) ?_
   ·
    go_simp
    refine hKq.out _ _ (MK.out _ (KQ.kp ((Kp.refl _).alloc _) (by omega))) (fun hN => ?_)
    clear hKq K hH KQ
    have hH := hN
    clear hN
    have KQ := hH.2.2.2.2.2.2.out
    try simp only [Act.put, List.setIfInBounds_toArray, List.set_cons_zero, List.set_cons_succ]
    refine wpAnyH_ready (rs := [5]) (by kernel_rfl) (by simp) ?_
    refine AllReadyH.cons rfl (fun K hKq => ?_) AllReadyH.nil
    go_simp
    refine (PS.out m hm1 hm3 _ (by repeat (first | exact Kp.refl _ | refine Kp.alloc ?_ _ | refine Kp.drew ?_))).mono ?_
    rintro e Yp ⟨⟨T, v, g', rfl, hI, hp1, hp2, hGn⟩⟩
    obtain ⟨kk, mn, mx, mm, tt, ad, ll, cc, rfl⟩ := hI.form
    have HI := hid hI
    have HP1 := hid hp1
    have HP2 := hid hp2
    have HGN := hid hGn
    have hsy := hGn.km.size
    simp at hsy
    clear hI hp1 hp2 hGn
    refine hKq.out _ _ (MK.out _ (KQ.trans HGN.out.km)) (fun hN => ?_)
    clear hKq K hH KQ
    have hH := hN
    clear hN
    have KQ := hH.2.2.2.2.2.2.out
    try simp only [Act.put, List.setIfInBounds_toArray, List.set_cons_zero, List.set_cons_succ]
    refine wpAnyH_ready (rs := [7]) (by kernel_rfl) (by simp) ?_
    refine AllReadyH.cons rfl (fun K hKq => ?_) AllReadyH.nil
    have VB : Hid (Yp.heap[W5.heap.size]? = some rzo) := bl_km (last_drew W5 rzo) (by omega) HGN.out.km
    have v0 := bl_cell (VB.out) 0 _ rfl
    have fv0 := bl_frozen (VB.out) 0
    have v1 := bl_cell (VB.out) 1 _ rfl
    have fv1 := bl_frozen (VB.out) 1
    have v2 := bl_cell (VB.out) 2 _ rfl
    have fv2 := bl_frozen (VB.out) 2
    have v3 := bl_cell (VB.out) 3 _ rfl
    have fv3 := bl_frozen (VB.out) 3
    have v4 := bl_cell (VB.out) 4 _ rfl
    have fv4 := bl_frozen (VB.out) 4
    have v5 := bl_cell (VB.out) 5 _ rfl
    have fv5 := bl_frozen (VB.out) 5
    have v6 := bl_cell (VB.out) 6 _ rfl
    have fv6 := bl_frozen (VB.out) 6
    have v7 := bl_cell (VB.out) 7 _ rfl
    have fv7 := bl_frozen (VB.out) 7
    have v8 := bl_cell (VB.out) 8 _ rfl
    have fv8 := bl_frozen (VB.out) 8
    go_simp
    refine hKq.out _ _ (MK.out _ (Km.new (S := W5.heap.size) (b := Yp) KQ (ks_set9 _ _ _ _ _ _ _ _ _) (Nat.le_refl _) (by omega))) (fun hN => ?_)
    clear v0 fv0 v1 fv1 v2 fv2 v3 fv3 v4 fv4 v5 fv5 v6 fv6 v7 fv7 v8 fv8
    clear hKq K hH KQ
    have hH := hN
    clear hN
    have KQ := hH.2.2.2.2.2.2.out
    try simp only [Act.put, List.setIfInBounds_toArray, List.set_cons_zero, List.set_cons_succ]
    refine wpAnyH_done (by kernel_rfl) ?_ _
    refine NoPanic.normal ?_
    go_wp2_with fail
    go_meet
    case rel => exact rmid_of hBw hg3 hm1 hm3 (by omega) K2.out (by repeat (first | exact Kp.refl _ | refine Kp.alloc ?_ _ | refine Kp.drew ?_)) (by omega) (Or.inl (by simp; omega)) R2.out HI.out HP1.out HP2.out HGN.out (by by_cases hm : m = 1; exact (HP1.out hm).le; obtain ⟨ks, kv, _, _, _, _, hLG⟩ := HP2.out (by omega); exact hLG.facts.1) (Kp.refl _) (ks_set9 _ _ _ _ _ _ _ _ _) (bl_set9 VB.out _ _ _ _ _ _ _ _ _)
   exact AllReadyH.nil
  refine AllReadyH.cons rfl (fun K hKq => ?_) ?_
  ·
   go_simp
   refine hKq.out _ _ (MK.out _ (KQ.kp ((Kp.refl _).alloc _) (by omega))) (fun hN => ?_)
   clear hKq K hH KQ
   have hH := hN
   clear hN
   have KQ := hH.2.2.2.2.2.2.out
   try simp only [Act.put, List.setIfInBounds_toArray, List.set_cons_zero, List.set_cons_succ]
   refine wpAnyH_ready (rs := [3]) (by kernel_rfl) (by simp) ?_
   refine AllReadyH.cons rfl (fun K hKq => ?_) AllReadyH.nil
   go_simp
   refine (within_nat _ 2 (by omega) _).mono ?_
   rintro e yy ⟨m2, hm2, rfl, rfl⟩
   obtain ⟨m, hm⟩ : ∃ m, 1 + m2 = m := ⟨_, rfl⟩
   have gm : 1 + (m2 : Int) = (m : Int) := by omega
   have gw : IntKind.i64.wrap (m : Int) = (m : Int) := by rw [IntKind.wrap_i64]; omega
   have hm1 : 1 ≤ m := by omega
   have hm3 : m ≤ 3 := by omega
   clear hm
   refine hKq.out _ _ (MK.out _ KQ) (fun hN => ?_)
   clear hKq K hH KQ
   have hH := hN
   clear hN
   have KQ := hH.2.2.2.2.2.2.out
   try simp only [Act.put, List.setIfInBounds_toArray, List.set_cons_zero, List.set_cons_succ]
   refine wpAnyH_take (i := 4) (v := ?v4q5) rfl (by kernel_rfl) (by kernel_rfl) (by kernel_rfl) (fun _ _ _ h => h) (Or.inl ⟨by rfl, ?hy4q5⟩) hH ?r4q5
   case hy4q5 => (intro W hSw; (try dsimp only at hSw); go_simp; try (with_reducible rfl))
   try simp only [Act.put, List.setIfInBounds_toArray]
   refine wpAnyH_ready (rs := [5]) (by kernel_rfl) (by simp) ?_
   refine AllReadyH.cons rfl (fun K hKq => ?_) AllReadyH.nil
   go_simp
   refine (PS.out m hm1 hm3 _ (by repeat (first | exact Kp.refl _ | refine Kp.alloc ?_ _ | refine Kp.drew ?_))).mono ?_
   rintro e Yp ⟨⟨T, v, g', rfl, hI, hp1, hp2, hGn⟩⟩
   obtain ⟨kk, mn, mx, mm, tt, ad, ll, cc, rfl⟩ := hI.form
   have HI := hid hI
   have HP1 := hid hp1
   have HP2 := hid hp2
   have HGN := hid hGn
   have hsy := hGn.km.size
   simp at hsy
   clear hI hp1 hp2 hGn
   refine hKq.out _ _ (MK.out _ (KQ.trans HGN.out.km)) (fun hN => ?_)
   clear hKq K hH KQ
   have hH := hN
   clear hN
   have KQ := hH.2.2.2.2.2.2.out
   try simp only [Act.put, List.setIfInBounds_toArray, List.set_cons_zero, List.set_cons_succ]
   refine wpAnyH_ready (rs := [7]) (by kernel_rfl) (by simp) ?_
   refine AllReadyH.cons rfl (fun K hKq => ?_) AllReadyH.nil
   have VB : Hid (Yp.heap[W5.heap.size]? = some rzo) := bl_km (last_drew W5 rzo) (by omega) HGN.out.km
   have v0 := bl_cell (VB.out) 0 _ rfl
   have fv0 := bl_frozen (VB.out) 0
   have v1 := bl_cell (VB.out) 1 _ rfl
   have fv1 := bl_frozen (VB.out) 1
   have v2 := bl_cell (VB.out) 2 _ rfl
   have fv2 := bl_frozen (VB.out) 2
   have v3 := bl_cell (VB.out) 3 _ rfl
   have fv3 := bl_frozen (VB.out) 3
   have v4 := bl_cell (VB.out) 4 _ rfl
   have fv4 := bl_frozen (VB.out) 4
   have v5 := bl_cell (VB.out) 5 _ rfl
   have fv5 := bl_frozen (VB.out) 5
   have v6 := bl_cell (VB.out) 6 _ rfl
   have fv6 := bl_frozen (VB.out) 6
   have v7 := bl_cell (VB.out) 7 _ rfl
   have fv7 := bl_frozen (VB.out) 7
   have v8 := bl_cell (VB.out) 8 _ rfl
   have fv8 := bl_frozen (VB.out) 8
   go_simp
   refine hKq.out _ _ (MK.out _ (Km.new (S := W5.heap.size) (b := Yp) KQ (ks_set9 _ _ _ _ _ _ _ _ _) (Nat.le_refl _) (by omega))) (fun hN => ?_)
   clear v0 fv0 v1 fv1 v2 fv2 v3 fv3 v4 fv4 v5 fv5 v6 fv6 v7 fv7 v8 fv8
   clear hKq K hH KQ
   have hH := hN
   clear hN
   have KQ := hH.2.2.2.2.2.2.out
   try simp only [Act.put, List.setIfInBounds_toArray, List.set_cons_zero, List.set_cons_succ]
   refine wpAnyH_done (by kernel_rfl) ?_ _
   refine NoPanic.normal ?_
   go_wp2_with fail
   go_meet
   case rel => exact rmid_of hBw hg3 hm1 hm3 (by omega) K2.out (by repeat (first | exact Kp.refl _ | refine Kp.alloc ?_ _ | refine Kp.drew ?_)) (by omega) (Or.inl (by simp; omega)) R2.out HI.out HP1.out HP2.out HGN.out (by by_cases hm : m = 1; exact (HP1.out hm).le; obtain ⟨ks, kv, _, _, _, _, hLG⟩ := HP2.out (by omega); exact hLG.facts.1) (Kp.refl _) (ks_set9 _ _ _ _ _ _ _ _ _) (bl_set9 VB.out _ _ _ _ _ _ _ _ _)
  exact AllReadyH.nil
 case rest =>
 obtain ⟨⟨V, T, g', m, k, mn, mx, mm, t, ad, l, cc, rfl, hV, hm1, hm3, hv, hI, hP, hL, hR, hG⟩⟩ := hcut
 rename World => W3
 have V3 := hid hv
 have I3 := hid hI
 have R3 := hid hR
 have G3 := hid hG
 have hkT : k = T.k := by
  have := (Pd.mk (hI.weak (fun _ _ _ => trivial))).all.2.1
  exact this
 have HKT := hid hkT
 have HP3 := hid hP
 have HL3 := hid hL
 have hs3 := hG.km.size
 clear hv hI hP hL hR hG hkT M2 A2 R2 K2 PS
 by_cases hm : m = 1
 ·
  have RG : Hid (Trip.RGood ere T d g g') := (HP3.out hm).part.row (by omega)
  have hk2 : (k == 2) = false := by rw [HKT.out]; simp; exact (HP3.out hm).k2
  have hk2' : ¬ k = 2 := by rw [HKT.out]; exact (HP3.out hm).k2
  have p0 := bl_cell (V3.out) 0 _ rfl
  have p1 := bl_cell (V3.out) 1 _ rfl
  have p2 := bl_cell (V3.out) 2 _ rfl
  have p3 := bl_cell (V3.out) 3 _ rfl
  have p4 := bl_cell (V3.out) 4 _ rfl
  have p5 := bl_cell (V3.out) 5 _ rfl
  have p6 := bl_cell (V3.out) 6 _ rfl
  have p7 := bl_cell (V3.out) 7 _ rfl
  have p8 := bl_cell (V3.out) 8 _ rfl
  have r0 := bl_cell (R3.out) 0 _ rfl
  have fr0 := bl_frozen (R3.out) 0
  have r1 := bl_cell (R3.out) 1 _ rfl
  have fr1 := bl_frozen (R3.out) 1
  have r2 := bl_cell (R3.out) 2 _ rfl
  have fr2 := bl_frozen (R3.out) 2
  have r3 := bl_cell (R3.out) 3 _ rfl
  have fr3 := bl_frozen (R3.out) 3
  have r4 := bl_cell (R3.out) 4 _ rfl
  have fr4 := bl_frozen (R3.out) 4
  have r5 := bl_cell (R3.out) 5 _ rfl
  have fr5 := bl_frozen (R3.out) 5
  have r6 := bl_cell (R3.out) 6 _ rfl
  have fr6 := bl_frozen (R3.out) 6
  have r7 := bl_cell (R3.out) 7 _ rfl
  have fr7 := bl_frozen (R3.out) 7
  have r8 := bl_cell (R3.out) 8 _ rfl
  have fr8 := bl_frozen (R3.out) 8
  by_cases h8 : c = 8
  ·
   subst h8
   go_wp2_with fail
   refine bodyPost_ret (v := rxv k mn mx mm t (.slice ad l cc)) (rx_ret rfl _ _ _ _ rfl (bl_set9 R3.out _ _ _ _ _ _ _ _ _) rfl) rfl ⟨⟨T, _, g', rfl, ?_, RG.out, ?_⟩⟩
   ·
    exact (I3.out.ks (ks_set9 _ _ _ _ _ _ _ _ _) (fun b hb _ => by have := hb.1; omega)).weak (fun b hb _ => by have := hb.1; omega)
   ·
    exact G3.out.ks (S := w.heap.size + 1) (ks_set9 _ _ _ _ _ _ _ _ _) (by omega) (by omega)
  ·
   have h8i : ((c : Int) == 8) = false := by simp; omega
   have h8j : ¬ (c : Int) = 8 := by omega
   by_cases h7 : c = 7
   ·
    subst h7
    go_wp2_with fail
    refine bodyPost_ret (v := rxv k mn mx mm t (.slice ad l cc)) (rx_ret rfl _ _ _ _ rfl (bl_set9 R3.out _ _ _ _ _ _ _ _ _) rfl) rfl ⟨⟨T, _, g', rfl, ?_, RG.out, ?_⟩⟩
    ·
     exact (I3.out.ks (ks_set9 _ _ _ _ _ _ _ _ _) (fun b hb _ => by have := hb.1; omega)).weak (fun b hb _ => by have := hb.1; omega)
    ·
     exact G3.out.ks (S := w.heap.size + 1) (ks_set9 _ _ _ _ _ _ _ _ _) (by omega) (by omega)
   ·
    have h7i : ((c : Int) == 7) = false := by simp; omega
    have h7j : ¬ (c : Int) = 7 := by omega
    go_wp2_with fail
    refine bodyPost_ret (v := rxv k mn mx mm t (.slice ad l cc)) (rx_ret rfl _ _ _ _ rfl (bl_set9 R3.out _ _ _ _ _ _ _ _ _) rfl) rfl ⟨⟨T, _, g', rfl, ?_, RG.out, ?_⟩⟩
    ·
     exact (I3.out.ks (ks_set9 _ _ _ _ _ _ _ _ _) (fun b hb _ => by have := hb.1; omega)).weak (fun b hb _ => by have := hb.1; omega)
    ·
     exact G3.out.ks (S := w.heap.size + 1) (ks_set9 _ _ _ _ _ _ _ _ _) (by omega) (by omega)
 ·
  obtain ⟨ks, rfl, rfl, rfl, rfl, rfl, rfl, hRK, hlen, hLG⟩ := HL3.out (by omega)
  have RK3 := hid hRK
  have LG3 := hid hLG
  have hV3 : V < W3.heap.size := bl_lt V3.out
  clear hRK hLG HL3 HP3 HKT
  by_cases h8 : c = 8
  ·
   subst h8
   have RKB : Hid (RK (fun b => w.heap.size + 1 < b ∧ b ≠ V) (w.heap.size + 2) (W3.alloc (rxo 7 0 0 0 W4.z (.slice none 0 0))) (.slice (some ⟨W3.heap.size, 0, none⟩) 1 1) [Rx.mk 7 0 0 0 W4.z []]) := RK.single 7 0 0 0 W4.z none 0 0 (Is.leaf _ _ _ _ _ _ _) (by omega) ⟨by omega, by omega⟩
   have HU : Hid (∃ ys : List Value, ys.length = ks.length ∧ (W3.alloc (rxo 7 0 0 0 W4.z (.slice none 0 0))).ownsRow (w.heap.size + 2) 27 9 (.slice ad l cc) ks.length (rowOf ys) ∧ ∀ (j : Nat) t y, ks[j]? = some t → ys[j]? = some y → Is (W3.alloc (rxo 7 0 0 0 W4.z (.slice none 0 0))) (fun b => (w.heap.size + 1 < b ∧ b ≠ V) ∧ (Value.slice (some ⟨W3.heap.size, 0, none⟩) 1 1).ownBlock ≠ some b) t y) := by
    obtain ⟨ys, i1, i2, i3, i4⟩ := RK3.out.ex
    have kal : Kp W3 (W3.alloc (rxo 7 0 0 0 W4.z (.slice none 0 0))) := (Kp.refl _).alloc _
    refine ⟨ys, i1, owns_same i2 (fun b _ hl => kal.block b hl), fun j t y hj hy => ?_⟩
    refine ((i4 j t y hj hy).weak (fun b hb hl => ⟨hb.1, ?_⟩)).kp kal
    show some W3.heap.size ≠ some b
    intro e
    injection e with e
    omega
   have p0 := bl_cell (V3.out) 0 _ rfl
   have p1 := bl_cell (V3.out) 1 _ rfl
   have p2 := bl_cell (V3.out) 2 _ rfl
   have p3 := bl_cell (V3.out) 3 _ rfl
   have p4 := bl_cell (V3.out) 4 _ rfl
   have p5 := bl_cell (V3.out) 5 _ rfl
   have p6 := bl_cell (V3.out) 6 _ rfl
   have p7 := bl_cell (V3.out) 7 _ rfl
   have p8 := bl_cell (V3.out) 8 _ rfl
   go_wp2_with (at_builtin; go_must (refine wpList_append_rkr (W3.alloc (rxo 7 0 0 0 W4.z (.slice none 0 0))) (by rfl) _ _ (by rfl) (fun b => w.heap.size + 1 < b ∧ b ≠ V) (w.heap.size + 2) (.slice (some ⟨W3.heap.size, 0, none⟩) 1 1) (.slice ad l cc) [Rx.mk 7 0 0 0 W4.z []] ks (by rfl) ?h0 RKB ?h3 HU (by rfl) ?h1 ?h2 ?_))
   case h0 => intro b hb; simp at hb; exact ⟨by omega, by omega⟩
   case h3 => omega
   case h1 => simp; omega
   case h2 => simp; omega
   intro v' w' hk' hg'
   have hrow : (Value.slice (some ⟨W3.heap.size, 0, none⟩) 1 1).ownBlock = some W3.heap.size := rfl
   rw [hrow] at hg'
   obtain ⟨ad', cc', hf', hc'⟩ := hk'.form
   obtain ⟨L, hLn⟩ : ∃ L, (Rx.mk 7 0 0 0 W4.z [] :: ks).length = L := ⟨_, rfl⟩
   rw [hLn] at hf'
   clear hLn hc'
   have V4 : Hid (w'.heap[V]? = some (rxo 2 0 0 0 W4.z (.slice ad l cc))) := bl_gr (bl_alloc V3.out _) hg' (by intro e; injection e with e; omega)
   have R4 : Hid (w'.heap[w.heap.size + 1]? = some rzo) := bl_gr (bl_alloc R3.out _) hg' (by intro e; injection e with e; omega)
   have G4 : Hid (Gone B 4 7 x g z w w' g') := (G3.out.kp ((Kp.refl _).alloc _) (by omega)).grown hg' (fun k e => by injection e with e; omega) (by omega)
   have RK4 := hid hk'
   clear hk' hg' hrow RKB HU p0 p1 p2 p3 p4 p5 p6 p7 p8
   subst hf'
   have v0 := bl_cell (V4.out) 0 _ rfl
   have fv0 := bl_frozen (V4.out) 0
   have v1 := bl_cell (V4.out) 1 _ rfl
   have fv1 := bl_frozen (V4.out) 1
   have v2 := bl_cell (V4.out) 2 _ rfl
   have fv2 := bl_frozen (V4.out) 2
   have v3 := bl_cell (V4.out) 3 _ rfl
   have fv3 := bl_frozen (V4.out) 3
   have v4 := bl_cell (V4.out) 4 _ rfl
   have fv4 := bl_frozen (V4.out) 4
   have v5 := bl_cell (V4.out) 5 _ rfl
   have fv5 := bl_frozen (V4.out) 5
   have v6 := bl_cell (V4.out) 6 _ rfl
   have fv6 := bl_frozen (V4.out) 6
   have v7 := bl_cell (V4.out) 7 _ rfl
   have fv7 := bl_frozen (V4.out) 7
   have v8 := bl_cell (V4.out) 8 _ rfl
   have fv8 := bl_frozen (V4.out) 8
   go_upto_region 10 with fail
   refine opq (fun W6 => W6.heap[V]? = some (rxo 2 0 0 0 W4.z (.slice ad' L cc')) ∧ W6.heap[(w.heap.size + 1)]? = some rzo ∧ RK (fun b => w.heap.size + 1 < b ∧ b ≠ V) (w.heap.size + 2) W6 (.slice ad' L cc') ([Rx.mk 7 0 0 0 W4.z []] ++ ks) ∧ Gone B 4 7 x g z w W6 g') ⟨by exact bl_put V4.out _, by exact bl_set R4.out (by omega) _, by exact RK4.out.ks ((Ks.refl _ _).set 8 _) (fun b hb => hb.2), by exact G4.out.ks (S := V) ((Ks.refl _ _).set 8 _) (by omega) (by omega)⟩ ?_
   rintro W6 ⟨xV6, xR6, xRK6, xG6⟩
   have V6 : Hid (W6.heap[V]? = some (rxo 2 0 0 0 W4.z (.slice ad' L cc'))) := xV6
   have R6 : Hid (W6.heap[(w.heap.size + 1)]? = some rzo) := xR6
   have RK6 : Hid (RK (fun b => w.heap.size + 1 < b ∧ b ≠ V) (w.heap.size + 2) W6 (.slice ad' L cc') ([Rx.mk 7 0 0 0 W4.z []] ++ ks)) := xRK6
   have G6 : Hid (Gone B 4 7 x g z w W6 g') := xG6
   clear xV6 xR6 xRK6 xG6
   clear V4 R4 RK4 G4 v0 fv0 v1 fv1 v2 fv2 v3 fv3 v4 fv4 v5 fv5 v6 fv6 v7 fv7 v8 fv8
   have p0 := bl_cell (V6.out) 0 _ rfl
   have p1 := bl_cell (V6.out) 1 _ rfl
   have p2 := bl_cell (V6.out) 2 _ rfl
   have p3 := bl_cell (V6.out) 3 _ rfl
   have p4 := bl_cell (V6.out) 4 _ rfl
   have p5 := bl_cell (V6.out) 5 _ rfl
   have p6 := bl_cell (V6.out) 6 _ rfl
   have p7 := bl_cell (V6.out) 7 _ rfl
   have p8 := bl_cell (V6.out) 8 _ rfl
   have r0 := bl_cell (R6.out) 0 _ rfl
   have fr0 := bl_frozen (R6.out) 0
   have r1 := bl_cell (R6.out) 1 _ rfl
   have fr1 := bl_frozen (R6.out) 1
   have r2 := bl_cell (R6.out) 2 _ rfl
   have fr2 := bl_frozen (R6.out) 2
   have r3 := bl_cell (R6.out) 3 _ rfl
   have fr3 := bl_frozen (R6.out) 3
   have r4 := bl_cell (R6.out) 4 _ rfl
   have fr4 := bl_frozen (R6.out) 4
   have r5 := bl_cell (R6.out) 5 _ rfl
   have fr5 := bl_frozen (R6.out) 5
   have r6 := bl_cell (R6.out) 6 _ rfl
   have fr6 := bl_frozen (R6.out) 6
   have r7 := bl_cell (R6.out) 7 _ rfl
   have fr7 := bl_frozen (R6.out) 7
   have r8 := bl_cell (R6.out) 8 _ rfl
   have fr8 := bl_frozen (R6.out) 8
   go_wp2_with fail
   refine bodyPost_ret (v := rxv 2 0 0 0 W4.z (.slice ad' L cc')) (rx_ret rfl _ _ _ _ rfl (bl_set9 R6.out _ _ _ _ _ _ _ _ _) rfl) rfl ⟨⟨.mk 2 0 0 0 W4.z ([Rx.mk 7 0 0 0 W4.z []] ++ ks), _, g', rfl, ?_, Trip.begin_good ere d g g' hg3 ks LG3.out (by omega) (by omega), ?_⟩⟩
   ·
    exact ((RK6.out.is 2 0 0 0 W4.z).ks (ks_set9 _ _ _ _ _ _ _ _ _) (fun b hb _ => by have := hb.1; omega)).weak (fun b hb _ => by have := hb.1; omega)
   ·
    exact G6.out.ks (S := w.heap.size + 1) (ks_set9 _ _ _ _ _ _ _ _ _) (by omega) (by omega)
  have h8i : ((c : Int) == 8) = false := by simp; omega
  have h8j : ¬ (c : Int) = 8 := by omega
  by_cases h7 : c = 7
  ·
   subst h7
   have HIE : Hid (Is W3 (fun b => (w.heap.size + 1 < b ∧ b ≠ V) ∧ (Value.slice ad l cc).ownBlock ≠ some b) (.mk 8 0 0 0 W4.z []) (rxv 8 0 0 0 W4.z (.slice none 0 0))) := Is.leaf _ _ _ _ _ _ _
   have HRW := hid (RK3.out.block)
   have p0 := bl_cell (V3.out) 0 _ rfl
   have p1 := bl_cell (V3.out) 1 _ rfl
   have p2 := bl_cell (V3.out) 2 _ rfl
   have p3 := bl_cell (V3.out) 3 _ rfl
   have p4 := bl_cell (V3.out) 4 _ rfl
   have p5 := bl_cell (V3.out) 5 _ rfl
   have p6 := bl_cell (V3.out) 6 _ rfl
   have p7 := bl_cell (V3.out) 7 _ rfl
   have p8 := bl_cell (V3.out) 8 _ rfl
   go_wp2_with (at_builtin; go_must (refine wpList_append_rk W3 (by rfl) _ _ (by rfl) (w.heap.size + 2) (.slice ad l cc) ks (.mk 8 0 0 0 W4.z []) (by rfl) (fun b => w.heap.size + 1 < b ∧ b ≠ V) ?h0 RK3 8 0 0 0 W4.z none 0 0 HIE _ (by rfl) (by rfl) ?h1 ?h2 ?_))
   case h0 => intro b hb; exact ⟨by omega, by omega⟩
   case h1 => omega
   case h2 => omega
   intro v' w' hk' hg'
   obtain ⟨ad', cc', hf', hc'⟩ := hk'.form
   obtain ⟨L, hLn⟩ : ∃ L, (ks ++ [Rx.mk 8 0 0 0 W4.z []]).length = L := ⟨_, rfl⟩
   rw [hLn] at hf'
   clear hLn hc'
   have V4 : Hid (w'.heap[V]? = some (rxo 2 0 0 0 W4.z (.slice ad l cc))) := bl_gr V3.out hg' (fun e => (HRW.out _ e).1.2 rfl)
   have R4 : Hid (w'.heap[w.heap.size + 1]? = some rzo) := bl_gr R3.out hg' (fun e => by have := (HRW.out _ e).1.1; omega)
   have G4 : Hid (Gone B 4 7 x g z w w' g') := G3.out.grown hg' (fun k e => by have := (HRW.out _ e).1.1; omega) (by omega)
   have RK4 := hid hk'
   clear hk' hg' HRW HIE p0 p1 p2 p3 p4 p5 p6 p7 p8
   subst hf'
   have v0 := bl_cell (V4.out) 0 _ rfl
   have fv0 := bl_frozen (V4.out) 0
   have v1 := bl_cell (V4.out) 1 _ rfl
   have fv1 := bl_frozen (V4.out) 1
   have v2 := bl_cell (V4.out) 2 _ rfl
   have fv2 := bl_frozen (V4.out) 2
   have v3 := bl_cell (V4.out) 3 _ rfl
   have fv3 := bl_frozen (V4.out) 3
   have v4 := bl_cell (V4.out) 4 _ rfl
   have fv4 := bl_frozen (V4.out) 4
   have v5 := bl_cell (V4.out) 5 _ rfl
   have fv5 := bl_frozen (V4.out) 5
   have v6 := bl_cell (V4.out) 6 _ rfl
   have fv6 := bl_frozen (V4.out) 6
   have v7 := bl_cell (V4.out) 7 _ rfl
   have fv7 := bl_frozen (V4.out) 7
   have v8 := bl_cell (V4.out) 8 _ rfl
   have fv8 := bl_frozen (V4.out) 8
   go_upto_region 12 with fail
   refine opq (fun W6 => W6.heap[V]? = some (rxo 2 0 0 0 W4.z (.slice ad' L cc')) ∧ W6.heap[(w.heap.size + 1)]? = some rzo ∧ RK (fun b => w.heap.size + 1 < b ∧ b ≠ V) (w.heap.size + 2) W6 (.slice ad' L cc') (ks ++ [Rx.mk 8 0 0 0 W4.z []]) ∧ Gone B 4 7 x g z w W6 g') ⟨by exact bl_put V4.out _, by exact bl_set R4.out (by omega) _, by exact RK4.out.ks ((Ks.refl _ _).set 8 _) (fun b hb => hb.2), by exact G4.out.ks (S := V) ((Ks.refl _ _).set 8 _) (by omega) (by omega)⟩ ?_
   rintro W6 ⟨xV6, xR6, xRK6, xG6⟩
   have V6 : Hid (W6.heap[V]? = some (rxo 2 0 0 0 W4.z (.slice ad' L cc'))) := xV6
   have R6 : Hid (W6.heap[(w.heap.size + 1)]? = some rzo) := xR6
   have RK6 : Hid (RK (fun b => w.heap.size + 1 < b ∧ b ≠ V) (w.heap.size + 2) W6 (.slice ad' L cc') (ks ++ [Rx.mk 8 0 0 0 W4.z []])) := xRK6
   have G6 : Hid (Gone B 4 7 x g z w W6 g') := xG6
   clear xV6 xR6 xRK6 xG6
   clear V4 R4 RK4 G4 v0 fv0 v1 fv1 v2 fv2 v3 fv3 v4 fv4 v5 fv5 v6 fv6 v7 fv7 v8 fv8
   have p0 := bl_cell (V6.out) 0 _ rfl
   have p1 := bl_cell (V6.out) 1 _ rfl
   have p2 := bl_cell (V6.out) 2 _ rfl
   have p3 := bl_cell (V6.out) 3 _ rfl
   have p4 := bl_cell (V6.out) 4 _ rfl
   have p5 := bl_cell (V6.out) 5 _ rfl
   have p6 := bl_cell (V6.out) 6 _ rfl
   have p7 := bl_cell (V6.out) 7 _ rfl
   have p8 := bl_cell (V6.out) 8 _ rfl
   have r0 := bl_cell (R6.out) 0 _ rfl
   have fr0 := bl_frozen (R6.out) 0
   have r1 := bl_cell (R6.out) 1 _ rfl
   have fr1 := bl_frozen (R6.out) 1
   have r2 := bl_cell (R6.out) 2 _ rfl
   have fr2 := bl_frozen (R6.out) 2
   have r3 := bl_cell (R6.out) 3 _ rfl
   have fr3 := bl_frozen (R6.out) 3
   have r4 := bl_cell (R6.out) 4 _ rfl
   have fr4 := bl_frozen (R6.out) 4
   have r5 := bl_cell (R6.out) 5 _ rfl
   have fr5 := bl_frozen (R6.out) 5
   have r6 := bl_cell (R6.out) 6 _ rfl
   have fr6 := bl_frozen (R6.out) 6
   have r7 := bl_cell (R6.out) 7 _ rfl
   have fr7 := bl_frozen (R6.out) 7
   have r8 := bl_cell (R6.out) 8 _ rfl
   have fr8 := bl_frozen (R6.out) 8
   go_wp2_with fail
   refine bodyPost_ret (v := rxv 2 0 0 0 W4.z (.slice ad' L cc')) (rx_ret rfl _ _ _ _ rfl (bl_set9 R6.out _ _ _ _ _ _ _ _ _) rfl) rfl ⟨⟨.mk 2 0 0 0 W4.z (ks ++ [Rx.mk 8 0 0 0 W4.z []]), _, g', rfl, ?_, Trip.end_good ere d g g' hg3 ks LG3.out (by omega) (by omega), ?_⟩⟩
   ·
    exact ((RK6.out.is 2 0 0 0 W4.z).ks (ks_set9 _ _ _ _ _ _ _ _ _) (fun b hb _ => by have := hb.1; omega)).weak (fun b hb _ => by have := hb.1; omega)
   ·
    exact G6.out.ks (S := w.heap.size + 1) (ks_set9 _ _ _ _ _ _ _ _ _) (by omega) (by omega)
  have h7i : ((c : Int) == 7) = false := by simp; omega
  have h7j : ¬ (c : Int) = 7 := by omega
  have RG : Hid (Trip.RGood ere (.mk 2 0 0 0 W4.z ks) d g g') := (Trip.cat_good ere d g g' hg3 ks LG3.out (by omega) (by omega)).row (by omega)
  have p0 := bl_cell (V3.out) 0 _ rfl
  have p1 := bl_cell (V3.out) 1 _ rfl
  have p2 := bl_cell (V3.out) 2 _ rfl
  have p3 := bl_cell (V3.out) 3 _ rfl
  have p4 := bl_cell (V3.out) 4 _ rfl
  have p5 := bl_cell (V3.out) 5 _ rfl
  have p6 := bl_cell (V3.out) 6 _ rfl
  have p7 := bl_cell (V3.out) 7 _ rfl
  have p8 := bl_cell (V3.out) 8 _ rfl
  have r0 := bl_cell (R3.out) 0 _ rfl
  have fr0 := bl_frozen (R3.out) 0
  have r1 := bl_cell (R3.out) 1 _ rfl
  have fr1 := bl_frozen (R3.out) 1
  have r2 := bl_cell (R3.out) 2 _ rfl
  have fr2 := bl_frozen (R3.out) 2
  have r3 := bl_cell (R3.out) 3 _ rfl
  have fr3 := bl_frozen (R3.out) 3
  have r4 := bl_cell (R3.out) 4 _ rfl
  have fr4 := bl_frozen (R3.out) 4
  have r5 := bl_cell (R3.out) 5 _ rfl
  have fr5 := bl_frozen (R3.out) 5
  have r6 := bl_cell (R3.out) 6 _ rfl
  have fr6 := bl_frozen (R3.out) 6
  have r7 := bl_cell (R3.out) 7 _ rfl
  have fr7 := bl_frozen (R3.out) 7
  have r8 := bl_cell (R3.out) 8 _ rfl
  have fr8 := bl_frozen (R3.out) 8
  go_wp2_with fail
  refine bodyPost_ret (v := rxv 2 0 0 0 W4.z (.slice ad l cc)) (rx_ret rfl _ _ _ _ rfl (bl_set9 R3.out _ _ _ _ _ _ _ _ _) rfl) rfl ⟨⟨.mk 2 0 0 0 W4.z ks, _, g', rfl, ?_, RG.out, ?_⟩⟩
  ·
   exact (I3.out.ks (ks_set9 _ _ _ _ _ _ _ _ _) (fun b hb _ => by have := hb.1; omega)).weak (fun b hb _ => by have := hb.1; omega)
  ·
   exact G3.out.ks (S := w.heap.size + 1) (ks_set9 _ _ _ _ _ _ _ _ _) (by omega) (by omega)
theorem rowS_any (ere : Bool) : RowSaid ere 0 := row_deep ere (fun d HP => ⟨fun aK lK cK aN lN cN B x g z w hA => krow_any ere aK lK cK aN lN cN B d x g z w HP hA⟩)
end Go.Proofs.YtikmgckefbjbkaaGreatDoor

/-! ### KSame -/

namespace Go.Proofs.YtikmgckefbjbkaaGreatDoor
open Go.RowKit

structure KSameSaid (a : Rx) : Prop where
 all : ∀ (b : Rx) (va vb : Value) (w : World) (ok ok' : Nat → Prop), Is w ok a va → Is w ok' b vb → Calls Tryz.prog 20 #[va, vb] w fun e w' => e = .returned (.bool (sameR a b)) ∧ Kp w w'
theorem sameL_ne : ∀ (a b : List Rx), a.length ≠ b.length → sameL a b = false
 | [], [], h => absurd rfl h
 | [], _ :: _, _ => by simp [sameL]
 | _ :: _, [], _ => by simp [sameL]
 | x :: a, y :: b, h => by
  rw [sameL, sameL_ne a b (fun e => h (by simp [e])), Bool.and_false]
theorem sameL_end (a b : List Rx) (q : Nat) (ha : a.length ≤ q) (hb : b.length ≤ q) : sameL (a.drop q) (b.drop q) = true := by
 rw [List.drop_eq_nil_of_le ha, List.drop_eq_nil_of_le hb, sameL]
theorem sameL_at (a b : List Rx) (q : Nat) (x y : Rx) (ha : a[q]? = some x) (hb : b[q]? = some y) : sameL (a.drop q) (b.drop q) = (sameR x y && sameL (a.drop (q + 1)) (b.drop (q + 1))) := by
 obtain ⟨h1, e1⟩ := List.getElem?_eq_some_iff.1 ha
 obtain ⟨h2, e2⟩ := List.getElem?_eq_some_iff.1 hb
 rw [List.drop_eq_getElem_cons h1, List.drop_eq_getElem_cons h2, e1, e2, sameL]

set_option maxHeartbeats 2000000 in
set_option maxRecDepth 100000 in
theorem ksame_step (k mn mx n : Int) (s : W4) (kids : List Rx) (H : ∀ a, a ∈ kids → KSameSaid a) (hl : kids.length ≤ 1000000) : KSameSaid (.mk k mn mx n s kids) := by
 refine ⟨fun b va vb w ok ok' hia hib => ?_⟩
 cases b with
 | mk k' mn' mx' n' s' kids' =>
  obtain ⟨ad, l, c, rfl, ra⟩ := hia.row
  obtain ⟨ad', l', c', rfl, rb⟩ := hib.row
  have la := hid ra.ln
  have lb := hid rb.ln
  have hca := ra.cp
  have hcb := rb.cp
  have hll : l ≤ 1000000 := by rw [la.out]; exact hl
  have RA := hid ra
  have RB := hid rb
  have HH := hid H
  clear ra rb hia hib H hl
  have e0 : Hid (sameR (.mk k mn mx n s kids) (.mk k' mn' mx' n' s' kids') = (k == k' && mn == mn' && mx == mx' && n == n' && s == s' && sameL kids kids')) := by show _ = _; rw [sameR]
  have es : ∀ w, (Op.equalIn 10000 24 (.agg #[.int .u64 (s.a : Int), .int .u64 (s.b : Int), .int .u64 (s.c : Int), .int .u64 (s.d : Int)]) (.agg #[.int .u64 (s'.a : Int), .int .u64 (s'.b : Int), .int .u64 (s'.c : Int), .int .u64 (s'.d : Int)])).run Tryz.prog w = .ok (s == s') w := fun w => by rw [w4_eq]; exact eq_vv _ _ _ _ _ _ _ _ w
  obtain ⟨q5, hq5⟩ : ∃ q, (s == s') = q := ⟨_, rfl⟩
  rw [hq5] at es e0
  clear hq5
  obtain ⟨Z, hZ⟩ : ∃ Z, sameR (.mk k mn mx n s kids) (.mk k' mn' mx' n' s' kids') = Z := ⟨_, rfl⟩
  rw [hZ] at e0 ⊢
  clear hZ
  go_enter Tryz.func20, Tryz.ntmps20
  go_upto_region 1 with fail
  refine opq (fun W => W.heap[w.heap.size]? = some (rxo k mn mx n s (.slice ad l c)) ∧ W.heap[w.heap.size + 1]? = some (rxo k' mn' mx' n' s' (.slice ad' l' c')) ∧ Kp w W) ⟨by exact bl_alloc (last_of _ _) _, by exact last_at _ _ _ (by simp), by exact ((Kp.refl _).alloc _).alloc _⟩ ?_
  rintro W0 ⟨y1, y2, y3⟩
  have A := hid y1
  have B := hid y2
  have K := hid y3
  clear y1 y2 y3
  obtain ⟨a0, a1, a2, a3, a4, a5, a6, a7, a8⟩ := cells9c A.out
  obtain ⟨b0, b1, b2, b3, b4, b5, b6, b7, b8⟩ := cells9c B.out
  cases h1 : (k == k') with
  | false =>
   have E : Hid (Z = false) := by show _ = _; rw [e0.out]; simp [h1]
   have m1 : (k != k') = true := by simp [bne, h1]
   go_wp2
   go_ret
   exact ⟨ret_bool E.out.symm, K.out⟩
  | true =>
  have m1 : (k != k') = false := by simp [bne, h1]
  cases h2 : (mn == mn') with
  | false =>
   have E : Hid (Z = false) := by show _ = _; rw [e0.out]; simp [h2]
   have m2 : (mn != mn') = true := by simp [bne, h2]
   go_wp2
   go_ret
   exact ⟨ret_bool E.out.symm, K.out⟩
  | true =>
  have m2 : (mn != mn') = false := by simp [bne, h2]
  cases h3 : (mx == mx') with
  | false =>
   have E : Hid (Z = false) := by show _ = _; rw [e0.out]; simp [h3]
   have m3 : (mx != mx') = true := by simp [bne, h3]
   go_wp2
   go_ret
   exact ⟨ret_bool E.out.symm, K.out⟩
  | true =>
  have m3 : (mx != mx') = false := by simp [bne, h3]
  cases h4 : (n == n') with
  | false =>
   have E : Hid (Z = false) := by show _ = _; rw [e0.out]; simp [h4]
   have m4 : (n != n') = true := by simp [bne, h4]
   go_wp2
   go_ret
   exact ⟨ret_bool E.out.symm, K.out⟩
  | true =>
  have m4 : (n != n') = false := by simp [bne, h4]
  cases q5 with
  | false =>
   have E : Hid (Z = false) := by show _ = _; rw [e0.out]; simp
   go_wp2
   go_ret
   exact ⟨ret_bool E.out.symm, K.out⟩
  | true =>
  by_cases hlen : l = l'
  case neg =>
   have E : Hid (Z = false) := by show _ = _; rw [e0.out, sameL_ne kids kids' (by rw [← la.out, ← lb.out]; exact hlen)]; simp
   have m6 : ((l : Int) != (l' : Int)) = true := by simp [bne]; omega
   go_wp2
   go_ret
   exact ⟨ret_bool E.out.symm, K.out⟩
  subst hlen
  have E : Hid (Z = sameL kids kids') := by show _ = _; rw [e0.out, h1, h2, h3, h4]; rfl
  have L1 := hid la.out
  clear e0 la
  go_wp2_with fail
  clear h1 h2 h3 h4 m1 m2 m3 m4 es
  clear a0 a1 a2 a3 a4 a5 a6 a7 a8 b0 b1 b2 b3 b4 b5 b6 b7 b8
  go_loopg [51] l (fun gg i wr => ∃ q : Nat, q + gg = l ∧ i = .int .i64 (q : Int) ∧ sameL kids kids' = sameL (kids.drop q) (kids'.drop q) ∧ Kp W0 wr)
  case atStart => exact ⟨0, by omega, rfl, rfl, Kp.refl _⟩
  case round =>
   obtain ⟨q, hq, rfl, hS, hK⟩ := hrel
   have S := hid hS
   have K1 := hid hK
   have A1 := hid (bl_kp A.out hK)
   have B1 := hid (bl_kp B.out hK)
   clear hS hK
   by_cases hlt : q < l
   ·
    have gkw : IntKind.i64.wrap ((q : Int) + 1) = (q : Int) + 1 := by rw [IntKind.wrap_i64]; omega
    have ga : (q : Int) < (l : Int) := by omega
    have g0 : (0 : Int) ≤ (q : Int) := by omega
    obtain ⟨r, hr⟩ : ∃ r, kids[q]? = some r := ⟨_, List.getElem?_eq_getElem (by rw [← L1.out]; exact hlt)⟩
    obtain ⟨r', hr'⟩ : ∃ r, kids'[q]? = some r := ⟨_, List.getElem?_eq_getElem (by rw [← lb.out]; exact hlt)⟩
    have S1 := hid (S.out.trans (sameL_at kids kids' q r r' hr hr'))
    have TS := hid (HH.out r (List.mem_of_getElem? hr))
    obtain ⟨bb, oo, kk, pn, px, pm, pt, pad, pl, pc, e1, hbb, i1, ce1⟩ := (RA.out.kp (K.out.trans K1.out)).at q r hr
    obtain ⟨bb', oo', kk', pn', px', pm', pt', pad', pl', pc', e1', hbb', i1', ce1'⟩ := (RB.out.kp (K.out.trans K1.out)).at q r' hr'
    subst e1
    subst e1'
    have I1 := hid i1
    have I2 := hid i1'
    have C1 := hid ce1
    have C2 := hid ce1'
    clear hr hr' i1 i1' ce1 ce1' S
    obtain ⟨z, hz⟩ : ∃ z, sameR r r' = z := ⟨_, rfl⟩
    rw [hz] at S1
    have HZ := hid hz
    clear hz
    go_upto_region 6 with fail
    have Q0 : Kp wr wr.drew := (Kp.refl _).drew
    have MK : Hid (∀ W, Kp wr W → W.cell? ⟨w.heap.size, 8, none⟩ = some (.slice (some ⟨bb, oo, none⟩) l c) ∧ W.cell? ⟨(w.heap.size + 1), 8, none⟩ = some (.slice (some ⟨bb', oo', none⟩) l c') ∧ W.cell? ⟨bb, (oo + q * 9), none⟩ = some (.int .i64 kk) ∧ W.cell? ⟨bb, (oo + q * 9 + 1), none⟩ = some (.int .i64 pn) ∧ W.cell? ⟨bb, (oo + q * 9 + 2), none⟩ = some (.int .i64 px) ∧ W.cell? ⟨bb, (oo + q * 9 + 3), none⟩ = some (.int .i64 pm) ∧ W.cell? ⟨bb, (oo + q * 9 + 4), none⟩ = some (Value.int .u64 (pt.a : Int)) ∧ W.cell? ⟨bb, (oo + q * 9 + 5), none⟩ = some (Value.int .u64 (pt.b : Int)) ∧ W.cell? ⟨bb, (oo + q * 9 + 6), none⟩ = some (Value.int .u64 (pt.c : Int)) ∧ W.cell? ⟨bb, (oo + q * 9 + 7), none⟩ = some (Value.int .u64 (pt.d : Int)) ∧ W.cell? ⟨bb, (oo + q * 9 + 8), none⟩ = some (Value.slice pad pl pc) ∧ W.cell? ⟨bb', (oo' + q * 9), none⟩ = some (.int .i64 kk') ∧ W.cell? ⟨bb', (oo' + q * 9 + 1), none⟩ = some (.int .i64 pn') ∧ W.cell? ⟨bb', (oo' + q * 9 + 2), none⟩ = some (.int .i64 px') ∧ W.cell? ⟨bb', (oo' + q * 9 + 3), none⟩ = some (.int .i64 pm') ∧ W.cell? ⟨bb', (oo' + q * 9 + 4), none⟩ = some (Value.int .u64 (pt'.a : Int)) ∧ W.cell? ⟨bb', (oo' + q * 9 + 5), none⟩ = some (Value.int .u64 (pt'.b : Int)) ∧ W.cell? ⟨bb', (oo' + q * 9 + 6), none⟩ = some (Value.int .u64 (pt'.c : Int)) ∧ W.cell? ⟨bb', (oo' + q * 9 + 7), none⟩ = some (Value.int .u64 (pt'.d : Int)) ∧ W.cell? ⟨bb', (oo' + q * 9 + 8), none⟩ = some (Value.slice pad' pl' pc') ∧ Hid (Kp wr W)) := fun W k => ⟨bl_cell (bl_kp A1.out k) 8 _ rfl, bl_cell (bl_kp B1.out k) 8 _ rfl, (cells_of_is (C1.out.turn (k.block _ hbb))).1, (cells_of_is (C1.out.turn (k.block _ hbb))).2.1, (cells_of_is (C1.out.turn (k.block _ hbb))).2.2.1, (cells_of_is (C1.out.turn (k.block _ hbb))).2.2.2.1, (cells_of_is (C1.out.turn (k.block _ hbb))).2.2.2.2.1, (cells_of_is (C1.out.turn (k.block _ hbb))).2.2.2.2.2.1, (cells_of_is (C1.out.turn (k.block _ hbb))).2.2.2.2.2.2.1, (cells_of_is (C1.out.turn (k.block _ hbb))).2.2.2.2.2.2.2.1, (cells_of_is (C1.out.turn (k.block _ hbb))).2.2.2.2.2.2.2.2, (cells_of_is (C2.out.turn (k.block _ hbb'))).1, (cells_of_is (C2.out.turn (k.block _ hbb'))).2.1, (cells_of_is (C2.out.turn (k.block _ hbb'))).2.2.1, (cells_of_is (C2.out.turn (k.block _ hbb'))).2.2.2.1, (cells_of_is (C2.out.turn (k.block _ hbb'))).2.2.2.2.1, (cells_of_is (C2.out.turn (k.block _ hbb'))).2.2.2.2.2.1, (cells_of_is (C2.out.turn (k.block _ hbb'))).2.2.2.2.2.2.1, (cells_of_is (C2.out.turn (k.block _ hbb'))).2.2.2.2.2.2.2.1, (cells_of_is (C2.out.turn (k.block _ hbb'))).2.2.2.2.2.2.2.2, k⟩
    refine wp_region_noPanic ?_
    refine wp_region_held_drew (S := (fun W => W.cell? ⟨w.heap.size, 8, none⟩ = some (.slice (some ⟨bb, oo, none⟩) l c) ∧ W.cell? ⟨(w.heap.size + 1), 8, none⟩ = some (.slice (some ⟨bb', oo', none⟩) l c') ∧ W.cell? ⟨bb, (oo + q * 9), none⟩ = some (.int .i64 kk) ∧ W.cell? ⟨bb, (oo + q * 9 + 1), none⟩ = some (.int .i64 pn) ∧ W.cell? ⟨bb, (oo + q * 9 + 2), none⟩ = some (.int .i64 px) ∧ W.cell? ⟨bb, (oo + q * 9 + 3), none⟩ = some (.int .i64 pm) ∧ W.cell? ⟨bb, (oo + q * 9 + 4), none⟩ = some (Value.int .u64 (pt.a : Int)) ∧ W.cell? ⟨bb, (oo + q * 9 + 5), none⟩ = some (Value.int .u64 (pt.b : Int)) ∧ W.cell? ⟨bb, (oo + q * 9 + 6), none⟩ = some (Value.int .u64 (pt.c : Int)) ∧ W.cell? ⟨bb, (oo + q * 9 + 7), none⟩ = some (Value.int .u64 (pt.d : Int)) ∧ W.cell? ⟨bb, (oo + q * 9 + 8), none⟩ = some (Value.slice pad pl pc) ∧ W.cell? ⟨bb', (oo' + q * 9), none⟩ = some (.int .i64 kk') ∧ W.cell? ⟨bb', (oo' + q * 9 + 1), none⟩ = some (.int .i64 pn') ∧ W.cell? ⟨bb', (oo' + q * 9 + 2), none⟩ = some (.int .i64 px') ∧ W.cell? ⟨bb', (oo' + q * 9 + 3), none⟩ = some (.int .i64 pm') ∧ W.cell? ⟨bb', (oo' + q * 9 + 4), none⟩ = some (Value.int .u64 (pt'.a : Int)) ∧ W.cell? ⟨bb', (oo' + q * 9 + 5), none⟩ = some (Value.int .u64 (pt'.b : Int)) ∧ W.cell? ⟨bb', (oo' + q * 9 + 6), none⟩ = some (Value.int .u64 (pt'.c : Int)) ∧ W.cell? ⟨bb', (oo' + q * 9 + 7), none⟩ = some (Value.int .u64 (pt'.d : Int)) ∧ W.cell? ⟨bb', (oo' + q * 9 + 8), none⟩ = some (Value.slice pad' pl' pc') ∧ Hid (Kp wr W))) (by kernel_rfl) ?_ (fun hH => ?_)
    ·
     exact MK.out _ Q0
    have KQ := Q0
    refine wpAnyH_take (i := 0) (oi := { dst := some 54, op := Op.fieldAddr 27 (Operand.tmp 2) 5, type := 0, pos := "keep.go:127", after := #[], guard := none }) (v := ?v0a1) rfl (by kernel_rfl) (by kernel_rfl) (by kernel_rfl) (fun _ _ _ h => h) (Or.inl ⟨by rfl, ?hy0a1⟩) hH ?r0a1
    case hy0a1 => (intro W hSw; (try dsimp only at hSw); go_simp; try (with_reducible rfl))
    try simp only [Act.put, List.setIfInBounds_toArray, List.set_cons_zero, List.set_cons_succ]
    refine wpAnyH_take (i := 1) (oi := { dst := some 55, op := Op.load 25 (Operand.tmp 54), type := 25, pos := "keep.go:127", after := #[{ on := 0, ground := Ground.data }], guard := none }) (v := ?v1a2) rfl (by kernel_rfl) (by kernel_rfl) (by kernel_rfl) (fun _ _ _ h => h) (Or.inl ⟨by rfl, ?hy1a2⟩) hH ?r1a2
    case hy1a2 => (intro W hSw; (try dsimp only at hSw); go_simp; try (with_reducible rfl))
    try simp only [Act.put, List.setIfInBounds_toArray, List.set_cons_zero, List.set_cons_succ]
    refine wpAnyH_take (i := 2) (oi := { dst := some 56, op := Op.move (Operand.tmp 5), type := 3, pos := "keep.go:127", after := #[], guard := none }) (v := ?v2a3) rfl (by kernel_rfl) (by kernel_rfl) (by kernel_rfl) (fun _ _ _ h => h) (Or.inl ⟨by rfl, ?hy2a3⟩) hH ?r2a3
    case hy2a3 => (intro W hSw; (try dsimp only at hSw); go_simp; try (with_reducible rfl))
    try simp only [Act.put, List.setIfInBounds_toArray, List.set_cons_zero, List.set_cons_succ]
    refine wpAnyH_take (i := 3) (oi := { dst := some 57, op := Op.indexAddr 25 (Operand.tmp 55) (Operand.tmp 56), type := 0, pos := "keep.go:127", after := #[{ on := 1, ground := Ground.data }, { on := 2, ground := Ground.data }], guard := none }) (v := ?v3a4) rfl (by kernel_rfl) (by kernel_rfl) (by kernel_rfl) (fun _ _ _ h => h) (Or.inl ⟨by rfl, ?hy3a4⟩) hH ?r3a4
    case hy3a4 => (intro W hSw; (try dsimp only at hSw); go_simp; try (with_reducible rfl))
    try simp only [Act.put, List.setIfInBounds_toArray, List.set_cons_zero, List.set_cons_succ]
    refine wpAnyH_take (i := 4) (oi := { dst := some 58, op := Op.load 27 (Operand.tmp 57), type := 27, pos := "keep.go:127", after := #[{ on := 3, ground := Ground.data }], guard := none }) (v := ?v4a5) rfl (by kernel_rfl) (by kernel_rfl) (by kernel_rfl) (fun _ _ _ h => h) (Or.inl ⟨by rfl, ?hy4a5⟩) hH ?r4a5
    case hy4a5 => (intro W hSw; (try dsimp only at hSw); go_simp; try (with_reducible rfl))
    try simp only [Act.put, List.setIfInBounds_toArray, List.set_cons_zero, List.set_cons_succ]
    refine wpAnyH_take (i := 5) (oi := { dst := some 59, op := Op.fieldAddr 27 (Operand.tmp 3) 5, type := 0, pos := "keep.go:127", after := #[], guard := none }) (v := ?v5a6) rfl (by kernel_rfl) (by kernel_rfl) (by kernel_rfl) (fun _ _ _ h => h) (Or.inl ⟨by rfl, ?hy5a6⟩) hH ?r5a6
    case hy5a6 => (intro W hSw; (try dsimp only at hSw); go_simp; try (with_reducible rfl))
    try simp only [Act.put, List.setIfInBounds_toArray, List.set_cons_zero, List.set_cons_succ]
    refine wpAnyH_take (i := 6) (oi := { dst := some 60, op := Op.load 25 (Operand.tmp 59), type := 25, pos := "keep.go:127", after := #[{ on := 5, ground := Ground.data }], guard := none }) (v := ?v6a7) rfl (by kernel_rfl) (by kernel_rfl) (by kernel_rfl) (fun _ _ _ h => h) (Or.inl ⟨by rfl, ?hy6a7⟩) hH ?r6a7
    case hy6a7 => (intro W hSw; (try dsimp only at hSw); go_simp; try (with_reducible rfl))
    try simp only [Act.put, List.setIfInBounds_toArray, List.set_cons_zero, List.set_cons_succ]
    refine wpAnyH_take (i := 7) (oi := { dst := some 61, op := Op.move (Operand.tmp 5), type := 3, pos := "keep.go:127", after := #[], guard := none }) (v := ?v7a8) rfl (by kernel_rfl) (by kernel_rfl) (by kernel_rfl) (fun _ _ _ h => h) (Or.inl ⟨by rfl, ?hy7a8⟩) hH ?r7a8
    case hy7a8 => (intro W hSw; (try dsimp only at hSw); go_simp; try (with_reducible rfl))
    try simp only [Act.put, List.setIfInBounds_toArray, List.set_cons_zero, List.set_cons_succ]
    refine wpAnyH_take (i := 8) (oi := { dst := some 62, op := Op.indexAddr 25 (Operand.tmp 60) (Operand.tmp 61), type := 0, pos := "keep.go:127", after := #[{ on := 6, ground := Ground.data }, { on := 7, ground := Ground.data }], guard := none }) (v := ?v8a9) rfl (by kernel_rfl) (by kernel_rfl) (by kernel_rfl) (fun _ _ _ h => h) (Or.inl ⟨by rfl, ?hy8a9⟩) hH ?r8a9
    case hy8a9 => (intro W hSw; (try dsimp only at hSw); go_simp; try (with_reducible rfl))
    try simp only [Act.put, List.setIfInBounds_toArray, List.set_cons_zero, List.set_cons_succ]
    refine wpAnyH_take (i := 9) (oi := { dst := some 63, op := Op.load 27 (Operand.tmp 62), type := 27, pos := "keep.go:127", after := #[{ on := 8, ground := Ground.data }], guard := none }) (v := ?v9a10) rfl (by kernel_rfl) (by kernel_rfl) (by kernel_rfl) (fun _ _ _ h => h) (Or.inl ⟨by rfl, ?hy9a10⟩) hH ?r9a10
    case hy9a10 => (intro W hSw; (try dsimp only at hSw); go_simp; try (with_reducible rfl))
    try simp only [Act.put, List.setIfInBounds_toArray, List.set_cons_zero, List.set_cons_succ]
    refine wpAnyH_ready (rs := [10]) (by kernel_rfl) (by simp) ?_
    refine AllReadyH.cons (o := { dst := some 64, op := Op.call { callee := Callee.value (Operand.func 20), args := #[Operand.tmp 58, Operand.tmp 63], argTypes := #[27, 27] }, type := 4, pos := "keep.go:127", after := #[{ on := 4, ground := Ground.data }, { on := 9, ground := Ground.data }], guard := none }) rfl (fun K hKq => ?_) AllReadyH.nil
    go_simp
    refine (TS.out.all r' _ _ _ ok ok' (I1.out.kp KQ) (I2.out.kp KQ)).mono ?_
    rintro e y1 ⟨rfl, kq⟩
    rw [HZ.out]
    refine hKq.out _ _ (MK.out _ (KQ.trans kq)) (fun hN => ?_)
    clear kq
    clear hKq K hH KQ
    have hH := hN
    clear hN
    have KQ := hH.2.2.2.2.2.2.2.2.2.2.2.2.2.2.2.2.2.2.2.2.out
    try simp only [Act.put, List.setIfInBounds_toArray, List.set_cons_zero, List.set_cons_succ]
    refine wpAnyH_take (i := 11) (oi := { dst := some 65, op := Op.unOp UnOp.not 4 (Operand.tmp 64), type := 4, pos := "keep.go:127", after := #[{ on := 10, ground := Ground.data }], guard := none }) (v := ?v11a11) rfl (by kernel_rfl) (by kernel_rfl) (by kernel_rfl) (fun _ _ _ h => h) (Or.inl ⟨by rfl, ?hy11a11⟩) hH ?r11a11
    case hy11a11 => (intro W hSw; (try dsimp only at hSw); go_simp; try (with_reducible rfl))
    try simp only [Act.put, List.setIfInBounds_toArray, List.set_cons_zero, List.set_cons_succ]
    refine wpAnyH_done (by kernel_rfl) ?_ _
    refine NoPanic.normal ?_
    have K2 := hid (K1.out.trans KQ)
    cases z with
    | false =>
     have EF : Hid (Z = false) := by show _ = _; rw [E.out, S1.out]; rfl
     go_wp2_with fail
     go_ret
     exact ⟨ret_bool EF.out.symm, K.out.trans K2.out⟩
    | true =>
     have ET : Hid (sameL kids kids' = sameL (kids.drop (q + 1)) (kids'.drop (q + 1))) := by show _ = _; rw [S1.out]; rfl
     go_wp2_with fail
     go_roundg (gk - 1)
     case measure => omega
     case rel => exact ⟨q + 1, by omega, by go_num, ET.out, K2.out⟩
   ·
    have ga : ¬ (q : Int) < (l : Int) := by omega
    have ET : Hid (Z = true) := by show _ = _; rw [E.out, S.out]; exact sameL_end _ _ _ (by rw [← L1.out]; omega) (by rw [← lb.out]; omega)
    go_wp2_with fail
    go_ret
    exact ⟨ret_bool ET.out.symm, K.out.trans K1.out⟩

theorem ksame_any : ∀ a, RxFit a → KSameSaid a
 | .mk k mn mx n s kids, h => by
  unfold RxFit at h
  exact ksame_step k mn mx n s kids (fun a ha => ksame_any a (h.2 a ha)) h.1
termination_by a => SizeOf.sizeOf a
decreasing_by
 have := List.sizeOf_lt_of_mem ha
 simp
 omega
end Go.Proofs.YtikmgckefbjbkaaGreatDoor

/-! ### SameEq -/

namespace Go.Proofs.YtikmgckefbjbkaaGreatDoor
open Go.RowKit

mutual
theorem sameR_refl : ∀ a : Rx, sameR a a = true
 | .mk k mn mx n s ks => by simp [sameR, sameL_refl ks]
theorem sameL_refl : ∀ a : List Rx, sameL a a = true
 | [] => by simp [sameL]
 | a :: l => by simp [sameL, sameR_refl a, sameL_refl l]
end
mutual
theorem sameR_eq : ∀ a b : Rx, sameR a b = true → a = b
 | .mk k mn mx n s ks, .mk k' mn' mx' n' s' ks', h => by
  simp only [sameR, Bool.and_eq_true, beq_iff_eq] at h
  obtain ⟨⟨⟨⟨⟨h1, h2⟩, h3⟩, h4⟩, h5⟩, h6⟩ := h
  rw [h1, h2, h3, h4, h5, sameL_eq ks ks' h6]
theorem sameL_eq : ∀ a b : List Rx, sameL a b = true → a = b
 | [], [], _ => rfl
 | a :: l, b :: m, h => by
  simp only [sameL, Bool.and_eq_true] at h
  rw [sameR_eq a b h.1, sameL_eq l m h.2]
 | [], _ :: _, h => by simp [sameL] at h
 | _ :: _, [], h => by simp [sameL] at h
end
end Go.Proofs.YtikmgckefbjbkaaGreatDoor

/-! ### Talk -/

namespace Go.Proofs.YtikmgckefbjbkaaGreatDoor
open Go.RowKit

theorem fit_of_ok : ∀ r, RxOk r → RxFit r
 | .mk k mn mx n s kids, h => by
  unfold RxOk at h
  unfold RxFit
  exact ⟨h.1, fun a ha => fit_of_ok a (h.2.2 a ha)⟩
termination_by r => SizeOf.sizeOf r
decreasing_by
 have := List.sizeOf_lt_of_mem ha
 simp
 omega
theorem slim_of_ok : ∀ r, RxOk r → Slim r
 | .mk k mn mx n s kids, h => by
  unfold RxOk at h
  unfold Slim
  exact ⟨h.1, fun a ha => slim_of_ok a (h.2.2 a ha)⟩
termination_by r => SizeOf.sizeOf r
decreasing_by
 have := List.sizeOf_lt_of_mem ha
 simp
 omega
theorem print_size (ere : Bool) (T : Rx) (hO : RxOk T) : (bs (printT ere T)).size ≤ 1000000 := by
 rw [bs_size]
 unfold printT
 split
 ·
  rename_i h
  have := (Trip.right_fit ere T hO h).2
  omega
 ·
  simp
theorem nds_right (ere : Bool) (T : Rx) (h : right ere T = true) : nds T ≤ 40 := by
 unfold right at h
 obtain ⟨c, hc⟩ := Option.isSome_iff_exists.1 h
 have := (Trip.cnt_any T).all ere true true ⟨0, 0, 0⟩ c hc
 simp at this
 omega
/-- A tree's text. -/
theorem talk_print (T : Rx) (ere : Bool) (hO : RxOk T) (S : ByteArray) (hS : bs (printT ere T) = S) (w : World) {k mn mx m : Int} {t : W4} {ad : Option Addr} {l c : Nat} (h : Pd w T k mn mx m t ad l c) :
  Calls Tryz.prog 10 #[rxv k mn mx m t (.slice ad l c), .bool ere] w fun e w' => e = .returned (.string S) ∧ Kp w w' := by
 subst hS
 exact print_any T ere _ k mn mx m t ad l c w hO (fun hr => (Trip.right_fit ere T hO hr).1) h.is
theorem talk_right (T : Rx) (ere b : Bool) (hO : RxOk T) (hb : right ere T = b) (w : World) {k mn mx m : Int} {t : W4} {ad : Option Addr} {l c : Nat} (h : Pd w T k mn mx m t ad l c) :
  Calls Tryz.prog 15 #[rxv k mn mx m t (.slice ad l c), .bool ere] w fun e w' => e = .returned (.bool b) ∧ Kp w w' := by
 subst hb
 exact Right_any T ere _ k mn mx m t ad l c w hO h.is
theorem talk_same (T U : Rx) (b : Bool) (hO : RxOk T) (hb : sameR T U = b) (w : World) {k mn mx m : Int} {t : W4} {ad : Option Addr} {l c : Nat} {k' mn' mx' m' : Int} {t' : W4} {ad' : Option Addr} {l' c' : Nat} (h : Pd w T k mn mx m t ad l c) (h' : Pd w U k' mn' mx' m' t' ad' l' c') :
  Calls Tryz.prog 16 #[rxv k mn mx m t (.slice ad l c), rxv k' mn' mx' m' t' (.slice ad' l' c')] w fun e w' => e = .returned (.bool b) ∧ Kp w w' := by
 subst hb
 exact same_any T U _ _ w _ _ (fit_of_ok T hO) h.is h'.is
theorem talk_ksame (T U : Rx) (b : Bool) (hO : RxOk T) (hb : sameR T U = b) (w : World) {k mn mx m : Int} {t : W4} {ad : Option Addr} {l c : Nat} {k' mn' mx' m' : Int} {t' : W4} {ad' : Option Addr} {l' c' : Nat} (h : Pd w T k mn mx m t ad l c) (h' : Pd w U k' mn' mx' m' t' ad' l' c') :
  Calls Tryz.prog 20 #[rxv k mn mx m t (.slice ad l c), rxv k' mn' mx' m' t' (.slice ad' l' c')] w fun e w' => e = .returned (.bool b) ∧ Kp w w' := by
 subst hb
 exact (ksame_any T (fit_of_ok T hO)).all U _ _ w _ _ h.is h'.is
theorem talk_nodes (T : Rx) (N : Nat) (hO : RxOk T) (hn : nds T = N) (hN : N ≤ 1000000) (w : World) {k mn mx m : Int} {t : W4} {ad : Option Addr} {l c : Nat} (h : Pd w T k mn mx m t ad l c) :
  Calls Tryz.prog 18 #[rxv k mn mx m t (.slice ad l c)] w fun e w' => e = .returned (.int .i64 ((N : Nat) : Int)) ∧ Kp w w' := by
 subst hn
 exact (Nodes_any T hN (slim_of_ok T hO)).all _ _ w h.is
end Go.Proofs.YtikmgckefbjbkaaGreatDoor
