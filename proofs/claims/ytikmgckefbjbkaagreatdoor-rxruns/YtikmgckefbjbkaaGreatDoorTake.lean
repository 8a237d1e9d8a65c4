/-
  take: behind a sign, and a node more; back.
-/
import Derived.Test.YtikmgckefbjbkaaGreatDoorFn
import Derived.Test.YtikmgckefbjbkaaGreatDoorSteps
namespace Go.Proofs.YtikmgckefbjbkaaGreatDoor
open Go.RowKit

set_option maxRecDepth 100000 in
theorem take_any (x y z : Nat) (k mn mx m : Int) (t : W4) (ad : Option Addr) (l c : Nat) (s : ByteArray) (ere : Bool) (i n g d P : Nat) (w : World) (h : Rd w P s ere i n g d) (hi : i ≤ 1000000000) (hz : z ≤ 100) (hn : n ≤ 1000000000) :
    Calls Tryz.prog 91 #[.pointer (some ⟨P, 0, none⟩), .agg #[.int .i64 (x : Int), .int .u8 (y : Int), .int .i64 (z : Int)], rxv k mn mx m t (.slice ad l c)] w fun e w' => e = .returned (.tuple #[rxv k mn mx m t (.slice ad l c), .int .i64 0]) ∧ Rd w' P s ere (i + z) (n + 1) g d ∧ Ks P w w' := by
  have R : Hid (Rd w P s ere i n g d) := h
  have hP : P < w.heap.size := h.lt
  clear h
  have gw : IntKind.i64.wrap ((i : Int) + (z : Int)) = (i : Int) + (z : Int) := by rw [IntKind.wrap_i64]; omega
  go_enter Tryz.func91, Tryz.ntmps91
  go_upto_region 1 with fail
  refine opq (fun W0 => Rd W0 P s ere i n g d ∧ W0.heap[w.heap.size]? = some (sgo x y z) ∧ W0.heap[(w.heap.size + 1)]? = some (rxo k mn mx m t (.slice ad l c)) ∧ W0.heap[(w.heap.size + 2)]? = some rzo ∧ Kp w W0) ⟨by exact R.out.kp (by repeat (first | exact Kp.refl _ | refine Kp.alloc ?_ _ | refine Kp.drew ?_ | refine Kp.drewN _ ?_)), by (first | exact last_at _ _ _ (by simp) | (refine bl_alloc ?_ _; first | exact last_at _ _ _ (by simp) | (refine bl_alloc ?_ _; first | exact last_at _ _ _ (by simp) | (refine bl_alloc ?_ _; exact last_at _ _ _ (by simp))))), by (first | exact last_at _ _ _ (by simp) | (refine bl_alloc ?_ _; first | exact last_at _ _ _ (by simp) | (refine bl_alloc ?_ _; first | exact last_at _ _ _ (by simp) | (refine bl_alloc ?_ _; exact last_at _ _ _ (by simp))))), by (first | exact last_at _ _ _ (by simp) | (refine bl_alloc ?_ _; first | exact last_at _ _ _ (by simp) | (refine bl_alloc ?_ _; first | exact last_at _ _ _ (by simp) | (refine bl_alloc ?_ _; exact last_at _ _ _ (by simp))))), by exact (by repeat (first | exact Kp.refl _ | refine Kp.alloc ?_ _ | refine Kp.drew ?_ | refine Kp.drewN _ ?_))⟩ ?_
  rintro W0 ⟨xR0, xG0, xA0, xB0, xK0⟩
  have R0 : Hid (Rd W0 P s ere i n g d) := xR0
  have G0 : Hid (W0.heap[w.heap.size]? = some (sgo x y z)) := xG0
  have A0 : Hid (W0.heap[(w.heap.size + 1)]? = some (rxo k mn mx m t (.slice ad l c))) := xA0
  have B0 : Hid (W0.heap[(w.heap.size + 2)]? = some rzo) := xB0
  have K0 : Hid (Kp w W0) := xK0
  clear xR0 xG0 xA0 xB0 xK0
  have ks0 : Hid (Ks P w W0) := K0.out.ks (Nat.le_of_lt hP)
  have fp2 := bl_frozen R0.out.b 2
  clear K0
  have Q0 : Kp W0 W0.drew := (Kp.refl _).drew
  have MK : Hid (∀ W, Kp W0 W → W.cell? ⟨P, 2, none⟩ = some (.int .i64 (i : Int)) ∧ W.cell? ⟨w.heap.size, 2, none⟩ = some (.int .i64 (z : Int)) ∧ Hid (Kp W0 W)) := fun W k => ⟨(R0.out.kp k).cells.2.2.1, bl_cell (bl_kp G0.out k) 2 _ rfl, k⟩
  refine wp_region_noPanic ?_
  refine region_Z (z := 9) (S := (fun W => W.cell? ⟨P, 2, none⟩ = some (.int .i64 (i : Int)) ∧ W.cell? ⟨w.heap.size, 2, none⟩ = some (.int .i64 (z : Int)) ∧ Hid (Kp W0 W))) (by kernel_rfl) ?_ (fun hH => ?_)
  · exact MK.out _ Q0
  have KQ := Q0
  refine anyZ_take (z := 9) (ks := []) (i := 0) (oi := { dst := some 8, op := Op.move (Operand.tmp 0), type := 77, pos := "parse.go:139", after := #[], guard := none }) (v := ?v0a1) rfl (by kernel_rfl) (by kernel_rfl) (by kernel_rfl) (by kernel_rfl) (by kernel_rfl) (fun _ _ _ h => h) (Or.inl ⟨by rfl, ?hy0a1⟩) hH ?r0a1
  case hy0a1 => (intro W hSw; (try dsimp only at hSw); go_simp; try (with_reducible rfl))
  try simp only [Act.put, List.setIfInBounds_toArray, List.set_cons_zero, List.set_cons_succ]
  refine anyZ_take (z := 9) (ks := []) (i := 1) (oi := { dst := some 9, op := Op.nilCheck (Operand.tmp 8), type := 0, pos := "parse.go:139", after := #[{ on := 0, ground := Ground.data }], guard := none }) (v := ?v1a2) rfl (by kernel_rfl) (by kernel_rfl) (by kernel_rfl) (by kernel_rfl) (by kernel_rfl) (fun _ _ _ h => h) (Or.inl ⟨by rfl, ?hy1a2⟩) hH ?r1a2
  case hy1a2 => (intro W hSw; (try dsimp only at hSw); go_simp; try (with_reducible rfl))
  try simp only [Act.put, List.setIfInBounds_toArray, List.set_cons_zero, List.set_cons_succ]
  refine anyZ_take (z := 9) (ks := []) (i := 2) (oi := { dst := some 10, op := Op.fieldAddr 55 (Operand.tmp 9) 2, type := 0, pos := "parse.go:139", after := #[{ on := 1, ground := Ground.data }], guard := none }) (v := ?v2a3) rfl (by kernel_rfl) (by kernel_rfl) (by kernel_rfl) (by kernel_rfl) (by kernel_rfl) (fun _ _ _ h => h) (Or.inl ⟨by rfl, ?hy2a3⟩) hH ?r2a3
  case hy2a3 => (intro W hSw; (try dsimp only at hSw); go_simp; try (with_reducible rfl))
  try simp only [Act.put, List.setIfInBounds_toArray, List.set_cons_zero, List.set_cons_succ]
  refine anyZ_take (z := 9) (ks := []) (i := 3) (oi := { dst := some 11, op := Op.load 3 (Operand.tmp 10), type := 3, pos := "parse.go:139", after := #[{ on := 2, ground := Ground.data }], guard := none }) (v := ?v3a4) rfl (by kernel_rfl) (by kernel_rfl) (by kernel_rfl) (by kernel_rfl) (by kernel_rfl) (fun _ _ _ h => h) (Or.inl ⟨by rfl, ?hy3a4⟩) hH ?r3a4
  case hy3a4 => (intro W hSw; (try dsimp only at hSw); go_simp; try (with_reducible rfl))
  try simp only [Act.put, List.setIfInBounds_toArray, List.set_cons_zero, List.set_cons_succ]
  refine anyZ_take (z := 9) (ks := []) (i := 4) (oi := { dst := some 12, op := Op.fieldAddr 91 (Operand.tmp 4) 2, type := 0, pos := "parse.go:139", after := #[], guard := none }) (v := ?v4a5) rfl (by kernel_rfl) (by kernel_rfl) (by kernel_rfl) (by kernel_rfl) (by kernel_rfl) (fun _ _ _ h => h) (Or.inl ⟨by rfl, ?hy4a5⟩) hH ?r4a5
  case hy4a5 => (intro W hSw; (try dsimp only at hSw); go_simp; try (with_reducible rfl))
  try simp only [Act.put, List.setIfInBounds_toArray, List.set_cons_zero, List.set_cons_succ]
  refine anyZ_take (z := 9) (ks := []) (i := 5) (oi := { dst := some 13, op := Op.load 3 (Operand.tmp 12), type := 3, pos := "parse.go:139", after := #[{ on := 4, ground := Ground.data }], guard := none }) (v := ?v5a6) rfl (by kernel_rfl) (by kernel_rfl) (by kernel_rfl) (by kernel_rfl) (by kernel_rfl) (fun _ _ _ h => h) (Or.inl ⟨by rfl, ?hy5a6⟩) hH ?r5a6
  case hy5a6 => (intro W hSw; (try dsimp only at hSw); go_simp; try (with_reducible rfl))
  try simp only [Act.put, List.setIfInBounds_toArray, List.set_cons_zero, List.set_cons_succ]
  refine anyZ_take (z := 9) (ks := []) (i := 6) (oi := { dst := some 14, op := Op.binOp BinOp.add 3 (Operand.tmp 11) (Operand.tmp 13) 3, type := 3, pos := "parse.go:139", after := #[{ on := 3, ground := Ground.data }, { on := 5, ground := Ground.data }], guard := none }) (v := ?v6a7) rfl (by kernel_rfl) (by kernel_rfl) (by kernel_rfl) (by kernel_rfl) (by kernel_rfl) (fun _ _ _ h => h) (Or.inl ⟨by rfl, ?hy6a7⟩) hH ?r6a7
  case hy6a7 => (intro W hSw; (try dsimp only at hSw); go_simp; try (with_reducible rfl))
  try simp only [Act.put, List.setIfInBounds_toArray, List.set_cons_zero, List.set_cons_succ]
  refine anyZ_take (z := 9) (ks := [8]) (i := 7) (oi := { dst := some 15, op := Op.nilCheck (Operand.tmp 8), type := 0, pos := "parse.go:139", after := #[{ on := 0, ground := Ground.data }, { on := 0, ground := Ground.phase }, { on := 1, ground := Ground.phase }, { on := 2, ground := Ground.phase }, { on := 3, ground := Ground.phase }, { on := 4, ground := Ground.phase }, { on := 5, ground := Ground.phase }, { on := 6, ground := Ground.phase }], guard := none }) (v := ?v7a8) rfl (by kernel_rfl) (by kernel_rfl) (by kernel_rfl) (by kernel_rfl) (by kernel_rfl) (fun _ _ _ h => h) (Or.inl ⟨by rfl, ?hy7a8⟩) hH ?r7a8
  case hy7a8 => (intro W hSw; (try dsimp only at hSw); go_simp; try (with_reducible rfl))
  try simp only [Act.put, List.setIfInBounds_toArray, List.set_cons_zero, List.set_cons_succ]
  refine anyZ_take (z := 9) (ks := []) (i := 8) (oi := { dst := some 16, op := Op.fieldAddr 55 (Operand.tmp 15) 2, type := 0, pos := "parse.go:139", after := #[{ on := 7, ground := Ground.data }, { on := 0, ground := Ground.phase }, { on := 1, ground := Ground.phase }, { on := 2, ground := Ground.phase }, { on := 3, ground := Ground.phase }, { on := 4, ground := Ground.phase }, { on := 5, ground := Ground.phase }, { on := 6, ground := Ground.phase }], guard := none }) (v := ?v8a9) rfl (by kernel_rfl) (by kernel_rfl) (by kernel_rfl) (by kernel_rfl) (by kernel_rfl) (fun _ _ _ h => h) (Or.inl ⟨by rfl, ?hy8a9⟩) hH ?r8a9
  case hy8a9 => (intro W hSw; (try dsimp only at hSw); go_simp; try (with_reducible rfl))
  try simp only [Act.put, List.setIfInBounds_toArray, List.set_cons_zero, List.set_cons_succ]
  refine anyZ_ready (rs := [9]) (by kernel_rfl) (by simp) ?_
  refine AllZ.last (o := { dst := none, op := Op.store 3 (Operand.tmp 16) (Operand.tmp 14), type := 0, pos := "parse.go:139", after := #[{ on := 8, ground := Ground.data }, { on := 6, ground := Ground.data }, { on := 0, ground := Ground.phase }, { on := 1, ground := Ground.phase }, { on := 2, ground := Ground.phase }, { on := 3, ground := Ground.phase }, { on := 4, ground := Ground.phase }, { on := 5, ground := Ground.phase }, { on := 6, ground := Ground.phase }], guard := none }) rfl (Or.inl rfl) (fun K hKq => ?_) AllZ.nil
  have fq2 := bl_frozen (R0.out.kp KQ).b 2
  have cq2 := (R0.out.kp KQ).cells.2.2.1
  go_simp
  refine hKq.out _ _ ?_
  clear fq2 cq2
  clear hKq K
  try simp only [Act.put, List.setIfInBounds_toArray, List.set_cons_zero, List.set_cons_succ]
  refine anyZ_done (by kernel_rfl) ?_ _
  refine NoPanic.normal ?_
  go_upto_region 2 with fail
  refine opq (fun W1 => Rd W1 P s ere (i + z) n g d ∧ W1.heap[(w.heap.size + 1)]? = some (rxo k mn mx m t (.slice ad l c)) ∧ W1.heap[(w.heap.size + 2)]? = some rzo ∧ Ks P w W1) ⟨by exact (R0.out.kp KQ).at (i + z), by exact bl_set (bl_kp A0.out KQ) (by omega) _, by exact bl_set (bl_kp B0.out KQ) (by omega) _, by exact (ks0.out.kpt KQ hP).set 2 _⟩ ?_
  rintro W1 ⟨xR1, xA1, xB1, xK1⟩
  have R1 : Hid (Rd W1 P s ere (i + z) n g d) := xR1
  have A1 : Hid (W1.heap[(w.heap.size + 1)]? = some (rxo k mn mx m t (.slice ad l c))) := xA1
  have B1 : Hid (W1.heap[(w.heap.size + 2)]? = some rzo) := xB1
  have K1 : Hid (Ks P w W1) := xK1
  clear xR1 xA1 xB1 xK1
  clear hH KQ Q0 MK R0 G0 A0 B0 ks0 fp2
  have a0 := bl_cell (A1.out) 0 _ rfl
  have a1 := bl_cell (A1.out) 1 _ rfl
  have a2 := bl_cell (A1.out) 2 _ rfl
  have a3 := bl_cell (A1.out) 3 _ rfl
  have a4 := bl_cell (A1.out) 4 _ rfl
  have a5 := bl_cell (A1.out) 5 _ rfl
  have a6 := bl_cell (A1.out) 6 _ rfl
  have a7 := bl_cell (A1.out) 7 _ rfl
  have a8 := bl_cell (A1.out) 8 _ rfl
  go_wp2_with fail
  refine (node_any k mn mx m t ad l c s ere (i + z) n g d P _ R1.out hn).mono ?_
  rintro e w2 ⟨rfl, r2, k2⟩
  have hs1 := K1.out.size
  have R2 : Hid (Rd w2 P s ere (i + z) (n + 1) g d) := r2
  have B2 : Hid (w2.heap[w.heap.size + 2]? = some rzo) := bl_ks B1.out (by omega) k2
  have K2 : Hid (Ks P w w2) := K1.out.trans k2
  clear r2 k2 K1 R1 A1 B1
  clear a0 a1 a2 a3 a4 a5 a6 a7 a8
  have b0 := bl_cell (B2.out) 0 _ rfl
  have fb0 := bl_frozen (B2.out) 0
  have b1 := bl_cell (B2.out) 1 _ rfl
  have fb1 := bl_frozen (B2.out) 1
  have b2 := bl_cell (B2.out) 2 _ rfl
  have fb2 := bl_frozen (B2.out) 2
  have b3 := bl_cell (B2.out) 3 _ rfl
  have fb3 := bl_frozen (B2.out) 3
  have b4 := bl_cell (B2.out) 4 _ rfl
  have fb4 := bl_frozen (B2.out) 4
  have b5 := bl_cell (B2.out) 5 _ rfl
  have fb5 := bl_frozen (B2.out) 5
  have b6 := bl_cell (B2.out) 6 _ rfl
  have fb6 := bl_frozen (B2.out) 6
  have b7 := bl_cell (B2.out) 7 _ rfl
  have fb7 := bl_frozen (B2.out) 7
  have b8 := bl_cell (B2.out) 8 _ rfl
  have fb8 := bl_frozen (B2.out) 8
  go_wp2_with fail
  refine bodyPost_ret (v := .tuple #[.agg _, _]) (rx_ret2 rfl _ _ _ _ _ rfl rfl (bl_set9 B2.out _ _ _ _ _ _ _ _ _) rfl) rfl ⟨rfl, ?_, ?_⟩
  · exact R2.out.ks (ks_set9 _ _ _ _ _ _ _ _ _) (by omega) (by omega)
  · exact K2.out.off (ks_set9 _ _ _ _ _ _ _ _ _) (by omega) hP

end Go.Proofs.YtikmgckefbjbkaaGreatDoor
