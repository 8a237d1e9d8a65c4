/-
  Texts of this claim: Fn, Take, Shelf.
-/
import Derived.Test.YtommgdgilcemdaaGreatDoorCmdLM3
import Derived.Laws.ResultCell
import Derived.Test.YtommgdgilcemdaaGreatDoorCmdLM2
import Derived.Shelf.Strings.Builder1
import Derived.Shelf.Strings.Builder2
import Derived.Shelf.Strings.OnBuilder
import Derived.Shelf.Strings.BuilderF
import Derived.Shelf.Strings.BuilderK
import Derived.Shelf.Strings.Builder2Cap
import Derived.Shelf.Strconv.Itoa0
import Derived.Shelf.Strconv.Itoa1
import Derived.Shelf.LaysM
import Derived.Shelf.Strconv.Itoa2
import Derived.Shelf.Strconv.Itoa3
import Derived.Shelf.Strings.Search1
import Derived.Shelf.Strings.Search2
import Derived.Shelf.Strings.Cut
import Derived.Shelf.Strings.Shaped
import Derived.Shelf.Strings.Prefix
import Derived.Shelf.Strings.BuilderCap
import Derived.Test.YtommgdgilcemdaaGreatDoorProg

/-! ### Fn -/

namespace Go.Proofs.YtommgdgilcemdaaGreatDoor
open Go.RowKit

theorem opq {P : Program} {c : Code} {Q : Exit → Act → World → Prop} {a : Act} {w : World} (R : World → Prop) (hr : R w) (h : ∀ W, R W → Code.wp P c Q a W) : Code.wp P c Q a w := h w hr
theorem rx_ret2 {fn : Func} {p u : Tmp} (h : fn.results = #[.cell p 27, .tmp u]) (tmps : Array Value) (w : World) (S : Nat) (cs : Array Value) (x : Value) (hp : tmps.getD p undef = .pointer (some ⟨S, 0, none⟩)) (hu : tmps.getD u undef = x) (hA : w.heap[S]? = some (.cells cs 27)) (hc : cs.size = 9) : (results fn tmps).run Tryz.prog w = .ok (.tuple #[.agg cs, x]) w := by
 rw [results_cell_tmp h, hp, hu]
 have := run_loadVar_row (P := Tryz.prog) w S 27 27 cs (0, 0) _ hA Tryz.underlying27 rfl (by rw [hc]; kernel_rfl)
 simp [asAddr, Result.andThen, this]
/-- Two expressions of memory at once: the frame of a reader's call. -/
theorem Ks.new {P S : Nat} {a b c : World} (h : Ks P a b) (k : Ks S b c) (hS : a.heap.size ≤ S) (hP : P < a.heap.size) : Ks P a c := h.off k hS hP
theorem Ks.kpt {P : Nat} {a b c : World} (h : Ks P a b) (k : Kp b c) (hP : P < a.heap.size) : Ks P a c := h.kp k (Nat.le_trans (Nat.le_of_lt hP) h.size)

abbrev sgo (x y z : Nat) : Obj := .cells #[.int .i64 (x : Int), .int .u8 (y : Int), .int .i64 (z : Int)] 110
abbrev sgz : Obj := .cells #[.int .i64 0, .int .u8 0, .int .i64 0] 110

set_option maxRecDepth 100000 in
theorem oneOf_any (p : Nat → Bool) (w : World) : Calls Tryz.prog 156 #[sv p] w fun e w' => e = .returned (rxv 1 0 0 0 (W4.of p) (.slice none 0 0)) ∧ Kp w w' := by
 go_enter Tryz.func156, Tryz.ntmps156
 go_wp2_with fail
 exact bodyPost_ret (v := .agg _) (rx_ret rfl _ _ _ _ rfl (last_at _ _ _ (by simp)) rfl) rfl ⟨rfl, ((Kp.refl _).alloc _).alloc _⟩

set_option maxRecDepth 100000 in
theorem repeatable_any (k : Int) (w : World) : Calls Tryz.prog 131 #[.int .i64 k] w fun e w' => e = .returned (.bool (k == 1 || k == 5 || k == 6)) ∧ w' = w := by
 go_enter Tryz.func131, Tryz.ntmps131
 cases h1 : (k == 1)
 ·
  cases h2 : (k == 5)
  ·
   go_wp2
   go_ret
   exact ⟨by simp, rfl⟩
  ·
   go_wp2
   go_ret
   exact ⟨by simp, rfl⟩
 ·
  go_wp2
  go_ret
  exact ⟨by simp, rfl⟩
end Go.Proofs.YtommgdgilcemdaaGreatDoor

/-! ### Take -/

namespace Go.Proofs.YtommgdgilcemdaaGreatDoor
open Go.RowKit

set_option maxRecDepth 100000 in
theorem take_any (x y z : Nat) (k mn mx m : Int) (t : W4) (ad : Option Addr) (l c : Nat) (s : ByteArray) (ere : Bool) (i n g d P : Nat) (w : World) (h : Rd w P s ere i n g d) (hi : i ≤ 1000000000) (hz : z ≤ 100) (hn : n ≤ 1000000000) :
  Calls Tryz.prog 155 #[.pointer (some ⟨P, 0, none⟩), .agg #[.int .i64 (x : Int), .int .u8 (y : Int), .int .i64 (z : Int)], rxv k mn mx m t (.slice ad l c)] w fun e w' => e = .returned (.tuple #[rxv k mn mx m t (.slice ad l c), .int .i64 0]) ∧ Rd w' P s ere (i + z) (n + 1) g d ∧ Ks P w w' := by
 have R : Hid (Rd w P s ere i n g d) := h
 have hP : P < w.heap.size := h.lt
 clear h
 have gw : IntKind.i64.wrap ((i : Int) + (z : Int)) = (i : Int) + (z : Int) := by rw [IntKind.wrap_i64]; omega
 go_enter Tryz.func155, Tryz.ntmps155
 go_upto_region 1 with fail
 refine opq (fun W0 => Rd W0 P s ere i n g d ∧ W0.heap[w.heap.size]? = some (sgo x y z) ∧ W0.heap[(w.heap.size + 1)]? = some (rxo k mn mx m t (.slice ad l c)) ∧ W0.heap[(w.heap.size + 2)]? = some rzo ∧ Kp w W0) ⟨by exact R.out.kp (by repeat (first | exact Kp.refl _ | refine Kp.alloc ?_ _ | refine Kp.drew ?_ | refine Kp.drewN _ ?_)), by (first | exact last_at _ _ _ (by simp) | (refine bl_alloc ?_ _; first | exact last_at _ _ _ (by simp) | (refine bl_alloc ?_ _; first | exact last_at _ _ _ (by simp) | (refine bl_alloc ?_ _; exact last_at _ _ _ (by simp))))), by (first | exact last_at _ _ _ (by simp) | (refine bl_alloc ?_ _; first | exact last_at _ _ _ (by simp) | (refine bl_alloc ?_ _; first | exact last_at _ _ _ (by simp) | (refine bl_alloc ?_ _; exact last_at _ _ _ (by simp))))), by (first | exact last_at _ _ _ (by simp) | (refine bl_alloc ?_ _; first | exact last_at _ _ _ (by simp) | (refine bl_alloc ?_ _; first | exact last_at _ _ _ (by simp) | (refine bl_alloc ?_ _; exact last_at _ _ _ (by simp))))), by exact (by repeat (first | exact Kp.refl _ | refine Kp.alloc ?_ _ | refine Kp.drew ?_ | refine Kp.drewN _ ?_))⟩ ?_
 rintro W0 ⟨xR0, xG0, xA0, xB0, xK0⟩
 have R0 : Hid (Rd W0 P s ere i n g d) := xR0
 have G0 : Hid (W0.heap[w.heap.size]? = some (sgo x y z)) := xG0
 have A0 : Hid (W0.heap[(w.heap.size + 1)]? = some (rxo k mn mx m t (.slice ad l c))) := xA0
 have B0 : Hid (W0.heap[(w.heap.size + 2)]? = some rzo) := xB0
 have K0 : Hid (Kp w W0) := xK0
 clear xR0 xG0 xA0 xB0 xK0
 have ks0 : Hid (Ks P w W0) := K0.out.ks (Nat.le_of_lt hP)
 have fp2 := bl_frozen R0.out.b 2
 clear K0
 have Q0 : Kp W0 W0.drew := (Kp.refl _).drew
 have MK : Hid (∀ W, Kp W0 W → W.cell? ⟨P, 2, none⟩ = some (.int .i64 (i : Int)) ∧ W.cell? ⟨w.heap.size, 2, none⟩ = some (.int .i64 (z : Int)) ∧ Hid (Kp W0 W)) := fun W k => ⟨(R0.out.kp k).cells.2.2.1, bl_cell (bl_kp G0.out k) 2 _ rfl, k⟩
 refine wp_region_noPanic ?_
 refine region_Z (z := 9) (S := (fun W => W.cell? ⟨P, 2, none⟩ = some (.int .i64 (i : Int)) ∧ W.cell? ⟨w.heap.size, 2, none⟩ = some (.int .i64 (z : Int)) ∧ Hid (Kp W0 W))) (by kernel_rfl) ?_ (fun hH => ?_)
 ·
  exact MK.out _ Q0
 have KQ := Q0
 refine anyZ_take (z := 9) (ks := []) (i := 0) (oi := { dst := some 8, op := Op.move (Operand.tmp 0), type := 90, pos := "parse.go:139", after := #[], guard := none }) (v := ?v0a1) rfl (by kernel_rfl) (by kernel_rfl) (by kernel_rfl) (by kernel_rfl) (by kernel_rfl) (fun _ _ _ h => h) (Or.inl ⟨by rfl, ?hy0a1⟩) hH ?r0a1
 case hy0a1 => (intro W hSw; (try dsimp only at hSw); go_simp; try (with_reducible rfl))
 try simp only [Act.put, List.setIfInBounds_toArray, List.set_cons_zero, List.set_cons_succ]
 refine anyZ_take (z := 9) (ks := []) (i := 1) (oi := { dst := some 9, op := Op.nilCheck (Operand.tmp 8), type := 0, pos := "parse.go:139", after := #[{ on := 0, ground := Ground.data }], guard := none }) (v := ?v1a2) rfl (by kernel_rfl) (by kernel_rfl) (by kernel_rfl) (by kernel_rfl) (by kernel_rfl) (fun _ _ _ h => h) (Or.inl ⟨by rfl, ?hy1a2⟩) hH ?r1a2
 case hy1a2 => (intro W hSw; (try dsimp only at hSw); go_simp; try (with_reducible rfl))
 try simp only [Act.put, List.setIfInBounds_toArray, List.set_cons_zero, List.set_cons_succ]
 refine anyZ_take (z := 9) (ks := []) (i := 2) (oi := { dst := some 10, op := Op.fieldAddr 66 (Operand.tmp 9) 2, type := 0, pos := "parse.go:139", after := #[{ on := 1, ground := Ground.data }], guard := none }) (v := ?v2a3) rfl (by kernel_rfl) (by kernel_rfl) (by kernel_rfl) (by kernel_rfl) (by kernel_rfl) (fun _ _ _ h => h) (Or.inl ⟨by rfl, ?hy2a3⟩) hH ?r2a3
 case hy2a3 => (intro W hSw; (try dsimp only at hSw); go_simp; try (with_reducible rfl))
 try simp only [Act.put, List.setIfInBounds_toArray, List.set_cons_zero, List.set_cons_succ]
 refine anyZ_take (z := 9) (ks := []) (i := 3) (oi := { dst := some 11, op := Op.load 3 (Operand.tmp 10), type := 3, pos := "parse.go:139", after := #[{ on := 2, ground := Ground.data }], guard := none }) (v := ?v3a4) rfl (by kernel_rfl) (by kernel_rfl) (by kernel_rfl) (by kernel_rfl) (by kernel_rfl) (fun _ _ _ h => h) (Or.inl ⟨by rfl, ?hy3a4⟩) hH ?r3a4
 case hy3a4 => (intro W hSw; (try dsimp only at hSw); go_simp; try (with_reducible rfl))
 try simp only [Act.put, List.setIfInBounds_toArray, List.set_cons_zero, List.set_cons_succ]
 refine anyZ_take (z := 9) (ks := []) (i := 4) (oi := { dst := some 12, op := Op.fieldAddr 110 (Operand.tmp 4) 2, type := 0, pos := "parse.go:139", after := #[], guard := none }) (v := ?v4a5) rfl (by kernel_rfl) (by kernel_rfl) (by kernel_rfl) (by kernel_rfl) (by kernel_rfl) (fun _ _ _ h => h) (Or.inl ⟨by rfl, ?hy4a5⟩) hH ?r4a5
 case hy4a5 => (intro W hSw; (try dsimp only at hSw); go_simp; try (with_reducible rfl))
 try simp only [Act.put, List.setIfInBounds_toArray, List.set_cons_zero, List.set_cons_succ]
 refine anyZ_take (z := 9) (ks := []) (i := 5) (oi := { dst := some 13, op := Op.load 3 (Operand.tmp 12), type := 3, pos := "parse.go:139", after := #[{ on := 4, ground := Ground.data }], guard := none }) (v := ?v5a6) rfl (by kernel_rfl) (by kernel_rfl) (by kernel_rfl) (by kernel_rfl) (by kernel_rfl) (fun _ _ _ h => h) (Or.inl ⟨by rfl, ?hy5a6⟩) hH ?r5a6
 case hy5a6 => (intro W hSw; (try dsimp only at hSw); go_simp; try (with_reducible rfl))
 try simp only [Act.put, List.setIfInBounds_toArray, List.set_cons_zero, List.set_cons_succ]
 refine anyZ_take (z := 9) (ks := []) (i := 6) (oi := { dst := some 14, op := Op.binOp BinOp.add 3 (Operand.tmp 11) (Operand.tmp 13) 3, type := 3, pos := "parse.go:139", after := #[{ on := 3, ground := Ground.data }, { on := 5, ground := Ground.data }], guard := none }) (v := ?v6a7) rfl (by kernel_rfl) (by kernel_rfl) (by kernel_rfl) (by kernel_rfl) (by kernel_rfl) (fun _ _ _ h => h) (Or.inl ⟨by rfl, ?hy6a7⟩) hH ?r6a7
 case hy6a7 => (intro W hSw; (try dsimp only at hSw); go_simp; try (with_reducible rfl))
 try simp only [Act.put, List.setIfInBounds_toArray, List.set_cons_zero, List.set_cons_succ]
 refine anyZ_take (z := 9) (ks := [8]) (i := 7) (oi := { dst := some 15, op := Op.nilCheck (Operand.tmp 8), type := 0, pos := "parse.go:139", after := #[{ on := 0, ground := Ground.data }, { on := 0, ground := Ground.phase }, { on := 1, ground := Ground.phase }, { on := 2, ground := Ground.phase }, { on := 3, ground := Ground.phase }, { on := 4, ground := Ground.phase }, { on := 5, ground := Ground.phase }, { on := 6, ground := Ground.phase }], guard := none }) (v := ?v7a8) rfl (by kernel_rfl) (by kernel_rfl) (by kernel_rfl) (by kernel_rfl) (by kernel_rfl) (fun _ _ _ h => h) (Or.inl ⟨by rfl, ?hy7a8⟩) hH ?r7a8
 case hy7a8 => (intro W hSw; (try dsimp only at hSw); go_simp; try (with_reducible rfl))
 try simp only [Act.put, List.setIfInBounds_toArray, List.set_cons_zero, List.set_cons_succ]
 refine anyZ_take (z := 9) (ks := []) (i := 8) (oi := { dst := some 16, op := Op.fieldAddr 66 (Operand.tmp 15) 2, type := 0, pos := "parse.go:139", after := #[{ on := 7, ground := Ground.data }, { on := 0, ground := Ground.phase }, { on := 1, ground := Ground.phase }, { on := 2, ground := Ground.phase }, { on := 3, ground := Ground.phase }, { on := 4, ground := Ground.phase }, { on := 5, ground := Ground.phase }, { on := 6, ground := Ground.phase }], guard := none }) (v := ?v8a9) rfl (by kernel_rfl) (by kernel_rfl) (by kernel_rfl) (by kernel_rfl) (by kernel_rfl) (fun _ _ _ h => h) (Or.inl ⟨by rfl, ?hy8a9⟩) hH ?r8a9
 case hy8a9 => (intro W hSw; (try dsimp only at hSw); go_simp; try (with_reducible rfl))
 try simp only [Act.put, List.setIfInBounds_toArray, List.set_cons_zero, List.set_cons_succ]
 refine anyZ_ready (rs := [9]) (by kernel_rfl) (by simp) ?_
 refine AllZ.last (o := { dst := none, op := Op.store 3 (Operand.tmp 16) (Operand.tmp 14), type := 0, pos := "parse.go:139", after := #[{ on := 8, ground := Ground.data }, { on := 6, ground := Ground.data }, { on := 0, ground := Ground.phase }, { on := 1, ground := Ground.phase }, { on := 2, ground := Ground.phase }, { on := 3, ground := Ground.phase }, { on := 4, ground := Ground.phase }, { on := 5, ground := Ground.phase }, { on := 6, ground := Ground.phase }], guard := none }) rfl (Or.inl rfl) (fun K hKq => ?_) AllZ.nil
 have fq2 := bl_frozen (R0.out.kp KQ).b 2
 have cq2 := (R0.out.kp KQ).cells.2.2.1
 go_simp
 refine hKq.out _ _ ?_
 clear fq2 cq2
 clear hKq K
 try simp only [Act.put, List.setIfInBounds_toArray, List.set_cons_zero, List.set_cons_succ]
 refine anyZ_done (by kernel_rfl) ?_ _
 refine NoPanic.normal ?_
 go_upto_region 2 with fail
 refine opq (fun W1 => Rd W1 P s ere (i + z) n g d ∧ W1.heap[(w.heap.size + 1)]? = some (rxo k mn mx m t (.slice ad l c)) ∧ W1.heap[(w.heap.size + 2)]? = some rzo ∧ Ks P w W1) ⟨by exact (R0.out.kp KQ).at (i + z), by exact bl_set (bl_kp A0.out KQ) (by omega) _, by exact bl_set (bl_kp B0.out KQ) (by omega) _, by exact (ks0.out.kpt KQ hP).set 2 _⟩ ?_
 rintro W1 ⟨xR1, xA1, xB1, xK1⟩
 have R1 : Hid (Rd W1 P s ere (i + z) n g d) := xR1
 have A1 : Hid (W1.heap[(w.heap.size + 1)]? = some (rxo k mn mx m t (.slice ad l c))) := xA1
 have B1 : Hid (W1.heap[(w.heap.size + 2)]? = some rzo) := xB1
 have K1 : Hid (Ks P w W1) := xK1
 clear xR1 xA1 xB1 xK1
 clear hH KQ Q0 MK R0 G0 A0 B0 ks0 fp2
 have a0 := bl_cell (A1.out) 0 _ rfl
 have a1 := bl_cell (A1.out) 1 _ rfl
 have a2 := bl_cell (A1.out) 2 _ rfl
 have a3 := bl_cell (A1.out) 3 _ rfl
 have a4 := bl_cell (A1.out) 4 _ rfl
 have a5 := bl_cell (A1.out) 5 _ rfl
 have a6 := bl_cell (A1.out) 6 _ rfl
 have a7 := bl_cell (A1.out) 7 _ rfl
 have a8 := bl_cell (A1.out) 8 _ rfl
 go_wp2_with fail
 refine (node_any k mn mx m t ad l c s ere (i + z) n g d P _ R1.out hn).mono ?_
 rintro e w2 ⟨rfl, r2, k2⟩
 have hs1 := K1.out.size
 have R2 : Hid (Rd w2 P s ere (i + z) (n + 1) g d) := r2
 have B2 : Hid (w2.heap[w.heap.size + 2]? = some rzo) := bl_ks B1.out (by omega) k2
 have K2 : Hid (Ks P w w2) := K1.out.trans k2
 clear r2 k2 K1 R1 A1 B1
 clear a0 a1 a2 a3 a4 a5 a6 a7 a8
 have b0 := bl_cell (B2.out) 0 _ rfl
 have fb0 := bl_frozen (B2.out) 0
 have b1 := bl_cell (B2.out) 1 _ rfl
 have fb1 := bl_frozen (B2.out) 1
 have b2 := bl_cell (B2.out) 2 _ rfl
 have fb2 := bl_frozen (B2.out) 2
 have b3 := bl_cell (B2.out) 3 _ rfl
 have fb3 := bl_frozen (B2.out) 3
 have b4 := bl_cell (B2.out) 4 _ rfl
 have fb4 := bl_frozen (B2.out) 4
 have b5 := bl_cell (B2.out) 5 _ rfl
 have fb5 := bl_frozen (B2.out) 5
 have b6 := bl_cell (B2.out) 6 _ rfl
 have fb6 := bl_frozen (B2.out) 6
 have b7 := bl_cell (B2.out) 7 _ rfl
 have fb7 := bl_frozen (B2.out) 7
 have b8 := bl_cell (B2.out) 8 _ rfl
 have fb8 := bl_frozen (B2.out) 8
 go_wp2_with fail
 refine bodyPost_ret (v := .tuple #[.agg _, _]) (rx_ret2 rfl _ _ _ _ _ rfl rfl (bl_set9 B2.out _ _ _ _ _ _ _ _ _) rfl) rfl ⟨rfl, ?_, ?_⟩
 ·
  exact R2.out.ks (ks_set9 _ _ _ _ _ _ _ _ _) (by omega) (by omega)
 ·
  exact K2.out.off (ks_set9 _ _ _ _ _ _ _ _ _) (by omega) hP

end Go.Proofs.YtommgdgilcemdaaGreatDoor

/-! ### Shelf -/

namespace Go.Proofs
open Go.Shelf Go.RowKit
def Tryz.lays156_ren : Go.Shelf.Ren := ⟨fun | 156 => 80 | 165 => 112 | 166 => 90 | 169 => 89 | 240 => 117 | 241 => 135 | 276 => 141 | 277 => 154 | n => n, fun | 31 => 74 | 9 => 9 | 3 => 3 | 4 => 4 | 0 => 0 | 20 => 20 | 72 => 116 | 76 => 121 | 70 => 114 | 37 => 59 | 75 => 118 | 127 => 144 | 164 => 162 | 5 => 5 | 80 => 120 | n => n, fun | n => n⟩
theorem Tryz.lays156 : Go.Proofs.Lays.n156 Tryz.prog Tryz.lays156_ren := {
 mixed := by kernel_rfl
 f156 := Tryz.func80.trans (congrArg some (by kernel_rfl))
 f165 := Tryz.func112.trans (congrArg some (by kernel_rfl))
 f166 := Tryz.func90.trans (congrArg some (by kernel_rfl))
 f169 := Tryz.func89.trans (congrArg some (by kernel_rfl))
 f240 := Tryz.func117.trans (congrArg some (by kernel_rfl))
 f241 := Tryz.func135.trans (congrArg some (by kernel_rfl))
 f276 := Tryz.func141.trans (congrArg some (by kernel_rfl))
 f277 := Tryz.func154.trans (congrArg some (by kernel_rfl))
 t0 := Tryz.underlying0
 a0 := Tryz.isAgg0
 z0 := Tryz.sizeOf0
 v0 := Tryz.zeroValue0
 t3 := Tryz.underlying3
 a3 := Tryz.isAgg3
 z3 := Tryz.sizeOf3
 v3 := Tryz.zeroValue3
 t4 := Tryz.underlying4
 a4 := Tryz.isAgg4
 z4 := Tryz.sizeOf4
 v4 := Tryz.zeroValue4
 t9 := Tryz.underlying9
 a9 := Tryz.isAgg9
 z9 := Tryz.sizeOf9
 v9 := Tryz.zeroValue9
 t20 := Tryz.underlying20
 a20 := Tryz.isAgg20
 z20 := Tryz.sizeOf20
 v20 := Tryz.zeroValue20
 t31 := Tryz.underlying74
 a31 := Tryz.isAgg74
 z31 := Tryz.sizeOf74
 v31 := Tryz.zeroValue74
 t37 := Tryz.underlying59
 a37 := Tryz.isAgg59
 z37 := Tryz.sizeOf59
 v37 := Tryz.zeroValue59
 t70 := Tryz.underlying114
 a70 := Tryz.isAgg114
 z70 := Tryz.sizeOf114
 v70 := Tryz.zeroValue114
 t72 := Tryz.underlying116
 a72 := Tryz.isAgg116
 z72 := Tryz.sizeOf116
 v72 := Tryz.zeroValue116
 t75 := Tryz.underlying118
 a75 := Tryz.isAgg118
 z75 := Tryz.sizeOf118
 v75 := Tryz.zeroValue118
 t76 := Tryz.underlying121
 a76 := Tryz.isAgg121
 z76 := Tryz.sizeOf121
 v76 := Tryz.zeroValue121
 t127 := Tryz.underlying144
 a127 := Tryz.isAgg144
 z127 := Tryz.sizeOf144
 v127 := Tryz.zeroValue144
 t164 := Tryz.underlying162
 a164 := Tryz.isAgg162
 z164 := Tryz.sizeOf162
 v164 := Tryz.zeroValue162 }
theorem Tryz.Builder_Extra_156 : Builder.Extra Tryz.prog Tryz.lays156_ren := {
 sizeBuilder := by kernel_rfl
 liesBuilder := by kernel_rfl
 t5 := Tryz.underlying5
 a5 := Tryz.isAgg5
 z5 := Tryz.sizeOf5
 v5 := Tryz.zeroValue5
 infoByte := by kernel_rfl
 cellsByte := by kernel_rfl
 sizeByte := by kernel_rfl
 neB5 := by decide }
theorem Tryz.strings_Join_none (a : Option Addr) (c : Nat) (sep : ByteArray) (w : World) :
  Calls Tryz.prog 80 #[.slice a 0 c, .string sep] w fun e w' => e = .returned (.string ⟨#[]⟩) ∧ w' = w := Any.strings_Join_none Tryz.lays156 Tryz.Builder_Extra_156 a c sep w
theorem Tryz.strings_Join (bk o c : Nat) (xs : List ByteArray) (sep : ByteArray) (w : World) (hcells : ∀ (j : Nat) x, xs[j]? = some x → w.cell? ⟨bk, o + j, none⟩ = some (.string x)) (hbk : bk < w.heap.size) (hN : xs.length ≤ 140737488355328) (hcap : xs.length ≤ c) (hlen : (Lib.join (xs.map (·.data.toList)) sep.data.toList).length ≤ 140737488355328) :
  Calls Tryz.prog 80 #[.slice (some ⟨bk, o, none⟩) xs.length c, .string sep] w fun e w' => e = .returned (.string ⟨(Lib.join (xs.map (·.data.toList)) sep.data.toList).toArray⟩) ∧ Below w.heap.size w w' := Any.strings_Join Tryz.lays156 Tryz.Builder_Extra_156 bk o c xs sep w hcells hbk hN hcap hlen
def Tryz.lays171_ren : Go.Shelf.Ren := ⟨fun | 171 => 51 | 243 => 75 | 246 => 100 | 283 => 121 | 284 => 122 | 285 => 123 | 286 => 124 | 129 => 145 | 317 => 144 | 318 => 146 | 319 => 147 | 320 => 148 | 337 => 164 | 338 => 165 | n => n, fun | 3 => 3 | 9 => 9 | 2 => 2 | 4 => 4 | 171 => 146 | 0 => 0 | 53 => 22 | 37 => 59 | 5 => 5 | 173 => 149 | 212 => 166 | 51 => 167 | 20 => 20 | 213 => 168 | 46 => 169 | 232 => 188 | 233 => 189 | n => n, fun | 17 => 0 | 18 => 2 | 19 => 3 | n => n⟩
theorem Tryz.lays171 : Go.Proofs.Lays.n171 Tryz.prog Tryz.lays171_ren := {
 mixed := by kernel_rfl
 f129 := Tryz.func145.trans (congrArg some (by kernel_rfl))
 f171 := Tryz.func51.trans (congrArg some (by kernel_rfl))
 f243 := Tryz.func75.trans (congrArg some (by kernel_rfl))
 f246 := Tryz.func100.trans (congrArg some (by kernel_rfl))
 f283 := Tryz.func121.trans (congrArg some (by kernel_rfl))
 f284 := Tryz.func122.trans (congrArg some (by kernel_rfl))
 f285 := Tryz.func123.trans (congrArg some (by kernel_rfl))
 f286 := Tryz.func124.trans (congrArg some (by kernel_rfl))
 f317 := Tryz.func144.trans (congrArg some (by kernel_rfl))
 f318 := Tryz.func146.trans (congrArg some (by kernel_rfl))
 f319 := Tryz.func147.trans (congrArg some (by kernel_rfl))
 f320 := Tryz.func148.trans (congrArg some (by kernel_rfl))
 f337 := Tryz.func164.trans (congrArg some (by kernel_rfl))
 f338 := Tryz.func165.trans (congrArg some (by kernel_rfl))
 t0 := Tryz.underlying0
 a0 := Tryz.isAgg0
 z0 := Tryz.sizeOf0
 v0 := Tryz.zeroValue0
 t2 := Tryz.underlying2
 a2 := Tryz.isAgg2
 z2 := Tryz.sizeOf2
 v2 := Tryz.zeroValue2
 t3 := Tryz.underlying3
 a3 := Tryz.isAgg3
 z3 := Tryz.sizeOf3
 v3 := Tryz.zeroValue3
 t4 := Tryz.underlying4
 a4 := Tryz.isAgg4
 z4 := Tryz.sizeOf4
 v4 := Tryz.zeroValue4
 t5 := Tryz.underlying5
 a5 := Tryz.isAgg5
 z5 := Tryz.sizeOf5
 v5 := Tryz.zeroValue5
 t9 := Tryz.underlying9
 a9 := Tryz.isAgg9
 z9 := Tryz.sizeOf9
 v9 := Tryz.zeroValue9
 t20 := Tryz.underlying20
 a20 := Tryz.isAgg20
 z20 := Tryz.sizeOf20
 v20 := Tryz.zeroValue20
 t37 := Tryz.underlying59
 a37 := Tryz.isAgg59
 z37 := Tryz.sizeOf59
 v37 := Tryz.zeroValue59
 t46 := Tryz.underlying169
 a46 := Tryz.isAgg169
 z46 := Tryz.sizeOf169
 v46 := Tryz.zeroValue169
 t51 := Tryz.underlying167
 a51 := Tryz.isAgg167
 z51 := Tryz.sizeOf167
 v51 := Tryz.zeroValue167
 t53 := Tryz.underlying22
 a53 := Tryz.isAgg22
 z53 := Tryz.sizeOf22
 v53 := Tryz.zeroValue22
 t171 := Tryz.underlying146
 a171 := Tryz.isAgg146
 z171 := Tryz.sizeOf146
 v171 := Tryz.zeroValue146
 t173 := Tryz.underlying149
 a173 := Tryz.isAgg149
 z173 := Tryz.sizeOf149
 v173 := Tryz.zeroValue149
 t212 := Tryz.underlying166
 a212 := Tryz.isAgg166
 z212 := Tryz.sizeOf166
 v212 := Tryz.zeroValue166
 t213 := Tryz.underlying168
 a213 := Tryz.isAgg168
 z213 := Tryz.sizeOf168
 t232 := Tryz.underlying188
 a232 := Tryz.isAgg188
 z232 := Tryz.sizeOf188
 v232 := Tryz.zeroValue188
 t233 := Tryz.underlying189
 a233 := Tryz.isAgg189
 z233 := Tryz.sizeOf189
 v233 := Tryz.zeroValue189
 g17 := by kernel_rfl
 g18 := by kernel_rfl
 g19 := by kernel_rfl }
theorem Tryz.strconv_Itoa_small (i : Nat) (hi : i < 100) (w : World) :
  Calls Tryz.prog 51 #[.int .i64 i] w fun e w' => e = .returned (.string ⟨(Lib.decDigits i).toArray⟩) ∧ w' = w := Any.strconv_Itoa_small Tryz.lays171 i hi w
def Tryz.lays145_ren : Go.Shelf.Ren := ⟨fun | 145 => 174 | 220 => 176 | 219 => 182 | 217 => 120 | 225 => 183 | 224 => 184 | 267 => 185 | 266 => 143 | 314 => 186 | n => n, fun | 9 => 9 | 4 => 4 | 59 => 190 | 3 => 3 | 5 => 5 | 46 => 169 | 146 => 196 | 51 => 167 | n => n, fun | 1 => 1 | n => n⟩
theorem Tryz.lays145 : Go.Proofs.Lays.n145 Tryz.prog Tryz.lays145_ren := {
 mixed := by kernel_rfl
 f145 := Tryz.func174.trans (congrArg some (by kernel_rfl))
 f217 := Tryz.func120.trans (congrArg some (by kernel_rfl))
 f219 := Tryz.func182.trans (congrArg some (by kernel_rfl))
 f220 := Tryz.func176.trans (congrArg some (by kernel_rfl))
 f224 := Tryz.func184.trans (congrArg some (by kernel_rfl))
 f225 := Tryz.func183.trans (congrArg some (by kernel_rfl))
 f266 := Tryz.func143.trans (congrArg some (by kernel_rfl))
 f267 := Tryz.func185.trans (congrArg some (by kernel_rfl))
 f314 := Tryz.func186.trans (congrArg some (by kernel_rfl))
 t3 := Tryz.underlying3
 a3 := Tryz.isAgg3
 z3 := Tryz.sizeOf3
 v3 := Tryz.zeroValue3
 t4 := Tryz.underlying4
 a4 := Tryz.isAgg4
 z4 := Tryz.sizeOf4
 v4 := Tryz.zeroValue4
 t5 := Tryz.underlying5
 a5 := Tryz.isAgg5
 z5 := Tryz.sizeOf5
 v5 := Tryz.zeroValue5
 t9 := Tryz.underlying9
 a9 := Tryz.isAgg9
 z9 := Tryz.sizeOf9
 v9 := Tryz.zeroValue9
 t46 := Tryz.underlying169
 a46 := Tryz.isAgg169
 z46 := Tryz.sizeOf169
 v46 := Tryz.zeroValue169
 t51 := Tryz.underlying167
 a51 := Tryz.isAgg167
 z51 := Tryz.sizeOf167
 v51 := Tryz.zeroValue167
 t59 := Tryz.underlying190
 a59 := Tryz.isAgg190
 z59 := Tryz.sizeOf190
 v59 := Tryz.zeroValue190
 t146 := Tryz.underlying196
 a146 := Tryz.isAgg196
 z146 := Tryz.sizeOf196
 v146 := Tryz.zeroValue196
 g1 := by kernel_rfl }
theorem Tryz.strings_Cut (s sep : ByteArray) (m : Int) (w : World) (hs : s.size < 4294967281) (hm : w.cell? ⟨1, 0, none⟩ = some (.int .i64 m)) :
  Calls Tryz.prog 174 #[.string s, .string sep] w fun e w' => e = .returned (.tuple #[.string ⟨(Lib.cut s.data.toList sep.data.toList).1.toArray⟩, .string ⟨(Lib.cut s.data.toList sep.data.toList).2.1.toArray⟩, .bool (Lib.cut s.data.toList sep.data.toList).2.2]) ∧ ∃ n, w' = w.drewN n := Any.strings_Cut Tryz.lays145 s sep m w hs hm
def Tryz.lays99_ren : Go.Shelf.Ren := ⟨fun | 99 => 169 | 206 => 173 | n => n, fun | 9 => 9 | 4 => 4 | 3 => 3 | n => n, fun | n => n⟩
theorem Tryz.lays99 : Go.Proofs.Lays.n99 Tryz.prog Tryz.lays99_ren := {
 mixed := by kernel_rfl
 f99 := Tryz.func169.trans (congrArg some (by kernel_rfl))
 f206 := Tryz.func173.trans (congrArg some (by kernel_rfl))
 t3 := Tryz.underlying3
 a3 := Tryz.isAgg3
 z3 := Tryz.sizeOf3
 v3 := Tryz.zeroValue3
 t4 := Tryz.underlying4
 a4 := Tryz.isAgg4
 z4 := Tryz.sizeOf4
 v4 := Tryz.zeroValue4
 t9 := Tryz.underlying9
 a9 := Tryz.isAgg9
 z9 := Tryz.sizeOf9
 v9 := Tryz.zeroValue9 }
theorem Tryz.strings_HasPrefix (s p : ByteArray) (w : World) :
  Calls Tryz.prog 169 #[.string s, .string p] w fun e w' => e = .returned (.bool (Lib.hasPrefix s.data.toList p.data.toList)) ∧ w' = w := Any.strings_HasPrefix Tryz.lays99 s p w
end Go.Proofs
