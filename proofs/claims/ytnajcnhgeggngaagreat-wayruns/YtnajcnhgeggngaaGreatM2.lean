/-
  Texts of this claim: Take, Shelf, Read1, Bytes, Class, Without, Names, Pf, Ret, RetE, Num, Keep, Int, Rep, Cls.
-/
import Derived.Test.YtnajcnhgeggngaaGreatM1
import Derived.Shelf.LaysM
import Derived.Shelf.Strings.Search1
import Derived.Shelf.Strings.Search2
import Derived.Shelf.Strings.Cut
import Derived.Shelf.Strings.Shaped
import Derived.Shelf.Strings.Prefix
import Derived.Test.YtnajcnhgeggngaaGreatProg
import Derived.Maps.AppendAt
import Derived.Laws.OwnMore
import Derived.Deep.LoopGhost
import Derived.OwnWalk

/-! ### Take -/

namespace Go.Proofs.YtnajcnhgeggngaaGreat
set_option maxHeartbeats 2000000
set_option maxRecDepth 100000
open Go.RowKit

theorem take_any (x y z : Nat) (k mn mx m : Int) (t : W4) (ad : Option Addr) (l c : Nat) (s : ByteArray) (ere : Bool) (i n g d P : Nat) (w : World) (h : Rd w P s ere i n g d) (hi : i ≤ 1000000000) (hz : z ≤ 100) (hn : n ≤ 1000000000) :
  Calls Tryz.prog 113 #[.pointer (some ⟨P, 0, none⟩), .agg #[.int .i64 (x : Int), .int .u8 (y : Int), .int .i64 (z : Int)], rxv k mn mx m t (.slice ad l c)] w fun e w' => e = .returned (.tuple #[rxv k mn mx m t (.slice ad l c), .int .i64 0]) ∧ Rd w' P s ere (i + z) (n + 1) g d ∧ Ks P w w' := by
 have R : Hid (Rd w P s ere i n g d) := h
 have hP : P < w.heap.size := h.lt
 clear h
 have gw : IntKind.i64.wrap ((i : Int) + (z : Int)) = (i : Int) + (z : Int) := by rw [IntKind.wrap_i64]; omega
 go_enter Tryz.func113, Tryz.ntmps113
 go_upto_region 1 with fail
 refine opq (fun W0 => Rd W0 P s ere i n g d ∧ W0.heap[w.heap.size]? = some (sgo x y z) ∧ W0.heap[(w.heap.size + 1)]? = some (rxo k mn mx m t (.slice ad l c)) ∧ W0.heap[(w.heap.size + 2)]? = some rzo ∧ Kp w W0) ⟨by exact R.out.kp kpt, by (first | exact last_at _ _ _ (by simp) | (refine bl_alloc ?_ _; first | exact last_at _ _ _ (by simp) | (refine bl_alloc ?_ _; first | exact last_at _ _ _ (by simp) | (refine bl_alloc ?_ _; exact last_at _ _ _ (by simp))))), by (first | exact last_at _ _ _ (by simp) | (refine bl_alloc ?_ _; first | exact last_at _ _ _ (by simp) | (refine bl_alloc ?_ _; first | exact last_at _ _ _ (by simp) | (refine bl_alloc ?_ _; exact last_at _ _ _ (by simp))))), by (first | exact last_at _ _ _ (by simp) | (refine bl_alloc ?_ _; first | exact last_at _ _ _ (by simp) | (refine bl_alloc ?_ _; first | exact last_at _ _ _ (by simp) | (refine bl_alloc ?_ _; exact last_at _ _ _ (by simp))))), by exact kpt⟩ ?_
 rintro W0 ⟨xR0, xG0, xA0, xB0, xK0⟩
 have R0 := hid xR0
 have G0 := hid xG0
 have A0 := hid xA0
 have B0 := hid xB0
 have K0 := hid xK0
 clear xR0 xG0 xA0 xB0 xK0
 have ks0 : Hid (Ks P w W0) := K0.out.ks (Nat.le_of_lt hP)
 have fp2 := bl_frozen R0.out.b 2
 clear K0
 have Q0 : Kp W0 W0.drew := (Kp.refl _).drew
 have MK : Hid (∀ W, Kp W0 W → W.cell? ⟨P, 2, none⟩ = some (.int .i64 (i : Int)) ∧ W.cell? ⟨w.heap.size, 2, none⟩ = some (.int .i64 (z : Int)) ∧ Hid (Kp W0 W)) := fun W k => ⟨(R0.out.kp k).cells.2.2.1, bl_cell (bl_kp G0.out k) 2 _ rfl, k⟩
 refine wp_region_noPanic ?_
 refine hdrewZ 9 MK Q0 (fun hH => ?_)
 have KQ := Q0
 refine zk 9 0 [] (some 8) (Op.move (Operand.tmp 0)) 95 (v := ?v0a1) rfl ?h0a1 hH ?_
 case h0a1 => intro _ _; go_simp; try with_reducible rfl
 try simp only [ps]
 refine zk 9 1 [] (some 9) (Op.nilCheck (Operand.tmp 8)) 0 (v := ?v1a2) rfl ?h1a2 hH ?_
 case h1a2 => intro _ _; go_simp; try with_reducible rfl
 try simp only [ps]
 refine zk 9 2 [] (some 10) (Op.fieldAddr 65 (Operand.tmp 9) 2) 0 (v := ?v2a3) rfl ?h2a3 hH ?_
 case h2a3 => intro _ _; go_simp; try with_reducible rfl
 try simp only [ps]
 refine zk 9 3 [] (some 11) (Op.load 3 (Operand.tmp 10)) 3 (v := ?v3a4) rfl ?h3a4 hH ?_
 case h3a4 => intro _ _; go_simp; try with_reducible rfl
 try simp only [ps]
 refine zk 9 4 [] (some 12) (Op.fieldAddr 115 (Operand.tmp 4) 2) 0 (v := ?v4a5) rfl ?h4a5 hH ?_
 case h4a5 => intro _ _; go_simp; try with_reducible rfl
 try simp only [ps]
 refine zk 9 5 [] (some 13) (Op.load 3 (Operand.tmp 12)) 3 (v := ?v5a6) rfl ?h5a6 hH ?_
 case h5a6 => intro _ _; go_simp; try with_reducible rfl
 try simp only [ps]
 refine zk 9 6 [] (some 14) (Op.binOp BinOp.add 3 (Operand.tmp 11) (Operand.tmp 13) 3) 3 (v := ?v6a7) rfl ?h6a7 hH ?_
 case h6a7 => intro _ _; go_simp; try with_reducible rfl
 try simp only [ps]
 refine zk 9 7 [8] (some 15) (Op.nilCheck (Operand.tmp 8)) 0 (v := ?v7a8) rfl ?h7a8 hH ?_
 case h7a8 => intro _ _; go_simp; try with_reducible rfl
 try simp only [ps]
 refine zk 9 8 [] (some 16) (Op.fieldAddr 65 (Operand.tmp 15) 2) 0 (v := ?v8a9) rfl ?h8a9 hH ?_
 case h8a9 => intro _ _; go_simp; try with_reducible rfl
 try simp only [ps]
 refine anyZ_ready (rs := [9]) (by kernel_rfl) (by simp) ?_
 refine AllZ.last (o := { dst := none, op := Op.store 3 (Operand.tmp 16) (Operand.tmp 14), type := 0, pos := "parse.go:139", after := #[{ on := 8, ground := Ground.data }, { on := 6, ground := Ground.data }, { on := 0, ground := Ground.phase }, { on := 1, ground := Ground.phase }, { on := 2, ground := Ground.phase }, { on := 3, ground := Ground.phase }, { on := 4, ground := Ground.phase }, { on := 5, ground := Ground.phase }, { on := 6, ground := Ground.phase }], guard := none }) rfl (Or.inl rfl) (fun K hKq => ?_) AllZ.nil
 have fq2 := bl_frozen (R0.out.kp KQ).b 2
 have cq2 := (R0.out.kp KQ).cells.2.2.1
 go_simp
 refine hKq.out _ _ ?_
 clear fq2 cq2
 clear hKq K
 try simp only [ps]
 refine anyZ_done (by kernel_rfl) ?_ _
 refine NoPanic.normal ?_
 go_upto_region 2 with fail
 refine opq (fun W1 => Rd W1 P s ere (i + z) n g d ∧ W1.heap[(w.heap.size + 1)]? = some (rxo k mn mx m t (.slice ad l c)) ∧ W1.heap[(w.heap.size + 2)]? = some rzo ∧ Ks P w W1) ⟨by exact (R0.out.kp KQ).at (i + z), by exact bl_set (bl_kp A0.out KQ) (by omega) _, by exact bl_set (bl_kp B0.out KQ) (by omega) _, by exact (ks0.out.kpt KQ hP).set 2 _⟩ ?_
 rintro W1 ⟨xR1, xA1, xB1, xK1⟩
 have R1 := hid xR1
 have A1 := hid xA1
 have B1 := hid xB1
 have K1 := hid xK1
 clear xR1 xA1 xB1 xK1
 clear hH KQ Q0 MK R0 G0 A0 B0 ks0 fp2
 obtain ⟨a0, a1, a2, a3, a4, a5, a6, a7, a8⟩ := cells9 (A1.out)
 go_wp2_with fail
 refine (node_any k mn mx m t ad l c s ere (i + z) n g d P _ R1.out hn).mono ?_
 rintro e w2 ⟨rfl, r2, k2⟩
 have hs1 := K1.out.size
 have R2 : Hid (Rd w2 P s ere (i + z) (n + 1) g d) := r2
 have B2 : Hid (w2.heap[w.heap.size + 2]? = some rzo) := bl_ks B1.out (by omega) k2
 have K2 : Hid (Ks P w w2) := K1.out.trans k2
 clear r2 k2 K1 R1 A1 B1
 clear a0 a1 a2 a3 a4 a5 a6 a7 a8
 obtain ⟨b0, fb0, b1, fb1, b2, fb2, b3, fb3, b4, fb4, b5, fb5, b6, fb6, b7, fb7, b8, fb8⟩ := cellf9 (B2.out)
 go_wp2_with fail
 refine bodyPost_ret (v := .tuple #[.agg _, _]) (rx_ret2 rfl _ _ _ _ _ rfl rfl (bl_set9 B2.out _ _ _ _ _ _ _ _ _) rfl) rfl ⟨rfl, ?_, ?_⟩
 ·
  exact R2.out.ks (ks_set9 _ _ _ _ _ _ _ _ _) (by omega) (by omega)
 ·
  exact K2.out.off (ks_set9 _ _ _ _ _ _ _ _ _) (by omega) hP

end Go.Proofs.YtnajcnhgeggngaaGreat

/-! ### Shelf -/

namespace Go.Proofs
open Go.Shelf Go.RowKit
def Tryz.lays145_ren : Go.Shelf.Ren := ⟨fun | 145 => 143 | 220 => 146 | 219 => 152 | 217 => 153 | 225 => 154 | 224 => 155 | 267 => 156 | 266 => 157 | 314 => 158 | n => n, fun | 9 => 9 | 4 => 4 | 59 => 221 | 3 => 3 | 5 => 5 | 46 => 103 | 146 => 230 | 51 => 148 | n => n, fun | 1 => 0 | n => n⟩
theorem Tryz.lays145 : Go.Proofs.Lays.n145 Tryz.prog Tryz.lays145_ren := {
 mixed := by kernel_rfl
 f145 := Tryz.func143.trans (congrArg some (by kernel_rfl))
 f217 := Tryz.func153.trans (congrArg some (by kernel_rfl))
 f219 := Tryz.func152.trans (congrArg some (by kernel_rfl))
 f220 := Tryz.func146.trans (congrArg some (by kernel_rfl))
 f224 := Tryz.func155.trans (congrArg some (by kernel_rfl))
 f225 := Tryz.func154.trans (congrArg some (by kernel_rfl))
 f266 := Tryz.func157.trans (congrArg some (by kernel_rfl))
 f267 := Tryz.func156.trans (congrArg some (by kernel_rfl))
 f314 := Tryz.func158.trans (congrArg some (by kernel_rfl))
 t3 := Tryz.underlying3
 a3 := Tryz.isAgg3
 z3 := Tryz.sizeOf3
 v3 := Tryz.zeroValue3
 t4 := Tryz.underlying4
 a4 := Tryz.isAgg4
 z4 := Tryz.sizeOf4
 v4 := Tryz.zeroValue4
 t5 := Tryz.underlying5
 a5 := Tryz.isAgg5
 z5 := Tryz.sizeOf5
 v5 := Tryz.zeroValue5
 t9 := Tryz.underlying9
 a9 := Tryz.isAgg9
 z9 := Tryz.sizeOf9
 v9 := Tryz.zeroValue9
 t46 := Tryz.underlying103
 a46 := Tryz.isAgg103
 z46 := Tryz.sizeOf103
 v46 := Tryz.zeroValue103
 t51 := Tryz.underlying148
 a51 := Tryz.isAgg148
 z51 := Tryz.sizeOf148
 v51 := Tryz.zeroValue148
 t59 := Tryz.underlying221
 a59 := Tryz.isAgg221
 z59 := Tryz.sizeOf221
 v59 := Tryz.zeroValue221
 t146 := Tryz.underlying230
 a146 := Tryz.isAgg230
 z146 := Tryz.sizeOf230
 v146 := Tryz.zeroValue230
 g1 := by kernel_rfl }
theorem Tryz.strings_Cut (s sep : ByteArray) (m : Int) (w : World) (hs : s.size < 4294967281) (hm : w.cell? ⟨0, 0, none⟩ = some (.int .i64 m)) :
  Calls Tryz.prog 143 #[.string s, .string sep] w fun e w' => e = .returned (.tuple #[.string ⟨(Lib.cut s.data.toList sep.data.toList).1.toArray⟩, .string ⟨(Lib.cut s.data.toList sep.data.toList).2.1.toArray⟩, .bool (Lib.cut s.data.toList sep.data.toList).2.2]) ∧ ∃ n, w' = w.drewN n := Any.strings_Cut Tryz.lays145 s sep m w hs hm
def Tryz.lays99_ren : Go.Shelf.Ren := ⟨fun | 99 => 108 | 206 => 125 | n => n, fun | 9 => 9 | 4 => 4 | 3 => 3 | n => n, fun | n => n⟩
theorem Tryz.lays99 : Go.Proofs.Lays.n99 Tryz.prog Tryz.lays99_ren := {
 mixed := by kernel_rfl
 f99 := Tryz.func108.trans (congrArg some (by kernel_rfl))
 f206 := Tryz.func125.trans (congrArg some (by kernel_rfl))
 t3 := Tryz.underlying3
 a3 := Tryz.isAgg3
 z3 := Tryz.sizeOf3
 v3 := Tryz.zeroValue3
 t4 := Tryz.underlying4
 a4 := Tryz.isAgg4
 z4 := Tryz.sizeOf4
 v4 := Tryz.zeroValue4
 t9 := Tryz.underlying9
 a9 := Tryz.isAgg9
 z9 := Tryz.sizeOf9
 v9 := Tryz.zeroValue9 }
theorem Tryz.strings_HasPrefix (s p : ByteArray) (w : World) :
  Calls Tryz.prog 108 #[.string s, .string p] w fun e w' => e = .returned (.bool (Lib.hasPrefix s.data.toList p.data.toList)) ∧ w' = w := Any.strings_HasPrefix Tryz.lays99 s p w
end Go.Proofs

/-! ### Read1 -/

namespace Go.Proofs.YtnajcnhgeggngaaGreat
set_option maxHeartbeats 2000000
set_option maxRecDepth 100000
open Go.RowKit

theorem run_from (s : ByteArray) (i : Nat) (hi : i ≤ s.size) (w : World) : (Instr.slice 9 (.string s) (some (.int .i64 (i : Int))) none none).run Tryz.prog w = .ok (.string (s.extract i s.size)) w := by
 rw [run_slice_string_from_if w 9 s .i64 (i : Int) (by kernel_rfl), if_pos ⟨by omega, by omega⟩, Int.toNat_natCast]
def pfx (s : ByteArray) (i : Nat) (l : List UInt8) : Bool := l.isPrefixOf (s.data.toList.drop i)
theorem pfx_lib (s p : ByteArray) (i : Nat) : Lib.hasPrefix (s.extract i s.size).data.toList p.data.toList = pfx s i p.data.toList := by
 rw [Lib.extract_to_end]; rfl
theorem pfx_le {s : ByteArray} {i : Nat} {l : List UInt8} (h : pfx s i l = true) (hi : i ≤ s.size) : i + l.length ≤ s.size := by
 have := (List.isPrefixOf_iff_prefix.1 h).length_le
 rw [List.length_drop, show s.data.toList.length = s.size from Array.length_toList] at this
 omega

theorem takes_any (p : ByteArray) (s : ByteArray) (ere : Bool) (i n g d P : Nat) (w : World) (h : Rd w P s ere i n g d) (hi : i ≤ s.size) (hs : s.size ≤ 1000000) :
  Calls Tryz.prog 129 #[.pointer (some ⟨P, 0, none⟩), .string p] w fun e w' => e = .returned (.bool (pfx s i p.data.toList)) ∧ Rd w' P s ere (if pfx s i p.data.toList then i + p.size else i) n g d ∧ Ks P w w' := by
 have R : Hid (Rd w P s ere i n g d) := h
 have hP : P < w.heap.size := h.lt
 have hle : pfx s i p.data.toList = true → i + p.size ≤ s.size := fun hp => by have := pfx_le hp hi; rw [Array.length_toList] at this; exact this
 obtain ⟨q, hq⟩ : ∃ q, pfx s i p.data.toList = q := ⟨_, rfl⟩
 have HQ : Hid (pfx s i p.data.toList = q) := hq
 rw [hq] at hle ⊢
 clear h hq
 have es : ∀ w, (Instr.slice 9 (.string s) (some (.int .i64 (i : Int))) none none).run Tryz.prog w = .ok (.string (s.extract i s.size)) w := fun w => run_from s i hi w
 go_enter Tryz.func129, Tryz.ntmps129
 go_wp2_with fail
 go_cut [16] (fun v wc => v = .bool (!q) ∧ Kp w wc)
 case first =>
  have Q0 : Kp w w.drew := (Kp.refl _).drew
  have MK : Hid (∀ W, Kp w W → W.cell? ⟨P, 0, none⟩ = some (.string s) ∧ W.cell? ⟨P, 2, none⟩ = some (.int .i64 (i : Int)) ∧ Hid (Kp w W)) := fun W k => ⟨(R.out.kp k).cells.1, (R.out.kp k).cells.2.2.1, k⟩
  refine wp_region_noPanic ?_
  refine hdrew MK Q0 (fun hH => ?_)
  have KQ := Q0
  refine tk 0 (some 5) (Op.move (Operand.tmp 0)) 95 (v := ?v0a1) rfl ?h0a1 hH ?_
  case h0a1 => intro _ _; go_simp; try with_reducible rfl
  try simp only [ps]
  refine tk 1 (some 6) (Op.nilCheck (Operand.tmp 5)) 0 (v := ?v1a2) rfl ?h1a2 hH ?_
  case h1a2 => intro _ _; go_simp; try with_reducible rfl
  try simp only [ps]
  refine tk 2 (some 7) (Op.fieldAddr 65 (Operand.tmp 6) 0) 0 (v := ?v2a3) rfl ?h2a3 hH ?_
  case h2a3 => intro _ _; go_simp; try with_reducible rfl
  try simp only [ps]
  refine tk 3 (some 8) (Op.load 9 (Operand.tmp 7)) 9 (v := ?v3a4) rfl ?h3a4 hH ?_
  case h3a4 => intro _ _; go_simp; try with_reducible rfl
  try simp only [ps]
  refine tk 4 (some 9) (Op.move (Operand.tmp 0)) 95 (v := ?v4a5) rfl ?h4a5 hH ?_
  case h4a5 => intro _ _; go_simp; try with_reducible rfl
  try simp only [ps]
  refine tk 5 (some 10) (Op.nilCheck (Operand.tmp 9)) 0 (v := ?v5a6) rfl ?h5a6 hH ?_
  case h5a6 => intro _ _; go_simp; try with_reducible rfl
  try simp only [ps]
  refine tk 6 (some 11) (Op.fieldAddr 65 (Operand.tmp 10) 2) 0 (v := ?v6a7) rfl ?h6a7 hH ?_
  case h6a7 => intro _ _; go_simp; try with_reducible rfl
  try simp only [ps]
  refine tk 7 (some 12) (Op.load 3 (Operand.tmp 11)) 3 (v := ?v7a8) rfl ?h7a8 hH ?_
  case h7a8 => intro _ _; go_simp; try with_reducible rfl
  try simp only [ps]
  refine tk 8 (some 13) (Op.slice 9 (Operand.tmp 8) (some (Operand.tmp 12)) none none) 9 (v := ?v8a9) rfl ?h8a9 hH ?_
  case h8a9 => intro _ _; go_simp; try with_reducible rfl
  try simp only [ps]
  refine tk 9 (some 14) (Op.move (Operand.tmp 1)) 9 (v := ?v9a10) rfl ?h9a10 hH ?_
  case h9a10 => intro _ _; go_simp; try with_reducible rfl
  try simp only [ps]
  refine wpAnyH_ready (rs := [10]) (by kernel_rfl) (by simp) ?_
  refine AllReadyH.cons (o := { dst := some 15, op := Op.call { callee := Callee.value (Operand.func 108), args := #[Operand.tmp 13, Operand.tmp 14], argTypes := #[9, 9] }, type := 4, pos := "parse.go:230", after := #[{ on := 8, ground := Ground.data }, { on := 9, ground := Ground.data }], guard := none }) rfl (fun K hKq => ?_) AllReadyH.nil
  go_simp
  refine (Tryz.strings_HasPrefix (s.extract i s.size) p _).mono ?_
  rintro e yy ⟨rfl, rfl⟩
  rw [pfx_lib, HQ.out]
  refine hKq.out _ _ (MK.out _ KQ) (fun hN => ?_)
  clear hKq K hH KQ
  have hH := hN
  clear hN
  have KQ := hH.2.2.out
  try simp only [ps]
  refine tk 11 (some 16) (Op.unOp UnOp.not 4 (Operand.tmp 15)) 4 (v := ?v11a11) rfl ?h11a11 hH ?_
  case h11a11 => intro _ _; go_simp; try with_reducible rfl
  try simp only [ps]
  refine wpAnyH_done (by kernel_rfl) ?_ _
  refine NoPanic.normal ?_
  go_wp2_with fail
  go_meet
  case rel => exact ⟨rfl, KQ⟩
 case rest =>
  obtain ⟨rfl, k1⟩ := hcut
  rename World => w1
  have R1 : Hid (Rd w1 P s ere i n g d ∧ Kp w w1) := ⟨R.out.kp k1, k1⟩
  clear k1 R
  cases q with
  | false =>
   go_wp2_with fail
   go_ret
   exact ⟨rfl, R1.out.1, R1.out.2.ks (Nat.le_of_lt hP)⟩
  | true =>
   have hle' := hle rfl
   have p2 := R1.out.1.cells.2.2.1
   have fp2 := bl_frozen R1.out.1.b 2
   have gw : IntKind.i64.wrap ((i : Int) + (p.size : Int)) = (i : Int) + (p.size : Int) := by rw [IntKind.wrap_i64]; omega
   go_wp2_with fail
   go_ret
   exact ⟨rfl, R1.out.1.at (i + p.size), (R1.out.2.ks (Nat.le_of_lt hP)).set 2 _⟩

theorem atClass_any (s : ByteArray) (ere : Bool) (i n g d P : Nat) (w : World) (h : Rd w P s ere i n g d) (hi : i ≤ s.size) :
  Calls Tryz.prog 136 #[.pointer (some ⟨P, 0, none⟩)] w fun e w' => e = .returned (.bool (pfx s i [91, 58])) ∧ Kp w w' := by
 have R : Hid (Rd w P s ere i n g d) := h
 obtain ⟨q, hq⟩ : ∃ q, pfx s i [91, 58] = q := ⟨_, rfl⟩
 have HQ : Hid (Lib.hasPrefix (s.extract i s.size).data.toList (⟨#[91, 58]⟩ : ByteArray).data.toList = q) := by show _ = _; rw [pfx_lib]; exact hq
 rw [hq]
 clear h hq
 have es : ∀ w, (Instr.slice 9 (.string s) (some (.int .i64 (i : Int))) none none).run Tryz.prog w = .ok (.string (s.extract i s.size)) w := fun w => run_from s i hi w
 go_enter Tryz.func136, Tryz.ntmps136
 go_wp2_with fail
 have Q0 : Kp w w.drew := (Kp.refl _).drew
 have MK : Hid (∀ W, Kp w W → W.cell? ⟨P, 0, none⟩ = some (.string s) ∧ W.cell? ⟨P, 2, none⟩ = some (.int .i64 (i : Int)) ∧ Hid (Kp w W)) := fun W k => ⟨(R.out.kp k).cells.1, (R.out.kp k).cells.2.2.1, k⟩
 refine wp_region_noPanic ?_
 refine hdrew MK Q0 (fun hH => ?_)
 have KQ := Q0
 refine tk 0 (some 3) (Op.move (Operand.tmp 0)) 95 (v := ?v0b1) rfl ?h0b1 hH ?_
 case h0b1 => intro _ _; go_simp; try with_reducible rfl
 try simp only [ps]
 refine tk 1 (some 4) (Op.nilCheck (Operand.tmp 3)) 0 (v := ?v1b2) rfl ?h1b2 hH ?_
 case h1b2 => intro _ _; go_simp; try with_reducible rfl
 try simp only [ps]
 refine tk 2 (some 5) (Op.fieldAddr 65 (Operand.tmp 4) 0) 0 (v := ?v2b3) rfl ?h2b3 hH ?_
 case h2b3 => intro _ _; go_simp; try with_reducible rfl
 try simp only [ps]
 refine tk 3 (some 6) (Op.load 9 (Operand.tmp 5)) 9 (v := ?v3b4) rfl ?h3b4 hH ?_
 case h3b4 => intro _ _; go_simp; try with_reducible rfl
 try simp only [ps]
 refine tk 4 (some 7) (Op.move (Operand.tmp 0)) 95 (v := ?v4b5) rfl ?h4b5 hH ?_
 case h4b5 => intro _ _; go_simp; try with_reducible rfl
 try simp only [ps]
 refine tk 5 (some 8) (Op.nilCheck (Operand.tmp 7)) 0 (v := ?v5b6) rfl ?h5b6 hH ?_
 case h5b6 => intro _ _; go_simp; try with_reducible rfl
 try simp only [ps]
 refine tk 6 (some 9) (Op.fieldAddr 65 (Operand.tmp 8) 2) 0 (v := ?v6b7) rfl ?h6b7 hH ?_
 case h6b7 => intro _ _; go_simp; try with_reducible rfl
 try simp only [ps]
 refine tk 7 (some 10) (Op.load 3 (Operand.tmp 9)) 3 (v := ?v7b8) rfl ?h7b8 hH ?_
 case h7b8 => intro _ _; go_simp; try with_reducible rfl
 try simp only [ps]
 refine tk 8 (some 11) (Op.slice 9 (Operand.tmp 6) (some (Operand.tmp 10)) none none) 9 (v := ?v8b9) rfl ?h8b9 hH ?_
 case h8b9 => intro _ _; go_simp; try with_reducible rfl
 try simp only [ps]
 refine wpAnyH_ready (rs := [9]) (by kernel_rfl) (by simp) ?_
 refine AllReadyH.cons (o := { dst := some 12, op := Op.call { callee := Callee.value (Operand.func 108), args := #[Operand.tmp 11, Operand.const (Value.string { data := #[91, 58] })], argTypes := #[9, 9] }, type := 4, pos := "bracket.go:56", after := #[{ on := 8, ground := Ground.data }], guard := none }) rfl (fun K hKq => ?_) AllReadyH.nil
 go_simp
 refine (Tryz.strings_HasPrefix (s.extract i s.size) ⟨#[91, 58]⟩ _).mono ?_
 rintro e yy ⟨rfl, rfl⟩
 rw [HQ.out]
 refine hKq.out _ _ (MK.out _ KQ) (fun hN => ?_)
 clear hKq K hH KQ
 have hH := hN
 clear hN
 have KQ := hH.2.2.out
 try simp only [ps]
 refine tk 10 (some 2) (Op.assign (Operand.tmp 12)) 4 (v := ?v10b10) rfl ?h10b10 hH ?_
 case h10b10 => intro _ _; go_simp; try with_reducible rfl
 try simp only [ps]
 refine wpAnyH_done (by kernel_rfl) ?_ _
 refine NoPanic.normal ?_
 go_wp2_with fail
 go_ret
 exact ⟨rfl, KQ⟩

def dash (s : ByteArray) (i : Nat) : Bool := decide (i + 2 ≤ s.size) && (ch s i == 45) && !(ch s (i + 1) == 93)
def dashTo (s : ByteArray) (i : Nat) : Nat := if dash s i then i + 1 else i
theorem ch_ext (s : ByteArray) (i j : Nat) (h : i + j < s.size) : ch (s.extract i s.size) j = ch s (i + j) := by
 have z : s.data.size = s.size := rfl
 have e : (s.extract i s.size).data[j]? = s.data[i + j]? := by
  rw [ByteArray.data_extract, Array.getElem?_extract, if_pos (by omega)]
 unfold ch
 rw [e]
theorem ext_size (s : ByteArray) (i : Nat) (h : i ≤ s.size) : (s.extract i s.size).size = s.size - i := by
 rw [ByteArray.size_extract]; omega

theorem takesDash_any (s : ByteArray) (ere : Bool) (i n g d P : Nat) (w : World) (h : Rd w P s ere i n g d) (hi : i ≤ s.size) (hs : s.size ≤ 1000000) :
  Calls Tryz.prog 138 #[.pointer (some ⟨P, 0, none⟩)] w fun e w' => e = .returned (.bool (dash s i)) ∧ Rd w' P s ere (dashTo s i) n g d ∧ Ks P w w' := by
 have R : Hid (Rd w P s ere i n g d) := h
 have hP : P < w.heap.size := h.lt
 clear h
 have es : ∀ w, (Instr.slice 9 (.string s) (some (.int .i64 (i : Int))) none none).run Tryz.prog w = .ok (.string (s.extract i s.size)) w := fun w => run_from s i hi w
 have ez := ext_size s i hi
 have e0 : i + 2 ≤ s.size → ∀ w, (Instr.index 9 (.string (s.extract i s.size)) (.int .i64 0)).run Tryz.prog w = .ok (.int .u8 (ch s i : Nat)) w := fun h w => by
  have := run_ch (s.extract i s.size) 0 (by omega) w; rw [ch_ext s i 0 (by omega)] at this; exact this
 have e1 : i + 2 ≤ s.size → ∀ w, (Instr.index 9 (.string (s.extract i s.size)) (.int .i64 1)).run Tryz.prog w = .ok (.int .u8 (ch s (i + 1) : Nat)) w := fun h w => by
  have := run_ch (s.extract i s.size) 1 (by omega) w; rw [ch_ext s i 1 (by omega)] at this; exact this
 obtain ⟨t, ht⟩ : ∃ t, s.extract i s.size = t := ⟨_, rfl⟩
 rw [ht] at es ez e0 e1
 clear ht
 obtain ⟨b0, hb0⟩ : ∃ b, ch s i = b := ⟨_, rfl⟩
 obtain ⟨b1, hb1⟩ : ∃ b, ch s (i + 1) = b := ⟨_, rfl⟩
 have HD : Hid (dash s i = (decide (i + 2 ≤ s.size) && (b0 == 45) && !(b1 == 93))) := by show _ = _; unfold dash; rw [hb0, hb1]
 rw [hb0] at e0
 rw [hb1] at e1
 clear hb0 hb1
 obtain ⟨z, hz⟩ : ∃ z, t.size = z := ⟨_, rfl⟩
 rw [hz] at ez
 have EZ : Hid (z = s.size - i) := ez
 clear ez
 go_enter Tryz.func138, Tryz.ntmps138
 go_wp2_with fail
 go_cut [3] (fun v wc => v = .string t ∧ Kp w wc)
 case first =>
  have Q0 : Kp w w.drew := (Kp.refl _).drew
  have MK : Hid (∀ W, Kp w W → W.cell? ⟨P, 0, none⟩ = some (.string s) ∧ W.cell? ⟨P, 2, none⟩ = some (.int .i64 (i : Int)) ∧ Hid (Kp w W)) := fun W k => ⟨(R.out.kp k).cells.1, (R.out.kp k).cells.2.2.1, k⟩
  refine wp_region_noPanic ?_
  refine hdrew MK Q0 (fun hH => ?_)
  have KQ := Q0
  refine tk 0 (some 4) (Op.move (Operand.tmp 0)) 95 (v := ?v0c1) rfl ?h0c1 hH ?_
  case h0c1 => intro _ _; go_simp; try with_reducible rfl
  try simp only [ps]
  refine tk 1 (some 5) (Op.nilCheck (Operand.tmp 4)) 0 (v := ?v1c2) rfl ?h1c2 hH ?_
  case h1c2 => intro _ _; go_simp; try with_reducible rfl
  try simp only [ps]
  refine tk 2 (some 6) (Op.fieldAddr 65 (Operand.tmp 5) 0) 0 (v := ?v2c3) rfl ?h2c3 hH ?_
  case h2c3 => intro _ _; go_simp; try with_reducible rfl
  try simp only [ps]
  refine tk 3 (some 7) (Op.load 9 (Operand.tmp 6)) 9 (v := ?v3c4) rfl ?h3c4 hH ?_
  case h3c4 => intro _ _; go_simp; try with_reducible rfl
  try simp only [ps]
  refine tk 4 (some 8) (Op.move (Operand.tmp 0)) 95 (v := ?v4c5) rfl ?h4c5 hH ?_
  case h4c5 => intro _ _; go_simp; try with_reducible rfl
  try simp only [ps]
  refine tk 5 (some 9) (Op.nilCheck (Operand.tmp 8)) 0 (v := ?v5c6) rfl ?h5c6 hH ?_
  case h5c6 => intro _ _; go_simp; try with_reducible rfl
  try simp only [ps]
  refine tk 6 (some 10) (Op.fieldAddr 65 (Operand.tmp 9) 2) 0 (v := ?v6c7) rfl ?h6c7 hH ?_
  case h6c7 => intro _ _; go_simp; try with_reducible rfl
  try simp only [ps]
  refine tk 7 (some 11) (Op.load 3 (Operand.tmp 10)) 3 (v := ?v7c8) rfl ?h7c8 hH ?_
  case h7c8 => intro _ _; go_simp; try with_reducible rfl
  try simp only [ps]
  refine tk 8 (some 12) (Op.slice 9 (Operand.tmp 7) (some (Operand.tmp 11)) none none) 9 (v := ?v8c9) rfl ?h8c9 hH ?_
  case h8c9 => intro _ _; go_simp; try with_reducible rfl
  try simp only [ps]
  refine tk 9 (some 3) (Op.assign (Operand.tmp 12)) 9 (v := ?v9c10) rfl ?h9c10 hH ?_
  case h9c10 => intro _ _; go_simp; try with_reducible rfl
  try simp only [ps]
  refine wpAnyH_done (by kernel_rfl) ?_ _
  refine NoPanic.normal ?_
  go_wp2_with fail
  go_meet
  case rel => exact ⟨rfl, KQ⟩
 case rest =>
  obtain ⟨rfl, k1⟩ := hcut
  rename World => w1
  have R1 : Hid (Rd w1 P s ere i n g d ∧ Kp w w1) := ⟨R.out.kp k1, k1⟩
  clear k1 R es
  by_cases h2 : i + 2 ≤ s.size
  ·
   have x0 := e0 h2
   have x1 := e1 h2
   clear e0 e1
   have gz : ¬ (z : Int) < 2 := by have := EZ.out; omega
   by_cases h45 : b0 = 45
   ·
    subst h45
    rw [show ((45 : Nat) : Int) = 45 from rfl] at x0
    by_cases h93 : b1 = 93
    ·
     subst h93
     rw [show ((93 : Nat) : Int) = 93 from rfl] at x1
     have E : Hid (dash s i = false) := by show _ = _; rw [HD.out]; simp
     go_wp2_with fail
     go_ret
     exact ⟨by rw [E.out]; rfl, by unfold dashTo; rw [E.out]; exact R1.out.1, R1.out.2.ks (Nat.le_of_lt hP)⟩
    ·
     have g93 : ((b1 : Int) == 93) = false := by simp; omega
     have g93' : ¬ (b1 : Int) = 93 := by omega
     have E : Hid (dash s i = true) := by show _ = _; rw [HD.out, decide_eq_true h2]; simp [h93]
     have p2 := R1.out.1.cells.2.2.1
     have fp2 := bl_frozen R1.out.1.b 2
     have gw : IntKind.i64.wrap ((i : Int) + 1) = (i : Int) + 1 := by rw [IntKind.wrap_i64]; omega
     go_wp2_with fail
     go_ret
     exact ⟨by rw [E.out]; rfl, by unfold dashTo; rw [E.out]; exact R1.out.1.at (i + 1), (R1.out.2.ks (Nat.le_of_lt hP)).set 2 _⟩
   ·
    have g45 : ((b0 : Int) != 45) = true := by simp; omega
    have g45' : ¬ (b0 : Int) = 45 := by omega
    have E : Hid (dash s i = false) := by show _ = _; rw [HD.out]; simp [h45]
    go_wp2_with fail
    go_ret
    exact ⟨by rw [E.out]; rfl, by unfold dashTo; rw [E.out]; exact R1.out.1, R1.out.2.ks (Nat.le_of_lt hP)⟩
  ·
   have gz : (z : Int) < 2 := by have := EZ.out; omega
   have E : Hid (dash s i = false) := by show _ = _; rw [HD.out, decide_eq_false h2]; simp
   clear e0 e1
   go_wp2_with fail
   go_ret
   exact ⟨by rw [E.out]; rfl, by unfold dashTo; rw [E.out]; exact R1.out.1, R1.out.2.ks (Nat.le_of_lt hP)⟩
end Go.Proofs.YtnajcnhgeggngaaGreat

/-! ### Bytes -/

namespace Go.Proofs.YtnajcnhgeggngaaGreat
open Go.RowKit

def lst (p : Nat → Bool) (k : Nat) : List Nat := (List.range k).filter p

theorem lst_succ (p : Nat → Bool) (k : Nat) : lst p (k + 1) = lst p k ++ if p k then [k] else [] := by
 unfold lst
 rw [List.range_succ, List.filter_append]
 cases h : p k <;> simp [h]

theorem lst_length (p : Nat → Bool) (k : Nat) : (lst p k).length = cnt p k := by
 induction k with
 | zero => rfl
 | succ k ih =>
  rw [lst_succ, List.length_append, ih]
  unfold cnt
  rw [sm]
  cases p k <;> rfl

theorem cnt_le (p : Nat → Bool) (k : Nat) : cnt p k ≤ k := by
 rw [← lst_length]
 have := List.length_filter_le p (List.range k)
 rw [List.length_range] at this
 exact this

abbrev u8v (n : Nat) : Value := .int .u8 (n : Int)

theorem info5 : ∃ i, Tryz.prog.info? 5 = some i ∧ i.zero = some (.int .u8 0) ∧ i.size = 1 ∧ i.bytes = 1 := by
 obtain ⟨i, hi, h0, h1, h2⟩ := info_parts (P := Tryz.prog) (e := 5) (z := .int .u8 0) (size := 1) (bytes := 1) (by kernel_rfl)
 exact ⟨i, hi, h0, h1, h2⟩

theorem wpList_append_byte {ops : Array Oper} {rest : List Oper} {o : Oper} {a : Act} {Q : Exit → Act → World → Prop} (W : World) (hgd : o.guard = none) (s x : Operand)
  (ho : o.op = .call { callee := .builtin .append, args := #[s, x], argTypes := #[57, 57] })
  (base : Nat) (v u : Value) (n : Nat) (xs : List Value) (hs : a.eval s = v) (hown : Hid (W.ownsRow base 5 1 v n xs)) (B : Nat) (hB : B = W.heap.size)
  (hx : a.eval x = .slice (some ⟨B, 0, none⟩) 1 1) (h1 : u.oneCell' = true) (h63 : n ≤ 900) (hbase : base ≤ W.heap.size)
  (h : ∀ v' w', w'.ownsRow base 5 1 v' (n + 1) (xs ++ [u]) → (W.alloc (.cells #[u] 5)).grownBy w' v.ownBlock → wpList Tryz.prog ops Q rest (a.put o.dst v') w') :
  wpList Tryz.prog ops Q (o :: rest) a (W.alloc (.cells #[u] 5)) := by
 obtain ⟨i, hi, hz, hsz, hby⟩ := info5
 subst hB
 refine wpList_append_own_at (W.alloc (.cells #[u] 5)) hgd s x 57 ho base 5 i (.int .u8 0) 1 1 Tryz.underlying57 hi hz hsz hby rfl (by omega) v n xs hs (hown.out.alloc _) ⟨W.heap.size, 0, none⟩ 1 1 [u] hx rfl ?_ ?_ (by unfold maxLen; omega) (by omega) (by simp; omega) ?_
 ·
  intro j y hj
  match j, hj with
  | 0, hj => simp at hj; subst hj; simp [Addr.add]
 ·
  intro y hy; simp at hy; subst hy; exact h1
 ·
  intro v' w' a1 a2 _ _
  exact h v' w' a1 a2

theorem owns_kp {w w' : World} {B e k n : Nat} {v : Value} {xs : List Value} (h : w.ownsRow B e k v n xs) (hk : Kp w w') : w'.ownsRow B e k v n xs := by
 obtain ⟨h1, h2⟩ := h
 refine ⟨h1, ?_⟩
 rcases h2 with h2 | ⟨g, cap, cur, hv, hb, hg, hr⟩
 ·
  exact .inl h2
 ·
  exact .inr ⟨g, cap, cur, hv, hb, (hk.block g (Array.getElem?_eq_some_iff.1 hg).1).trans hg, hr⟩

end Go.Proofs.YtnajcnhgeggngaaGreat

/-! ### Class -/

namespace Go.Proofs.YtnajcnhgeggngaaGreat
open Go.RowKit

def none8 : Nat → Bool := fun _ => false
def cUpper : Nat → Bool := rng 65 90
def cLower : Nat → Bool := rng 97 122
def cAlpha : Nat → Bool := orB (rng 65 90) (rng 97 122)
def cDigit : Nat → Bool := rng 48 57
def cAlnum : Nat → Bool := orB cAlpha cDigit
def cSpace : Nat → Bool := orB (addB (fun _ => false) 32) (rng 9 13)
def cBlank : Nat → Bool := addB (addB (fun _ => false) 32) 9
def cGraph : Nat → Bool := rng 33 126
def less (s t : Nat → Bool) : Nat → Bool := notB (orB (notB s) t)
def cPunct : Nat → Bool := less cGraph cAlnum
def cPrint : Nat → Bool := orB (addB (fun _ => false) 32) cGraph
def cCntrl : Nat → Bool := orB (rng 0 31) (addB (fun _ => false) 127)
def cXdigit : Nat → Bool := orB (orB cDigit (rng 65 70)) (rng 97 102)

theorem ret2_at {fn : Func} {p u : Tmp} (h : fn.results = #[.cell p 24, .tmp u]) (tmps : Array Value) (w : World) (S : Nat) (q : Nat → Bool)
  (hp : tmps.getD p undef = .pointer (some ⟨S, 0, none⟩)) (hA : At w S q) : (results fn tmps).run Tryz.prog w = .ok (.tuple #[sv q, tmps.getD u undef]) w := by
 have hp' : tmps[p]?.getD undef = .pointer (some ⟨S, 0, none⟩) := by simpa using hp
 have hl := run_loadVar_row (P := Tryz.prog) w S 24 24 _ (0, 0) _ hA Tryz.underlying24 rfl (by kernel_rfl)
 simp [results, h, hp', asAddr, hl]

theorem set4_kp {w wN : World} {B : Nat} (hB : w.heap.size ≤ B) (K : Kp w wN) (a b c d : Value) :
  Kp w ((((wN.setCell ⟨B, 0, none⟩ a).setCell ⟨B, 1, none⟩ b).setCell ⟨B, 2, none⟩ c).setCell ⟨B, 3, none⟩ d) :=
 (((K.setCell hB _).setCell hB _).setCell hB _).setCell hB _

theorem alpha_any (w : World) : Calls Tryz.prog 147 #[] w fun e w' => e = .returned (sv cAlpha) ∧ Kp w w' := by
 go_enter Tryz.func147, Tryz.ntmps147
 go_wp2_with fail
 refine (range_any 65 90 _ (by omega) (by omega)).mono ?_
 rintro e w1 ⟨rfl, k⟩
 have K1 : Hid (Kp (w.alloc zero4) w1) := (((Kp.refl _))).trans k
 clear k
 go_wp2_with fail
 refine (range_any 97 122 _ (by omega) (by omega)).mono ?_
 rintro e w2 ⟨rfl, k⟩
 have K2 : Hid (Kp (w.alloc zero4) w2) := ((K1.out)).trans k
 clear k
 go_wp2_with fail
 refine (join2 (rng 65 90) (rng 97 122) _ _ (by simp) (last_of _ _)).mono ?_
 rintro e w3 ⟨rfl, k⟩
 have K3 : Hid (Kp (w.alloc zero4) w3) := ((K2.out).alloc _).trans k
 clear k
 have z := K3.out.at (At.zero w)
 obtain ⟨d0, d1, d2, d3⟩ := z.cells
 have f0 := z.frozen 0; have f1 := z.frozen 1; have f2 := z.frozen 2; have f3 := z.frozen 3
 have Z : Hid (At w3 w.heap.size (fun _ => false)) := z
 clear z
 go_wp2
 refine bodyPost_ret (v := sv cAlpha) (ret_at Tryz.results147 _ _ w.heap.size _ rfl (Z.out.set4 cAlpha)) rfl ⟨rfl, ?_⟩
 exact set4_kp (Nat.le_refl _) (((Kp.refl _).alloc _).trans K3.out) _ _ _ _

theorem digit_any (w : World) : Calls Tryz.prog 148 #[] w fun e w' => e = .returned (sv cDigit) ∧ Kp w w' := by
 go_enter Tryz.func148, Tryz.ntmps148
 go_wp2_with fail
 refine (range_any 48 57 _ (by omega) (by omega)).mono ?_
 rintro e w1 ⟨rfl, k⟩
 have K1 : Hid (Kp (w.alloc zero4) w1) := (((Kp.refl _))).trans k
 clear k
 have z := K1.out.at (At.zero w)
 obtain ⟨d0, d1, d2, d3⟩ := z.cells
 have f0 := z.frozen 0; have f1 := z.frozen 1; have f2 := z.frozen 2; have f3 := z.frozen 3
 have Z : Hid (At w1 w.heap.size (fun _ => false)) := z
 clear z
 go_wp2
 refine bodyPost_ret (v := sv cDigit) (ret_at Tryz.results148 _ _ w.heap.size _ rfl (Z.out.set4 cDigit)) rfl ⟨rfl, ?_⟩
 exact set4_kp (Nat.le_refl _) (((Kp.refl _).alloc _).trans K1.out) _ _ _ _

theorem alnum_any (w : World) : Calls Tryz.prog 149 #[] w fun e w' => e = .returned (sv cAlnum) ∧ Kp w w' := by
 go_enter Tryz.func149, Tryz.ntmps149
 go_wp2_with fail
 refine (alpha_any _).mono ?_
 rintro e w1 ⟨rfl, k⟩
 have K1 : Hid (Kp (w.alloc zero4) w1) := (((Kp.refl _))).trans k
 clear k
 go_wp2_with fail
 refine (digit_any _).mono ?_
 rintro e w2 ⟨rfl, k⟩
 have K2 : Hid (Kp (w.alloc zero4) w2) := ((K1.out)).trans k
 clear k
 go_wp2_with fail
 refine (join2 cAlpha cDigit _ _ (by simp) (last_of _ _)).mono ?_
 rintro e w3 ⟨rfl, k⟩
 have K3 : Hid (Kp (w.alloc zero4) w3) := ((K2.out).alloc _).trans k
 clear k
 have z := K3.out.at (At.zero w)
 obtain ⟨d0, d1, d2, d3⟩ := z.cells
 have f0 := z.frozen 0; have f1 := z.frozen 1; have f2 := z.frozen 2; have f3 := z.frozen 3
 have Z : Hid (At w3 w.heap.size (fun _ => false)) := z
 clear z
 go_wp2
 refine bodyPost_ret (v := sv cAlnum) (ret_at Tryz.results149 _ _ w.heap.size _ rfl (Z.out.set4 cAlnum)) rfl ⟨rfl, ?_⟩
 exact set4_kp (Nat.le_refl _) (((Kp.refl _).alloc _).trans K3.out) _ _ _ _

theorem graph_any (w : World) : Calls Tryz.prog 151 #[] w fun e w' => e = .returned (sv cGraph) ∧ Kp w w' := by
 go_enter Tryz.func151, Tryz.ntmps151
 go_wp2_with fail
 refine (range_any 33 126 _ (by omega) (by omega)).mono ?_
 rintro e w1 ⟨rfl, k⟩
 have K1 : Hid (Kp (w.alloc zero4) w1) := (((Kp.refl _))).trans k
 clear k
 have z := K1.out.at (At.zero w)
 obtain ⟨d0, d1, d2, d3⟩ := z.cells
 have f0 := z.frozen 0; have f1 := z.frozen 1; have f2 := z.frozen 2; have f3 := z.frozen 3
 have Z : Hid (At w1 w.heap.size (fun _ => false)) := z
 clear z
 go_wp2
 refine bodyPost_ret (v := sv cGraph) (ret_at Tryz.results151 _ _ w.heap.size _ rfl (Z.out.set4 cGraph)) rfl ⟨rfl, ?_⟩
 exact set4_kp (Nat.le_refl _) (((Kp.refl _).alloc _).trans K1.out) _ _ _ _

end Go.Proofs.YtnajcnhgeggngaaGreat

/-! ### Without -/

namespace Go.Proofs.YtnajcnhgeggngaaGreat
set_option maxHeartbeats 2000000
set_option maxRecDepth 100000
open Go.RowKit

theorem At.new' (w : World) (q : Nat → Bool) (B : Nat) (hB : B = w.heap.size) : At (w.alloc (blk q)) B q := by subst hB; exact At.new w q
theorem At.zero' (w : World) (B : Nat) (hB : B = w.heap.size) : At (w.alloc zero4) B (fun _ => false) := by subst hB; exact At.zero w

theorem without_any (s t : Nat → Bool) (w : World) : Calls Tryz.prog 150 #[sv s, sv t] w fun e w' => e = .returned (sv (less s t)) ∧ Kp w w' := by
 have A1 : Hid (At (((w.alloc (blk s)).alloc (blk t)).alloc zero4) (w.heap.size + 1) t) := (At.new' _ _ _ (by simp)).alloc _
 have A2 : Hid (At (((w.alloc (blk s)).alloc (blk t)).alloc zero4) (w.heap.size + 1 + 1) (fun _ => false)) := At.zero' _ _ (by simp)
 have S0 : Hid (Kp (((w.alloc (blk s)).alloc (blk t)).alloc zero4) (((w.alloc (blk s)).alloc (blk t)).alloc zero4)) := Kp.refl _
 go_enter Tryz.func150, Tryz.ntmps150
 go_wp2
 go_region_with (first
  | (go_at_call 20; have T := S0.out; clear T; refine (not_any s _).mono ?_; rintro e w1 ⟨rfl, k⟩; have S1 : Hid (Kp (((w.alloc (blk s)).alloc (blk t)).alloc zero4) w1) := (by refine Kp.trans ?_ k; first | exact S0.out | exact S0.out.drew | exact S0.out.drewN _); clear S0 k; obtain ⟨d0, d1, d2, d3⟩ := (S1.out.at A1.out).cells)
  | (go_at_call 131; refine (join2 (notB s) t _ _ ?hs ?hX).mono ?_; (case hs => simp); (case hX => exact last_of _ _); rintro e w2 ⟨rfl, k⟩; have S2 : Hid (Kp (((w.alloc (blk s)).alloc (blk t)).alloc zero4) w2) := (by refine Kp.trans ?_ k; first | exact S1.out.alloc _ | exact (S1.out.alloc _).drew | exact (S1.out.alloc _).drewN _); clear k)
  | (go_at_call 20; have T := S2.out; clear T; refine (not_any (orB (notB s) t) _).mono ?_; rintro e w3 ⟨rfl, k⟩; have S3 : Hid (Kp (((w.alloc (blk s)).alloc (blk t)).alloc zero4) w3) := (by refine Kp.trans ?_ k; first | exact S2.out | exact S2.out.drew | exact S2.out.drewN _); clear k; obtain ⟨e0, e1, e2, e3⟩ := (S3.out.at A2.out).cells; have f0 := (S3.out.at A2.out).frozen 0; have f1 := (S3.out.at A2.out).frozen 1; have f2 := (S3.out.at A2.out).frozen 2; have f3 := (S3.out.at A2.out).frozen 3))
 all_goals
  go_wp2
  refine bodyPost_ret (v := sv (less s t)) (ret_at Tryz.results150 _ _ (w.heap.size + 1 + 1) _ rfl ((S3.out.at A2.out).set4 (less s t))) rfl ⟨rfl, ?_⟩
  exact set4_kp (by omega) (((((Kp.refl _).alloc _).alloc _).alloc _).trans S3.out) _ _ _ _
end Go.Proofs.YtnajcnhgeggngaaGreat

/-! ### Names -/

namespace Go.Proofs.YtnajcnhgeggngaaGreat
set_option maxHeartbeats 2000000
set_option maxRecDepth 100000
open Go.RowKit

theorem class_alpha (w : World) : Calls Tryz.prog 144 #[.string ⟨#[97, 108, 112, 104, 97]⟩] w fun e w' => e = .returned (.tuple #[sv cAlpha, .bool true]) ∧ Kp w w' := by
 go_enter Tryz.func144, Tryz.ntmps144
 go_wp2_with fail
 refine (alpha_any _).mono ?_
 rintro e w1 ⟨rfl, k⟩
 have K1 : Hid (Kp (w.alloc zero4) w1) := (((Kp.refl _))).trans k
 clear k
 have z := K1.out.at (At.zero w)
 obtain ⟨d0, d1, d2, d3⟩ := z.cells
 have f0 := z.frozen 0; have f1 := z.frozen 1; have f2 := z.frozen 2; have f3 := z.frozen 3
 have Z : Hid (At w1 w.heap.size (fun _ => false)) := z
 clear z
 go_wp2
 refine bodyPost_ret (v := .tuple #[sv cAlpha, .bool true]) (ret2_at Tryz.results144 _ _ w.heap.size _ rfl (Z.out.set4 cAlpha)) rfl ⟨rfl, ?_⟩
 exact set4_kp (Nat.le_refl _) (((Kp.refl _).alloc _).trans K1.out) _ _ _ _

theorem class_digit (w : World) : Calls Tryz.prog 144 #[.string ⟨#[100, 105, 103, 105, 116]⟩] w fun e w' => e = .returned (.tuple #[sv cDigit, .bool true]) ∧ Kp w w' := by
 go_enter Tryz.func144, Tryz.ntmps144
 go_wp2_with fail
 refine (digit_any _).mono ?_
 rintro e w1 ⟨rfl, k⟩
 have K1 : Hid (Kp (w.alloc zero4) w1) := (((Kp.refl _))).trans k
 clear k
 have z := K1.out.at (At.zero w)
 obtain ⟨d0, d1, d2, d3⟩ := z.cells
 have f0 := z.frozen 0; have f1 := z.frozen 1; have f2 := z.frozen 2; have f3 := z.frozen 3
 have Z : Hid (At w1 w.heap.size (fun _ => false)) := z
 clear z
 go_wp2
 refine bodyPost_ret (v := .tuple #[sv cDigit, .bool true]) (ret2_at Tryz.results144 _ _ w.heap.size _ rfl (Z.out.set4 cDigit)) rfl ⟨rfl, ?_⟩
 exact set4_kp (Nat.le_refl _) (((Kp.refl _).alloc _).trans K1.out) _ _ _ _

theorem class_alnum (w : World) : Calls Tryz.prog 144 #[.string ⟨#[97, 108, 110, 117, 109]⟩] w fun e w' => e = .returned (.tuple #[sv cAlnum, .bool true]) ∧ Kp w w' := by
 go_enter Tryz.func144, Tryz.ntmps144
 go_wp2_with fail
 refine (alnum_any _).mono ?_
 rintro e w1 ⟨rfl, k⟩
 have K1 : Hid (Kp (w.alloc zero4) w1) := (((Kp.refl _))).trans k
 clear k
 have z := K1.out.at (At.zero w)
 obtain ⟨d0, d1, d2, d3⟩ := z.cells
 have f0 := z.frozen 0; have f1 := z.frozen 1; have f2 := z.frozen 2; have f3 := z.frozen 3
 have Z : Hid (At w1 w.heap.size (fun _ => false)) := z
 clear z
 go_wp2
 refine bodyPost_ret (v := .tuple #[sv cAlnum, .bool true]) (ret2_at Tryz.results144 _ _ w.heap.size _ rfl (Z.out.set4 cAlnum)) rfl ⟨rfl, ?_⟩
 exact set4_kp (Nat.le_refl _) (((Kp.refl _).alloc _).trans K1.out) _ _ _ _

theorem class_upper (w : World) : Calls Tryz.prog 144 #[.string ⟨#[117, 112, 112, 101, 114]⟩] w fun e w' => e = .returned (.tuple #[sv cUpper, .bool true]) ∧ Kp w w' := by
 go_enter Tryz.func144, Tryz.ntmps144
 go_wp2_with fail
 refine (range_any 65 90 _ (by omega) (by omega)).mono ?_
 rintro e w1 ⟨rfl, k⟩
 have K1 : Hid (Kp (w.alloc zero4) w1) := (((Kp.refl _))).trans k
 clear k
 have z := K1.out.at (At.zero w)
 obtain ⟨d0, d1, d2, d3⟩ := z.cells
 have f0 := z.frozen 0; have f1 := z.frozen 1; have f2 := z.frozen 2; have f3 := z.frozen 3
 have Z : Hid (At w1 w.heap.size (fun _ => false)) := z
 clear z
 go_wp2
 refine bodyPost_ret (v := .tuple #[sv cUpper, .bool true]) (ret2_at Tryz.results144 _ _ w.heap.size _ rfl (Z.out.set4 cUpper)) rfl ⟨rfl, ?_⟩
 exact set4_kp (Nat.le_refl _) (((Kp.refl _).alloc _).trans K1.out) _ _ _ _

theorem class_lower (w : World) : Calls Tryz.prog 144 #[.string ⟨#[108, 111, 119, 101, 114]⟩] w fun e w' => e = .returned (.tuple #[sv cLower, .bool true]) ∧ Kp w w' := by
 go_enter Tryz.func144, Tryz.ntmps144
 go_wp2_with fail
 refine (range_any 97 122 _ (by omega) (by omega)).mono ?_
 rintro e w1 ⟨rfl, k⟩
 have K1 : Hid (Kp (w.alloc zero4) w1) := (((Kp.refl _))).trans k
 clear k
 have z := K1.out.at (At.zero w)
 obtain ⟨d0, d1, d2, d3⟩ := z.cells
 have f0 := z.frozen 0; have f1 := z.frozen 1; have f2 := z.frozen 2; have f3 := z.frozen 3
 have Z : Hid (At w1 w.heap.size (fun _ => false)) := z
 clear z
 go_wp2
 refine bodyPost_ret (v := .tuple #[sv cLower, .bool true]) (ret2_at Tryz.results144 _ _ w.heap.size _ rfl (Z.out.set4 cLower)) rfl ⟨rfl, ?_⟩
 exact set4_kp (Nat.le_refl _) (((Kp.refl _).alloc _).trans K1.out) _ _ _ _

theorem class_space (w : World) : Calls Tryz.prog 144 #[.string ⟨#[115, 112, 97, 99, 101]⟩] w fun e w' => e = .returned (.tuple #[sv cSpace, .bool true]) ∧ Kp w w' := by
 go_enter Tryz.func144, Tryz.ntmps144
 go_wp2_with fail
 refine (of_one 32 _ _ (by simp) (by omega)).mono ?_
 rintro e w1 ⟨rfl, k⟩
 have K1 : Hid (Kp (w.alloc zero4) w1) := (((Kp.refl _))).trans k
 clear k
 go_wp2_with fail
 refine (range_any 9 13 _ (by omega) (by omega)).mono ?_
 rintro e w2 ⟨rfl, k⟩
 have K2 : Hid (Kp (w.alloc zero4) w2) := ((K1.out)).trans k
 clear k
 go_wp2_with fail
 refine (join2 (addB (fun _ => false) 32) (rng 9 13) _ _ (by simp) (last_of _ _)).mono ?_
 rintro e w3 ⟨rfl, k⟩
 have K3 : Hid (Kp (w.alloc zero4) w3) := ((K2.out).alloc _).trans k
 clear k
 have z := K3.out.at (At.zero w)
 obtain ⟨d0, d1, d2, d3⟩ := z.cells
 have f0 := z.frozen 0; have f1 := z.frozen 1; have f2 := z.frozen 2; have f3 := z.frozen 3
 have Z : Hid (At w3 w.heap.size (fun _ => false)) := z
 clear z
 go_wp2
 refine bodyPost_ret (v := .tuple #[sv cSpace, .bool true]) (ret2_at Tryz.results144 _ _ w.heap.size _ rfl (Z.out.set4 cSpace)) rfl ⟨rfl, ?_⟩
 exact set4_kp (Nat.le_refl _) (((Kp.refl _).alloc _).trans K3.out) _ _ _ _

theorem class_blank (w : World) : Calls Tryz.prog 144 #[.string ⟨#[98, 108, 97, 110, 107]⟩] w fun e w' => e = .returned (.tuple #[sv cBlank, .bool true]) ∧ Kp w w' := by
 go_enter Tryz.func144, Tryz.ntmps144
 go_wp2_with fail
 refine (of_two 32 9 _ _ (by simp) (by omega) (by omega)).mono ?_
 rintro e w1 ⟨rfl, k⟩
 have K1 : Hid (Kp (w.alloc zero4) w1) := (((Kp.refl _))).trans k
 clear k
 have z := K1.out.at (At.zero w)
 obtain ⟨d0, d1, d2, d3⟩ := z.cells
 have f0 := z.frozen 0; have f1 := z.frozen 1; have f2 := z.frozen 2; have f3 := z.frozen 3
 have Z : Hid (At w1 w.heap.size (fun _ => false)) := z
 clear z
 go_wp2
 refine bodyPost_ret (v := .tuple #[sv cBlank, .bool true]) (ret2_at Tryz.results144 _ _ w.heap.size _ rfl (Z.out.set4 cBlank)) rfl ⟨rfl, ?_⟩
 exact set4_kp (Nat.le_refl _) (((Kp.refl _).alloc _).trans K1.out) _ _ _ _

theorem class_punct (w : World) : Calls Tryz.prog 144 #[.string ⟨#[112, 117, 110, 99, 116]⟩] w fun e w' => e = .returned (.tuple #[sv cPunct, .bool true]) ∧ Kp w w' := by
 go_enter Tryz.func144, Tryz.ntmps144
 go_wp2_with fail
 refine (graph_any _).mono ?_
 rintro e w1 ⟨rfl, k⟩
 have K1 : Hid (Kp (w.alloc zero4) w1) := (((Kp.refl _))).trans k
 clear k
 go_wp2_with fail
 refine (alnum_any _).mono ?_
 rintro e w2 ⟨rfl, k⟩
 have K2 : Hid (Kp (w.alloc zero4) w2) := ((K1.out)).trans k
 clear k
 go_wp2_with fail
 refine (without_any _ _ _).mono ?_
 rintro e w3 ⟨rfl, k⟩
 have K3 : Hid (Kp (w.alloc zero4) w3) := ((K2.out)).trans k
 clear k
 have z := K3.out.at (At.zero w)
 obtain ⟨d0, d1, d2, d3⟩ := z.cells
 have f0 := z.frozen 0; have f1 := z.frozen 1; have f2 := z.frozen 2; have f3 := z.frozen 3
 have Z : Hid (At w3 w.heap.size (fun _ => false)) := z
 clear z
 go_wp2
 refine bodyPost_ret (v := .tuple #[sv cPunct, .bool true]) (ret2_at Tryz.results144 _ _ w.heap.size _ rfl (Z.out.set4 cPunct)) rfl ⟨rfl, ?_⟩
 exact set4_kp (Nat.le_refl _) (((Kp.refl _).alloc _).trans K3.out) _ _ _ _

theorem class_print (w : World) : Calls Tryz.prog 144 #[.string ⟨#[112, 114, 105, 110, 116]⟩] w fun e w' => e = .returned (.tuple #[sv cPrint, .bool true]) ∧ Kp w w' := by
 go_enter Tryz.func144, Tryz.ntmps144
 go_wp2_with fail
 refine (of_one 32 _ _ (by simp) (by omega)).mono ?_
 rintro e w1 ⟨rfl, k⟩
 have K1 : Hid (Kp (w.alloc zero4) w1) := (((Kp.refl _))).trans k
 clear k
 go_wp2_with fail
 refine (graph_any _).mono ?_
 rintro e w2 ⟨rfl, k⟩
 have K2 : Hid (Kp (w.alloc zero4) w2) := ((K1.out)).trans k
 clear k
 go_wp2_with fail
 refine (join2 (addB (fun _ => false) 32) cGraph _ _ (by simp) (last_of _ _)).mono ?_
 rintro e w3 ⟨rfl, k⟩
 have K3 : Hid (Kp (w.alloc zero4) w3) := ((K2.out).alloc _).trans k
 clear k
 have z := K3.out.at (At.zero w)
 obtain ⟨d0, d1, d2, d3⟩ := z.cells
 have f0 := z.frozen 0; have f1 := z.frozen 1; have f2 := z.frozen 2; have f3 := z.frozen 3
 have Z : Hid (At w3 w.heap.size (fun _ => false)) := z
 clear z
 go_wp2
 refine bodyPost_ret (v := .tuple #[sv cPrint, .bool true]) (ret2_at Tryz.results144 _ _ w.heap.size _ rfl (Z.out.set4 cPrint)) rfl ⟨rfl, ?_⟩
 exact set4_kp (Nat.le_refl _) (((Kp.refl _).alloc _).trans K3.out) _ _ _ _

theorem class_graph (w : World) : Calls Tryz.prog 144 #[.string ⟨#[103, 114, 97, 112, 104]⟩] w fun e w' => e = .returned (.tuple #[sv cGraph, .bool true]) ∧ Kp w w' := by
 go_enter Tryz.func144, Tryz.ntmps144
 go_wp2_with fail
 refine (graph_any _).mono ?_
 rintro e w1 ⟨rfl, k⟩
 have K1 : Hid (Kp (w.alloc zero4) w1) := (((Kp.refl _))).trans k
 clear k
 have z := K1.out.at (At.zero w)
 obtain ⟨d0, d1, d2, d3⟩ := z.cells
 have f0 := z.frozen 0; have f1 := z.frozen 1; have f2 := z.frozen 2; have f3 := z.frozen 3
 have Z : Hid (At w1 w.heap.size (fun _ => false)) := z
 clear z
 go_wp2
 refine bodyPost_ret (v := .tuple #[sv cGraph, .bool true]) (ret2_at Tryz.results144 _ _ w.heap.size _ rfl (Z.out.set4 cGraph)) rfl ⟨rfl, ?_⟩
 exact set4_kp (Nat.le_refl _) (((Kp.refl _).alloc _).trans K1.out) _ _ _ _

theorem class_cntrl (w : World) : Calls Tryz.prog 144 #[.string ⟨#[99, 110, 116, 114, 108]⟩] w fun e w' => e = .returned (.tuple #[sv cCntrl, .bool true]) ∧ Kp w w' := by
 go_enter Tryz.func144, Tryz.ntmps144
 go_wp2_with fail
 refine (range_any 0 31 _ (by omega) (by omega)).mono ?_
 rintro e w1 ⟨rfl, k⟩
 have K1 : Hid (Kp (w.alloc zero4) w1) := (((Kp.refl _))).trans k
 clear k
 go_wp2_with fail
 refine (of_one 127 _ _ (by simp) (by omega)).mono ?_
 rintro e w2 ⟨rfl, k⟩
 have K2 : Hid (Kp (w.alloc zero4) w2) := ((K1.out)).trans k
 clear k
 go_wp2_with fail
 refine (join2 (rng 0 31) (addB (fun _ => false) 127) _ _ (by simp) (last_of _ _)).mono ?_
 rintro e w3 ⟨rfl, k⟩
 have K3 : Hid (Kp (w.alloc zero4) w3) := ((K2.out).alloc _).trans k
 clear k
 have z := K3.out.at (At.zero w)
 obtain ⟨d0, d1, d2, d3⟩ := z.cells
 have f0 := z.frozen 0; have f1 := z.frozen 1; have f2 := z.frozen 2; have f3 := z.frozen 3
 have Z : Hid (At w3 w.heap.size (fun _ => false)) := z
 clear z
 go_wp2
 refine bodyPost_ret (v := .tuple #[sv cCntrl, .bool true]) (ret2_at Tryz.results144 _ _ w.heap.size _ rfl (Z.out.set4 cCntrl)) rfl ⟨rfl, ?_⟩
 exact set4_kp (Nat.le_refl _) (((Kp.refl _).alloc _).trans K3.out) _ _ _ _

theorem class_xdigit (w : World) : Calls Tryz.prog 144 #[.string ⟨#[120, 100, 105, 103, 105, 116]⟩] w fun e w' => e = .returned (.tuple #[sv cXdigit, .bool true]) ∧ Kp w w' := by
 go_enter Tryz.func144, Tryz.ntmps144
 go_wp2_with fail
 refine (digit_any _).mono ?_
 rintro e w1 ⟨rfl, k⟩
 have K1 : Hid (Kp (w.alloc zero4) w1) := (((Kp.refl _))).trans k
 clear k
 go_wp2_with fail
 refine (range_any 65 70 _ (by omega) (by omega)).mono ?_
 rintro e w2 ⟨rfl, k⟩
 have K2 : Hid (Kp (w.alloc zero4) w2) := ((K1.out)).trans k
 clear k
 go_wp2_with fail
 refine (range_any 97 102 _ (by omega) (by omega)).mono ?_
 rintro e w3 ⟨rfl, k⟩
 have K3 : Hid (Kp (w.alloc zero4) w3) := ((K2.out)).trans k
 clear k
 go_wp2_with fail
 refine (join3 cDigit (rng 65 70) (rng 97 102) _ _ (by simp) (last_of _ _)).mono ?_
 rintro e w4 ⟨rfl, k⟩
 have K4 : Hid (Kp (w.alloc zero4) w4) := ((K3.out).alloc _).trans k
 clear k
 have z := K4.out.at (At.zero w)
 obtain ⟨d0, d1, d2, d3⟩ := z.cells
 have f0 := z.frozen 0; have f1 := z.frozen 1; have f2 := z.frozen 2; have f3 := z.frozen 3
 have Z : Hid (At w4 w.heap.size (fun _ => false)) := z
 clear z
 go_wp2
 refine bodyPost_ret (v := .tuple #[sv cXdigit, .bool true]) (ret2_at Tryz.results144 _ _ w.heap.size _ rfl (Z.out.set4 cXdigit)) rfl ⟨rfl, ?_⟩
 exact set4_kp (Nat.le_refl _) (((Kp.refl _).alloc _).trans K4.out) _ _ _ _

def named (s : ByteArray) : Prop := s.toList = [97, 108, 112, 104, 97] ∨ s.toList = [100, 105, 103, 105, 116] ∨ s.toList = [97, 108, 110, 117, 109] ∨ s.toList = [117, 112, 112, 101, 114] ∨ s.toList = [108, 111, 119, 101, 114] ∨ s.toList = [115, 112, 97, 99, 101] ∨ s.toList = [98, 108, 97, 110, 107] ∨ s.toList = [112, 117, 110, 99, 116] ∨ s.toList = [112, 114, 105, 110, 116] ∨ s.toList = [103, 114, 97, 112, 104] ∨ s.toList = [99, 110, 116, 114, 108] ∨ s.toList = [120, 100, 105, 103, 105, 116]

theorem class_other (s : ByteArray) (h : ¬ named s) (w : World) : Calls Tryz.prog 144 #[.string s] w fun e w' => e = .returned (.tuple #[sv (fun _ => false), .bool false]) ∧ Kp w w' := by
 unfold named at h
 simp only [not_or] at h
 obtain ⟨h0, h1, h2, h3, h4, h5, h6, h7, h8, h9, h10, h11⟩ := h
 have q0 : (s.toList == [97, 108, 112, 104, 97]) = false := by simpa using h0
 have q1 : (s.toList == [100, 105, 103, 105, 116]) = false := by simpa using h1
 have q2 : (s.toList == [97, 108, 110, 117, 109]) = false := by simpa using h2
 have q3 : (s.toList == [117, 112, 112, 101, 114]) = false := by simpa using h3
 have q4 : (s.toList == [108, 111, 119, 101, 114]) = false := by simpa using h4
 have q5 : (s.toList == [115, 112, 97, 99, 101]) = false := by simpa using h5
 have q6 : (s.toList == [98, 108, 97, 110, 107]) = false := by simpa using h6
 have q7 : (s.toList == [112, 117, 110, 99, 116]) = false := by simpa using h7
 have q8 : (s.toList == [112, 114, 105, 110, 116]) = false := by simpa using h8
 have q9 : (s.toList == [103, 114, 97, 112, 104]) = false := by simpa using h9
 have q10 : (s.toList == [99, 110, 116, 114, 108]) = false := by simpa using h10
 have q11 : (s.toList == [120, 100, 105, 103, 105, 116]) = false := by simpa using h11
 clear h0 h1 h2 h3 h4 h5 h6 h7 h8 h9 h10 h11
 go_enter Tryz.func144, Tryz.ntmps144
 go_wp2
 exact bodyPost_ret (v := .tuple #[sv (fun _ => false), .bool false]) (ret2_at Tryz.results144 _ _ w.heap.size _ rfl (At.zero w)) rfl ⟨rfl, (Kp.refl _).alloc _⟩

end Go.Proofs.YtnajcnhgeggngaaGreat

/-! ### Pf -/

namespace Go.Proofs.YtnajcnhgeggngaaGreat
open Go.RowKit

structure St where
 i : Nat
 n : Nat
 g : Nat
 d : Nat
structure Out where
 r : Rx
 e : Nat
 st : St

def W4.z : W4 := ⟨0, 0, 0, 0⟩
def rx0 : Rx := .mk 0 0 0 0 W4.z []
def Rx.k : Rx → Int | .mk k _ _ _ _ _ => k
def rset (p : Nat → Bool) : Rx := .mk 1 0 0 0 (W4.of p) []

def pTake (sz : Nat) (r : Rx) (t : St) : Out := ⟨r, 0, ⟨t.i + sz, t.n + 1, t.g, t.d⟩⟩

def cls (l : List UInt8) : Option (Nat → Bool) :=
 if l = [97, 108, 112, 104, 97] then some cAlpha else if l = [100, 105, 103, 105, 116] then some cDigit else if l = [97, 108, 110, 117, 109] then some cAlnum
 else if l = [117, 112, 112, 101, 114] then some cUpper else if l = [108, 111, 119, 101, 114] then some cLower else if l = [115, 112, 97, 99, 101] then some cSpace
 else if l = [98, 108, 97, 110, 107] then some cBlank else if l = [112, 117, 110, 99, 116] then some cPunct else if l = [112, 114, 105, 110, 116] then some cPrint
 else if l = [103, 114, 97, 112, 104] then some cGraph else if l = [99, 110, 116, 114, 108] then some cCntrl else if l = [120, 100, 105, 103, 105, 116] then some cXdigit else none

def pClass (s : ByteArray) (i : Nat) : Option (Nat → Bool) × Nat :=
 let c := Lib.cut (s.data.toList.drop (i + 2)) [58, 93]
 if c.2.2 then match cls c.1 with
  | some q => (some q, s.size - c.2.1.length)
  | none => (none, i)
 else (none, i)

def pIn (s : ByteArray) (i : Nat) : Option (Nat → Bool) × Nat :=
 if i = s.size then (none, i)
 else if pfx s i [91, 58] then pClass s i
 else if dash s (i + 1) then
  if pfx s (i + 2) [91, 58] || decide (ch s (i + 2) < ch s i) then (none, i + 2) else (some (rng (ch s i) (ch s (i + 2))), i + 3)
 else (some (addB (fun _ => false) (ch s i)), i + 1)

def pBrL (s : ByteArray) : Nat → (Nat → Bool) → Nat → Option (Nat → Bool) × Nat
 | 0, _, i => (none, i)
 | f + 1, p, i => if pfx s i [93] then (some p, i + 1) else match pIn s i with
  | (none, j) => (none, j)
  | (some q, j) => pBrL s f (orB p q) j

def pBr (s : ByteArray) (i : Nat) : Option (Nat → Bool) × Nat := match pIn s i with
 | (none, j) => (none, j)
 | (some q, j) => pBrL s (s.size + 1) q j

def bTurn (s : ByteArray) (i : Nat) : Bool := pfx s (i + 1) [94]
def bFrom (s : ByteArray) (i : Nat) : Nat := if bTurn s i then i + 2 else i + 1

def pBracket (s : ByteArray) (t : St) : Out := match pBr s (bFrom s t.i) with
 | (none, j) => ⟨rx0, 1, ⟨j, t.n, t.g, t.d⟩⟩
 | (some p, j) =>
  let q := if bTurn s t.i then notB p else p
  if cnt q 256 = 0 then ⟨rx0, 1, t⟩ else ⟨rset q, 0, ⟨j, t.n + 1, t.g, t.d⟩⟩

def pNumL (s : ByteArray) : Nat → Nat → Bool → Nat → Nat × Bool × Nat
 | 0, n, ok, i => (n, ok, i)
 | f + 1, n, ok, i => if decide (i < s.size) && rng 48 57 (ch s i) then pNumL s f (min (10 * n + (ch s i - 48)) 21) true (i + 1) else (n, ok, i)
def pNum (s : ByteArray) (i : Nat) : Nat × Bool × Nat := pNumL s (s.size + 1) 0 false i

def timesFit (a b : Int) : Bool := if a < 0 ∨ a > 20 then false else b == -1 || (decide (max a 1 ≤ b) && decide (b ≤ 20))

def closeB (ere : Bool) : List UInt8 := if ere then [125] else [92, 125]
def pHigh (s : ByteArray) (lo i : Nat) : Int × Nat := if pfx s i [44] then (if (pNum s (i + 1)).2.1 then ((pNum s (i + 1)).1 : Int) else -1, (pNum s (i + 1)).2.2) else ((lo : Int), i)
def pInt (s : ByteArray) (ere : Bool) (i sz : Nat) : Option (Int × Int) × Nat :=
 let a := pNum s (i + sz)
 if a.2.1 then
  let h := pHigh s a.1 a.2.2
  if pfx s h.2 (closeB ere) then
   if timesFit a.1 h.1 then (some ((a.1 : Int), h.1), h.2 + (closeB ere).length) else (none, i)
  else (none, h.2)
 else (none, a.2.2)

def rrep (a b : Int) (r : Rx) : Rx := .mk 4 a b 0 W4.z [r]
def pRep (s : ByteArray) (ere : Bool) (r : Rx) (t : St) : Out :=
 let g := sgn s ere t.i
 if g.1 = 10 then pTake g.2.2 (rrep 0 (-1) r) t
 else if g.1 = 11 then pTake g.2.2 (rrep 1 (-1) r) t
 else if g.1 = 12 then pTake g.2.2 (rrep 0 1 r) t
 else if g.1 = 13 then match pInt s ere t.i g.2.2 with
  | (none, j) => ⟨rx0, 1, ⟨j, t.n, t.g, t.d⟩⟩
  | (some (a, b), j) => pTake 0 (rrep a b r) ⟨j, t.n, t.g, t.d⟩
 else ⟨r, 0, t⟩

def plainIn (s : ByteArray) (began i k : Nat) : Bool :=
 if k = 10 then decide (i = began) || (decide (i = began + 1) && ch s began == 94)
 else if k = 5 then !decide (i = began)
 else if k = 6 then (let x := (sgn s false (i + 1)).1; decide (x ≠ 1) && decide (x ≠ 8))
 else false
def sgnIn (s : ByteArray) (ere : Bool) (began i : Nat) : Nat × Nat × Nat :=
 let g := sgn s ere i
 if ere then g else if plainIn s began i g.1 then (2, g.2.1, g.2.2) else g

def pBack (b sz : Nat) (t : St) : Out := if b < 49 ∨ t.g + 48 < b then ⟨rx0, 1, t⟩ else pTake sz (.mk 6 0 0 ((b : Int) - 48) W4.z []) t

def pGroup (c : St → Out) (s : ByteArray) (ere : Bool) (sz : Nat) (t : St) : Out :=
 if t.d = 6 then ⟨rx0, 2, t⟩ else
 let o := c ⟨t.i + sz, t.n, t.g + 1, t.d + 1⟩
 if o.e ≠ 0 then ⟨rx0, o.e, o.st⟩ else
 let h := sgn s ere o.st.i
 if h.1 ≠ 8 then ⟨rx0, 1, o.st⟩ else pTake h.2.2 (.mk 5 0 0 ((t.g + 1 : Nat) : Int) W4.z [o.r]) ⟨o.st.i, o.st.n, o.st.g, o.st.d - 1⟩

def pOne (c : St → Out) (s : ByteArray) (ere : Bool) (k b sz : Nat) (t : St) : Out :=
 if k = 2 then pTake sz (rset (addB (fun _ => false) b)) t
 else if k = 3 then pTake sz (rset (notB (fun _ => false))) t
 else if k = 5 then pTake sz (.mk 7 0 0 0 W4.z []) t
 else if k = 6 then pTake sz (.mk 8 0 0 0 W4.z []) t
 else if k = 14 then pBack b sz t
 else if k = 4 then pBracket s t
 else if k = 7 then pGroup c s ere sz t
 else ⟨rx0, 1, t⟩

def mayRep (k : Int) : Bool := k == 1 || k == 5 || k == 6
def pPart (c : St → Out) (s : ByteArray) (ere : Bool) (began : Nat) (t : St) : Out :=
 let g := sgnIn s ere began t.i
 let o := pOne c s ere g.1 g.2.1 g.2.2 t
 if o.e ≠ 0 ∨ mayRep o.r.k = false then o else pRep s ere o.r o.st

def ends (k : Nat) : Bool := k == 1 || k == 9 || k == 8
def keepL (n : Nat) (ks : List Rx) (r : Rx) : List Rx := if n > 40 then ks else ks ++ [r]
def rowOut (ks : List Rx) (t : St) : Out := match ks with
 | [r] => ⟨r, 0, t⟩
 | _ => ⟨.mk 2 0 0 0 W4.z ks, 0, ⟨t.i, t.n + 1, t.g, t.d⟩⟩
def pRowL (c : St → Out) (s : ByteArray) (ere : Bool) (began : Nat) : Nat → List Rx → St → Out
 | 0, _, t => ⟨rx0, 1, t⟩
 | f + 1, ks, t => if ends (sgn s ere t.i).1 then rowOut ks t else
  let o := pPart c s ere began t
  if o.e ≠ 0 then ⟨rx0, o.e, o.st⟩ else pRowL c s ere began f (keepL o.st.n ks o.r) o.st
def pRow (c : St → Out) (s : ByteArray) (ere : Bool) (t : St) : Out := pRowL c s ere t.i (s.size + 1) [] t
def pChL (c : St → Out) (s : ByteArray) (ere : Bool) : Nat → List Rx → St → Out
 | 0, _, t => ⟨rx0, 1, t⟩
 | f + 1, ks, t => if (sgn s ere t.i).1 = 9 then
   let o := pRow c s ere ⟨t.i + 1, t.n, t.g, t.d⟩
   if o.e ≠ 0 then ⟨rx0, o.e, o.st⟩ else pChL c s ere f (keepL o.st.n ks o.r) o.st
  else ⟨.mk 3 0 0 0 W4.z ks, 0, ⟨t.i, t.n + 1, t.g, t.d⟩⟩
def pCh1 (c : St → Out) (s : ByteArray) (ere : Bool) (t : St) : Out :=
 let o := pRow c s ere t
 if o.e ≠ 0 ∨ (sgn s ere o.st.i).1 ≠ 9 then o else pChL c s ere (s.size + 1) [o.r] o.st
def pCh (s : ByteArray) (ere : Bool) : Nat → St → Out
 | 0, t => ⟨rx0, 1, t⟩
 | D + 1, t => pCh1 (pCh s ere D) s ere t
def pWhole (s : ByteArray) (ere : Bool) : Out :=
 let o := pCh s ere 7 ⟨0, 0, 0, 0⟩
 if o.e ≠ 0 then ⟨rx0, o.e, o.st⟩ else if o.st.i < s.size then ⟨rx0, 1, o.st⟩ else if o.st.n > 40 ∨ o.st.g > 3 then ⟨rx0, 4, o.st⟩ else o
def pParse (s : ByteArray) (ere : Bool) : Rx × Nat × Nat :=
 let o := pWhole s ere
 if o.e ≠ 0 then (rx0, o.st.i, o.e) else (o.r, 0, 0)
end Go.Proofs.YtnajcnhgeggngaaGreat

/-! ### Ret -/

namespace Go.Proofs.YtnajcnhgeggngaaGreat
open Go.RowKit

structure Ret (w0 : World) (P : Nat) (s : ByteArray) (ere : Bool) (o : Out) (v : Value) (w' : World) : Prop where
 is : Is w' (fun b => w0.heap.size ≤ b) o.r v
 rd : Rd w' P s ere o.st.i o.st.n o.st.g o.st.d
 ks : Ks P w0 w'
theorem Ret.up {w0 w1 w2 : World} {P : Nat} {s : ByteArray} {ere : Bool} {o : Out} {v : Value} (h : Ret w1 P s ere o v w2) (k : Ks P w0 w1) : Ret w0 P s ere o v w2 :=
 ⟨h.is.weak (fun _ hb _ => Nat.le_trans k.size hb), h.rd, k.trans h.ks⟩
theorem Ret.upset {w0 w1 w2 w3 : World} {P S : Nat} {s : ByteArray} {ere : Bool} {o : Out} {v : Value} (h : Ret w1 P s ere o v w2) (k : Ks P w0 w1) (k' : Ks S w2 w3) (hP : P < w0.heap.size) (hS : w0.heap.size ≤ S) (hS' : S < w1.heap.size) : Ret w0 P s ere o v w3 :=
 ⟨(h.is.ks k' (fun _ hb _ => by omega)).weak (fun _ hb _ => Nat.le_trans k.size hb), h.rd.ks k' (by omega) (by omega), (k.trans h.ks).off k' hS hP⟩
theorem Kp.grown {w w' : World} (k : Kp w w') (row : Option Nat) : w.grownBy w' row := ⟨k.os, k.tape, k.output, k.size, fun b hb _ => k.block b hb⟩
theorem wd_ff (i : Nat) : wd (fun _ => false) i = 0 := wd_none i
theorem W4.of_none : W4.of (fun _ => false) = W4.z := by unfold W4.of W4.z; simp only [wd_none]
abbrev rzv : Value := rz
theorem is_zero (w : World) (ok : Nat → Prop) : Is w ok rx0 rz := Is.leaf w ok 0 0 0 0 W4.z

theorem field91 (a b c : Value) (w : World) : (Instr.field 115 (.agg #[a, b, c]) 0).run Tryz.prog w = .ok a w := by kernel_rfl
theorem take_ret (x y z : Nat) (k mn mx m : Int) (t : W4) (ad : Option Addr) (l c : Nat) (s : ByteArray) (ere : Bool) (i n g d P : Nat) (r : Rx) (w0 w : World) (h : Rd w P s ere i n g d) (hi : i ≤ 1000000000) (hz : z ≤ 100) (hn : n ≤ 1000000000)
  (hI : Is w (fun b => w0.heap.size ≤ b) r (rxv k mn mx m t (.slice ad l c))) (hk : Ks P w0 w) (hP : P < w0.heap.size) :
  Calls Tryz.prog 113 #[.pointer (some ⟨P, 0, none⟩), .agg #[.int .i64 (x : Int), .int .u8 (y : Int), .int .i64 (z : Int)], rxv k mn mx m t (.slice ad l c)] w fun e w' => e = .returned (.tuple #[rxv k mn mx m t (.slice ad l c), .int .i64 0]) ∧ Ret w0 P s ere (pTake z r ⟨i, n, g, d⟩) (rxv k mn mx m t (.slice ad l c)) w' ∧ Ks P w w' := by
 refine (take_any x y z k mn mx m t ad l c s ere i n g d P w h hi hz hn).mono ?_
 rintro e w' ⟨rfl, r', k'⟩
 exact ⟨rfl, ⟨hI.ks k' (fun _ hb _ => by omega), r', hk.trans k'⟩, k'⟩
theorem take_ret0 (x y z : Nat) (k mn mx m : Int) (ad : Option Addr) (l c : Nat) (s : ByteArray) (ere : Bool) (i n g d P : Nat) (r : Rx) (w0 w : World) (h : Rd w P s ere i n g d) (hi : i ≤ 1000000000) (hz : z ≤ 100) (hn : n ≤ 1000000000)
  (hI : Is w (fun b => w0.heap.size ≤ b) r (rxv k mn mx m W4.z (.slice ad l c))) (hk : Ks P w0 w) (hP : P < w0.heap.size) :
  Calls Tryz.prog 113 #[.pointer (some ⟨P, 0, none⟩), .agg #[.int .i64 (x : Int), .int .u8 (y : Int), .int .i64 (z : Int)], .agg #[.int .i64 k, .int .i64 mn, .int .i64 mx, .int .i64 m, .int .u64 0, .int .u64 0, .int .u64 0, .int .u64 0, .slice ad l c]] w fun e w' => e = .returned (.tuple #[.agg #[.int .i64 k, .int .i64 mn, .int .i64 mx, .int .i64 m, .int .u64 0, .int .u64 0, .int .u64 0, .int .u64 0, .slice ad l c], .int .i64 0]) ∧ Ret w0 P s ere (pTake z r ⟨i, n, g, d⟩) (rxv k mn mx m W4.z (.slice ad l c)) w' ∧ Ks P w w' :=
 take_ret x y z k mn mx m W4.z ad l c s ere i n g d P r w0 w h hi hz hn hI hk hP
theorem Ret.fail {w0 w1 w2 : World} {P S : Nat} {s : ByteArray} {ere : Bool} {e i n g d : Nat} (R : Rd w1 P s ere i n g d) (k : Ks P w0 w1) (k' : Ks S w1 w2) (hP : P < w0.heap.size) (hS : w0.heap.size ≤ S) : Ret w0 P s ere ⟨rx0, e, ⟨i, n, g, d⟩⟩ rz w2 :=
 ⟨is_zero _ _, R.ks k' (by omega) (by omega), k.off k' hS hP⟩
end Go.Proofs.YtnajcnhgeggngaaGreat

/-! ### RetE -/

namespace Go.Proofs.YtnajcnhgeggngaaGreat
open Go.RowKit

structure RetE (w0 : World) (P : Nat) (s : ByteArray) (ere : Bool) (o : Out) (e : Ending) (w' : World) : Prop where
 ex : ∃ v, e = .returned (.tuple #[v, .int .i64 (o.e : Nat)]) ∧ Ret w0 P s ere o v w'

theorem Ret.fin {w0 w2 w3 : World} {P B : Nat} {s : ByteArray} {ere : Bool} {o : Out} {v : Value} (I : Is w2 (fun b => w0.heap.size ≤ b ∧ b ≠ B) o.r v) (R : Rd w2 P s ere o.st.i o.st.n o.st.g o.st.d) (K : Ks P w0 w2) (k : Ks B w2 w3) (hP : P < w0.heap.size) (hB : w0.heap.size ≤ B) : Ret w0 P s ere o v w3 :=
 ⟨(I.ks k (fun _ hb _ => hb.2)).weak (fun _ hb _ => hb.1), R.ks k (by omega) (by omega), K.off k hB hP⟩

theorem Is.one {w : World} {ok : Nat → Prop} {r : Rx} {v : Value} {C : Nat} (h : Is w ok r v) (hc : CellsAt w C 0 v) (hok : ok C) (hl : C < w.heap.size) (k mn mx n : Int) (s : W4) : Is w ok (.mk k mn mx n s [r]) (rxv k mn mx n s (.slice (some ⟨C, 0, none⟩) 1 1)) := by
 unfold Is
 refine ⟨_, 1, 1, rfl, rfl, Nat.le_refl _, fun _ => ⟨C, 0, rfl, hok, hl, ?_⟩⟩
 unfold IsL
 exact ⟨⟨v, h, hc⟩, by unfold IsL; trivial⟩
theorem cells_new (w : World) (k mn mx m : Int) (t : W4) (ad : Option Addr) (l c : Nat) : CellsAt (w.alloc (rxo k mn mx m t (.slice ad l c))) w.heap.size 0 (rxv k mn mx m t (.slice ad l c)) := by
 intro j u hj
 rw [Nat.zero_add]
 refine bl_cell (last_of w _) j u ?_
 rw [← Array.getElem?_toList]
 exact hj

theorem qs_sz (b : Nat) (ere : Bool) : (qs b ere).2.2 ≤ 2 ∧ ((qs b ere).1 ≠ 0 → (qs b ere).2.2 = 2) := by
 unfold qs
 repeat' split
 all_goals simp
theorem sgn_sz (s : ByteArray) (ere : Bool) (i : Nat) (hi : i ≤ s.size) : i + (sgn s ere i).2.2 ≤ s.size ∧ (sgn s ere i).2.2 ≤ 2 ∧ ((sgn s ere i).1 ≠ 1 → (sgn s ere i).1 ≠ 0 → 1 ≤ (sgn s ere i).2.2) := by
 unfold sgn
 split
 ·
  exact ⟨by simpa using hi, by simp, by simp⟩
 ·
  split
  ·
   unfold quoted
   split
   ·
    exact ⟨by simpa using hi, by simp, by simp⟩
   ·
    rename_i h0
    rw [ext_size s (i + 1) (by omega)] at h0
    have := qs_sz (ch (s.extract (i + 1) s.size) 0) ere
    exact ⟨by omega, this.1, fun _ h => by rw [this.2 h]; omega⟩
  ·
   exact ⟨by simp; omega, by simp, by simp⟩

theorem take_any0 (x y z : Nat) (k mn mx m : Int) (ad : Option Addr) (l c : Nat) (s : ByteArray) (ere : Bool) (i n g d P : Nat) (w : World) (h : Rd w P s ere i n g d) (hi : i ≤ 1000000000) (hz : z ≤ 100) (hn : n ≤ 1000000000) :
  Calls Tryz.prog 113 #[.pointer (some ⟨P, 0, none⟩), .agg #[.int .i64 (x : Int), .int .u8 (y : Int), .int .i64 (z : Int)], .agg #[.int .i64 k, .int .i64 mn, .int .i64 mx, .int .i64 m, .int .u64 0, .int .u64 0, .int .u64 0, .int .u64 0, .slice ad l c]] w fun e w' => e = .returned (.tuple #[.agg #[.int .i64 k, .int .i64 mn, .int .i64 mx, .int .i64 m, .int .u64 0, .int .u64 0, .int .u64 0, .int .u64 0, .slice ad l c], .int .i64 0]) ∧ Rd w' P s ere (i + z) (n + 1) g d ∧ Ks P w w' :=
 take_any x y z k mn mx m W4.z ad l c s ere i n g d P w h hi hz hn
end Go.Proofs.YtnajcnhgeggngaaGreat

/-! ### Num -/

namespace Go.Proofs.YtnajcnhgeggngaaGreat
set_option maxHeartbeats 2000000
set_option maxRecDepth 100000
open Go.RowKit

theorem rng_dig (b : Nat) : rng 48 57 b = true ↔ 48 ≤ b ∧ b ≤ 57 := by unfold rng; simp

theorem number_any (s : ByteArray) (ere : Bool) (i n g d P : Nat) (w : World) (h : Rd w P s ere i n g d) (hi : i ≤ s.size) (hs : s.size ≤ 1000000) :
  Calls Tryz.prog 132 #[.pointer (some ⟨P, 0, none⟩)] w fun e w' => e = .returned (.tuple #[.int .i64 ((pNum s i).1 : Nat), .bool (pNum s i).2.1]) ∧ Rd w' P s ere (pNum s i).2.2 n g d ∧ Ks P w w' := by
 have R : Hid (Rd w P s ere i n g d) := h
 have hP : P < w.heap.size := h.lt
 clear h
 go_enter Tryz.func132, Tryz.ntmps132
 go_wp2_with fail
 refine (range_any 48 57 _ (by omega) (by omega)).mono ?_
 rintro e w1 ⟨rfl, kq⟩
 have hs1 : w.heap.size ≤ w1.heap.size := kq.size
 have R1 : Hid (Rd w1 P s ere i n g d ∧ Ks P w w1) := ⟨R.out.kp kq, kq.ks (Nat.le_of_lt hP)⟩
 clear kq R
 go_wp2_with fail
 go_loopg [2, 3] (s.size + 1) (fun k v2 v3 wr => ∃ (m : Nat) (ok : Bool) (j : Nat), v2 = .int .i64 (m : Int) ∧ v3 = .bool ok ∧ m ≤ 21 ∧ j ≤ s.size ∧ s.size < k + j ∧ pNumL s k m ok j = pNum s i ∧ At wr w1.heap.size (rng 48 57) ∧ Rd wr P s ere j n g d ∧ Ks P w wr)
 case atStart => exact ⟨0, false, i, rfl, rfl, by omega, hi, by omega, rfl, At.new _ _, R1.out.1.kp kpt, R1.out.2.kpt kpt hP⟩
 case round =>
  obtain ⟨m, ok, j, rfl, rfl, hm, hj, hk, hp, hA, hR, hK⟩ := hrel
  obtain ⟨k, rfl⟩ : ∃ k, gk = k + 1 := ⟨gk - 1, by omega⟩
  have A : Hid (At wr w1.heap.size (rng 48 57)) := hA
  have R : Hid (Rd wr P s ere j n g d) := hR
  have K : Hid (Ks P w wr) := hK
  have HP := hid hp
  clear hA hR hK hp R1
  have hsr := K.out.size
  have hPr : P < wr.heap.size := by omega
  have gj : IntKind.i64.wrap ((j : Int) + 1) = (j : Int) + 1 := by rw [IntKind.wrap_i64]; omega
  by_cases hlt : j < s.size
  ·
   have hli : (j : Int) < (s.size : Int) := by omega
   have ec := run_ch s j hlt
   obtain ⟨b, hb⟩ : ∃ b, ch s j = b := ⟨_, rfl⟩
   have HB := hid hb
   have hb256 : b < 256 := by rw [← hb]; exact ch_lt _ _
   rw [hb] at ec
   clear hb
   by_cases hd : rng 48 57 b = true
   ·
    have HD : Hid (rng 48 57 b = true) := hd
    have hd' := (rng_dig b).1 hd
    clear hd
    have g1 : IntKind.i64.wrap (10 * (m : Int)) = 10 * (m : Int) := by rw [IntKind.wrap_i64]; omega
    have g2 : IntKind.u8.wrap ((b : Int) - 48) = (b : Int) - 48 := by rw [IntKind.wrap_u8']; omega
    have g3 : IntKind.i64.wrap ((b : Int) - 48) = (b : Int) - 48 := by rw [IntKind.wrap_i64]; omega
    have g4 : IntKind.i64.wrap (10 * (m : Int) + ((b : Int) - 48)) = 10 * (m : Int) + ((b : Int) - 48) := by rw [IntKind.wrap_i64]; omega
    have E : Hid (pNumL s k (min (10 * m + (b - 48)) 21) true (j + 1) = pNum s i) := by
     have := HP.out
     unfold pNumL at this
     rw [HB.out, HD.out, decide_eq_true hlt] at this
     exact this
    go_upto_region 2 with fail
    go_cut [28] (fun v wc => v = .bool true ∧ Kp wr wc)
    case first =>
     have Q0 : Kp wr wr.drew := (Kp.refl _).drew
     have MK : Hid (∀ W, Kp wr W → W.cell? ⟨P, 0, none⟩ = some (.string s) ∧ W.cell? ⟨P, 2, none⟩ = some (.int .i64 (j : Int)) ∧ W.cell? ⟨w1.heap.size, 0, none⟩ = some (.int .u64 (wd (rng 48 57) 0 : Nat)) ∧ W.cell? ⟨w1.heap.size, 1, none⟩ = some (.int .u64 (wd (rng 48 57) 1 : Nat)) ∧ W.cell? ⟨w1.heap.size, 2, none⟩ = some (.int .u64 (wd (rng 48 57) 2 : Nat)) ∧ W.cell? ⟨w1.heap.size, 3, none⟩ = some (.int .u64 (wd (rng 48 57) 3 : Nat)) ∧ Hid (Kp wr W)) := fun W k => ⟨(R.out.kp k).cells.1, (R.out.kp k).cells.2.2.1, (A.out.kp k).cells.1, (A.out.kp k).cells.2.1, (A.out.kp k).cells.2.2.1, (A.out.kp k).cells.2.2.2, k⟩
     refine wp_region_noPanic ?_
     refine hdrew MK Q0 (fun hH => ?_)
     have KQ := Q0
     refine tk 0 (some 6) (Op.move (Operand.tmp 0)) 95 (v := ?v0a1) rfl ?h0a1 hH ?_
     case h0a1 => intro _ _; go_simp; try with_reducible rfl
     try simp only [ps]
     refine tk 1 (some 7) (Op.nilCheck (Operand.tmp 6)) 0 (v := ?v1a2) rfl ?h1a2 hH ?_
     case h1a2 => intro _ _; go_simp; try with_reducible rfl
     try simp only [ps]
     refine tk 2 (some 8) (Op.fieldAddr 65 (Operand.tmp 7) 2) 0 (v := ?v2a3) rfl ?h2a3 hH ?_
     case h2a3 => intro _ _; go_simp; try with_reducible rfl
     try simp only [ps]
     refine tk 3 (some 9) (Op.load 3 (Operand.tmp 8)) 3 (v := ?v3a4) rfl ?h3a4 hH ?_
     case h3a4 => intro _ _; go_simp; try with_reducible rfl
     try simp only [ps]
     refine tk 4 (some 10) (Op.move (Operand.tmp 0)) 95 (v := ?v4a5) rfl ?h4a5 hH ?_
     case h4a5 => intro _ _; go_simp; try with_reducible rfl
     try simp only [ps]
     refine tk 5 (some 11) (Op.nilCheck (Operand.tmp 10)) 0 (v := ?v5a6) rfl ?h5a6 hH ?_
     case h5a6 => intro _ _; go_simp; try with_reducible rfl
     try simp only [ps]
     refine tk 6 (some 12) (Op.fieldAddr 65 (Operand.tmp 11) 0) 0 (v := ?v6a7) rfl ?h6a7 hH ?_
     case h6a7 => intro _ _; go_simp; try with_reducible rfl
     try simp only [ps]
     refine tk 7 (some 13) (Op.load 9 (Operand.tmp 12)) 9 (v := ?v7a8) rfl ?h7a8 hH ?_
     case h7a8 => intro _ _; go_simp; try with_reducible rfl
     try simp only [ps]
     refine tk 8 (some 14) (Op.call { callee := Callee.builtin Builtin.len, args := #[Operand.tmp 13], argTypes := #[9] }) 3 (v := ?v8a9) rfl ?h8a9 hH ?_
     case h8a9 => intro _ _; go_simp; try with_reducible rfl
     try simp only [ps]
     refine tk 9 (some 15) (Op.binOp BinOp.lss 3 (Operand.tmp 9) (Operand.tmp 14) 3) 4 (v := ?v9a10) rfl ?h9a10 hH ?_
     case h9a10 => intro _ _; go_simp; try with_reducible rfl
     try simp only [ps]
     refine tk 10 (some 16) (Op.move (Operand.tmp 15)) 4 (v := ?v10a11) rfl ?h10a11 hH ?_
     case h10a11 => intro _ _; go_simp; try with_reducible rfl
     try simp only [ps]
     refine tk 11 (some 17) (Op.load 24 (Operand.tmp 4)) 24 (v := ?v11a12) rfl ?h11a12 hH ?_
     case h11a12 => intro _ _; go_simp; try with_reducible rfl
     try simp only [ps]
     refine tk 12 (some 18) (Op.move (Operand.tmp 0)) 95 (v := ?v12a13) rfl ?h12a13 hH ?_
     case h12a13 => intro _ _; go_simp; try with_reducible rfl
     try simp only [ps]
     refine tk 13 (some 19) (Op.nilCheck (Operand.tmp 18)) 0 (v := ?v13a14) rfl ?h13a14 hH ?_
     case h13a14 => intro _ _; go_simp; try with_reducible rfl
     try simp only [ps]
     refine tk 14 (some 20) (Op.fieldAddr 65 (Operand.tmp 19) 0) 0 (v := ?v14a15) rfl ?h14a15 hH ?_
     case h14a15 => intro _ _; go_simp; try with_reducible rfl
     try simp only [ps]
     refine tk 15 (some 21) (Op.load 9 (Operand.tmp 20)) 9 (v := ?v15a16) rfl ?h15a16 hH ?_
     case h15a16 => intro _ _; go_simp; try with_reducible rfl
     try simp only [ps]
     refine tk 16 (some 22) (Op.move (Operand.tmp 0)) 95 (v := ?v16a17) rfl ?h16a17 hH ?_
     case h16a17 => intro _ _; go_simp; try with_reducible rfl
     try simp only [ps]
     refine tk 17 (some 23) (Op.nilCheck (Operand.tmp 22)) 0 (v := ?v17a18) rfl ?h17a18 hH ?_
     case h17a18 => intro _ _; go_simp; try with_reducible rfl
     try simp only [ps]
     refine tk 18 (some 24) (Op.fieldAddr 65 (Operand.tmp 23) 2) 0 (v := ?v18a19) rfl ?h18a19 hH ?_
     case h18a19 => intro _ _; go_simp; try with_reducible rfl
     try simp only [ps]
     refine tk 19 (some 25) (Op.load 3 (Operand.tmp 24)) 3 (v := ?v19a20) rfl ?h19a20 hH ?_
     case h19a20 => intro _ _; go_simp; try with_reducible rfl
     try simp only [ps]
     refine tk 20 (some 26) (Op.index 9 (Operand.tmp 21) (Operand.tmp 25)) 5 (v := ?v20a21) rfl ?h20a21 hH ?_
     case h20a21 => intro _ _; go_simp; try with_reducible rfl
     try simp only [ps]
     refine wpAnyH_ready (rs := [21]) (by kernel_rfl) (by simp) ?_
     refine AllReadyH.cons (o := { dst := some 27, op := Op.call { callee := Callee.value (Operand.func 106), args := #[Operand.tmp 17, Operand.tmp 26], argTypes := #[24, 5] }, type := 4, pos := "parse.go:221", after := #[{ on := 11, ground := Ground.data }, { on := 20, ground := Ground.data }, { on := 10, ground := Ground.chain }, { on := 10, ground := Ground.guard }], guard := some (10, true) }) rfl (fun K hKq => ?_) AllReadyH.nil
     go_simp
     refine (has_any (rng 48 57) b _ hb256).mono ?_
     rintro e y1 ⟨rfl, kq⟩
     rw [HD.out]
     refine hKq.out _ _ (MK.out _ (KQ.trans kq)) (fun hN => ?_)
     clear kq
     clear hKq K hH KQ
     have hH := hN
     clear hN
     have KQ := hH.2.2.2.2.2.2.out
     try simp only [ps]
     refine tk 22 (some 28) (Op.pick (Operand.tmp 16) (Operand.tmp 27) (Operand.const (Value.bool false))) 4 (v := ?v22a22) rfl ?h22a22 hH ?_
     case h22a22 => intro _ _; go_simp; try with_reducible rfl
     try simp only [ps]
     refine wpAnyH_done (by kernel_rfl) ?_ _
     refine NoPanic.normal ?_
     go_wp2_with fail
     go_meet
     case rel => exact ⟨rfl, KQ⟩
    case rest =>
     obtain ⟨rfl, k2⟩ := hcut
     rename World => W2
     have A2 : Hid (At W2 w1.heap.size (rng 48 57)) := A.out.kp k2
     have R2 : Hid (Rd W2 P s ere j n g d) := R.out.kp k2
     have K2 : Hid (Ks P w W2) := K.out.kpt k2 hP
     clear k2 A R K
     go_upto_region 3 with fail
     go_cut [2, 3] (fun v u wc => v = .int .i64 ((min (10 * m + (b - 48)) 21 : Nat) : Int) ∧ u = .bool true ∧ Kp W2 wc)
     case first =>
      have Q0 : Kp W2 W2.drew := (Kp.refl _).drew
      have MK : Hid (∀ W, Kp W2 W → W.cell? ⟨P, 0, none⟩ = some (.string s) ∧ W.cell? ⟨P, 2, none⟩ = some (.int .i64 (j : Int)) ∧ Hid (Kp W2 W)) := fun W k => ⟨(R2.out.kp k).cells.1, (R2.out.kp k).cells.2.2.1, k⟩
      refine wp_region_noPanic ?_
      refine hdrew MK Q0 (fun hH => ?_)
      have KQ := Q0
      refine tk 0 (some 29) (Op.move (Operand.tmp 2)) 3 (v := ?v0b1) rfl ?h0b1 hH ?_
      case h0b1 => intro _ _; go_simp; try with_reducible rfl
      try simp only [ps]
      refine tk 1 (some 30) (Op.binOp BinOp.mul 3 (Operand.const (Value.int IntKind.i64 10)) (Operand.tmp 29) 3) 3 (v := ?v1b2) rfl ?h1b2 hH ?_
      case h1b2 => intro _ _; go_simp; try with_reducible rfl
      try simp only [ps]
      refine tk 2 (some 31) (Op.move (Operand.tmp 0)) 95 (v := ?v2b3) rfl ?h2b3 hH ?_
      case h2b3 => intro _ _; go_simp; try with_reducible rfl
      try simp only [ps]
      refine tk 3 (some 32) (Op.nilCheck (Operand.tmp 31)) 0 (v := ?v3b4) rfl ?h3b4 hH ?_
      case h3b4 => intro _ _; go_simp; try with_reducible rfl
      try simp only [ps]
      refine tk 4 (some 33) (Op.fieldAddr 65 (Operand.tmp 32) 0) 0 (v := ?v4b5) rfl ?h4b5 hH ?_
      case h4b5 => intro _ _; go_simp; try with_reducible rfl
      try simp only [ps]
      refine tk 5 (some 34) (Op.load 9 (Operand.tmp 33)) 9 (v := ?v5b6) rfl ?h5b6 hH ?_
      case h5b6 => intro _ _; go_simp; try with_reducible rfl
      try simp only [ps]
      refine tk 6 (some 35) (Op.move (Operand.tmp 0)) 95 (v := ?v6b7) rfl ?h6b7 hH ?_
      case h6b7 => intro _ _; go_simp; try with_reducible rfl
      try simp only [ps]
      refine tk 7 (some 36) (Op.nilCheck (Operand.tmp 35)) 0 (v := ?v7b8) rfl ?h7b8 hH ?_
      case h7b8 => intro _ _; go_simp; try with_reducible rfl
      try simp only [ps]
      refine tk 8 (some 37) (Op.fieldAddr 65 (Operand.tmp 36) 2) 0 (v := ?v8b9) rfl ?h8b9 hH ?_
      case h8b9 => intro _ _; go_simp; try with_reducible rfl
      try simp only [ps]
      refine tk 9 (some 38) (Op.load 3 (Operand.tmp 37)) 3 (v := ?v9b10) rfl ?h9b10 hH ?_
      case h9b10 => intro _ _; go_simp; try with_reducible rfl
      try simp only [ps]
      refine tk 10 (some 39) (Op.index 9 (Operand.tmp 34) (Operand.tmp 38)) 5 (v := ?v10b11) rfl ?h10b11 hH ?_
      case h10b11 => intro _ _; go_simp; try with_reducible rfl
      try simp only [ps]
      refine tk 11 (some 40) (Op.binOp BinOp.sub 5 (Operand.tmp 39) (Operand.const (Value.int IntKind.u8 48)) 5) 5 (v := ?v11b12) rfl ?h11b12 hH ?_
      case h11b12 => intro _ _; go_simp; try with_reducible rfl
      try simp only [ps]
      refine tk 12 (some 41) (Op.convert 5 3 (Operand.tmp 40)) 3 (v := ?v12b13) rfl ?h12b13 hH ?_
      case h12b13 => intro _ _; go_simp; try with_reducible rfl
      try simp only [ps]
      refine tk 13 (some 42) (Op.binOp BinOp.add 3 (Operand.tmp 30) (Operand.tmp 41) 3) 3 (v := ?v13b14) rfl ?h13b14 hH ?_
      case h13b14 => intro _ _; go_simp; try with_reducible rfl
      try simp only [ps]
      refine tk 14 (some 43) (Op.call { callee := Callee.builtin Builtin.min, args := #[Operand.tmp 42, Operand.const (Value.int IntKind.i64 21)], argTypes := #[3, 3] }) 3 (v := ?v14b15) rfl ?h14b15 hH ?_
      case h14b15 => intro _ _; go_simp; try with_reducible rfl
      try simp only [ps]
      refine tk 15 (some 2) (Op.assign (Operand.tmp 43)) 3 (v := ?v15b16) rfl ?h15b16 hH ?_
      case h15b16 => intro _ _; go_simp; try with_reducible rfl
      try simp only [ps]
      refine tk 16 (some 3) (Op.assign (Operand.const (Value.bool true))) 4 (v := ?v16b17) rfl ?h16b17 hH ?_
      case h16b17 => intro _ _; go_simp; try with_reducible rfl
      try simp only [ps]
      refine wpAnyH_done (by kernel_rfl) ?_ _
      refine NoPanic.normal ?_
      go_wp2_with fail
      go_meet
      case rel => exact ⟨by congr 1; omega, rfl, KQ⟩
     case rest =>
      obtain ⟨rfl, rfl, k3⟩ := hcut
      rename World => W3
      have A3 : Hid (At W3 w1.heap.size (rng 48 57)) := A2.out.kp k3
      have R3 : Hid (Rd W3 P s ere j n g d) := R2.out.kp k3
      have K3 : Hid (Ks P w W3) := K2.out.kpt k3 hP
      clear k3 A2 R2 K2
      have p2 := R3.out.cells.2.2.1
      have fp2 := bl_frozen R3.out.b 2
      go_wp2_with fail
      go_roundg k
      case measure => omega
      case rel => exact ⟨_, true, j + 1, rfl, rfl, by omega, by omega, by omega, E.out, bl_set A3.out (by omega) _, R3.out.at (j + 1), K3.out.set 2 _⟩
   ·
    have hd2 : rng 48 57 b = false := by simpa using hd
    have HD := hid hd2
    clear hd2
    clear hd
    have E : Hid (pNum s i = (m, ok, j)) := by
     have := HP.out
     unfold pNumL at this
     rw [HB.out, HD.out, decide_eq_true hlt] at this
     exact this.symm
    go_upto_region 2 with fail
    go_cut [28] (fun v wc => v = .bool false ∧ Kp wr wc)
    case first =>
     have Q0 : Kp wr wr.drew := (Kp.refl _).drew
     have MK : Hid (∀ W, Kp wr W → W.cell? ⟨P, 0, none⟩ = some (.string s) ∧ W.cell? ⟨P, 2, none⟩ = some (.int .i64 (j : Int)) ∧ W.cell? ⟨w1.heap.size, 0, none⟩ = some (.int .u64 (wd (rng 48 57) 0 : Nat)) ∧ W.cell? ⟨w1.heap.size, 1, none⟩ = some (.int .u64 (wd (rng 48 57) 1 : Nat)) ∧ W.cell? ⟨w1.heap.size, 2, none⟩ = some (.int .u64 (wd (rng 48 57) 2 : Nat)) ∧ W.cell? ⟨w1.heap.size, 3, none⟩ = some (.int .u64 (wd (rng 48 57) 3 : Nat)) ∧ Hid (Kp wr W)) := fun W k => ⟨(R.out.kp k).cells.1, (R.out.kp k).cells.2.2.1, (A.out.kp k).cells.1, (A.out.kp k).cells.2.1, (A.out.kp k).cells.2.2.1, (A.out.kp k).cells.2.2.2, k⟩
     refine wp_region_noPanic ?_
     refine hdrew MK Q0 (fun hH => ?_)
     have KQ := Q0
     refine tk 0 (some 6) (Op.move (Operand.tmp 0)) 95 (v := ?v0c1) rfl ?h0c1 hH ?_
     case h0c1 => intro _ _; go_simp; try with_reducible rfl
     try simp only [ps]
     refine tk 1 (some 7) (Op.nilCheck (Operand.tmp 6)) 0 (v := ?v1c2) rfl ?h1c2 hH ?_
     case h1c2 => intro _ _; go_simp; try with_reducible rfl
     try simp only [ps]
     refine tk 2 (some 8) (Op.fieldAddr 65 (Operand.tmp 7) 2) 0 (v := ?v2c3) rfl ?h2c3 hH ?_
     case h2c3 => intro _ _; go_simp; try with_reducible rfl
     try simp only [ps]
     refine tk 3 (some 9) (Op.load 3 (Operand.tmp 8)) 3 (v := ?v3c4) rfl ?h3c4 hH ?_
     case h3c4 => intro _ _; go_simp; try with_reducible rfl
     try simp only [ps]
     refine tk 4 (some 10) (Op.move (Operand.tmp 0)) 95 (v := ?v4c5) rfl ?h4c5 hH ?_
     case h4c5 => intro _ _; go_simp; try with_reducible rfl
     try simp only [ps]
     refine tk 5 (some 11) (Op.nilCheck (Operand.tmp 10)) 0 (v := ?v5c6) rfl ?h5c6 hH ?_
     case h5c6 => intro _ _; go_simp; try with_reducible rfl
     try simp only [ps]
     refine tk 6 (some 12) (Op.fieldAddr 65 (Operand.tmp 11) 0) 0 (v := ?v6c7) rfl ?h6c7 hH ?_
     case h6c7 => intro _ _; go_simp; try with_reducible rfl
     try simp only [ps]
     refine tk 7 (some 13) (Op.load 9 (Operand.tmp 12)) 9 (v := ?v7c8) rfl ?h7c8 hH ?_
     case h7c8 => intro _ _; go_simp; try with_reducible rfl
     try simp only [ps]
     refine tk 8 (some 14) (Op.call { callee := Callee.builtin Builtin.len, args := #[Operand.tmp 13], argTypes := #[9] }) 3 (v := ?v8c9) rfl ?h8c9 hH ?_
     case h8c9 => intro _ _; go_simp; try with_reducible rfl
     try simp only [ps]
     refine tk 9 (some 15) (Op.binOp BinOp.lss 3 (Operand.tmp 9) (Operand.tmp 14) 3) 4 (v := ?v9c10) rfl ?h9c10 hH ?_
     case h9c10 => intro _ _; go_simp; try with_reducible rfl
     try simp only [ps]
     refine tk 10 (some 16) (Op.move (Operand.tmp 15)) 4 (v := ?v10c11) rfl ?h10c11 hH ?_
     case h10c11 => intro _ _; go_simp; try with_reducible rfl
     try simp only [ps]
     refine tk 11 (some 17) (Op.load 24 (Operand.tmp 4)) 24 (v := ?v11c12) rfl ?h11c12 hH ?_
     case h11c12 => intro _ _; go_simp; try with_reducible rfl
     try simp only [ps]
     refine tk 12 (some 18) (Op.move (Operand.tmp 0)) 95 (v := ?v12c13) rfl ?h12c13 hH ?_
     case h12c13 => intro _ _; go_simp; try with_reducible rfl
     try simp only [ps]
     refine tk 13 (some 19) (Op.nilCheck (Operand.tmp 18)) 0 (v := ?v13c14) rfl ?h13c14 hH ?_
     case h13c14 => intro _ _; go_simp; try with_reducible rfl
     try simp only [ps]
     refine tk 14 (some 20) (Op.fieldAddr 65 (Operand.tmp 19) 0) 0 (v := ?v14c15) rfl ?h14c15 hH ?_
     case h14c15 => intro _ _; go_simp; try with_reducible rfl
     try simp only [ps]
     refine tk 15 (some 21) (Op.load 9 (Operand.tmp 20)) 9 (v := ?v15c16) rfl ?h15c16 hH ?_
     case h15c16 => intro _ _; go_simp; try with_reducible rfl
     try simp only [ps]
     refine tk 16 (some 22) (Op.move (Operand.tmp 0)) 95 (v := ?v16c17) rfl ?h16c17 hH ?_
     case h16c17 => intro _ _; go_simp; try with_reducible rfl
     try simp only [ps]
     refine tk 17 (some 23) (Op.nilCheck (Operand.tmp 22)) 0 (v := ?v17c18) rfl ?h17c18 hH ?_
     case h17c18 => intro _ _; go_simp; try with_reducible rfl
     try simp only [ps]
     refine tk 18 (some 24) (Op.fieldAddr 65 (Operand.tmp 23) 2) 0 (v := ?v18c19) rfl ?h18c19 hH ?_
     case h18c19 => intro _ _; go_simp; try with_reducible rfl
     try simp only [ps]
     refine tk 19 (some 25) (Op.load 3 (Operand.tmp 24)) 3 (v := ?v19c20) rfl ?h19c20 hH ?_
     case h19c20 => intro _ _; go_simp; try with_reducible rfl
     try simp only [ps]
     refine tk 20 (some 26) (Op.index 9 (Operand.tmp 21) (Operand.tmp 25)) 5 (v := ?v20c21) rfl ?h20c21 hH ?_
     case h20c21 => intro _ _; go_simp; try with_reducible rfl
     try simp only [ps]
     refine wpAnyH_ready (rs := [21]) (by kernel_rfl) (by simp) ?_
     refine AllReadyH.cons (o := { dst := some 27, op := Op.call { callee := Callee.value (Operand.func 106), args := #[Operand.tmp 17, Operand.tmp 26], argTypes := #[24, 5] }, type := 4, pos := "parse.go:221", after := #[{ on := 11, ground := Ground.data }, { on := 20, ground := Ground.data }, { on := 10, ground := Ground.chain }, { on := 10, ground := Ground.guard }], guard := some (10, true) }) rfl (fun K hKq => ?_) AllReadyH.nil
     go_simp
     refine (has_any (rng 48 57) b _ hb256).mono ?_
     rintro e y1 ⟨rfl, kq⟩
     rw [HD.out]
     refine hKq.out _ _ (MK.out _ (KQ.trans kq)) (fun hN => ?_)
     clear kq
     clear hKq K hH KQ
     have hH := hN
     clear hN
     have KQ := hH.2.2.2.2.2.2.out
     try simp only [ps]
     refine tk 22 (some 28) (Op.pick (Operand.tmp 16) (Operand.tmp 27) (Operand.const (Value.bool false))) 4 (v := ?v22c22) rfl ?h22c22 hH ?_
     case h22c22 => intro _ _; go_simp; try with_reducible rfl
     try simp only [ps]
     refine wpAnyH_done (by kernel_rfl) ?_ _
     refine NoPanic.normal ?_
     go_wp2_with fail
     go_meet
     case rel => exact ⟨rfl, KQ⟩
    case rest =>
     obtain ⟨rfl, k2⟩ := hcut
     rename World => W2
     have R2 : Hid (Rd W2 P s ere j n g d) := R.out.kp k2
     have K2 : Hid (Ks P w W2) := K.out.kpt k2 hP
     clear k2 A R K
     go_wp2_with fail
     go_ret2
     exact ⟨by rw [E.out]; rfl, by rw [E.out]; exact R2.out, K2.out⟩
  ·
   have hli : ¬ (j : Int) < (s.size : Int) := by omega
   have E : Hid (pNum s i = (m, ok, j)) := by
    have := HP.out
    unfold pNumL at this
    rw [decide_eq_false hlt] at this
    exact this.symm
   go_upto_region 2 with fail
   go_cut [28] (fun v wc => v = .bool false ∧ Kp wr wc)
   case first =>
    have Q0 : Kp wr wr.drew := (Kp.refl _).drew
    have MK : Hid (∀ W, Kp wr W → W.cell? ⟨P, 0, none⟩ = some (.string s) ∧ W.cell? ⟨P, 2, none⟩ = some (.int .i64 (j : Int)) ∧ W.cell? ⟨w1.heap.size, 0, none⟩ = some (.int .u64 (wd (rng 48 57) 0 : Nat)) ∧ W.cell? ⟨w1.heap.size, 1, none⟩ = some (.int .u64 (wd (rng 48 57) 1 : Nat)) ∧ W.cell? ⟨w1.heap.size, 2, none⟩ = some (.int .u64 (wd (rng 48 57) 2 : Nat)) ∧ W.cell? ⟨w1.heap.size, 3, none⟩ = some (.int .u64 (wd (rng 48 57) 3 : Nat)) ∧ Hid (Kp wr W)) := fun W k => ⟨(R.out.kp k).cells.1, (R.out.kp k).cells.2.2.1, (A.out.kp k).cells.1, (A.out.kp k).cells.2.1, (A.out.kp k).cells.2.2.1, (A.out.kp k).cells.2.2.2, k⟩
    refine wp_region_noPanic ?_
    refine hdrew MK Q0 (fun hH => ?_)
    have KQ := Q0
    refine tk 0 (some 6) (Op.move (Operand.tmp 0)) 95 (v := ?v0d1) rfl ?h0d1 hH ?_
    case h0d1 => intro _ _; go_simp; try with_reducible rfl
    try simp only [ps]
    refine tk 1 (some 7) (Op.nilCheck (Operand.tmp 6)) 0 (v := ?v1d2) rfl ?h1d2 hH ?_
    case h1d2 => intro _ _; go_simp; try with_reducible rfl
    try simp only [ps]
    refine tk 2 (some 8) (Op.fieldAddr 65 (Operand.tmp 7) 2) 0 (v := ?v2d3) rfl ?h2d3 hH ?_
    case h2d3 => intro _ _; go_simp; try with_reducible rfl
    try simp only [ps]
    refine tk 3 (some 9) (Op.load 3 (Operand.tmp 8)) 3 (v := ?v3d4) rfl ?h3d4 hH ?_
    case h3d4 => intro _ _; go_simp; try with_reducible rfl
    try simp only [ps]
    refine tk 4 (some 10) (Op.move (Operand.tmp 0)) 95 (v := ?v4d5) rfl ?h4d5 hH ?_
    case h4d5 => intro _ _; go_simp; try with_reducible rfl
    try simp only [ps]
    refine tk 5 (some 11) (Op.nilCheck (Operand.tmp 10)) 0 (v := ?v5d6) rfl ?h5d6 hH ?_
    case h5d6 => intro _ _; go_simp; try with_reducible rfl
    try simp only [ps]
    refine tk 6 (some 12) (Op.fieldAddr 65 (Operand.tmp 11) 0) 0 (v := ?v6d7) rfl ?h6d7 hH ?_
    case h6d7 => intro _ _; go_simp; try with_reducible rfl
    try simp only [ps]
    refine tk 7 (some 13) (Op.load 9 (Operand.tmp 12)) 9 (v := ?v7d8) rfl ?h7d8 hH ?_
    case h7d8 => intro _ _; go_simp; try with_reducible rfl
    try simp only [ps]
    refine tk 8 (some 14) (Op.call { callee := Callee.builtin Builtin.len, args := #[Operand.tmp 13], argTypes := #[9] }) 3 (v := ?v8d9) rfl ?h8d9 hH ?_
    case h8d9 => intro _ _; go_simp; try with_reducible rfl
    try simp only [ps]
    refine tk 9 (some 15) (Op.binOp BinOp.lss 3 (Operand.tmp 9) (Operand.tmp 14) 3) 4 (v := ?v9d10) rfl ?h9d10 hH ?_
    case h9d10 => intro _ _; go_simp; try with_reducible rfl
    try simp only [ps]
    refine tk 10 (some 16) (Op.move (Operand.tmp 15)) 4 (v := ?v10d11) rfl ?h10d11 hH ?_
    case h10d11 => intro _ _; go_simp; try with_reducible rfl
    try simp only [ps]
    refine tn 11 (some 17) (Op.load 24 (Operand.tmp 4)) 24 rfl hH ?_
    try simp only [ps]
    refine tn 12 (some 18) (Op.move (Operand.tmp 0)) 95 rfl hH ?_
    try simp only [ps]
    refine tn 13 (some 19) (Op.nilCheck (Operand.tmp 18)) 0 rfl hH ?_
    try simp only [ps]
    refine tn 14 (some 20) (Op.fieldAddr 65 (Operand.tmp 19) 0) 0 rfl hH ?_
    try simp only [ps]
    refine tn 15 (some 21) (Op.load 9 (Operand.tmp 20)) 9 rfl hH ?_
    try simp only [ps]
    refine tn 16 (some 22) (Op.move (Operand.tmp 0)) 95 rfl hH ?_
    try simp only [ps]
    refine tn 17 (some 23) (Op.nilCheck (Operand.tmp 22)) 0 rfl hH ?_
    try simp only [ps]
    refine tn 18 (some 24) (Op.fieldAddr 65 (Operand.tmp 23) 2) 0 rfl hH ?_
    try simp only [ps]
    refine tn 19 (some 25) (Op.load 3 (Operand.tmp 24)) 3 rfl hH ?_
    try simp only [ps]
    refine tn 20 (some 26) (Op.index 9 (Operand.tmp 21) (Operand.tmp 25)) 5 rfl hH ?_
    try simp only [ps]
    refine tn 21 (some 27) (Op.call { callee := Callee.value (Operand.func 106), args := #[Operand.tmp 17, Operand.tmp 26], argTypes := #[24, 5] }) 4 rfl hH ?_
    try simp only [ps]
    refine tk 22 (some 28) (Op.pick (Operand.tmp 16) (Operand.tmp 27) (Operand.const (Value.bool false))) 4 (v := ?v22d23) rfl ?h22d23 hH ?_
    case h22d23 => intro _ _; go_simp; try with_reducible rfl
    try simp only [ps]
    refine wpAnyH_done (by kernel_rfl) ?_ _
    refine NoPanic.normal ?_
    go_wp2_with fail
    go_meet
    case rel => exact ⟨rfl, KQ⟩
   case rest =>
    obtain ⟨rfl, k2⟩ := hcut
    rename World => W2
    have R2 : Hid (Rd W2 P s ere j n g d) := R.out.kp k2
    have K2 : Hid (Ks P w W2) := K.out.kpt k2 hP
    clear k2 A R K
    go_wp2_with fail
    go_ret2
    exact ⟨by rw [E.out]; rfl, by rw [E.out]; exact R2.out, K2.out⟩
end Go.Proofs.YtnajcnhgeggngaaGreat

/-! ### Keep -/

namespace Go.Proofs.YtnajcnhgeggngaaGreat
set_option maxHeartbeats 2000000
set_option maxRecDepth 100000
open Go.RowKit
attribute [local go_sem] field91

theorem keep_any (base : Nat) (v : Value) (ts : List Rx) (r : Rx) (k mn mx m : Int) (t : W4) (ad : Option Addr) (l c : Nat) (s : ByteArray) (ere : Bool) (i n g d P : Nat) (w : World) (h : Rd w P s ere i n g d) (hK : RKids base w v ts) (hI : Is w (fun b => base ≤ b ∧ v.ownBlock ≠ some b) r (rxv k mn mx m t (.slice ad l c))) (hb : base ≤ w.heap.size) (ht : ts.length ≤ 1000) :
  Calls Tryz.prog 46 #[.pointer (some ⟨P, 0, none⟩), v, rxv k mn mx m t (.slice ad l c)] w fun e w' => ∃ v', e = .returned v' ∧ RKids base w' v' (keepL n ts r) ∧ w.grownBy w' v.ownBlock := by
 have R : Hid (Rd w P s ere i n g d) := h
 have HK : Hid (RKids base w v ts) := hK
 have HI : Hid (Is w (fun b => base ≤ b ∧ v.ownBlock ≠ some b) r (rxv k mn mx m t (.slice ad l c))) := hI
 clear h hK hI
 by_cases hc : n > 40
 ·
  have E : Hid (keepL n ts r = ts) := by show _ = _; unfold keepL; rw [if_pos hc]
  have c1 : (40 : Int) < (n : Int) := by omega
  go_enter Tryz.func46, Tryz.ntmps46
  go_upto_region 1 with fail
  refine opq (fun W0 => Rd W0 P s ere i n g d ∧ W0.heap[w.heap.size]? = some (rxo k mn mx m t (.slice ad l c)) ∧ RKids base W0 v ts ∧ Is W0 (fun b => base ≤ b ∧ v.ownBlock ≠ some b) r (rxv k mn mx m t (.slice ad l c)) ∧ Kp w W0) ⟨by exact R.out.kp kpt, by (first | exact last_at _ _ _ (by simp) | (refine bl_alloc ?_ _; first | exact last_at _ _ _ (by simp) | (refine bl_alloc ?_ _; first | exact last_at _ _ _ (by simp) | (refine bl_alloc ?_ _; exact last_at _ _ _ (by simp))))), by exact HK.out.kp kpt, by exact HI.out.kp kpt, by exact kpt⟩ ?_
  rintro W0 ⟨xR0, xA0, xHK0, xHI0, xK0⟩
  have R0 := hid xR0
  have A0 := hid xA0
  have HK0 := hid xHK0
  have HI0 := hid xHI0
  have K0 := hid xK0
  clear xR0 xA0 xHK0 xHI0 xK0
  have p3 := R0.out.cells.2.2.2.1
  have hs0 := K0.out.size
  go_wp2
  go_ret
  exact ⟨_, rfl, by rw [E.out]; exact HK0.out, K0.out.grown _⟩
 ·
  have E : Hid (keepL n ts r = ts ++ [r]) := by show _ = _; unfold keepL; rw [if_neg hc]
  have c1 : ¬ (40 : Int) < (n : Int) := by omega
  go_enter Tryz.func46, Tryz.ntmps46
  go_upto_region 1 with fail
  refine opq (fun W0 => Rd W0 P s ere i n g d ∧ W0.heap[w.heap.size]? = some (rxo k mn mx m t (.slice ad l c)) ∧ RKids base W0 v ts ∧ Is W0 (fun b => base ≤ b ∧ v.ownBlock ≠ some b) r (rxv k mn mx m t (.slice ad l c)) ∧ Kp w W0) ⟨by exact R.out.kp kpt, by (first | exact last_at _ _ _ (by simp) | (refine bl_alloc ?_ _; first | exact last_at _ _ _ (by simp) | (refine bl_alloc ?_ _; first | exact last_at _ _ _ (by simp) | (refine bl_alloc ?_ _; exact last_at _ _ _ (by simp))))), by exact HK.out.kp kpt, by exact HI.out.kp kpt, by exact kpt⟩ ?_
  rintro W0 ⟨xR0, xA0, xHK0, xHI0, xK0⟩
  have R0 := hid xR0
  have A0 := hid xA0
  have HK0 := hid xHK0
  have HI0 := hid xHI0
  have K0 := hid xK0
  clear xR0 xA0 xHK0 xHI0 xK0
  have p3 := R0.out.cells.2.2.2.1
  have hs0 := K0.out.size
  obtain ⟨a0, a1, a2, a3, a4, a5, a6, a7, a8⟩ := cells9 (A0.out)
  go_wp2_with (at_builtin; go_must (refine wpList_append_rx W0 (by rfl) _ _ (by rfl) base v ts r (by rfl) HK0 k mn mx m t ad l c HI0 _ (by rfl) (by rfl) ?h1 ?h2 ?_))
  case h1 => omega
  case h2 => omega
  intro v' w' hk' hg'
  have HK' : Hid (RKids base w' v' (ts ++ [r])) := hk'
  have HG' : Hid (w.grownBy w' v.ownBlock) := ⟨hg'.os.trans K0.out.os, hg'.tape.trans K0.out.tape, hg'.output.trans K0.out.output, Nat.le_trans K0.out.size hg'.size, fun b hb hne => (hg'.block b (Nat.lt_of_lt_of_le hb K0.out.size) hne).trans (K0.out.block b hb)⟩
  clear hk' hg'
  go_wp2_with fail
  go_ret
  exact ⟨_, rfl, by rw [E.out]; exact HK'.out, HG'.out⟩

theorem rowEnds_any (s : ByteArray) (ere : Bool) (i n g d P : Nat) (w : World) (h : Rd w P s ere i n g d) (hi : i ≤ s.size) (hs : s.size ≤ 1000000) :
  Calls Tryz.prog 68 #[.pointer (some ⟨P, 0, none⟩)] w fun e w' => e = .returned (.bool (ends (sgn s ere i).1)) ∧ Kp w w' := by
 have R : Hid (Rd w P s ere i n g d) := h
 clear h
 obtain ⟨x, y, z, hg⟩ : ∃ x y z, sgn s ere i = (x, y, z) := ⟨_, _, _, rfl⟩
 have HG : Hid (sgn s ere i = (x, y, z)) := hg
 rw [hg]
 clear hg
 show Calls _ _ _ _ fun e w' => e = .returned (.bool (ends x)) ∧ _
 by_cases h1 : x = 1
 ·
  subst h1
  go_enter Tryz.func68, Tryz.ntmps68
  go_wp2_with fail
  refine (sign_any s ere i n g d P _ R.out hi hs).mono ?_
  rintro e w1 ⟨rfl, kq⟩
  rw [HG.out, sg3]
  have KQ : Hid (Kp w w1) := kq
  clear kq
  go_wp2_with fail
  go_ret
  exact ⟨rfl, KQ.out⟩
 by_cases h9 : x = 9
 ·
  subst h9
  go_enter Tryz.func68, Tryz.ntmps68
  go_wp2_with fail
  refine (sign_any s ere i n g d P _ R.out hi hs).mono ?_
  rintro e w1 ⟨rfl, kq⟩
  rw [HG.out, sg3]
  have KQ : Hid (Kp w w1) := kq
  clear kq
  go_wp2_with fail
  go_ret
  exact ⟨rfl, KQ.out⟩
 by_cases h8 : x = 8
 ·
  subst h8
  go_enter Tryz.func68, Tryz.ntmps68
  go_wp2_with fail
  refine (sign_any s ere i n g d P _ R.out hi hs).mono ?_
  rintro e w1 ⟨rfl, kq⟩
  rw [HG.out, sg3]
  have KQ : Hid (Kp w w1) := kq
  clear kq
  go_wp2_with fail
  go_ret
  exact ⟨rfl, KQ.out⟩
 have g1 : ((x : Int) == 1) = false := by simp; omega
 have g9 : ((x : Int) == 9) = false := by simp; omega
 have g8 : ((x : Int) == 8) = false := by simp; omega
 have E : Hid (ends x = false) := by show _ = _; unfold ends; simp [h1, h9, h8]
 go_enter Tryz.func68, Tryz.ntmps68
 go_wp2_with fail
 refine (sign_any s ere i n g d P _ R.out hi hs).mono ?_
 rintro e w1 ⟨rfl, kq⟩
 rw [HG.out, sg3]
 have KQ : Hid (Kp w w1) := kq
 clear kq
 go_wp2_with fail
 go_ret
 exact ⟨ret_bool E.out.symm, KQ.out⟩

theorem timesFit_any (a b : Int) (w : World) : Calls Tryz.prog 105 #[.int .i64 a, .int .i64 b] w fun e w' => e = .returned (.bool (timesFit a b)) ∧ w' = w := by
 by_cases h0 : a < 0
 ·
  have E : Hid (timesFit a b = false) := by show _ = _; unfold timesFit; rw [if_pos (Or.inl h0)]
  go_enter Tryz.func105, Tryz.ntmps105
  go_wp2
  go_ret
  exact ⟨ret_bool E.out.symm, rfl⟩
 by_cases h1 : a > 20
 ·
  have E : Hid (timesFit a b = false) := by show _ = _; unfold timesFit; rw [if_pos (Or.inr h1)]
  have h1' : (20 : Int) < a := h1
  go_enter Tryz.func105, Tryz.ntmps105
  go_wp2
  go_ret
  exact ⟨ret_bool E.out.symm, rfl⟩
 have h1' : ¬ (20 : Int) < a := h1
 by_cases h2 : b = -1
 ·
  subst h2
  have E : Hid (timesFit a (-1) = true) := by show _ = _; unfold timesFit; rw [if_neg (by omega)]; rfl
  go_enter Tryz.func105, Tryz.ntmps105
  go_wp2
  go_ret
  exact ⟨ret_bool E.out.symm, rfl⟩
 have g2 : (b == -1) = false := by simp [h2]
 by_cases h3 : max a 1 ≤ b
 ·
  by_cases h4 : b ≤ 20
  ·
   have E : Hid (timesFit a b = true) := by show _ = _; unfold timesFit; rw [if_neg (by omega), g2, decide_eq_true h3, decide_eq_true h4]; rfl
   go_enter Tryz.func105, Tryz.ntmps105
   go_wp2
   go_ret
   exact ⟨ret_bool E.out.symm, rfl⟩
  ·
   have E : Hid (timesFit a b = false) := by show _ = _; unfold timesFit; rw [if_neg (by omega), g2, decide_eq_true h3, decide_eq_false h4]; rfl
   go_enter Tryz.func105, Tryz.ntmps105
   go_wp2
   go_ret
   exact ⟨ret_bool E.out.symm, rfl⟩
 ·
  have E : Hid (timesFit a b = false) := by show _ = _; unfold timesFit; rw [if_neg (by omega), g2, decide_eq_false h3]; rfl
  go_enter Tryz.func105, Tryz.ntmps105
  go_wp2
  go_ret
  exact ⟨ret_bool E.out.symm, rfl⟩
end Go.Proofs.YtnajcnhgeggngaaGreat

/-! ### Int -/

namespace Go.Proofs.YtnajcnhgeggngaaGreat
set_option maxHeartbeats 2000000
set_option maxRecDepth 100000
open Go.RowKit

theorem pNumL_le (s : ByteArray) : ∀ f m ok i, i ≤ s.size → m ≤ 21 → i ≤ (pNumL s f m ok i).2.2 ∧ (pNumL s f m ok i).2.2 ≤ s.size ∧ (pNumL s f m ok i).1 ≤ 21
 | 0, m, ok, i, h, hm => by unfold pNumL; exact ⟨Nat.le_refl _, h, hm⟩
 | f + 1, m, ok, i, h, hm => by
  unfold pNumL
  split
  ·
   rename_i hc
   have hlt : i < s.size := by simp at hc; exact hc.1
   have := pNumL_le s f (min (10 * m + (ch s i - 48)) 21) true (i + 1) (by omega) (by omega)
   exact ⟨by omega, this.2.1, this.2.2⟩
  ·
   exact ⟨Nat.le_refl _, h, hm⟩
theorem pNum_le (s : ByteArray) (i : Nat) (h : i ≤ s.size) : i ≤ (pNum s i).2.2 ∧ (pNum s i).2.2 ≤ s.size ∧ (pNum s i).1 ≤ 21 := pNumL_le s _ 0 false i h (by omega)
theorem pHigh_le (s : ByteArray) (lo i : Nat) (h : i ≤ s.size) (hl : lo ≤ 21) : i ≤ (pHigh s lo i).2 ∧ (pHigh s lo i).2 ≤ s.size ∧ -1 ≤ (pHigh s lo i).1 ∧ (pHigh s lo i).1 ≤ 21 := by
 unfold pHigh
 split
 ·
  rename_i hp
  have h1 : i + 1 ≤ s.size := pfx_le hp h
  have := pNum_le s (i + 1) h1
  refine ⟨by show i ≤ (pNum s (i + 1)).2.2; omega, this.2.1, ?_, ?_⟩
  ·
   show -1 ≤ (if _ then _ else _ : Int)
   split <;> omega
  ·
   show (if _ then _ else _ : Int) ≤ 21
   split <;> omega
 ·
  exact ⟨Nat.le_refl _, h, by show (-1 : Int) ≤ (lo : Int); omega, by show (lo : Int) ≤ 21; omega⟩

structure RetI (w0 : World) (P : Nat) (s : ByteArray) (ere : Bool) (o : Option (Int × Int) × Nat) (n g d : Nat) (a b : Int) (ok : Bool) (w' : World) : Prop where
 eq : o.1 = if ok = true then some (a, b) else none
 rd : Rd w' P s ere o.2 n g d
 ks : Ks P w0 w'

structure RetIE (w0 : World) (P : Nat) (s : ByteArray) (ere : Bool) (o : Option (Int × Int) × Nat) (n g d : Nat) (e : Ending) (w' : World) : Prop where
 ex : ∃ a b ok, e = .returned (.tuple #[.int .i64 a, .int .i64 b, .bool ok]) ∧ RetI w0 P s ere o n g d a b ok w'

theorem interval_any (x y z : Nat) (s : ByteArray) (ere : Bool) (i n g d P : Nat) (w : World) (h : Rd w P s ere i n g d) (hi : i + z ≤ s.size) (hs : s.size ≤ 1000000) :
  Calls Tryz.prog 118 #[.pointer (some ⟨P, 0, none⟩), .agg #[.int .i64 (x : Int), .int .u8 (y : Int), .int .i64 (z : Int)]] w fun e w' => RetIE w P s ere (pInt s ere i z) n g d e w' := by
 have R : Hid (Rd w P s ere i n g d) := h
 have hP : P < w.heap.size := h.lt
 clear h
 have gw : IntKind.i64.wrap ((i : Int) + (z : Int)) = (i : Int) + (z : Int) := by rw [IntKind.wrap_i64]; omega
 obtain ⟨a, oka, ia, ha⟩ : ∃ a oka ia, pNum s (i + z) = (a, oka, ia) := ⟨_, _, _, rfl⟩
 have hle := pNum_le s (i + z) hi
 rw [ha] at hle
 obtain ⟨hle1, hle2, hle3⟩ := hle
 simp only at hle1 hle2 hle3
 have HA := hid ha
 clear ha
 go_enter Tryz.func118, Tryz.ntmps118
 go_upto_region 1 with fail
 refine opq (fun W0 => Rd W0 P s ere i n g d ∧ W0.heap[w.heap.size]? = some (sgo x y z) ∧ Kp w W0) ⟨by exact R.out.kp kpt, by (first | exact last_at _ _ _ (by simp) | (refine bl_alloc ?_ _; first | exact last_at _ _ _ (by simp) | (refine bl_alloc ?_ _; first | exact last_at _ _ _ (by simp) | (refine bl_alloc ?_ _; exact last_at _ _ _ (by simp))))), by exact kpt⟩ ?_
 rintro W0 ⟨xR0, xG0, xK0⟩
 have R0 := hid xR0
 have G0 := hid xG0
 have K0 := hid xK0
 clear xR0 xG0 xK0
 have p2 := R0.out.cells.2.2.1
 clear R
 go_upto_region 2 with fail
 clear p2
 have ks0 : Hid (Ks P w W0) := K0.out.ks (Nat.le_of_lt hP)
 clear K0
 go_cut [] (fun wc => Rd wc P s ere (i + z) n g d ∧ Ks P w wc)
 case first =>
  have Q0 : Kp W0 W0.drew := (Kp.refl _).drew
  have MK : Hid (∀ W, Kp W0 W → W.cell? ⟨P, 2, none⟩ = some (.int .i64 (i : Int)) ∧ W.cell? ⟨w.heap.size, 2, none⟩ = some (.int .i64 (z : Int)) ∧ Hid (Kp W0 W)) := fun W k => ⟨(R0.out.kp k).cells.2.2.1, bl_cell (bl_kp G0.out k) 2 _ rfl, k⟩
  refine wp_region_noPanic ?_
  refine hdrewZ 9 MK Q0 (fun hH => ?_)
  have KQ := Q0
  refine zk 9 0 [] (some 13) (Op.move (Operand.tmp 0)) 95 (v := ?v0a1) rfl ?h0a1 hH ?_
  case h0a1 => intro _ _; go_simp; try with_reducible rfl
  try simp only [ps]
  refine zk 9 1 [] (some 14) (Op.nilCheck (Operand.tmp 13)) 0 (v := ?v1a2) rfl ?h1a2 hH ?_
  case h1a2 => intro _ _; go_simp; try with_reducible rfl
  try simp only [ps]
  refine zk 9 2 [] (some 15) (Op.fieldAddr 65 (Operand.tmp 14) 2) 0 (v := ?v2a3) rfl ?h2a3 hH ?_
  case h2a3 => intro _ _; go_simp; try with_reducible rfl
  try simp only [ps]
  refine zk 9 3 [] (some 16) (Op.load 3 (Operand.tmp 15)) 3 (v := ?v3a4) rfl ?h3a4 hH ?_
  case h3a4 => intro _ _; go_simp; try with_reducible rfl
  try simp only [ps]
  refine zk 9 4 [] (some 17) (Op.fieldAddr 115 (Operand.tmp 3) 2) 0 (v := ?v4a5) rfl ?h4a5 hH ?_
  case h4a5 => intro _ _; go_simp; try with_reducible rfl
  try simp only [ps]
  refine zk 9 5 [] (some 18) (Op.load 3 (Operand.tmp 17)) 3 (v := ?v5a6) rfl ?h5a6 hH ?_
  case h5a6 => intro _ _; go_simp; try with_reducible rfl
  try simp only [ps]
  refine zk 9 6 [] (some 19) (Op.binOp BinOp.add 3 (Operand.tmp 16) (Operand.tmp 18) 3) 3 (v := ?v6a7) rfl ?h6a7 hH ?_
  case h6a7 => intro _ _; go_simp; try with_reducible rfl
  try simp only [ps]
  refine zk 9 7 [8] (some 20) (Op.nilCheck (Operand.tmp 13)) 0 (v := ?v7a8) rfl ?h7a8 hH ?_
  case h7a8 => intro _ _; go_simp; try with_reducible rfl
  try simp only [ps]
  refine zk 9 8 [] (some 21) (Op.fieldAddr 65 (Operand.tmp 20) 2) 0 (v := ?v8a9) rfl ?h8a9 hH ?_
  case h8a9 => intro _ _; go_simp; try with_reducible rfl
  try simp only [ps]
  refine anyZ_ready (rs := [9]) (by kernel_rfl) (by simp) ?_
  refine AllZ.last (o := { dst := none, op := Op.store 3 (Operand.tmp 21) (Operand.tmp 19), type := 0, pos := "parse.go:196", after := #[{ on := 8, ground := Ground.data }, { on := 6, ground := Ground.data }, { on := 0, ground := Ground.phase }, { on := 1, ground := Ground.phase }, { on := 2, ground := Ground.phase }, { on := 3, ground := Ground.phase }, { on := 4, ground := Ground.phase }, { on := 5, ground := Ground.phase }, { on := 6, ground := Ground.phase }], guard := none }) rfl (Or.inl rfl) (fun K hKq => ?_) AllZ.nil
  have fq2 := bl_frozen (R0.out.kp KQ).b 2
  have cq2 := (R0.out.kp KQ).cells.2.2.1
  go_simp
  refine hKq.out _ _ ?_
  clear fq2 cq2
  clear hKq K
  try simp only [ps]
  refine anyZ_done (by kernel_rfl) ?_ _
  refine NoPanic.normal ?_
  go_wp2_with fail
  go_meet
  case rel => exact ⟨(R0.out.kp KQ).at (i + z), (ks0.out.kpt KQ hP).set 2 _⟩
 case rest =>
  obtain ⟨r1, k1⟩ := hcut
  rename World => W1
  have R1 := hid r1
  have K1 := hid k1
  clear r1 k1 R0 G0 ks0
  go_wp2_with fail
  refine (number_any s ere (i + z) n g d P _ R1.out hi hs).mono ?_
  rintro e W2 ⟨rfl, r2, k2⟩
  rw [HA.out] at r2 ⊢
  have R2 : Hid (Rd W2 P s ere ia n g d) := r2
  have K2 : Hid (Ks P w W2) := K1.out.trans k2
  clear r2 k2 R1 K1
  dsimp only
  cases oka with
  | false =>
   have E : Hid (pInt s ere i z = (none, ia)) := by show _ = _; unfold pInt; rw [HA.out]; rfl
   have p1 := R2.out.cells.2.1
   have FIN : Hid (RetIE w P s ere (pInt s ere i z) n g d (.returned (.tuple #[.int .i64 0, .int .i64 0, .bool false])) W2) := ⟨0, 0, false, rfl, by rw [E.out]; rfl, by rw [E.out]; exact R2.out, K2.out⟩
   cases ere with
   | true =>
    go_wp2_with fail
    go_ret3
    exact FIN.out
   | false =>
    go_wp2_with fail
    go_ret3
    exact FIN.out
  | true =>
   obtain ⟨hg, ih, hh⟩ : ∃ hg ih, pHigh s a ia = (hg, ih) := ⟨_, _, rfl⟩
   have hle := pHigh_le s a ia hle2 hle3
   rw [hh] at hle
   obtain ⟨hle4, hle5, hle6, hle7⟩ := hle
   simp only at hle4 hle5 hle6 hle7
   have HH := hid hh
   clear hh
   obtain ⟨q, hq⟩ : ∃ q, pfx s ia [44] = q := ⟨_, rfl⟩
   have T1 : Hid (∀ w, Rd w P s ere ia n g d → Calls Tryz.prog 129 #[.pointer (some ⟨P, 0, none⟩), .string ⟨#[44]⟩] w fun e w' => e = .returned (.bool q) ∧ Rd w' P s ere (if q then ia + 1 else ia) n g d ∧ Ks P w w') := by
    intro w h
    have := takes_any ⟨#[44]⟩ s ere ia n g d P w h hle2 hs
    rw [show (⟨#[44]⟩ : ByteArray).data.toList = [44] from rfl, hq] at this
    exact this
   have HQ := hid hq
   have hq1 : q = true → ia + 1 ≤ s.size := fun h => by rw [h] at hq; exact pfx_le hq hle2
   have HQ1 := hid hq1
   clear hq hq1
   go_wp2_with fail
   refine (T1.out _ R2.out).mono ?_
   rintro e W3 ⟨rfl, r3, k3⟩
   have R3 := hid r3
   have K3 : Hid (Ks P w W3) := K2.out.trans k3
   clear r3 k3 R2 K2
   go_upto_if 32 with fail
   go_cut [5, 6] (fun h o wc => h = .int .i64 hg ∧ o = .bool true ∧ Rd wc P s ere ih n g d ∧ Ks P w wc)
   case first =>
    cases q with
    | false =>
     have E : Hid (hg = (a : Int) ∧ ih = ia) := by
      have := HH.out
      unfold pHigh at this
      rw [HQ.out] at this
      injection this with h1 h2
      exact ⟨h1.symm, h2.symm⟩
     go_wp2_with fail
     go_meet
     case rel => exact ⟨by rw [E.out.1], rfl, by rw [E.out.2]; exact R3.out, K3.out⟩
    | true =>
     obtain ⟨b, okb, ib, hb⟩ : ∃ b okb ib, pNum s (ia + 1) = (b, okb, ib) := ⟨_, _, _, rfl⟩
     have HB := hid hb
     clear hb
     have E : Hid (hg = (if okb then (b : Int) else -1) ∧ ih = ib) := by
      have := HH.out
      unfold pHigh at this
      rw [HQ.out, HB.out] at this
      injection this with h1 h2
      exact ⟨h1.symm, h2.symm⟩
     go_wp2_with fail
     refine (number_any s ere (ia + 1) n g d P _ R3.out (HQ1.out (by trivial)) hs).mono ?_
     rintro e W4 ⟨rfl, r4, k4⟩
     rw [HB.out] at r4 ⊢
     have R4 : Hid (Rd W4 P s ere ib n g d) := r4
     have K4 : Hid (Ks P w W4) := K3.out.trans k4
     clear r4 k4 R3 K3
     dsimp only
     cases okb with
     | false =>
      go_wp2_with fail
      go_meet
      case rel => exact ⟨by rw [E.out.1]; rfl, rfl, by rw [E.out.2]; exact R4.out, K4.out⟩
     | true =>
      go_wp2_with fail
      go_meet
      case rel => exact ⟨by rw [E.out.1]; rfl, rfl, by rw [E.out.2]; exact R4.out, K4.out⟩
   case rest =>
    obtain ⟨rfl, rfl, r5, k5⟩ := hcut
    rename World => W5
    have R5 := hid r5
    have K5 := hid k5
    clear r5 k5 R3 K3 T1 HQ HQ1
    have p1 := R5.out.cells.2.1
    obtain ⟨q2, hq2⟩ : ∃ q2, pfx s ih (closeB ere) = q2 := ⟨_, rfl⟩
    have HQ2 := hid hq2
    clear hq2
    obtain ⟨tf, htf⟩ : ∃ tf, timesFit (a : Int) hg = tf := ⟨_, rfl⟩
    have HT := hid htf
    clear htf
    have E : Hid (pInt s ere i z = if q2 then (if tf then (some ((a : Int), hg), ih + (closeB ere).length) else (none, i)) else (none, ih)) := by
     show _ = _
     unfold pInt
     rw [HA.out]
     simp only [HH.out, HQ2.out, HT.out, if_true]
    cases ere with
    | true =>
     go_wp2_with fail
     refine (takes_any ⟨#[125]⟩ s true ih n g d P _ R5.out hle5 hs).mono ?_
     rintro e W6 ⟨rfl, r6, k6⟩
     rw [show pfx s ih (⟨#[125]⟩ : ByteArray).data.toList = q2 from HQ2.out] at r6 ⊢
     have K6 : Hid (Ks P w W6) := K5.out.trans k6
     cases q2 with
     | false =>
      have R6 : Hid (Rd W6 P s true ih n g d) := r6
      clear r6 k6 p1 R5 K5
      go_wp2_with fail
      go_ret3
      exact ⟨0, 0, false, rfl, by rw [E.out]; rfl, by rw [E.out]; exact R6.out, K6.out⟩
     | true =>
      have R6 : Hid (Rd W6 P s true (ih + 1) n g d) := r6
      clear r6 k6 p1 R5 K5
      go_wp2_with fail
      refine (timesFit_any (a : Int) hg _).mono ?_
      rintro e W6 ⟨rfl, rfl⟩
      rw [HT.out]
      cases tf with
      | false =>
       have p2 := R6.out.cells.2.2.1
       have fp2 := bl_frozen R6.out.b 2
       go_wp2_with fail
       go_ret3
       exact ⟨0, 0, false, rfl, by rw [E.out]; rfl, by rw [E.out]; exact R6.out.at i, K6.out.set 2 _⟩
      | true =>
       go_wp2_with fail
       go_ret3
       exact ⟨_, _, true, rfl, by rw [E.out]; rfl, by rw [E.out]; exact R6.out, K6.out⟩
    | false =>
     go_wp2_with fail
     refine (takes_any ⟨#[92, 125]⟩ s false ih n g d P _ R5.out hle5 hs).mono ?_
     rintro e W6 ⟨rfl, r6, k6⟩
     rw [show pfx s ih (⟨#[92, 125]⟩ : ByteArray).data.toList = q2 from HQ2.out] at r6 ⊢
     have K6 : Hid (Ks P w W6) := K5.out.trans k6
     cases q2 with
     | false =>
      have R6 : Hid (Rd W6 P s false ih n g d) := r6
      clear r6 k6 p1 R5 K5
      go_wp2_with fail
      go_ret3
      exact ⟨0, 0, false, rfl, by rw [E.out]; rfl, by rw [E.out]; exact R6.out, K6.out⟩
     | true =>
      have R6 : Hid (Rd W6 P s false (ih + 2) n g d) := r6
      clear r6 k6 p1 R5 K5
      go_wp2_with fail
      refine (timesFit_any (a : Int) hg _).mono ?_
      rintro e W6 ⟨rfl, rfl⟩
      rw [HT.out]
      cases tf with
      | false =>
       have p2 := R6.out.cells.2.2.1
       have fp2 := bl_frozen R6.out.b 2
       go_wp2_with fail
       go_ret3
       exact ⟨0, 0, false, rfl, by rw [E.out]; rfl, by rw [E.out]; exact R6.out.at i, K6.out.set 2 _⟩
      | true =>
       go_wp2_with fail
       go_ret3
       exact ⟨_, _, true, rfl, by rw [E.out]; rfl, by rw [E.out]; exact R6.out, K6.out⟩
end Go.Proofs.YtnajcnhgeggngaaGreat

/-! ### Rep -/

namespace Go.Proofs.YtnajcnhgeggngaaGreat
set_option maxHeartbeats 2000000
set_option maxRecDepth 100000
open Go.RowKit
attribute [local go_sem] field91

def repInt (r : Rx) (o : Option (Int × Int) × Nat) (n g d : Nat) : Out := match o with
 | (none, j) => ⟨rx0, 1, ⟨j, n, g, d⟩⟩
 | (some (a, b), j) => pTake 0 (rrep a b r) ⟨j, n, g, d⟩
theorem pInt_le (s : ByteArray) (ere : Bool) (i z : Nat) (h : i + z ≤ s.size) : (pInt s ere i z).2 ≤ s.size := by
 have h1 := pNum_le s (i + z) h
 unfold pInt
 dsimp only
 split
 ·
  have h2 := pHigh_le s (pNum s (i + z)).1 (pNum s (i + z)).2.2 h1.2.1 h1.2.2
  split
  ·
   rename_i hp
   have h3 := pfx_le hp h2.2.1
   split
   ·
    exact h3
   ·
    show i ≤ s.size; omega
  ·
   exact h2.2.1
 ·
  exact h1.2.1

theorem repeated_any (r : Rx) (k mn mx m : Int) (t : W4) (ad : Option Addr) (l c : Nat) (s : ByteArray) (ere : Bool) (i n g d P : Nat) (w0 w : World) (h : Rd w P s ere i n g d) (hI : Is w (fun b => w0.heap.size ≤ b) r (rxv k mn mx m t (.slice ad l c))) (hk : Ks P w0 w) (hP : P < w0.heap.size) (hi : i ≤ s.size) (hs : s.size ≤ 1000000) (hn : n ≤ 1000000000) :
  Calls Tryz.prog 97 #[.pointer (some ⟨P, 0, none⟩), rxv k mn mx m t (.slice ad l c)] w fun e w' => RetE w0 P s ere (pRep s ere r ⟨i, n, g, d⟩) e w' := by
 have R : Hid (Rd w P s ere i n g d) := h
 have HI : Hid (Is w (fun b => w0.heap.size ≤ b ∧ b < w.heap.size) r (rxv k mn mx m t (.slice ad l c))) := hI.weak (fun _ hb hl => ⟨hb, hl⟩)
 have HK := hid hk
 have hsw := hk.size
 clear h hI hk
 obtain ⟨x, y, z, hg⟩ : ∃ x y z, sgn s ere i = (x, y, z) := ⟨_, _, _, rfl⟩
 have hz := sgn_sz s ere i hi
 rw [hg] at hz
 obtain ⟨hz1, hz2, _⟩ := hz
 simp only at hz1 hz2
 have HG := hid hg
 have hpr : pRep s ere r ⟨i, n, g, d⟩ = if x = 10 then pTake z (rrep 0 (-1) r) ⟨i, n, g, d⟩ else if x = 11 then pTake z (rrep 1 (-1) r) ⟨i, n, g, d⟩ else if x = 12 then pTake z (rrep 0 1 r) ⟨i, n, g, d⟩ else if x = 13 then repInt r (pInt s ere i z) n g d else ⟨r, 0, ⟨i, n, g, d⟩⟩ := by
  unfold pRep; rw [hg]; rfl
 have HPR := hid hpr
 clear hg hpr
 go_enter Tryz.func97, Tryz.ntmps97
 go_upto_region 1 with fail
 refine opq (fun W0 => Rd W0 P s ere i n g d ∧ W0.heap[w.heap.size]? = some (rxo k mn mx m t (.slice ad l c)) ∧ W0.heap[(w.heap.size + 1)]? = some rzo ∧ Is W0 (fun b => w0.heap.size ≤ b ∧ b < w.heap.size) r (rxv k mn mx m t (.slice ad l c)) ∧ Ks P w0 W0) ⟨by exact R.out.kp kpt, by (first | exact last_at _ _ _ (by simp) | (refine bl_alloc ?_ _; first | exact last_at _ _ _ (by simp) | (refine bl_alloc ?_ _; first | exact last_at _ _ _ (by simp) | (refine bl_alloc ?_ _; exact last_at _ _ _ (by simp))))), by (first | exact last_at _ _ _ (by simp) | (refine bl_alloc ?_ _; first | exact last_at _ _ _ (by simp) | (refine bl_alloc ?_ _; first | exact last_at _ _ _ (by simp) | (refine bl_alloc ?_ _; exact last_at _ _ _ (by simp))))), by exact HI.out.kp kpt, by exact HK.out.kpt kpt hP⟩ ?_
 rintro W0 ⟨xR0, xA0, xB0, xI0, xK0⟩
 have R0 := hid xR0
 have A0 := hid xA0
 have B0 := hid xB0
 have I0 := hid xI0
 have K0 := hid xK0
 clear xR0 xA0 xB0 xI0 xK0
 clear R HI HK
 go_wp2_with fail
 refine (sign_any s ere i n g d P _ R0.out hi hs).mono ?_
 rintro e w1 ⟨rfl, kq⟩
 rw [HG.out, sg3]
 have hs1 : w.heap.size + 1 < w1.heap.size := bl_lt (bl_kp B0.out kq)
 have KQ : Hid (Kp W0 w1) := kq
 clear kq
 go_upto_region 2 with fail
 refine opq (fun W1 => Rd W1 P s ere i n g d ∧ W1.heap[w.heap.size]? = some (rxo k mn mx m t (.slice ad l c)) ∧ W1.heap[(w.heap.size + 1)]? = some rzo ∧ W1.heap[w1.heap.size]? = some (sgo x y z) ∧ Is W1 (fun b => w0.heap.size ≤ b ∧ b < w.heap.size) r (rxv k mn mx m t (.slice ad l c)) ∧ Ks P w0 W1) ⟨by exact R0.out.kp (KQ.out.trans kpt), by exact bl_kp A0.out (KQ.out.trans kpt), by exact bl_kp B0.out (KQ.out.trans kpt), by (first | exact last_at _ _ _ (by simp) | (refine bl_alloc ?_ _; first | exact last_at _ _ _ (by simp) | (refine bl_alloc ?_ _; first | exact last_at _ _ _ (by simp) | (refine bl_alloc ?_ _; exact last_at _ _ _ (by simp))))), by exact I0.out.kp (KQ.out.trans kpt), by exact K0.out.kpt (KQ.out.trans kpt) hP⟩ ?_
 rintro W1 ⟨xR1, xA1, xB1, xG1, xI1, xK1⟩
 have R1 := hid xR1
 have A1 := hid xA1
 have B1 := hid xB1
 have G1 := hid xG1
 have I1 := hid xI1
 have K1 := hid xK1
 clear xR1 xA1 xB1 xG1 xI1 xK1
 clear R0 A0 B0 I0 K0 KQ
 have hs2 : w1.heap.size < W1.heap.size := bl_lt G1.out
 by_cases x10 : x = 10
 ·
  subst x10
  have E : Hid (pRep s ere r ⟨i, n, g, d⟩ = pTake z (rrep 0 (-1) r) ⟨i, n, g, d⟩) := by show _ = _; rw [HPR.out, if_pos rfl]
  obtain ⟨qq0, qq1, qq2⟩ := cells3 G1.out
  obtain ⟨a0, a1, a2, a3, a4, a5, a6, a7, a8⟩ := cells9 (A1.out)
  go_wp2_with fail
  refine (take_any0 10 y z 4 0 (-1) 0 (some ⟨W1.heap.size, 0, none⟩) 1 1 s ere i n g d P _ (R1.out.kp ((Kp.refl _).alloc _)) (by omega) (by omega) hn).mono ?_
  rintro e w2 ⟨rfl, r2, k2⟩
  have hsW : w.heap.size + 1 < W1.heap.size := bl_lt B1.out
  have hsP : w0.heap.size ≤ W1.heap.size := K1.out.size
  have R2 := hid r2
  have K2 : Hid (Ks P w0 w2) := (K1.out.kpt ((Kp.refl _).alloc _) hP).trans k2
  have B2 : Hid (w2.heap[w.heap.size + 1]? = some rzo) := bl_ks (bl_alloc B1.out _) (by omega) k2
  have I2 : Hid (Is w2 (fun b => w0.heap.size ≤ b ∧ b ≠ w.heap.size + 1) (rrep 0 (-1) r) (rxv 4 0 (-1) 0 W4.z (.slice (some ⟨W1.heap.size, 0, none⟩) 1 1))) :=
   ((((I1.out.weak (ok' := fun b => w0.heap.size ≤ b ∧ b ≠ w.heap.size + 1) (fun _ hb _ => ⟨hb.1, by omega⟩)).kp ((Kp.refl _).alloc _)).one (cells_new _ _ _ _ _ _ _ _ _) ⟨hsP, by omega⟩ (by simp) 4 0 (-1) 0 W4.z).ks k2 (fun _ hb _ => by omega))
  clear r2 k2
  clear qq0 qq1 qq2 a0 a1 a2 a3 a4 a5 a6 a7 a8
  obtain ⟨b0, fb0, b1, fb1, b2, fb2, b3, fb3, b4, fb4, b5, fb5, b6, fb6, b7, fb7, b8, fb8⟩ := cellf9 (B2.out)
  go_wp2_with fail
  refine bodyPost_ret (v := .tuple #[rxv 4 0 (-1) 0 W4.z (.slice (some ⟨W1.heap.size, 0, none⟩) 1 1), .int .i64 0]) (rx_ret2 rfl _ _ _ _ _ rfl rfl (bl_set9 B2.out _ _ _ _ _ _ _ _ _) rfl) rfl ?_
  rw [E.out]
  exact ⟨_, rfl, Ret.fin I2.out R2.out K2.out (ks_set9 _ _ _ _ _ _ _ _ _) hP (by omega)⟩
 by_cases x11 : x = 11
 ·
  subst x11
  have E : Hid (pRep s ere r ⟨i, n, g, d⟩ = pTake z (rrep 1 (-1) r) ⟨i, n, g, d⟩) := by show _ = _; rw [HPR.out, if_neg (by omega), if_pos rfl]
  obtain ⟨qq0, qq1, qq2⟩ := cells3 G1.out
  obtain ⟨a0, a1, a2, a3, a4, a5, a6, a7, a8⟩ := cells9 (A1.out)
  go_wp2_with fail
  refine (take_any0 11 y z 4 1 (-1) 0 (some ⟨W1.heap.size, 0, none⟩) 1 1 s ere i n g d P _ (R1.out.kp ((Kp.refl _).alloc _)) (by omega) (by omega) hn).mono ?_
  rintro e w2 ⟨rfl, r2, k2⟩
  have hsW : w.heap.size + 1 < W1.heap.size := bl_lt B1.out
  have hsP : w0.heap.size ≤ W1.heap.size := K1.out.size
  have R2 := hid r2
  have K2 : Hid (Ks P w0 w2) := (K1.out.kpt ((Kp.refl _).alloc _) hP).trans k2
  have B2 : Hid (w2.heap[w.heap.size + 1]? = some rzo) := bl_ks (bl_alloc B1.out _) (by omega) k2
  have I2 : Hid (Is w2 (fun b => w0.heap.size ≤ b ∧ b ≠ w.heap.size + 1) (rrep 1 (-1) r) (rxv 4 1 (-1) 0 W4.z (.slice (some ⟨W1.heap.size, 0, none⟩) 1 1))) :=
   ((((I1.out.weak (ok' := fun b => w0.heap.size ≤ b ∧ b ≠ w.heap.size + 1) (fun _ hb _ => ⟨hb.1, by omega⟩)).kp ((Kp.refl _).alloc _)).one (cells_new _ _ _ _ _ _ _ _ _) ⟨hsP, by omega⟩ (by simp) 4 1 (-1) 0 W4.z).ks k2 (fun _ hb _ => by omega))
  clear r2 k2
  clear qq0 qq1 qq2 a0 a1 a2 a3 a4 a5 a6 a7 a8
  obtain ⟨b0, fb0, b1, fb1, b2, fb2, b3, fb3, b4, fb4, b5, fb5, b6, fb6, b7, fb7, b8, fb8⟩ := cellf9 (B2.out)
  go_wp2_with fail
  refine bodyPost_ret (v := .tuple #[rxv 4 1 (-1) 0 W4.z (.slice (some ⟨W1.heap.size, 0, none⟩) 1 1), .int .i64 0]) (rx_ret2 rfl _ _ _ _ _ rfl rfl (bl_set9 B2.out _ _ _ _ _ _ _ _ _) rfl) rfl ?_
  rw [E.out]
  exact ⟨_, rfl, Ret.fin I2.out R2.out K2.out (ks_set9 _ _ _ _ _ _ _ _ _) hP (by omega)⟩
 by_cases x12 : x = 12
 ·
  subst x12
  have E : Hid (pRep s ere r ⟨i, n, g, d⟩ = pTake z (rrep 0 1 r) ⟨i, n, g, d⟩) := by show _ = _; rw [HPR.out, if_neg (by omega), if_neg (by omega), if_pos rfl]
  obtain ⟨qq0, qq1, qq2⟩ := cells3 G1.out
  obtain ⟨a0, a1, a2, a3, a4, a5, a6, a7, a8⟩ := cells9 (A1.out)
  go_wp2_with fail
  refine (take_any0 12 y z 4 0 1 0 (some ⟨W1.heap.size, 0, none⟩) 1 1 s ere i n g d P _ (R1.out.kp ((Kp.refl _).alloc _)) (by omega) (by omega) hn).mono ?_
  rintro e w2 ⟨rfl, r2, k2⟩
  have hsW : w.heap.size + 1 < W1.heap.size := bl_lt B1.out
  have hsP : w0.heap.size ≤ W1.heap.size := K1.out.size
  have R2 := hid r2
  have K2 : Hid (Ks P w0 w2) := (K1.out.kpt ((Kp.refl _).alloc _) hP).trans k2
  have B2 : Hid (w2.heap[w.heap.size + 1]? = some rzo) := bl_ks (bl_alloc B1.out _) (by omega) k2
  have I2 : Hid (Is w2 (fun b => w0.heap.size ≤ b ∧ b ≠ w.heap.size + 1) (rrep 0 1 r) (rxv 4 0 1 0 W4.z (.slice (some ⟨W1.heap.size, 0, none⟩) 1 1))) :=
   ((((I1.out.weak (ok' := fun b => w0.heap.size ≤ b ∧ b ≠ w.heap.size + 1) (fun _ hb _ => ⟨hb.1, by omega⟩)).kp ((Kp.refl _).alloc _)).one (cells_new _ _ _ _ _ _ _ _ _) ⟨hsP, by omega⟩ (by simp) 4 0 1 0 W4.z).ks k2 (fun _ hb _ => by omega))
  clear r2 k2
  clear qq0 qq1 qq2 a0 a1 a2 a3 a4 a5 a6 a7 a8
  obtain ⟨b0, fb0, b1, fb1, b2, fb2, b3, fb3, b4, fb4, b5, fb5, b6, fb6, b7, fb7, b8, fb8⟩ := cellf9 (B2.out)
  go_wp2_with fail
  refine bodyPost_ret (v := .tuple #[rxv 4 0 1 0 W4.z (.slice (some ⟨W1.heap.size, 0, none⟩) 1 1), .int .i64 0]) (rx_ret2 rfl _ _ _ _ _ rfl rfl (bl_set9 B2.out _ _ _ _ _ _ _ _ _) rfl) rfl ?_
  rw [E.out]
  exact ⟨_, rfl, Ret.fin I2.out R2.out K2.out (ks_set9 _ _ _ _ _ _ _ _ _) hP (by omega)⟩
 by_cases x13 : x = 13
 ·
  subst x13
  obtain ⟨oi, oj, ho⟩ : ∃ oi oj, pInt s ere i z = (oi, oj) := ⟨_, _, rfl⟩
  have HO := hid ho
  clear ho
  have E0 : Hid (pRep s ere r ⟨i, n, g, d⟩ = repInt r (oi, oj) n g d) := by
   show _ = _
   rw [HPR.out, if_neg (by omega), if_neg (by omega), if_neg (by omega), if_pos rfl, HO.out]
  have hoj : Hid (oj ≤ s.size) := by
   have := pInt_le s ere i z hz1
   rw [HO.out] at this
   exact this
  obtain ⟨qq0, qq1, qq2⟩ := cells3 G1.out
  obtain ⟨a0, a1, a2, a3, a4, a5, a6, a7, a8⟩ := cells9 (A1.out)
  go_wp2_with fail
  refine (interval_any 13 y z s ere i n g d P _ R1.out hz1 hs).mono ?_
  rintro e W2 ⟨⟨a, b, ok, rfl, r2⟩⟩
  rw [HO.out] at r2
  have EQ := hid r2.eq
  have R2 : Hid (Rd W2 P s ere oj n g d) := r2.rd
  have k2 := r2.ks
  have hsz0 := K1.out.size
  have A2 : Hid (W2.heap[w.heap.size]? = some (rxo k mn mx m t (.slice ad l c))) := bl_ks A1.out (by omega) k2
  have B2 : Hid (W2.heap[w.heap.size + 1]? = some rzo) := bl_ks B1.out (by omega) k2
  have G2 : Hid (W2.heap[w1.heap.size]? = some (sgo 13 y z)) := bl_ks G1.out (by omega) k2
  have I2 : Hid (Is W2 (fun b => w0.heap.size ≤ b ∧ b < w.heap.size) r (rxv k mn mx m t (.slice ad l c))) := I1.out.ks k2 (fun _ hb _ => by omega)
  have K2 : Hid (Ks P w0 W2) := K1.out.trans k2
  clear r2 k2 R1 A1 B1 G1 I1 K1
  clear qq0 qq1 qq2 a0 a1 a2 a3 a4 a5 a6 a7 a8
  have gq2 := bl_frozen G2.out 2
  have gc2 := bl_cell G2.out 2 _ rfl
  go_upto_region 13 with fail
  clear gq2 gc2
  refine opq (fun W3 => Rd W3 P s ere oj n g d ∧ W3.heap[w.heap.size]? = some (rxo k mn mx m t (.slice ad l c)) ∧ W3.heap[(w.heap.size + 1)]? = some rzo ∧ W3.heap[w1.heap.size]? = some (sgo 13 y 0) ∧ Is W3 (fun b => w0.heap.size ≤ b ∧ b < w.heap.size) r (rxv k mn mx m t (.slice ad l c)) ∧ Ks P w0 W3) ⟨by exact R2.out.ks ((Ks.refl _ _).set 2 _) (by omega) (by omega), by exact bl_set A2.out (by omega) _, by exact bl_set B2.out (by omega) _, by exact bl_put G2.out _, by exact I2.out.ks ((Ks.refl _ _).set 2 _) (fun _ hb _ => by omega), by exact K2.out.off ((Ks.refl _ _).set 2 _) (by omega) hP⟩ ?_
  rintro W3 ⟨xR3, xA3, xB3, xG1, xI3, xK3⟩
  have R3 := hid xR3
  have A3 := hid xA3
  have B3 := hid xB3
  have G1 := hid xG1
  have I3 := hid xI3
  have K3 := hid xK3
  clear xR3 xA3 xB3 xG1 xI3 xK3
  clear R2 A2 B2 G2 I2 K2
  cases ok with
  | false =>
   have E : Hid (pRep s ere r ⟨i, n, g, d⟩ = ⟨rx0, 1, ⟨oj, n, g, d⟩⟩) := by show _ = _; rw [E0.out, show oi = none from EQ.out]; rfl
   obtain ⟨b0, fb0, b1, fb1, b2, fb2, b3, fb3, b4, fb4, b5, fb5, b6, fb6, b7, fb7, b8, fb8⟩ := cellf9 (B3.out)
   go_wp2_with fail
   refine bodyPost_ret (v := .tuple #[rz, .int .i64 1]) (rx_ret2 rfl _ _ _ _ _ rfl rfl (bl_set9 B3.out _ _ _ _ _ _ _ _ _) rfl) rfl ?_
   rw [E.out]
   exact ⟨_, rfl, Ret.fail R3.out K3.out (ks_set9 _ _ _ _ _ _ _ _ _) hP (by omega)⟩
  | true =>
   have E : Hid (pRep s ere r ⟨i, n, g, d⟩ = pTake 0 (rrep a b r) ⟨oj, n, g, d⟩) := by show _ = _; rw [E0.out, show oi = some (a, b) from EQ.out]; rfl
   have hoj' := hoj.out
   obtain ⟨qq0, qq1, qq2⟩ := cells3 G1.out
   obtain ⟨a0, a1, a2, a3, a4, a5, a6, a7, a8⟩ := cells9 (A3.out)
   go_wp2_with fail
   refine (take_any0 13 y 0 4 a b 0 (some ⟨W3.heap.size, 0, none⟩) 1 1 s ere oj n g d P _ (R3.out.kp ((Kp.refl _).alloc _)) (by omega) (by omega) hn).mono ?_
   rintro e w2 ⟨rfl, r2, k2⟩
   have hsW : w.heap.size + 1 < W3.heap.size := bl_lt B3.out
   have hsP : w0.heap.size ≤ W3.heap.size := K3.out.size
   have R2 := hid r2
   have K2 : Hid (Ks P w0 w2) := (K3.out.kpt ((Kp.refl _).alloc _) hP).trans k2
   have B2 : Hid (w2.heap[w.heap.size + 1]? = some rzo) := bl_ks (bl_alloc B3.out _) (by omega) k2
   have I2 : Hid (Is w2 (fun b => w0.heap.size ≤ b ∧ b ≠ w.heap.size + 1) (rrep a b r) (rxv 4 a b 0 W4.z (.slice (some ⟨W3.heap.size, 0, none⟩) 1 1))) :=
    ((((I3.out.weak (ok' := fun b => w0.heap.size ≤ b ∧ b ≠ w.heap.size + 1) (fun _ hb _ => ⟨hb.1, by omega⟩)).kp ((Kp.refl _).alloc _)).one (cells_new _ _ _ _ _ _ _ _ _) ⟨hsP, by omega⟩ (by simp) 4 a b 0 W4.z).ks k2 (fun _ hb _ => by omega))
   clear r2 k2
   clear qq0 qq1 qq2 a0 a1 a2 a3 a4 a5 a6 a7 a8
   obtain ⟨b0, fb0, b1, fb1, b2, fb2, b3, fb3, b4, fb4, b5, fb5, b6, fb6, b7, fb7, b8, fb8⟩ := cellf9 (B2.out)
   go_wp2_with fail
   refine bodyPost_ret (v := .tuple #[rxv 4 a b 0 W4.z (.slice (some ⟨W3.heap.size, 0, none⟩) 1 1), .int .i64 0]) (rx_ret2 rfl _ _ _ _ _ rfl rfl (bl_set9 B2.out _ _ _ _ _ _ _ _ _) rfl) rfl ?_
   rw [E.out]
   exact ⟨_, rfl, Ret.fin I2.out R2.out K2.out (ks_set9 _ _ _ _ _ _ _ _ _) hP (by omega)⟩
 have E : Hid (pRep s ere r ⟨i, n, g, d⟩ = ⟨r, 0, ⟨i, n, g, d⟩⟩) := by show _ = _; rw [HPR.out, if_neg x10, if_neg x11, if_neg x12, if_neg x13]
 have g10 : ((x : Int) == 10) = false := by simp; omega
 have g11 : ((x : Int) == 11) = false := by simp; omega
 have g12 : ((x : Int) == 12) = false := by simp; omega
 have g13 : ((x : Int) == 13) = false := by simp; omega
 obtain ⟨qq0, qq1, qq2⟩ := cells3 G1.out
 obtain ⟨a0, a1, a2, a3, a4, a5, a6, a7, a8⟩ := cells9 (A1.out)
 obtain ⟨b0, fb0, b1, fb1, b2, fb2, b3, fb3, b4, fb4, b5, fb5, b6, fb6, b7, fb7, b8, fb8⟩ := cellf9 (B1.out)
 go_wp2_with fail
 refine bodyPost_ret (v := .tuple #[rxv k mn mx m t (.slice ad l c), .int .i64 0]) (rx_ret2 rfl _ _ _ _ _ rfl rfl (bl_set9 B1.out _ _ _ _ _ _ _ _ _) rfl) rfl ?_
 rw [E.out]
 exact ⟨_, rfl, Ret.fin (I1.out.weak (fun _ hb _ => ⟨hb.1, by omega⟩)) R1.out K1.out (ks_set9 _ _ _ _ _ _ _ _ _) hP (by omega)⟩
end Go.Proofs.YtnajcnhgeggngaaGreat

/-! ### Cls -/

namespace Go.Proofs.YtnajcnhgeggngaaGreat
set_option maxHeartbeats 2000000
set_option maxRecDepth 100000
open Go.RowKit

theorem cls_any (l : List UInt8) (w : World) : Calls Tryz.prog 144 #[.string ⟨l.toArray⟩] w fun e w' => ∃ q ok, e = .returned (.tuple #[sv q, .bool ok]) ∧ cls l = (if ok = true then some q else none) ∧ Kp w w' := by
 by_cases halpha : l = [97, 108, 112, 104, 97]
 ·
  subst halpha
  refine (class_alpha w).mono ?_
  rintro e w' ⟨rfl, k⟩
  exact ⟨_, true, rfl, rfl, k⟩
 by_cases hdigit : l = [100, 105, 103, 105, 116]
 ·
  subst hdigit
  refine (class_digit w).mono ?_
  rintro e w' ⟨rfl, k⟩
  exact ⟨_, true, rfl, rfl, k⟩
 by_cases halnum : l = [97, 108, 110, 117, 109]
 ·
  subst halnum
  refine (class_alnum w).mono ?_
  rintro e w' ⟨rfl, k⟩
  exact ⟨_, true, rfl, rfl, k⟩
 by_cases hupper : l = [117, 112, 112, 101, 114]
 ·
  subst hupper
  refine (class_upper w).mono ?_
  rintro e w' ⟨rfl, k⟩
  exact ⟨_, true, rfl, rfl, k⟩
 by_cases hlower : l = [108, 111, 119, 101, 114]
 ·
  subst hlower
  refine (class_lower w).mono ?_
  rintro e w' ⟨rfl, k⟩
  exact ⟨_, true, rfl, rfl, k⟩
 by_cases hspace : l = [115, 112, 97, 99, 101]
 ·
  subst hspace
  refine (class_space w).mono ?_
  rintro e w' ⟨rfl, k⟩
  exact ⟨_, true, rfl, rfl, k⟩
 by_cases hblank : l = [98, 108, 97, 110, 107]
 ·
  subst hblank
  refine (class_blank w).mono ?_
  rintro e w' ⟨rfl, k⟩
  exact ⟨_, true, rfl, rfl, k⟩
 by_cases hpunct : l = [112, 117, 110, 99, 116]
 ·
  subst hpunct
  refine (class_punct w).mono ?_
  rintro e w' ⟨rfl, k⟩
  exact ⟨_, true, rfl, rfl, k⟩
 by_cases hprint : l = [112, 114, 105, 110, 116]
 ·
  subst hprint
  refine (class_print w).mono ?_
  rintro e w' ⟨rfl, k⟩
  exact ⟨_, true, rfl, rfl, k⟩
 by_cases hgraph : l = [103, 114, 97, 112, 104]
 ·
  subst hgraph
  refine (class_graph w).mono ?_
  rintro e w' ⟨rfl, k⟩
  exact ⟨_, true, rfl, rfl, k⟩
 by_cases hcntrl : l = [99, 110, 116, 114, 108]
 ·
  subst hcntrl
  refine (class_cntrl w).mono ?_
  rintro e w' ⟨rfl, k⟩
  exact ⟨_, true, rfl, rfl, k⟩
 by_cases hxdigit : l = [120, 100, 105, 103, 105, 116]
 ·
  subst hxdigit
  refine (class_xdigit w).mono ?_
  rintro e w' ⟨rfl, k⟩
  exact ⟨_, true, rfl, rfl, k⟩
 refine (class_other ⟨l.toArray⟩ ?_ w).mono ?_
 ·
  unfold named
  rw [ByteArray.toList_mk]
  simp only [not_or]
  exact ⟨halpha, hdigit, halnum, hupper, hlower, hspace, hblank, hpunct, hprint, hgraph, hcntrl, hxdigit⟩
 rintro e w' ⟨rfl, k⟩
 refine ⟨_, false, rfl, ?_, k⟩
 unfold cls
 rw [if_neg halpha, if_neg hdigit, if_neg halnum, if_neg hupper, if_neg hlower, if_neg hspace, if_neg hblank, if_neg hpunct, if_neg hprint, if_neg hgraph, if_neg hcntrl, if_neg hxdigit]
 rfl

structure RetS (w0 : World) (P : Nat) (s : ByteArray) (ere : Bool) (o : Option (Nat → Bool) × Nat) (n g d : Nat) (q : Nat → Bool) (ok : Bool) (w' : World) : Prop where
 eq : o.1 = if ok = true then some q else none
 rd : Rd w' P s ere o.2 n g d
 ks : Ks P w0 w'
structure RetSE (w0 : World) (P : Nat) (s : ByteArray) (ere : Bool) (o : Option (Nat → Bool) × Nat) (n g d : Nat) (e : Ending) (w' : World) : Prop where
 ex : ∃ q ok, e = .returned (.tuple #[sv q, .bool ok]) ∧ RetS w0 P s ere o n g d q ok w'

theorem pClass_eq {s : ByteArray} {i : Nat} {nm bh : List UInt8} {cl ok : Bool} {q : Nat → Bool} (hc : Lib.cut (s.data.toList.drop (i + 2)) [58, 93] = (nm, bh, cl)) (hq : cls nm = if ok = true then some q else none) : pClass s i = if cl && ok then (some q, s.size - bh.length) else (none, i) := by
 unfold pClass
 rw [hc]
 cases cl <;> cases ok <;> simp_all

theorem ret2_set {fn : Func} {p u : Tmp} (h : fn.results = #[.cell p 24, .tmp u]) (tmps : Array Value) (w : World) (S : Nat) (q : Nat → Bool) (x : Value)
  (hp : tmps.getD p undef = .pointer (some ⟨S, 0, none⟩)) (hu : tmps.getD u undef = x) (hA : At w S q) : (results fn tmps).run Tryz.prog w = .ok (.tuple #[sv q, x]) w := by
 rw [← hu]; exact ret2_at h tmps w S q hp hA
theorem At.set4z {w : World} {S : Nat} {q : Nat → Bool} (h : At w S q) : At ((((w.setCell ⟨S, 0, none⟩ (.int .u64 0)).setCell ⟨S, 1, none⟩ (.int .u64 0)).setCell ⟨S, 2, none⟩ (.int .u64 0)).setCell ⟨S, 3, none⟩ (.int .u64 0)) S (fun _ => false) := by
 have := h.set4 (fun _ => false)
 simp only [wd_none] at this
 exact this

theorem rclass_any (s : ByteArray) (ere : Bool) (i n g d P : Nat) (w : World) (h : Rd w P s ere i n g d) (hi : i + 2 ≤ s.size) (hs : s.size ≤ 1000000) :
  Calls Tryz.prog 137 #[.pointer (some ⟨P, 0, none⟩)] w fun e w' => RetSE w P s ere (pClass s i) n g d e w' := by
 have R : Hid (Rd w P s ere i n g d) := h
 have hP : P < w.heap.size := h.lt
 clear h
 have gw : IntKind.i64.wrap ((i : Int) + 2) = (i : Int) + 2 := by rw [IntKind.wrap_i64]; omega
 have gl1 : (0 : Int) ≤ (i : Int) + 2 := by omega
 have gl2 : (i : Int) + 2 ≤ (s.size : Int) := by omega
 have es : ∀ w, (Instr.slice 9 (.string s) (some (.int .i64 ((i : Int) + 2))) none none).run Tryz.prog w = .ok (.string (s.extract (i + 2) s.size)) w := by
  intro w
  rw [run_slice_string_from_if w 9 s .i64 ((i : Int) + 2) (by kernel_rfl), if_pos ⟨by omega, by omega⟩, show ((i : Int) + 2).toNat = i + 2 by omega]
 obtain ⟨nm, bh, cl, hc⟩ : ∃ nm bh cl, Lib.cut (s.data.toList.drop (i + 2)) [58, 93] = (nm, bh, cl) := ⟨_, _, _, rfl⟩
 have hbh : bh.length ≤ s.size := by
  have z : s.data.toList.length = s.size := Array.length_toList
  unfold Lib.cut at hc
  split at hc
  ·
   injection hc with _ h2; injection h2 with h3 _; rw [← h3, List.length_drop, List.length_drop]; omega
  ·
   injection hc with _ h2; injection h2 with h3 _; rw [← h3]; exact Nat.zero_le _
 have SC : Hid (∀ (m : Int) (w : World), w.cell? ⟨0, 0, none⟩ = some (.int .i64 m) → Calls Tryz.prog 143 #[.string (s.extract (i + 2) s.size), .string ⟨#[58, 93]⟩] w fun e w' => e = .returned (.tuple #[.string ⟨nm.toArray⟩, .string ⟨bh.toArray⟩, .bool cl]) ∧ ∃ n, w' = w.drewN n) := by
  intro m w hm
  have := Tryz.strings_Cut (s.extract (i + 2) s.size) ⟨#[58, 93]⟩ m w (by rw [ext_size s (i + 2) hi]; omega) hm
  rw [Lib.extract_to_end] at this
  rw [show (⟨#[58, 93]⟩ : ByteArray).data.toList = [58, 93] from rfl, hc] at this
  exact this
 have HC := hid hc
 clear hc
 go_enter Tryz.func137, Tryz.ntmps137
 go_upto_region 1 with fail
 refine opq (fun W0 => Rd W0 P s ere i n g d ∧ At W0 w.heap.size (fun _ => false) ∧ Kp w W0) ⟨by exact R.out.kp kpt, by exact At.zero _, by exact kpt⟩ ?_
 rintro W0 ⟨xR0, xB0, xK0⟩
 have R0 := hid xR0
 have B0 := hid xB0
 have K0 := hid xK0
 clear xR0 xB0 xK0
 clear R
 go_cut [4, 5, 6] (fun a b c wc => a = .string ⟨nm.toArray⟩ ∧ b = .string ⟨bh.toArray⟩ ∧ c = .bool cl ∧ Kp W0 wc)
 case first =>
  have Q0 : Kp W0 W0.drew := (Kp.refl _).drew
  have MK : Hid (∀ W, Kp W0 W → W.cell? ⟨P, 0, none⟩ = some (.string s) ∧ W.cell? ⟨P, 2, none⟩ = some (.int .i64 (i : Int)) ∧ Hid (Kp W0 W)) := fun W k => ⟨(R0.out.kp k).cells.1, (R0.out.kp k).cells.2.2.1, k⟩
  refine wp_region_noPanic ?_
  refine hdrew MK Q0 (fun hH => ?_)
  have KQ := Q0
  refine tk 0 (some 10) (Op.move (Operand.tmp 0)) 95 (v := ?v0a1) rfl ?h0a1 hH ?_
  case h0a1 => intro _ _; go_simp; try with_reducible rfl
  try simp only [ps]
  refine tk 1 (some 11) (Op.nilCheck (Operand.tmp 10)) 0 (v := ?v1a2) rfl ?h1a2 hH ?_
  case h1a2 => intro _ _; go_simp; try with_reducible rfl
  try simp only [ps]
  refine tk 2 (some 12) (Op.fieldAddr 65 (Operand.tmp 11) 0) 0 (v := ?v2a3) rfl ?h2a3 hH ?_
  case h2a3 => intro _ _; go_simp; try with_reducible rfl
  try simp only [ps]
  refine tk 3 (some 13) (Op.load 9 (Operand.tmp 12)) 9 (v := ?v3a4) rfl ?h3a4 hH ?_
  case h3a4 => intro _ _; go_simp; try with_reducible rfl
  try simp only [ps]
  refine tk 4 (some 14) (Op.move (Operand.tmp 0)) 95 (v := ?v4a5) rfl ?h4a5 hH ?_
  case h4a5 => intro _ _; go_simp; try with_reducible rfl
  try simp only [ps]
  refine tk 5 (some 15) (Op.nilCheck (Operand.tmp 14)) 0 (v := ?v5a6) rfl ?h5a6 hH ?_
  case h5a6 => intro _ _; go_simp; try with_reducible rfl
  try simp only [ps]
  refine tk 6 (some 16) (Op.fieldAddr 65 (Operand.tmp 15) 2) 0 (v := ?v6a7) rfl ?h6a7 hH ?_
  case h6a7 => intro _ _; go_simp; try with_reducible rfl
  try simp only [ps]
  refine tk 7 (some 17) (Op.load 3 (Operand.tmp 16)) 3 (v := ?v7a8) rfl ?h7a8 hH ?_
  case h7a8 => intro _ _; go_simp; try with_reducible rfl
  try simp only [ps]
  refine tk 8 (some 18) (Op.binOp BinOp.add 3 (Operand.tmp 17) (Operand.const (Value.int IntKind.i64 2)) 3) 3 (v := ?v8a9) rfl ?h8a9 hH ?_
  case h8a9 => intro _ _; go_simp; try with_reducible rfl
  try simp only [ps]
  refine tk 9 (some 19) (Op.slice 9 (Operand.tmp 13) (some (Operand.tmp 18)) none none) 9 (v := ?v9a10) rfl ?h9a10 hH ?_
  case h9a10 => intro _ _; go_simp; try with_reducible rfl
  try simp only [ps]
  refine wpAnyH_ready (rs := [10]) (by kernel_rfl) (by simp) ?_
  refine AllReadyH.cons (o := { dst := some 20, op := Op.call { callee := Callee.value (Operand.func 143), args := #[Operand.tmp 19, Operand.const (Value.string { data := #[58, 93] })], argTypes := #[9, 9] }, type := 221, pos := "bracket.go:59", after := #[{ on := 9, ground := Ground.data }], guard := none }) rfl (fun K hKq => ?_) AllReadyH.nil
  obtain ⟨mm, hmm⟩ := (R0.out.kp KQ).v
  have HM := hid hmm
  clear hmm
  go_simp
  refine (SC.out mm _ HM.out).mono ?_
  rintro e yy ⟨rfl, nn, rfl⟩
  refine hKq.out _ _ (MK.out _ (KQ.drewN nn)) (fun hN => ?_)
  clear HM mm
  clear hKq K hH KQ
  have hH := hN
  clear hN
  have KQ := hH.2.2.out
  try simp only [ps]
  refine tk 11 (some 9) (Op.move (Operand.tmp 20)) 221 (v := ?v11a11) rfl ?h11a11 hH ?_
  case h11a11 => intro _ _; go_simp; try with_reducible rfl
  try simp only [ps]
  refine tk 12 (some 21) (Op.extract (Operand.tmp 9) 0) 9 (v := ?v12a12) rfl ?h12a12 hH ?_
  case h12a12 => intro _ _; go_simp; try with_reducible rfl
  try simp only [ps]
  refine tk 13 (some 22) (Op.extract (Operand.tmp 9) 1) 9 (v := ?v13a13) rfl ?h13a13 hH ?_
  case h13a13 => intro _ _; go_simp; try with_reducible rfl
  try simp only [ps]
  refine tk 14 (some 23) (Op.extract (Operand.tmp 9) 2) 4 (v := ?v14a14) rfl ?h14a14 hH ?_
  case h14a14 => intro _ _; go_simp; try with_reducible rfl
  try simp only [ps]
  refine tk 15 (some 4) (Op.assign (Operand.tmp 21)) 9 (v := ?v15a15) rfl ?h15a15 hH ?_
  case h15a15 => intro _ _; go_simp; try with_reducible rfl
  try simp only [ps]
  refine tk 16 (some 5) (Op.assign (Operand.tmp 22)) 9 (v := ?v16a16) rfl ?h16a16 hH ?_
  case h16a16 => intro _ _; go_simp; try with_reducible rfl
  try simp only [ps]
  refine tk 17 (some 6) (Op.assign (Operand.tmp 23)) 4 (v := ?v17a17) rfl ?h17a17 hH ?_
  case h17a17 => intro _ _; go_simp; try with_reducible rfl
  try simp only [ps]
  refine wpAnyH_done (by kernel_rfl) ?_ _
  refine NoPanic.normal ?_
  go_wp2_with fail
  go_meet
  case rel => exact ⟨rfl, rfl, rfl, KQ⟩
 case rest =>
  obtain ⟨rfl, rfl, rfl, k1⟩ := hcut
  rename World => W1
  have hsz : w.heap.size < W0.heap.size := B0.out.lt
  have R1 : Hid (Rd W1 P s ere i n g d) := R0.out.kp k1
  have B1 : Hid (At W1 w.heap.size (fun _ => false)) := B0.out.kp k1
  have K1 : Hid (Kp w W1) := K0.out.trans k1
  have hsz1 := k1.size
  clear k1 R0 B0 K0 es
  go_wp2_with fail
  refine (cls_any nm _).mono ?_
  rintro e w2 ⟨q, ok, rfl, hq, k2⟩
  have hsz2 := k2.size
  have HQ := hid hq
  have KQ2 := hid k2
  clear hq k2
  go_upto_region 3 with fail
  refine opq (fun W2 => Rd W2 P s ere i n g d ∧ At W2 w.heap.size (fun _ => false) ∧ At W2 w2.heap.size q ∧ Kp w W2) ⟨by exact R1.out.kp (KQ2.out.trans kpt), by exact B1.out.kp (KQ2.out.trans kpt), by exact At.new _ _, by exact K1.out.trans (KQ2.out.trans kpt)⟩ ?_
  rintro W2 ⟨xR2, xB2, xQ2, xK2⟩
  have R2 := hid xR2
  have B2 := hid xB2
  have Q2 := hid xQ2
  have K2 := hid xK2
  clear xR2 xB2 xQ2 xK2
  clear R1 B1 K1 KQ2
  have hsz3 : w2.heap.size < W2.heap.size := Q2.out.lt
  obtain ⟨b0, b1, b2, b3⟩ := B2.out.cells
  have fb0 := B2.out.frozen 0
  have fb1 := B2.out.frozen 1
  have fb2 := B2.out.frozen 2
  have fb3 := B2.out.frozen 3
  obtain ⟨q0, q1, q2, q3⟩ := Q2.out.cells
  have p0 := R2.out.cells.1
  have p2 := R2.out.cells.2.2.1
  have fp2 := bl_frozen R2.out.b 2
  have gs : IntKind.i64.wrap ((s.size : Int) - (bh.length : Int)) = (s.size : Int) - (bh.length : Int) := by rw [IntKind.wrap_i64]; omega
  cases cl with
  | false =>
   have E : Hid (pClass s i = (none, i)) := by show _ = _; rw [pClass_eq HC.out HQ.out]; rfl
   go_wp2_with fail
   refine bodyPost_ret (v := .tuple #[sv (fun _ => false), .bool false]) (ret2_set rfl _ _ _ _ _ rfl rfl (B2.out.set4z)) rfl ?_
   refine ⟨fun _ => false, false, rfl, by rw [E.out]; rfl, by rw [E.out]; exact R2.out.ks (ks_set4 _ _ _ _) (by omega) (by omega), (K2.out.ks (Nat.le_of_lt hP)).off (ks_set4 _ _ _ _) (by omega) hP⟩
  | true =>
   cases ok with
   | false =>
    have E : Hid (pClass s i = (none, i)) := by show _ = _; rw [pClass_eq HC.out HQ.out]; rfl
    go_wp2_with fail
    refine bodyPost_ret (v := .tuple #[sv (fun _ => false), .bool false]) (ret2_set rfl _ _ _ _ _ rfl rfl (B2.out.set4z)) rfl ?_
    refine ⟨fun _ => false, false, rfl, by rw [E.out]; rfl, by rw [E.out]; exact R2.out.ks (ks_set4 _ _ _ _) (by omega) (by omega), (K2.out.ks (Nat.le_of_lt hP)).off (ks_set4 _ _ _ _) (by omega) hP⟩
   | true =>
    have E : Hid (pClass s i = (some q, s.size - bh.length)) := by show _ = _; rw [pClass_eq HC.out HQ.out]; rfl
    have ge : ((s.size - bh.length : Nat) : Int) = (s.size : Int) - (bh.length : Int) := by omega
    go_wp2_with fail
    refine bodyPost_ret (v := .tuple #[sv q, .bool true]) (ret2_set rfl _ _ _ _ _ rfl rfl (At.set4 (bl_set B2.out (by omega) _) q)) rfl ?_
    refine ⟨q, true, rfl, by rw [E.out]; rfl, ?_, (((K2.out.ks (Nat.le_of_lt hP)).set 2 _).off (ks_set4 _ _ _ _) (by omega) hP)⟩
    rw [E.out]
    refine Rd.ks ?_ (ks_set4 _ _ _ _) (by omega) (by omega)
    have := R2.out.at (s.size - bh.length)
    rw [ge] at this
    exact this
end Go.Proofs.YtnajcnhgeggngaaGreat
