/-
  Texts of this claim: Take, Shelf, Read1, Bytes, Class, Without.
-/
import Derived.Test.YtnajcnhgeggngaaGreatM1
import Derived.Shelf.LaysM
import Derived.Shelf.Strings.Search1
import Derived.Shelf.Strings.Search2
import Derived.Shelf.Strings.Cut
import Derived.Shelf.Strings.Shaped
import Derived.Shelf.Strings.Prefix
import Derived.Test.YtnajcnhgeggngaaGreatProg
import Derived.Maps.AppendAt
import Derived.Laws.OwnMore

/-! ### Take -/

namespace Go.Proofs.YtnajcnhgeggngaaGreat
set_option maxHeartbeats 2000000
set_option maxRecDepth 100000
open Go.RowKit

theorem take_any (x y z : Nat) (k mn mx m : Int) (t : W4) (ad : Option Addr) (l c : Nat) (s : ByteArray) (ere : Bool) (i n g d P : Nat) (w : World) (h : Rd w P s ere i n g d) (hi : i ≤ 1000000000) (hz : z ≤ 100) (hn : n ≤ 1000000000) :
  Calls Tryz.prog 113 #[.pointer (some ⟨P, 0, none⟩), .agg #[.int .i64 (x : Int), .int .u8 (y : Int), .int .i64 (z : Int)], rxv k mn mx m t (.slice ad l c)] w fun e w' => e = .returned (.tuple #[rxv k mn mx m t (.slice ad l c), .int .i64 0]) ∧ Rd w' P s ere (i + z) (n + 1) g d ∧ Ks P w w' := by
 have R : Hid (Rd w P s ere i n g d) := h
 have hP : P < w.heap.size := h.lt
 clear h
 have gw : IntKind.i64.wrap ((i : Int) + (z : Int)) = (i : Int) + (z : Int) := by rw [IntKind.wrap_i64]; omega
 go_enter Tryz.func113, Tryz.ntmps113
 go_upto_region 1 with fail
 refine opq (fun W0 => Rd W0 P s ere i n g d ∧ W0.heap[w.heap.size]? = some (sgo x y z) ∧ W0.heap[(w.heap.size + 1)]? = some (rxo k mn mx m t (.slice ad l c)) ∧ W0.heap[(w.heap.size + 2)]? = some rzo ∧ Kp w W0) ⟨by exact R.out.kp kpt, by (first | exact last_at _ _ _ (by simp) | (refine bl_alloc ?_ _; first | exact last_at _ _ _ (by simp) | (refine bl_alloc ?_ _; first | exact last_at _ _ _ (by simp) | (refine bl_alloc ?_ _; exact last_at _ _ _ (by simp))))), by (first | exact last_at _ _ _ (by simp) | (refine bl_alloc ?_ _; first | exact last_at _ _ _ (by simp) | (refine bl_alloc ?_ _; first | exact last_at _ _ _ (by simp) | (refine bl_alloc ?_ _; exact last_at _ _ _ (by simp))))), by (first | exact last_at _ _ _ (by simp) | (refine bl_alloc ?_ _; first | exact last_at _ _ _ (by simp) | (refine bl_alloc ?_ _; first | exact last_at _ _ _ (by simp) | (refine bl_alloc ?_ _; exact last_at _ _ _ (by simp))))), by exact kpt⟩ ?_
 rintro W0 ⟨xR0, xG0, xA0, xB0, xK0⟩
 have R0 := hid xR0
 have G0 := hid xG0
 have A0 := hid xA0
 have B0 := hid xB0
 have K0 := hid xK0
 clear xR0 xG0 xA0 xB0 xK0
 have ks0 : Hid (Ks P w W0) := K0.out.ks (Nat.le_of_lt hP)
 have fp2 := bl_frozen R0.out.b 2
 clear K0
 have Q0 : Kp W0 W0.drew := (Kp.refl _).drew
 have MK : Hid (∀ W, Kp W0 W → W.cell? ⟨P, 2, none⟩ = some (.int .i64 (i : Int)) ∧ W.cell? ⟨w.heap.size, 2, none⟩ = some (.int .i64 (z : Int)) ∧ Hid (Kp W0 W)) := fun W k => ⟨(R0.out.kp k).cells.2.2.1, bl_cell (bl_kp G0.out k) 2 _ rfl, k⟩
 refine wp_region_noPanic ?_
 refine hdrewZ 9 MK Q0 (fun hH => ?_)
 have KQ := Q0
 refine zk 9 0 [] (some 8) (Op.move (Operand.tmp 0)) 95 (v := ?v0a1) rfl ?h0a1 hH ?_
 case h0a1 => intro _ _; go_simp; try with_reducible rfl
 try simp only [ps]
 refine zk 9 1 [] (some 9) (Op.nilCheck (Operand.tmp 8)) 0 (v := ?v1a2) rfl ?h1a2 hH ?_
 case h1a2 => intro _ _; go_simp; try with_reducible rfl
 try simp only [ps]
 refine zk 9 2 [] (some 10) (Op.fieldAddr 65 (Operand.tmp 9) 2) 0 (v := ?v2a3) rfl ?h2a3 hH ?_
 case h2a3 => intro _ _; go_simp; try with_reducible rfl
 try simp only [ps]
 refine zk 9 3 [] (some 11) (Op.load 3 (Operand.tmp 10)) 3 (v := ?v3a4) rfl ?h3a4 hH ?_
 case h3a4 => intro _ _; go_simp; try with_reducible rfl
 try simp only [ps]
 refine zk 9 4 [] (some 12) (Op.fieldAddr 115 (Operand.tmp 4) 2) 0 (v := ?v4a5) rfl ?h4a5 hH ?_
 case h4a5 => intro _ _; go_simp; try with_reducible rfl
 try simp only [ps]
 refine zk 9 5 [] (some 13) (Op.load 3 (Operand.tmp 12)) 3 (v := ?v5a6) rfl ?h5a6 hH ?_
 case h5a6 => intro _ _; go_simp; try with_reducible rfl
 try simp only [ps]
 refine zk 9 6 [] (some 14) (Op.binOp BinOp.add 3 (Operand.tmp 11) (Operand.tmp 13) 3) 3 (v := ?v6a7) rfl ?h6a7 hH ?_
 case h6a7 => intro _ _; go_simp; try with_reducible rfl
 try simp only [ps]
 refine zk 9 7 [8] (some 15) (Op.nilCheck (Operand.tmp 8)) 0 (v := ?v7a8) rfl ?h7a8 hH ?_
 case h7a8 => intro _ _; go_simp; try with_reducible rfl
 try simp only [ps]
 refine zk 9 8 [] (some 16) (Op.fieldAddr 65 (Operand.tmp 15) 2) 0 (v := ?v8a9) rfl ?h8a9 hH ?_
 case h8a9 => intro _ _; go_simp; try with_reducible rfl
 try simp only [ps]
 refine anyZ_ready (rs := [9]) (by kernel_rfl) (by simp) ?_
 refine AllZ.last (o := { dst := none, op := Op.store 3 (Operand.tmp 16) (Operand.tmp 14), type := 0, pos := "parse.go:139", after := #[{ on := 8, ground := Ground.data }, { on := 6, ground := Ground.data }, { on := 0, ground := Ground.phase }, { on := 1, ground := Ground.phase }, { on := 2, ground := Ground.phase }, { on := 3, ground := Ground.phase }, { on := 4, ground := Ground.phase }, { on := 5, ground := Ground.phase }, { on := 6, ground := Ground.phase }], guard := none }) rfl (Or.inl rfl) (fun K hKq => ?_) AllZ.nil
 have fq2 := bl_frozen (R0.out.kp KQ).b 2
 have cq2 := (R0.out.kp KQ).cells.2.2.1
 go_simp
 refine hKq.out _ _ ?_
 clear fq2 cq2
 clear hKq K
 try simp only [ps]
 refine anyZ_done (by kernel_rfl) ?_ _
 refine NoPanic.normal ?_
 go_upto_region 2 with fail
 refine opq (fun W1 => Rd W1 P s ere (i + z) n g d ∧ W1.heap[(w.heap.size + 1)]? = some (rxo k mn mx m t (.slice ad l c)) ∧ W1.heap[(w.heap.size + 2)]? = some rzo ∧ Ks P w W1) ⟨by exact (R0.out.kp KQ).at (i + z), by exact bl_set (bl_kp A0.out KQ) (by omega) _, by exact bl_set (bl_kp B0.out KQ) (by omega) _, by exact (ks0.out.kpt KQ hP).set 2 _⟩ ?_
 rintro W1 ⟨xR1, xA1, xB1, xK1⟩
 have R1 := hid xR1
 have A1 := hid xA1
 have B1 := hid xB1
 have K1 := hid xK1
 clear xR1 xA1 xB1 xK1
 clear hH KQ Q0 MK R0 G0 A0 B0 ks0 fp2
 obtain ⟨a0, a1, a2, a3, a4, a5, a6, a7, a8⟩ := cells9 (A1.out)
 go_wp2_with fail
 refine (node_any k mn mx m t ad l c s ere (i + z) n g d P _ R1.out hn).mono ?_
 rintro e w2 ⟨rfl, r2, k2⟩
 have hs1 := K1.out.size
 have R2 : Hid (Rd w2 P s ere (i + z) (n + 1) g d) := r2
 have B2 : Hid (w2.heap[w.heap.size + 2]? = some rzo) := bl_ks B1.out (by omega) k2
 have K2 : Hid (Ks P w w2) := K1.out.trans k2
 clear r2 k2 K1 R1 A1 B1
 clear a0 a1 a2 a3 a4 a5 a6 a7 a8
 obtain ⟨b0, fb0, b1, fb1, b2, fb2, b3, fb3, b4, fb4, b5, fb5, b6, fb6, b7, fb7, b8, fb8⟩ := cellf9 (B2.out)
 go_wp2_with fail
 refine bodyPost_ret (v := .tuple #[.agg _, _]) (rx_ret2 rfl _ _ _ _ _ rfl rfl (bl_set9 B2.out _ _ _ _ _ _ _ _ _) rfl) rfl ⟨rfl, ?_, ?_⟩
 ·
  exact R2.out.ks (ks_set9 _ _ _ _ _ _ _ _ _) (by omega) (by omega)
 ·
  exact K2.out.off (ks_set9 _ _ _ _ _ _ _ _ _) (by omega) hP

end Go.Proofs.YtnajcnhgeggngaaGreat

/-! ### Shelf -/

namespace Go.Proofs
open Go.Shelf Go.RowKit
def Tryz.lays145_ren : Go.Shelf.Ren := ⟨fun | 145 => 143 | 220 => 146 | 219 => 152 | 217 => 153 | 225 => 154 | 224 => 155 | 267 => 156 | 266 => 157 | 314 => 158 | n => n, fun | 9 => 9 | 4 => 4 | 59 => 221 | 3 => 3 | 5 => 5 | 46 => 103 | 146 => 230 | 51 => 148 | n => n, fun | 1 => 0 | n => n⟩
theorem Tryz.lays145 : Go.Proofs.Lays.n145 Tryz.prog Tryz.lays145_ren := {
 mixed := by kernel_rfl
 f145 := Tryz.func143.trans (congrArg some (by kernel_rfl))
 f217 := Tryz.func153.trans (congrArg some (by kernel_rfl))
 f219 := Tryz.func152.trans (congrArg some (by kernel_rfl))
 f220 := Tryz.func146.trans (congrArg some (by kernel_rfl))
 f224 := Tryz.func155.trans (congrArg some (by kernel_rfl))
 f225 := Tryz.func154.trans (congrArg some (by kernel_rfl))
 f266 := Tryz.func157.trans (congrArg some (by kernel_rfl))
 f267 := Tryz.func156.trans (congrArg some (by kernel_rfl))
 f314 := Tryz.func158.trans (congrArg some (by kernel_rfl))
 t3 := Tryz.underlying3
 a3 := Tryz.isAgg3
 z3 := Tryz.sizeOf3
 v3 := Tryz.zeroValue3
 t4 := Tryz.underlying4
 a4 := Tryz.isAgg4
 z4 := Tryz.sizeOf4
 v4 := Tryz.zeroValue4
 t5 := Tryz.underlying5
 a5 := Tryz.isAgg5
 z5 := Tryz.sizeOf5
 v5 := Tryz.zeroValue5
 t9 := Tryz.underlying9
 a9 := Tryz.isAgg9
 z9 := Tryz.sizeOf9
 v9 := Tryz.zeroValue9
 t46 := Tryz.underlying103
 a46 := Tryz.isAgg103
 z46 := Tryz.sizeOf103
 v46 := Tryz.zeroValue103
 t51 := Tryz.underlying148
 a51 := Tryz.isAgg148
 z51 := Tryz.sizeOf148
 v51 := Tryz.zeroValue148
 t59 := Tryz.underlying221
 a59 := Tryz.isAgg221
 z59 := Tryz.sizeOf221
 v59 := Tryz.zeroValue221
 t146 := Tryz.underlying230
 a146 := Tryz.isAgg230
 z146 := Tryz.sizeOf230
 v146 := Tryz.zeroValue230
 g1 := by kernel_rfl }
theorem Tryz.strings_Cut (s sep : ByteArray) (m : Int) (w : World) (hs : s.size < 4294967281) (hm : w.cell? ⟨0, 0, none⟩ = some (.int .i64 m)) :
  Calls Tryz.prog 143 #[.string s, .string sep] w fun e w' => e = .returned (.tuple #[.string ⟨(Lib.cut s.data.toList sep.data.toList).1.toArray⟩, .string ⟨(Lib.cut s.data.toList sep.data.toList).2.1.toArray⟩, .bool (Lib.cut s.data.toList sep.data.toList).2.2]) ∧ ∃ n, w' = w.drewN n := Any.strings_Cut Tryz.lays145 s sep m w hs hm
def Tryz.lays99_ren : Go.Shelf.Ren := ⟨fun | 99 => 108 | 206 => 125 | n => n, fun | 9 => 9 | 4 => 4 | 3 => 3 | n => n, fun | n => n⟩
theorem Tryz.lays99 : Go.Proofs.Lays.n99 Tryz.prog Tryz.lays99_ren := {
 mixed := by kernel_rfl
 f99 := Tryz.func108.trans (congrArg some (by kernel_rfl))
 f206 := Tryz.func125.trans (congrArg some (by kernel_rfl))
 t3 := Tryz.underlying3
 a3 := Tryz.isAgg3
 z3 := Tryz.sizeOf3
 v3 := Tryz.zeroValue3
 t4 := Tryz.underlying4
 a4 := Tryz.isAgg4
 z4 := Tryz.sizeOf4
 v4 := Tryz.zeroValue4
 t9 := Tryz.underlying9
 a9 := Tryz.isAgg9
 z9 := Tryz.sizeOf9
 v9 := Tryz.zeroValue9 }
theorem Tryz.strings_HasPrefix (s p : ByteArray) (w : World) :
  Calls Tryz.prog 108 #[.string s, .string p] w fun e w' => e = .returned (.bool (Lib.hasPrefix s.data.toList p.data.toList)) ∧ w' = w := Any.strings_HasPrefix Tryz.lays99 s p w
end Go.Proofs

/-! ### Read1 -/

namespace Go.Proofs.YtnajcnhgeggngaaGreat
set_option maxHeartbeats 2000000
set_option maxRecDepth 100000
open Go.RowKit

theorem run_from (s : ByteArray) (i : Nat) (hi : i ≤ s.size) (w : World) : (Instr.slice 9 (.string s) (some (.int .i64 (i : Int))) none none).run Tryz.prog w = .ok (.string (s.extract i s.size)) w := by
 rw [run_slice_string_from_if w 9 s .i64 (i : Int) (by kernel_rfl), if_pos ⟨by omega, by omega⟩, Int.toNat_natCast]
def pfx (s : ByteArray) (i : Nat) (l : List UInt8) : Bool := l.isPrefixOf (s.data.toList.drop i)
theorem pfx_lib (s p : ByteArray) (i : Nat) : Lib.hasPrefix (s.extract i s.size).data.toList p.data.toList = pfx s i p.data.toList := by
 rw [Lib.extract_to_end]; rfl
theorem pfx_le {s : ByteArray} {i : Nat} {l : List UInt8} (h : pfx s i l = true) (hi : i ≤ s.size) : i + l.length ≤ s.size := by
 have := (List.isPrefixOf_iff_prefix.1 h).length_le
 rw [List.length_drop, show s.data.toList.length = s.size from Array.length_toList] at this
 omega

theorem takes_any (p : ByteArray) (s : ByteArray) (ere : Bool) (i n g d P : Nat) (w : World) (h : Rd w P s ere i n g d) (hi : i ≤ s.size) (hs : s.size ≤ 1000000) :
  Calls Tryz.prog 129 #[.pointer (some ⟨P, 0, none⟩), .string p] w fun e w' => e = .returned (.bool (pfx s i p.data.toList)) ∧ Rd w' P s ere (if pfx s i p.data.toList then i + p.size else i) n g d ∧ Ks P w w' := by
 have R : Hid (Rd w P s ere i n g d) := h
 have hP : P < w.heap.size := h.lt
 have hle : pfx s i p.data.toList = true → i + p.size ≤ s.size := fun hp => by have := pfx_le hp hi; rw [Array.length_toList] at this; exact this
 obtain ⟨q, hq⟩ : ∃ q, pfx s i p.data.toList = q := ⟨_, rfl⟩
 have HQ : Hid (pfx s i p.data.toList = q) := hq
 rw [hq] at hle ⊢
 clear h hq
 have es : ∀ w, (Instr.slice 9 (.string s) (some (.int .i64 (i : Int))) none none).run Tryz.prog w = .ok (.string (s.extract i s.size)) w := fun w => run_from s i hi w
 go_enter Tryz.func129, Tryz.ntmps129
 go_wp2_with fail
 go_cut [16] (fun v wc => v = .bool (!q) ∧ Kp w wc)
 case first =>
  have Q0 : Kp w w.drew := (Kp.refl _).drew
  have MK : Hid (∀ W, Kp w W → W.cell? ⟨P, 0, none⟩ = some (.string s) ∧ W.cell? ⟨P, 2, none⟩ = some (.int .i64 (i : Int)) ∧ Hid (Kp w W)) := fun W k => ⟨(R.out.kp k).cells.1, (R.out.kp k).cells.2.2.1, k⟩
  refine wp_region_noPanic ?_
  refine hdrew MK Q0 (fun hH => ?_)
  have KQ := Q0
  refine tk 0 (some 5) (Op.move (Operand.tmp 0)) 95 (v := ?v0a1) rfl ?h0a1 hH ?_
  case h0a1 => intro _ _; go_simp; try with_reducible rfl
  try simp only [ps]
  refine tk 1 (some 6) (Op.nilCheck (Operand.tmp 5)) 0 (v := ?v1a2) rfl ?h1a2 hH ?_
  case h1a2 => intro _ _; go_simp; try with_reducible rfl
  try simp only [ps]
  refine tk 2 (some 7) (Op.fieldAddr 65 (Operand.tmp 6) 0) 0 (v := ?v2a3) rfl ?h2a3 hH ?_
  case h2a3 => intro _ _; go_simp; try with_reducible rfl
  try simp only [ps]
  refine tk 3 (some 8) (Op.load 9 (Operand.tmp 7)) 9 (v := ?v3a4) rfl ?h3a4 hH ?_
  case h3a4 => intro _ _; go_simp; try with_reducible rfl
  try simp only [ps]
  refine tk 4 (some 9) (Op.move (Operand.tmp 0)) 95 (v := ?v4a5) rfl ?h4a5 hH ?_
  case h4a5 => intro _ _; go_simp; try with_reducible rfl
  try simp only [ps]
  refine tk 5 (some 10) (Op.nilCheck (Operand.tmp 9)) 0 (v := ?v5a6) rfl ?h5a6 hH ?_
  case h5a6 => intro _ _; go_simp; try with_reducible rfl
  try simp only [ps]
  refine tk 6 (some 11) (Op.fieldAddr 65 (Operand.tmp 10) 2) 0 (v := ?v6a7) rfl ?h6a7 hH ?_
  case h6a7 => intro _ _; go_simp; try with_reducible rfl
  try simp only [ps]
  refine tk 7 (some 12) (Op.load 3 (Operand.tmp 11)) 3 (v := ?v7a8) rfl ?h7a8 hH ?_
  case h7a8 => intro _ _; go_simp; try with_reducible rfl
  try simp only [ps]
  refine tk 8 (some 13) (Op.slice 9 (Operand.tmp 8) (some (Operand.tmp 12)) none none) 9 (v := ?v8a9) rfl ?h8a9 hH ?_
  case h8a9 => intro _ _; go_simp; try with_reducible rfl
  try simp only [ps]
  refine tk 9 (some 14) (Op.move (Operand.tmp 1)) 9 (v := ?v9a10) rfl ?h9a10 hH ?_
  case h9a10 => intro _ _; go_simp; try with_reducible rfl
  try simp only [ps]
  refine wpAnyH_ready (rs := [10]) (by kernel_rfl) (by simp) ?_
  refine AllReadyH.cons (o := { dst := some 15, op := Op.call { callee := Callee.value (Operand.func 108), args := #[Operand.tmp 13, Operand.tmp 14], argTypes := #[9, 9] }, type := 4, pos := "parse.go:230", after := #[{ on := 8, ground := Ground.data }, { on := 9, ground := Ground.data }], guard := none }) rfl (fun K hKq => ?_) AllReadyH.nil
  go_simp
  refine (Tryz.strings_HasPrefix (s.extract i s.size) p _).mono ?_
  rintro e yy ⟨rfl, rfl⟩
  rw [pfx_lib, HQ.out]
  refine hKq.out _ _ (MK.out _ KQ) (fun hN => ?_)
  clear hKq K hH KQ
  have hH := hN
  clear hN
  have KQ := hH.2.2.out
  try simp only [ps]
  refine tk 11 (some 16) (Op.unOp UnOp.not 4 (Operand.tmp 15)) 4 (v := ?v11a11) rfl ?h11a11 hH ?_
  case h11a11 => intro _ _; go_simp; try with_reducible rfl
  try simp only [ps]
  refine wpAnyH_done (by kernel_rfl) ?_ _
  refine NoPanic.normal ?_
  go_wp2_with fail
  go_meet
  case rel => exact ⟨rfl, KQ⟩
 case rest =>
  obtain ⟨rfl, k1⟩ := hcut
  rename World => w1
  have R1 : Hid (Rd w1 P s ere i n g d ∧ Kp w w1) := ⟨R.out.kp k1, k1⟩
  clear k1 R
  cases q with
  | false =>
   go_wp2_with fail
   go_ret
   exact ⟨rfl, R1.out.1, R1.out.2.ks (Nat.le_of_lt hP)⟩
  | true =>
   have hle' := hle rfl
   have p2 := R1.out.1.cells.2.2.1
   have fp2 := bl_frozen R1.out.1.b 2
   have gw : IntKind.i64.wrap ((i : Int) + (p.size : Int)) = (i : Int) + (p.size : Int) := by rw [IntKind.wrap_i64]; omega
   go_wp2_with fail
   go_ret
   exact ⟨rfl, R1.out.1.at (i + p.size), (R1.out.2.ks (Nat.le_of_lt hP)).set 2 _⟩

theorem atClass_any (s : ByteArray) (ere : Bool) (i n g d P : Nat) (w : World) (h : Rd w P s ere i n g d) (hi : i ≤ s.size) :
  Calls Tryz.prog 136 #[.pointer (some ⟨P, 0, none⟩)] w fun e w' => e = .returned (.bool (pfx s i [91, 58])) ∧ Kp w w' := by
 have R : Hid (Rd w P s ere i n g d) := h
 obtain ⟨q, hq⟩ : ∃ q, pfx s i [91, 58] = q := ⟨_, rfl⟩
 have HQ : Hid (Lib.hasPrefix (s.extract i s.size).data.toList (⟨#[91, 58]⟩ : ByteArray).data.toList = q) := by show _ = _; rw [pfx_lib]; exact hq
 rw [hq]
 clear h hq
 have es : ∀ w, (Instr.slice 9 (.string s) (some (.int .i64 (i : Int))) none none).run Tryz.prog w = .ok (.string (s.extract i s.size)) w := fun w => run_from s i hi w
 go_enter Tryz.func136, Tryz.ntmps136
 go_wp2_with fail
 have Q0 : Kp w w.drew := (Kp.refl _).drew
 have MK : Hid (∀ W, Kp w W → W.cell? ⟨P, 0, none⟩ = some (.string s) ∧ W.cell? ⟨P, 2, none⟩ = some (.int .i64 (i : Int)) ∧ Hid (Kp w W)) := fun W k => ⟨(R.out.kp k).cells.1, (R.out.kp k).cells.2.2.1, k⟩
 refine wp_region_noPanic ?_
 refine hdrew MK Q0 (fun hH => ?_)
 have KQ := Q0
 refine tk 0 (some 3) (Op.move (Operand.tmp 0)) 95 (v := ?v0b1) rfl ?h0b1 hH ?_
 case h0b1 => intro _ _; go_simp; try with_reducible rfl
 try simp only [ps]
 refine tk 1 (some 4) (Op.nilCheck (Operand.tmp 3)) 0 (v := ?v1b2) rfl ?h1b2 hH ?_
 case h1b2 => intro _ _; go_simp; try with_reducible rfl
 try simp only [ps]
 refine tk 2 (some 5) (Op.fieldAddr 65 (Operand.tmp 4) 0) 0 (v := ?v2b3) rfl ?h2b3 hH ?_
 case h2b3 => intro _ _; go_simp; try with_reducible rfl
 try simp only [ps]
 refine tk 3 (some 6) (Op.load 9 (Operand.tmp 5)) 9 (v := ?v3b4) rfl ?h3b4 hH ?_
 case h3b4 => intro _ _; go_simp; try with_reducible rfl
 try simp only [ps]
 refine tk 4 (some 7) (Op.move (Operand.tmp 0)) 95 (v := ?v4b5) rfl ?h4b5 hH ?_
 case h4b5 => intro _ _; go_simp; try with_reducible rfl
 try simp only [ps]
 refine tk 5 (some 8) (Op.nilCheck (Operand.tmp 7)) 0 (v := ?v5b6) rfl ?h5b6 hH ?_
 case h5b6 => intro _ _; go_simp; try with_reducible rfl
 try simp only [ps]
 refine tk 6 (some 9) (Op.fieldAddr 65 (Operand.tmp 8) 2) 0 (v := ?v6b7) rfl ?h6b7 hH ?_
 case h6b7 => intro _ _; go_simp; try with_reducible rfl
 try simp only [ps]
 refine tk 7 (some 10) (Op.load 3 (Operand.tmp 9)) 3 (v := ?v7b8) rfl ?h7b8 hH ?_
 case h7b8 => intro _ _; go_simp; try with_reducible rfl
 try simp only [ps]
 refine tk 8 (some 11) (Op.slice 9 (Operand.tmp 6) (some (Operand.tmp 10)) none none) 9 (v := ?v8b9) rfl ?h8b9 hH ?_
 case h8b9 => intro _ _; go_simp; try with_reducible rfl
 try simp only [ps]
 refine wpAnyH_ready (rs := [9]) (by kernel_rfl) (by simp) ?_
 refine AllReadyH.cons (o := { dst := some 12, op := Op.call { callee := Callee.value (Operand.func 108), args := #[Operand.tmp 11, Operand.const (Value.string { data := #[91, 58] })], argTypes := #[9, 9] }, type := 4, pos := "bracket.go:56", after := #[{ on := 8, ground := Ground.data }], guard := none }) rfl (fun K hKq => ?_) AllReadyH.nil
 go_simp
 refine (Tryz.strings_HasPrefix (s.extract i s.size) ⟨#[91, 58]⟩ _).mono ?_
 rintro e yy ⟨rfl, rfl⟩
 rw [HQ.out]
 refine hKq.out _ _ (MK.out _ KQ) (fun hN => ?_)
 clear hKq K hH KQ
 have hH := hN
 clear hN
 have KQ := hH.2.2.out
 try simp only [ps]
 refine tk 10 (some 2) (Op.assign (Operand.tmp 12)) 4 (v := ?v10b10) rfl ?h10b10 hH ?_
 case h10b10 => intro _ _; go_simp; try with_reducible rfl
 try simp only [ps]
 refine wpAnyH_done (by kernel_rfl) ?_ _
 refine NoPanic.normal ?_
 go_wp2_with fail
 go_ret
 exact ⟨rfl, KQ⟩

def dash (s : ByteArray) (i : Nat) : Bool := decide (i + 2 ≤ s.size) && (ch s i == 45) && !(ch s (i + 1) == 93)
def dashTo (s : ByteArray) (i : Nat) : Nat := if dash s i then i + 1 else i
theorem ch_ext (s : ByteArray) (i j : Nat) (h : i + j < s.size) : ch (s.extract i s.size) j = ch s (i + j) := by
 have z : s.data.size = s.size := rfl
 have e : (s.extract i s.size).data[j]? = s.data[i + j]? := by
  rw [ByteArray.data_extract, Array.getElem?_extract, if_pos (by omega)]
 unfold ch
 rw [e]
theorem ext_size (s : ByteArray) (i : Nat) (h : i ≤ s.size) : (s.extract i s.size).size = s.size - i := by
 rw [ByteArray.size_extract]; omega

theorem takesDash_any (s : ByteArray) (ere : Bool) (i n g d P : Nat) (w : World) (h : Rd w P s ere i n g d) (hi : i ≤ s.size) (hs : s.size ≤ 1000000) :
  Calls Tryz.prog 138 #[.pointer (some ⟨P, 0, none⟩)] w fun e w' => e = .returned (.bool (dash s i)) ∧ Rd w' P s ere (dashTo s i) n g d ∧ Ks P w w' := by
 have R : Hid (Rd w P s ere i n g d) := h
 have hP : P < w.heap.size := h.lt
 clear h
 have es : ∀ w, (Instr.slice 9 (.string s) (some (.int .i64 (i : Int))) none none).run Tryz.prog w = .ok (.string (s.extract i s.size)) w := fun w => run_from s i hi w
 have ez := ext_size s i hi
 have e0 : i + 2 ≤ s.size → ∀ w, (Instr.index 9 (.string (s.extract i s.size)) (.int .i64 0)).run Tryz.prog w = .ok (.int .u8 (ch s i : Nat)) w := fun h w => by
  have := run_ch (s.extract i s.size) 0 (by omega) w; rw [ch_ext s i 0 (by omega)] at this; exact this
 have e1 : i + 2 ≤ s.size → ∀ w, (Instr.index 9 (.string (s.extract i s.size)) (.int .i64 1)).run Tryz.prog w = .ok (.int .u8 (ch s (i + 1) : Nat)) w := fun h w => by
  have := run_ch (s.extract i s.size) 1 (by omega) w; rw [ch_ext s i 1 (by omega)] at this; exact this
 obtain ⟨t, ht⟩ : ∃ t, s.extract i s.size = t := ⟨_, rfl⟩
 rw [ht] at es ez e0 e1
 clear ht
 obtain ⟨b0, hb0⟩ : ∃ b, ch s i = b := ⟨_, rfl⟩
 obtain ⟨b1, hb1⟩ : ∃ b, ch s (i + 1) = b := ⟨_, rfl⟩
 have HD : Hid (dash s i = (decide (i + 2 ≤ s.size) && (b0 == 45) && !(b1 == 93))) := by show _ = _; unfold dash; rw [hb0, hb1]
 rw [hb0] at e0
 rw [hb1] at e1
 clear hb0 hb1
 obtain ⟨z, hz⟩ : ∃ z, t.size = z := ⟨_, rfl⟩
 rw [hz] at ez
 have EZ : Hid (z = s.size - i) := ez
 clear ez
 go_enter Tryz.func138, Tryz.ntmps138
 go_wp2_with fail
 go_cut [3] (fun v wc => v = .string t ∧ Kp w wc)
 case first =>
  have Q0 : Kp w w.drew := (Kp.refl _).drew
  have MK : Hid (∀ W, Kp w W → W.cell? ⟨P, 0, none⟩ = some (.string s) ∧ W.cell? ⟨P, 2, none⟩ = some (.int .i64 (i : Int)) ∧ Hid (Kp w W)) := fun W k => ⟨(R.out.kp k).cells.1, (R.out.kp k).cells.2.2.1, k⟩
  refine wp_region_noPanic ?_
  refine hdrew MK Q0 (fun hH => ?_)
  have KQ := Q0
  refine tk 0 (some 4) (Op.move (Operand.tmp 0)) 95 (v := ?v0c1) rfl ?h0c1 hH ?_
  case h0c1 => intro _ _; go_simp; try with_reducible rfl
  try simp only [ps]
  refine tk 1 (some 5) (Op.nilCheck (Operand.tmp 4)) 0 (v := ?v1c2) rfl ?h1c2 hH ?_
  case h1c2 => intro _ _; go_simp; try with_reducible rfl
  try simp only [ps]
  refine tk 2 (some 6) (Op.fieldAddr 65 (Operand.tmp 5) 0) 0 (v := ?v2c3) rfl ?h2c3 hH ?_
  case h2c3 => intro _ _; go_simp; try with_reducible rfl
  try simp only [ps]
  refine tk 3 (some 7) (Op.load 9 (Operand.tmp 6)) 9 (v := ?v3c4) rfl ?h3c4 hH ?_
  case h3c4 => intro _ _; go_simp; try with_reducible rfl
  try simp only [ps]
  refine tk 4 (some 8) (Op.move (Operand.tmp 0)) 95 (v := ?v4c5) rfl ?h4c5 hH ?_
  case h4c5 => intro _ _; go_simp; try with_reducible rfl
  try simp only [ps]
  refine tk 5 (some 9) (Op.nilCheck (Operand.tmp 8)) 0 (v := ?v5c6) rfl ?h5c6 hH ?_
  case h5c6 => intro _ _; go_simp; try with_reducible rfl
  try simp only [ps]
  refine tk 6 (some 10) (Op.fieldAddr 65 (Operand.tmp 9) 2) 0 (v := ?v6c7) rfl ?h6c7 hH ?_
  case h6c7 => intro _ _; go_simp; try with_reducible rfl
  try simp only [ps]
  refine tk 7 (some 11) (Op.load 3 (Operand.tmp 10)) 3 (v := ?v7c8) rfl ?h7c8 hH ?_
  case h7c8 => intro _ _; go_simp; try with_reducible rfl
  try simp only [ps]
  refine tk 8 (some 12) (Op.slice 9 (Operand.tmp 7) (some (Operand.tmp 11)) none none) 9 (v := ?v8c9) rfl ?h8c9 hH ?_
  case h8c9 => intro _ _; go_simp; try with_reducible rfl
  try simp only [ps]
  refine tk 9 (some 3) (Op.assign (Operand.tmp 12)) 9 (v := ?v9c10) rfl ?h9c10 hH ?_
  case h9c10 => intro _ _; go_simp; try with_reducible rfl
  try simp only [ps]
  refine wpAnyH_done (by kernel_rfl) ?_ _
  refine NoPanic.normal ?_
  go_wp2_with fail
  go_meet
  case rel => exact ⟨rfl, KQ⟩
 case rest =>
  obtain ⟨rfl, k1⟩ := hcut
  rename World => w1
  have R1 : Hid (Rd w1 P s ere i n g d ∧ Kp w w1) := ⟨R.out.kp k1, k1⟩
  clear k1 R es
  by_cases h2 : i + 2 ≤ s.size
  ·
   have x0 := e0 h2
   have x1 := e1 h2
   clear e0 e1
   have gz : ¬ (z : Int) < 2 := by have := EZ.out; omega
   by_cases h45 : b0 = 45
   ·
    subst h45
    rw [show ((45 : Nat) : Int) = 45 from rfl] at x0
    by_cases h93 : b1 = 93
    ·
     subst h93
     rw [show ((93 : Nat) : Int) = 93 from rfl] at x1
     have E : Hid (dash s i = false) := by show _ = _; rw [HD.out]; simp
     go_wp2_with fail
     go_ret
     exact ⟨by rw [E.out]; rfl, by unfold dashTo; rw [E.out]; exact R1.out.1, R1.out.2.ks (Nat.le_of_lt hP)⟩
    ·
     have g93 : ((b1 : Int) == 93) = false := by simp; omega
     have g93' : ¬ (b1 : Int) = 93 := by omega
     have E : Hid (dash s i = true) := by show _ = _; rw [HD.out, decide_eq_true h2]; simp [h93]
     have p2 := R1.out.1.cells.2.2.1
     have fp2 := bl_frozen R1.out.1.b 2
     have gw : IntKind.i64.wrap ((i : Int) + 1) = (i : Int) + 1 := by rw [IntKind.wrap_i64]; omega
     go_wp2_with fail
     go_ret
     exact ⟨by rw [E.out]; rfl, by unfold dashTo; rw [E.out]; exact R1.out.1.at (i + 1), (R1.out.2.ks (Nat.le_of_lt hP)).set 2 _⟩
   ·
    have g45 : ((b0 : Int) != 45) = true := by simp; omega
    have g45' : ¬ (b0 : Int) = 45 := by omega
    have E : Hid (dash s i = false) := by show _ = _; rw [HD.out]; simp [h45]
    go_wp2_with fail
    go_ret
    exact ⟨by rw [E.out]; rfl, by unfold dashTo; rw [E.out]; exact R1.out.1, R1.out.2.ks (Nat.le_of_lt hP)⟩
  ·
   have gz : (z : Int) < 2 := by have := EZ.out; omega
   have E : Hid (dash s i = false) := by show _ = _; rw [HD.out, decide_eq_false h2]; simp
   clear e0 e1
   go_wp2_with fail
   go_ret
   exact ⟨by rw [E.out]; rfl, by unfold dashTo; rw [E.out]; exact R1.out.1, R1.out.2.ks (Nat.le_of_lt hP)⟩
end Go.Proofs.YtnajcnhgeggngaaGreat

/-! ### Bytes -/

namespace Go.Proofs.YtnajcnhgeggngaaGreat
open Go.RowKit

def lst (p : Nat → Bool) (k : Nat) : List Nat := (List.range k).filter p

theorem lst_succ (p : Nat → Bool) (k : Nat) : lst p (k + 1) = lst p k ++ if p k then [k] else [] := by
 unfold lst
 rw [List.range_succ, List.filter_append]
 cases h : p k <;> simp [h]

theorem lst_length (p : Nat → Bool) (k : Nat) : (lst p k).length = cnt p k := by
 induction k with
 | zero => rfl
 | succ k ih =>
  rw [lst_succ, List.length_append, ih]
  unfold cnt
  rw [sm]
  cases p k <;> rfl

theorem cnt_le (p : Nat → Bool) (k : Nat) : cnt p k ≤ k := by
 rw [← lst_length]
 have := List.length_filter_le p (List.range k)
 rw [List.length_range] at this
 exact this

abbrev u8v (n : Nat) : Value := .int .u8 (n : Int)

theorem info5 : ∃ i, Tryz.prog.info? 5 = some i ∧ i.zero = some (.int .u8 0) ∧ i.size = 1 ∧ i.bytes = 1 := by
 obtain ⟨i, hi, h0, h1, h2⟩ := info_parts (P := Tryz.prog) (e := 5) (z := .int .u8 0) (size := 1) (bytes := 1) (by kernel_rfl)
 exact ⟨i, hi, h0, h1, h2⟩

theorem wpList_append_byte {ops : Array Oper} {rest : List Oper} {o : Oper} {a : Act} {Q : Exit → Act → World → Prop} (W : World) (hgd : o.guard = none) (s x : Operand)
  (ho : o.op = .call { callee := .builtin .append, args := #[s, x], argTypes := #[57, 57] })
  (base : Nat) (v u : Value) (n : Nat) (xs : List Value) (hs : a.eval s = v) (hown : Hid (W.ownsRow base 5 1 v n xs)) (B : Nat) (hB : B = W.heap.size)
  (hx : a.eval x = .slice (some ⟨B, 0, none⟩) 1 1) (h1 : u.oneCell' = true) (h63 : n ≤ 900) (hbase : base ≤ W.heap.size)
  (h : ∀ v' w', w'.ownsRow base 5 1 v' (n + 1) (xs ++ [u]) → (W.alloc (.cells #[u] 5)).grownBy w' v.ownBlock → wpList Tryz.prog ops Q rest (a.put o.dst v') w') :
  wpList Tryz.prog ops Q (o :: rest) a (W.alloc (.cells #[u] 5)) := by
 obtain ⟨i, hi, hz, hsz, hby⟩ := info5
 subst hB
 refine wpList_append_own_at (W.alloc (.cells #[u] 5)) hgd s x 57 ho base 5 i (.int .u8 0) 1 1 Tryz.underlying57 hi hz hsz hby rfl (by omega) v n xs hs (hown.out.alloc _) ⟨W.heap.size, 0, none⟩ 1 1 [u] hx rfl ?_ ?_ (by unfold maxLen; omega) (by omega) (by simp; omega) ?_
 ·
  intro j y hj
  match j, hj with
  | 0, hj => simp at hj; subst hj; simp [Addr.add]
 ·
  intro y hy; simp at hy; subst hy; exact h1
 ·
  intro v' w' a1 a2 _ _
  exact h v' w' a1 a2

theorem owns_kp {w w' : World} {B e k n : Nat} {v : Value} {xs : List Value} (h : w.ownsRow B e k v n xs) (hk : Kp w w') : w'.ownsRow B e k v n xs := by
 obtain ⟨h1, h2⟩ := h
 refine ⟨h1, ?_⟩
 rcases h2 with h2 | ⟨g, cap, cur, hv, hb, hg, hr⟩
 ·
  exact .inl h2
 ·
  exact .inr ⟨g, cap, cur, hv, hb, (hk.block g (Array.getElem?_eq_some_iff.1 hg).1).trans hg, hr⟩

end Go.Proofs.YtnajcnhgeggngaaGreat

/-! ### Class -/

namespace Go.Proofs.YtnajcnhgeggngaaGreat
open Go.RowKit

def none8 : Nat → Bool := fun _ => false
def cUpper : Nat → Bool := rng 65 90
def cLower : Nat → Bool := rng 97 122
def cAlpha : Nat → Bool := orB (rng 65 90) (rng 97 122)
def cDigit : Nat → Bool := rng 48 57
def cAlnum : Nat → Bool := orB cAlpha cDigit
def cSpace : Nat → Bool := orB (addB (fun _ => false) 32) (rng 9 13)
def cBlank : Nat → Bool := addB (addB (fun _ => false) 32) 9
def cGraph : Nat → Bool := rng 33 126
def less (s t : Nat → Bool) : Nat → Bool := notB (orB (notB s) t)
def cPunct : Nat → Bool := less cGraph cAlnum
def cPrint : Nat → Bool := orB (addB (fun _ => false) 32) cGraph
def cCntrl : Nat → Bool := orB (rng 0 31) (addB (fun _ => false) 127)
def cXdigit : Nat → Bool := orB (orB cDigit (rng 65 70)) (rng 97 102)

theorem ret2_at {fn : Func} {p u : Tmp} (h : fn.results = #[.cell p 24, .tmp u]) (tmps : Array Value) (w : World) (S : Nat) (q : Nat → Bool)
  (hp : tmps.getD p undef = .pointer (some ⟨S, 0, none⟩)) (hA : At w S q) : (results fn tmps).run Tryz.prog w = .ok (.tuple #[sv q, tmps.getD u undef]) w := by
 have hp' : tmps[p]?.getD undef = .pointer (some ⟨S, 0, none⟩) := by simpa using hp
 have hl := run_loadVar_row (P := Tryz.prog) w S 24 24 _ (0, 0) _ hA Tryz.underlying24 rfl (by kernel_rfl)
 simp [results, h, hp', asAddr, hl]

theorem set4_kp {w wN : World} {B : Nat} (hB : w.heap.size ≤ B) (K : Kp w wN) (a b c d : Value) :
  Kp w ((((wN.setCell ⟨B, 0, none⟩ a).setCell ⟨B, 1, none⟩ b).setCell ⟨B, 2, none⟩ c).setCell ⟨B, 3, none⟩ d) :=
 (((K.setCell hB _).setCell hB _).setCell hB _).setCell hB _

theorem alpha_any (w : World) : Calls Tryz.prog 147 #[] w fun e w' => e = .returned (sv cAlpha) ∧ Kp w w' := by
 go_enter Tryz.func147, Tryz.ntmps147
 go_wp2_with fail
 refine (range_any 65 90 _ (by omega) (by omega)).mono ?_
 rintro e w1 ⟨rfl, k⟩
 have K1 : Hid (Kp (w.alloc zero4) w1) := (((Kp.refl _))).trans k
 clear k
 go_wp2_with fail
 refine (range_any 97 122 _ (by omega) (by omega)).mono ?_
 rintro e w2 ⟨rfl, k⟩
 have K2 : Hid (Kp (w.alloc zero4) w2) := ((K1.out)).trans k
 clear k
 go_wp2_with fail
 refine (join2 (rng 65 90) (rng 97 122) _ _ (by simp) (last_of _ _)).mono ?_
 rintro e w3 ⟨rfl, k⟩
 have K3 : Hid (Kp (w.alloc zero4) w3) := ((K2.out).alloc _).trans k
 clear k
 have z := K3.out.at (At.zero w)
 obtain ⟨d0, d1, d2, d3⟩ := z.cells
 have f0 := z.frozen 0; have f1 := z.frozen 1; have f2 := z.frozen 2; have f3 := z.frozen 3
 have Z : Hid (At w3 w.heap.size (fun _ => false)) := z
 clear z
 go_wp2
 refine bodyPost_ret (v := sv cAlpha) (ret_at Tryz.results147 _ _ w.heap.size _ rfl (Z.out.set4 cAlpha)) rfl ⟨rfl, ?_⟩
 exact set4_kp (Nat.le_refl _) (((Kp.refl _).alloc _).trans K3.out) _ _ _ _

theorem digit_any (w : World) : Calls Tryz.prog 148 #[] w fun e w' => e = .returned (sv cDigit) ∧ Kp w w' := by
 go_enter Tryz.func148, Tryz.ntmps148
 go_wp2_with fail
 refine (range_any 48 57 _ (by omega) (by omega)).mono ?_
 rintro e w1 ⟨rfl, k⟩
 have K1 : Hid (Kp (w.alloc zero4) w1) := (((Kp.refl _))).trans k
 clear k
 have z := K1.out.at (At.zero w)
 obtain ⟨d0, d1, d2, d3⟩ := z.cells
 have f0 := z.frozen 0; have f1 := z.frozen 1; have f2 := z.frozen 2; have f3 := z.frozen 3
 have Z : Hid (At w1 w.heap.size (fun _ => false)) := z
 clear z
 go_wp2
 refine bodyPost_ret (v := sv cDigit) (ret_at Tryz.results148 _ _ w.heap.size _ rfl (Z.out.set4 cDigit)) rfl ⟨rfl, ?_⟩
 exact set4_kp (Nat.le_refl _) (((Kp.refl _).alloc _).trans K1.out) _ _ _ _

theorem alnum_any (w : World) : Calls Tryz.prog 149 #[] w fun e w' => e = .returned (sv cAlnum) ∧ Kp w w' := by
 go_enter Tryz.func149, Tryz.ntmps149
 go_wp2_with fail
 refine (alpha_any _).mono ?_
 rintro e w1 ⟨rfl, k⟩
 have K1 : Hid (Kp (w.alloc zero4) w1) := (((Kp.refl _))).trans k
 clear k
 go_wp2_with fail
 refine (digit_any _).mono ?_
 rintro e w2 ⟨rfl, k⟩
 have K2 : Hid (Kp (w.alloc zero4) w2) := ((K1.out)).trans k
 clear k
 go_wp2_with fail
 refine (join2 cAlpha cDigit _ _ (by simp) (last_of _ _)).mono ?_
 rintro e w3 ⟨rfl, k⟩
 have K3 : Hid (Kp (w.alloc zero4) w3) := ((K2.out).alloc _).trans k
 clear k
 have z := K3.out.at (At.zero w)
 obtain ⟨d0, d1, d2, d3⟩ := z.cells
 have f0 := z.frozen 0; have f1 := z.frozen 1; have f2 := z.frozen 2; have f3 := z.frozen 3
 have Z : Hid (At w3 w.heap.size (fun _ => false)) := z
 clear z
 go_wp2
 refine bodyPost_ret (v := sv cAlnum) (ret_at Tryz.results149 _ _ w.heap.size _ rfl (Z.out.set4 cAlnum)) rfl ⟨rfl, ?_⟩
 exact set4_kp (Nat.le_refl _) (((Kp.refl _).alloc _).trans K3.out) _ _ _ _

theorem graph_any (w : World) : Calls Tryz.prog 151 #[] w fun e w' => e = .returned (sv cGraph) ∧ Kp w w' := by
 go_enter Tryz.func151, Tryz.ntmps151
 go_wp2_with fail
 refine (range_any 33 126 _ (by omega) (by omega)).mono ?_
 rintro e w1 ⟨rfl, k⟩
 have K1 : Hid (Kp (w.alloc zero4) w1) := (((Kp.refl _))).trans k
 clear k
 have z := K1.out.at (At.zero w)
 obtain ⟨d0, d1, d2, d3⟩ := z.cells
 have f0 := z.frozen 0; have f1 := z.frozen 1; have f2 := z.frozen 2; have f3 := z.frozen 3
 have Z : Hid (At w1 w.heap.size (fun _ => false)) := z
 clear z
 go_wp2
 refine bodyPost_ret (v := sv cGraph) (ret_at Tryz.results151 _ _ w.heap.size _ rfl (Z.out.set4 cGraph)) rfl ⟨rfl, ?_⟩
 exact set4_kp (Nat.le_refl _) (((Kp.refl _).alloc _).trans K1.out) _ _ _ _

end Go.Proofs.YtnajcnhgeggngaaGreat

/-! ### Without -/

namespace Go.Proofs.YtnajcnhgeggngaaGreat
set_option maxHeartbeats 2000000
set_option maxRecDepth 100000
open Go.RowKit

theorem At.new' (w : World) (q : Nat → Bool) (B : Nat) (hB : B = w.heap.size) : At (w.alloc (blk q)) B q := by subst hB; exact At.new w q
theorem At.zero' (w : World) (B : Nat) (hB : B = w.heap.size) : At (w.alloc zero4) B (fun _ => false) := by subst hB; exact At.zero w

theorem without_any (s t : Nat → Bool) (w : World) : Calls Tryz.prog 150 #[sv s, sv t] w fun e w' => e = .returned (sv (less s t)) ∧ Kp w w' := by
 have A1 : Hid (At (((w.alloc (blk s)).alloc (blk t)).alloc zero4) (w.heap.size + 1) t) := (At.new' _ _ _ (by simp)).alloc _
 have A2 : Hid (At (((w.alloc (blk s)).alloc (blk t)).alloc zero4) (w.heap.size + 1 + 1) (fun _ => false)) := At.zero' _ _ (by simp)
 have S0 : Hid (Kp (((w.alloc (blk s)).alloc (blk t)).alloc zero4) (((w.alloc (blk s)).alloc (blk t)).alloc zero4)) := Kp.refl _
 go_enter Tryz.func150, Tryz.ntmps150
 go_wp2
 go_region_with (first
  | (go_at_call 20; have T := S0.out; clear T; refine (not_any s _).mono ?_; rintro e w1 ⟨rfl, k⟩; have S1 : Hid (Kp (((w.alloc (blk s)).alloc (blk t)).alloc zero4) w1) := (by refine Kp.trans ?_ k; first | exact S0.out | exact S0.out.drew | exact S0.out.drewN _); clear S0 k; obtain ⟨d0, d1, d2, d3⟩ := (S1.out.at A1.out).cells)
  | (go_at_call 131; refine (join2 (notB s) t _ _ ?hs ?hX).mono ?_; (case hs => simp); (case hX => exact last_of _ _); rintro e w2 ⟨rfl, k⟩; have S2 : Hid (Kp (((w.alloc (blk s)).alloc (blk t)).alloc zero4) w2) := (by refine Kp.trans ?_ k; first | exact S1.out.alloc _ | exact (S1.out.alloc _).drew | exact (S1.out.alloc _).drewN _); clear k)
  | (go_at_call 20; have T := S2.out; clear T; refine (not_any (orB (notB s) t) _).mono ?_; rintro e w3 ⟨rfl, k⟩; have S3 : Hid (Kp (((w.alloc (blk s)).alloc (blk t)).alloc zero4) w3) := (by refine Kp.trans ?_ k; first | exact S2.out | exact S2.out.drew | exact S2.out.drewN _); clear k; obtain ⟨e0, e1, e2, e3⟩ := (S3.out.at A2.out).cells; have f0 := (S3.out.at A2.out).frozen 0; have f1 := (S3.out.at A2.out).frozen 1; have f2 := (S3.out.at A2.out).frozen 2; have f3 := (S3.out.at A2.out).frozen 3))
 all_goals
  go_wp2
  refine bodyPost_ret (v := sv (less s t)) (ret_at Tryz.results150 _ _ (w.heap.size + 1 + 1) _ rfl ((S3.out.at A2.out).set4 (less s t))) rfl ⟨rfl, ?_⟩
  exact set4_kp (by omega) (((((Kp.refl _).alloc _).alloc _).alloc _).trans S3.out) _ _ _ _
end Go.Proofs.YtnajcnhgeggngaaGreat
