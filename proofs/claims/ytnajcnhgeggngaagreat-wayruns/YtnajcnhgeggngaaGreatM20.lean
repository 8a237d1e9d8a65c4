/-
  Texts of this claim: RHas.
-/
import Derived.Test.YtnajcnhgeggngaaGreatM19
import Derived.Laws.Cover3

/-! ### RHas -/

namespace Go.Proofs.YtnajcnhgeggngaaGreat.Way
set_option maxHeartbeats 2000000
set_option maxRecDepth 100000
open Go.RowKit Go.Proofs.YtnajcnhgeggngaaGreat

theorem opqE {Q : Exit → Act → World → Prop} {x : Exit} {a : Act} {w : World} (R : World → Prop) (hr : R w) (h : ∀ W, R W → Q x a W) : Q x a w := h w hr
theorem map_nil (m : Option Nat) (w : World) : (binOp .eql 175 (.map m) (.map none)).run Tryz.prog w = .ok (.bool m.isNone) w := run_eql_map_nil w 175 83 206 m Tryz.underlying175
structure PlOk (pl : Nat) (xs : List Sp) : Prop where
 lt : pl < 2305843009213693952
 bit : ∀ i : Nat, i ≤ 60 → (pl / 2 ^ i % 2 = 1 ↔ ∃ y ∈ xs, y.a = (i : Int))
theorem rhasA_any (R h pl : Nat) (lv : Value) (sn : Option Nat) (hh : h < 8) (base : Nat) (xs : List Sp) (key : Sp) (hk : key.Ok) (hkey : key.only h = key) (w : World) (hR : w.heap[R]? = some (.cells #[.int .u8 (h : Int), lv, .int .u64 (pl : Int), .map sn] 177)) (hS : SpR base w lv xs) (hn : xs.length ≤ 5000000000000) (hP : PlOk pl xs) (hs : ∀ b, sn = some b → SetAt w b (xs.map (Sp.only h)) ∧ h ≠ 0) :
  Calls Tryz.prog 133 #[.pointer (some ⟨R, 0, none⟩), spv key] w fun e w' => e = .returned (.bool (xs.any (fun y => y.only h == key))) ∧ Kp w w' := by
 have HR := hid hR
 have HS := hid hS
 have HQS := hid hs
 have hka := hk.a0
 have hkb := hk.a1
 obtain ⟨a, ha⟩ : ∃ a, key.a.toNat = a := ⟨_, rfl⟩
 have HBI : Hid (bits .and .u64 ((pl : Int) / 2 ^ key.a.toNat) 1 = ((pl / 2 ^ a % 2 : Nat) : Int)) := by
  show _ = _
  rw [ha]
  have h1 : ((pl : Int) / 2 ^ a) = ((pl / 2 ^ a : Nat) : Int) := by rw [Int.natCast_ediv, Int.natCast_pow]; rfl
  have h2 : pl / 2 ^ a ≤ pl := Nat.div_le_self _ _
  have h3 := hP.lt
  rw [h1, show (1 : Int) = ((1 : Nat) : Int) from rfl, u64_and_nat _ _ (by omega) (by omega), Nat.and_one_is_mod]
 clear hR hS hs
 by_cases hb : pl / 2 ^ a % 2 = 1
 case neg =>
  have HB : Hid ((bits .and .u64 ((pl : Int) / 2 ^ key.a.toNat) 1 == 0) = true) := by show _ = _; rw [HBI.out, beq_iff_eq]; omega
  have E : Hid (xs.any (fun y => y.only h == key) = false) := by
   show _ = _
   rw [List.any_eq_false]
   intro y hy e
   have e2 : y.only h = key := by simpa using e
   refine hb ((hP.bit a (by omega)).2 ⟨y, hy, ?_⟩)
   have : (y.only h).a = y.a := rfl
   rw [← this, e2]
   omega
  clear hb HBI ha hP hkey
  go_enter Tryz.func133, Tryz.ntmps133
  go_upto_region 1 with fail
  refine opq (fun W0 => W0.heap[w.heap.size]? = some (.cells #[.pointer (some ⟨R, 0, none⟩)] 179) ∧ W0.heap[(w.heap.size + 1)]? = some (spo key) ∧ W0.heap[R]? = some (.cells #[.int .u8 (h : Int), lv, .int .u64 (pl : Int), .map sn] 177) ∧ Kp w W0 ∧ SpR base W0 lv xs ∧ ∀ b, sn = some b → SetAt W0 b (xs.map (Sp.only h))) ⟨by exact bl_alloc (last_of _ _) _, by exact last_at _ _ _ (by simp), by exact bl_kp HR.out kpt, by exact kpt, by exact HS.out.kp kpt, by exact fun b hb => ((HQS.out b hb).1).same (Below.block (show Kp w _ from kpt) b (HQS.out b hb).1.lt)⟩ ?_
  rintro W0 ⟨xV0, xKB, xR0, xK0, xS0, xQS0⟩
  have V0 := hid xV0
  have KB := hid xKB
  have R0 := hid xR0
  have K0 := hid xK0
  have S0 := hid xS0
  have QS0 := hid xQS0
  clear xV0 xKB xR0 xK0 xS0 xQS0
  have Q0 : Kp W0 W0.drew := (Kp.refl _).drew
  have MK : Hid (∀ W, Kp W0 W → W.cell? ⟨w.heap.size, 0, none⟩ = some (.pointer (some ⟨R, 0, none⟩)) ∧ W.cell? ⟨R, 2, none⟩ = some (.int .u64 (pl : Int)) ∧ W.cell? ⟨(w.heap.size + 1), 0, none⟩ = some (.int .i8 key.a) ∧ Hid (Kp W0 W)) := fun W k => ⟨bl_cell (bl_kp V0.out k) 0 _ rfl, bl_cell (bl_kp R0.out k) 2 _ rfl, bl_cell (bl_kp KB.out k) 0 _ rfl, k⟩
  refine wp_region_noPanic ?_
  refine hdrew MK Q0 (fun hH => ?_)
  have KQ := Q0
  refine tk 0 (some 8) (Op.load 179 (Operand.tmp 2)) 179 (v := ?v0a1) rfl ?h0a1 hH ?_
  case h0a1 => intro _ _; go_simp; try with_reducible rfl
  try simp only [ps]
  refine tk 1 (some 9) (Op.nilCheck (Operand.tmp 8)) 0 (v := ?v1a2) rfl ?h1a2 hH ?_
  case h1a2 => intro _ _; go_simp; try with_reducible rfl
  try simp only [ps]
  refine tk 2 (some 10) (Op.fieldAddr 177 (Operand.tmp 9) 2) 0 (v := ?v2a3) rfl ?h2a3 hH ?_
  case h2a3 => intro _ _; go_simp; try with_reducible rfl
  try simp only [ps]
  refine tk 3 (some 11) (Op.load 22 (Operand.tmp 10)) 22 (v := ?v3a4) rfl ?h3a4 hH ?_
  case h3a4 => intro _ _; go_simp; try with_reducible rfl
  try simp only [ps]
  refine tk 4 (some 12) (Op.fieldAddr 83 (Operand.tmp 3) 0) 0 (v := ?v4a5) rfl ?h4a5 hH ?_
  case h4a5 => intro _ _; go_simp; try with_reducible rfl
  try simp only [ps]
  refine tk 5 (some 13) (Op.load 78 (Operand.tmp 12)) 78 (v := ?v5a6) rfl ?h5a6 hH ?_
  case h5a6 => intro _ _; go_simp; try with_reducible rfl
  try simp only [ps]
  refine tk 6 (some 14) (Op.binOp BinOp.shr 22 (Operand.tmp 11) (Operand.tmp 13) 78) 22 (v := ?v6a7) rfl ?h6a7 hH ?_
  case h6a7 => intro _ _; go_simp; try with_reducible rfl
  try simp only [ps]
  refine tk 7 (some 15) (Op.binOp BinOp.and 22 (Operand.tmp 14) (Operand.const (Value.int IntKind.u64 1)) 22) 22 (v := ?v7a8) rfl ?h7a8 hH ?_
  case h7a8 => intro _ _; go_simp; try with_reducible rfl
  try simp only [ps]
  refine tk 8 (some 16) (Op.binOp BinOp.eql 22 (Operand.tmp 15) (Operand.const (Value.int IntKind.u64 0)) 22) 4 (v := ?v8a9) rfl ?h8a9 hH ?_
  case h8a9 => intro _ _; go_simp; try with_reducible rfl
  try simp only [ps]
  refine tk 9 (some 7) (Op.assign (Operand.tmp 16)) 4 (v := ?v9a10) rfl ?h9a10 hH ?_
  case h9a10 => intro _ _; go_simp; try with_reducible rfl
  try simp only [ps]
  refine wpAnyH_done (by kernel_rfl) ?_ _
  refine NoPanic.normal ?_
  rw [HB.out]
  refine opqE (fun W1 => W1.heap[w.heap.size]? = some (.cells #[.pointer (some ⟨R, 0, none⟩)] 179) ∧ W1.heap[(w.heap.size + 1)]? = some (spo key) ∧ W1.heap[R]? = some (.cells #[.int .u8 (h : Int), lv, .int .u64 (pl : Int), .map sn] 177) ∧ Kp w W1 ∧ SpR base W1 lv xs ∧ ∀ b, sn = some b → SetAt W1 b (xs.map (Sp.only h))) ⟨by exact bl_kp V0.out KQ, by exact bl_kp KB.out KQ, by exact bl_kp R0.out KQ, by exact K0.out.trans KQ, by exact S0.out.kp KQ, by exact fun b hb => (QS0.out b hb).same (KQ.block b (QS0.out b hb).lt)⟩ ?_
  rintro W1 ⟨xV1, xKB1, xR1, xK1, xS1, xQ1⟩
  have V1 := hid xV1
  have KB1 := hid xKB1
  have R1 := hid xR1
  have K1 := hid xK1
  have S1 := hid xS1
  have Q1 := hid xQ1
  clear xV1 xKB1 xR1 xK1 xS1 xQ1
  obtain ⟨r0, r1, r2, r3⟩ := cells4 R1.out
  have v0 := bl_cell V1.out 0 _ rfl
  go_wp2_with fail
  go_ret
  exact ⟨by rw [E.out]; rfl, K1.out⟩
 case pos =>
 have HB : Hid ((bits .and .u64 ((pl : Int) / 2 ^ key.a.toNat) 1 == 0) = false) := by show _ = _; rw [HBI.out, hb]; rfl
 by_cases h0 : h = 0
 ·
  have h0b : ((h : Int) == 0) = true := by rw [h0]; rfl
  have E : Hid (xs.any (fun y => y.only h == key) = true) := by
   show _ = _
   obtain ⟨y, hy, hya⟩ := (hP.bit a (by omega)).1 hb
   rw [List.any_eq_true]
   refine ⟨y, hy, ?_⟩
   have e1 : y.only h = key.only h := by
    rw [h0]
    unfold Sp.only
    rw [show y.a = key.a by omega]
    rfl
   rw [e1, hkey]
   simp
  clear hb HBI ha hP hkey h0
  go_enter Tryz.func133, Tryz.ntmps133
  go_upto_region 1 with fail
  refine opq (fun W0 => W0.heap[w.heap.size]? = some (.cells #[.pointer (some ⟨R, 0, none⟩)] 179) ∧ W0.heap[(w.heap.size + 1)]? = some (spo key) ∧ W0.heap[R]? = some (.cells #[.int .u8 (h : Int), lv, .int .u64 (pl : Int), .map sn] 177) ∧ Kp w W0 ∧ SpR base W0 lv xs ∧ ∀ b, sn = some b → SetAt W0 b (xs.map (Sp.only h))) ⟨by exact bl_alloc (last_of _ _) _, by exact last_at _ _ _ (by simp), by exact bl_kp HR.out kpt, by exact kpt, by exact HS.out.kp kpt, by exact fun b hb => ((HQS.out b hb).1).same (Below.block (show Kp w _ from kpt) b (HQS.out b hb).1.lt)⟩ ?_
  rintro W0 ⟨xV0, xKB, xR0, xK0, xS0, xQS0⟩
  have V0 := hid xV0
  have KB := hid xKB
  have R0 := hid xR0
  have K0 := hid xK0
  have S0 := hid xS0
  have QS0 := hid xQS0
  clear xV0 xKB xR0 xK0 xS0 xQS0
  have Q0 : Kp W0 W0.drew := (Kp.refl _).drew
  have MK : Hid (∀ W, Kp W0 W → W.cell? ⟨w.heap.size, 0, none⟩ = some (.pointer (some ⟨R, 0, none⟩)) ∧ W.cell? ⟨R, 2, none⟩ = some (.int .u64 (pl : Int)) ∧ W.cell? ⟨(w.heap.size + 1), 0, none⟩ = some (.int .i8 key.a) ∧ Hid (Kp W0 W)) := fun W k => ⟨bl_cell (bl_kp V0.out k) 0 _ rfl, bl_cell (bl_kp R0.out k) 2 _ rfl, bl_cell (bl_kp KB.out k) 0 _ rfl, k⟩
  refine wp_region_noPanic ?_
  refine hdrew MK Q0 (fun hH => ?_)
  have KQ := Q0
  refine tk 0 (some 8) (Op.load 179 (Operand.tmp 2)) 179 (v := ?v0b1) rfl ?h0b1 hH ?_
  case h0b1 => intro _ _; go_simp; try with_reducible rfl
  try simp only [ps]
  refine tk 1 (some 9) (Op.nilCheck (Operand.tmp 8)) 0 (v := ?v1b2) rfl ?h1b2 hH ?_
  case h1b2 => intro _ _; go_simp; try with_reducible rfl
  try simp only [ps]
  refine tk 2 (some 10) (Op.fieldAddr 177 (Operand.tmp 9) 2) 0 (v := ?v2b3) rfl ?h2b3 hH ?_
  case h2b3 => intro _ _; go_simp; try with_reducible rfl
  try simp only [ps]
  refine tk 3 (some 11) (Op.load 22 (Operand.tmp 10)) 22 (v := ?v3b4) rfl ?h3b4 hH ?_
  case h3b4 => intro _ _; go_simp; try with_reducible rfl
  try simp only [ps]
  refine tk 4 (some 12) (Op.fieldAddr 83 (Operand.tmp 3) 0) 0 (v := ?v4b5) rfl ?h4b5 hH ?_
  case h4b5 => intro _ _; go_simp; try with_reducible rfl
  try simp only [ps]
  refine tk 5 (some 13) (Op.load 78 (Operand.tmp 12)) 78 (v := ?v5b6) rfl ?h5b6 hH ?_
  case h5b6 => intro _ _; go_simp; try with_reducible rfl
  try simp only [ps]
  refine tk 6 (some 14) (Op.binOp BinOp.shr 22 (Operand.tmp 11) (Operand.tmp 13) 78) 22 (v := ?v6b7) rfl ?h6b7 hH ?_
  case h6b7 => intro _ _; go_simp; try with_reducible rfl
  try simp only [ps]
  refine tk 7 (some 15) (Op.binOp BinOp.and 22 (Operand.tmp 14) (Operand.const (Value.int IntKind.u64 1)) 22) 22 (v := ?v7b8) rfl ?h7b8 hH ?_
  case h7b8 => intro _ _; go_simp; try with_reducible rfl
  try simp only [ps]
  refine tk 8 (some 16) (Op.binOp BinOp.eql 22 (Operand.tmp 15) (Operand.const (Value.int IntKind.u64 0)) 22) 4 (v := ?v8b9) rfl ?h8b9 hH ?_
  case h8b9 => intro _ _; go_simp; try with_reducible rfl
  try simp only [ps]
  refine tk 9 (some 7) (Op.assign (Operand.tmp 16)) 4 (v := ?v9b10) rfl ?h9b10 hH ?_
  case h9b10 => intro _ _; go_simp; try with_reducible rfl
  try simp only [ps]
  refine wpAnyH_done (by kernel_rfl) ?_ _
  refine NoPanic.normal ?_
  rw [HB.out]
  refine opqE (fun W1 => W1.heap[w.heap.size]? = some (.cells #[.pointer (some ⟨R, 0, none⟩)] 179) ∧ W1.heap[(w.heap.size + 1)]? = some (spo key) ∧ W1.heap[R]? = some (.cells #[.int .u8 (h : Int), lv, .int .u64 (pl : Int), .map sn] 177) ∧ Kp w W1 ∧ SpR base W1 lv xs ∧ ∀ b, sn = some b → SetAt W1 b (xs.map (Sp.only h))) ⟨by exact bl_kp V0.out KQ, by exact bl_kp KB.out KQ, by exact bl_kp R0.out KQ, by exact K0.out.trans KQ, by exact S0.out.kp KQ, by exact fun b hb => (QS0.out b hb).same (KQ.block b (QS0.out b hb).lt)⟩ ?_
  rintro W1 ⟨xV1, xKB1, xR1, xK1, xS1, xQ1⟩
  have V1 := hid xV1
  have KB1 := hid xKB1
  have R1 := hid xR1
  have K1 := hid xK1
  have S1 := hid xS1
  have Q1 := hid xQ1
  clear xV1 xKB1 xR1 xK1 xS1 xQ1
  obtain ⟨r0, r1, r2, r3⟩ := cells4 R1.out
  have v0 := bl_cell V1.out 0 _ rfl
  go_wp2_with fail
  go_ret
  exact ⟨by rw [E.out]; rfl, K1.out⟩
 have h0b : ((h : Int) == 0) = false := by rw [beq_eq_false_iff_ne]; omega
 have h0c : ¬ (h : Int) = 0 := by omega
 clear hb HBI ha hP
 cases sn with
 | none =>
  go_enter Tryz.func133, Tryz.ntmps133
  go_upto_region 1 with fail
  refine opq (fun W0 => W0.heap[w.heap.size]? = some (.cells #[.pointer (some ⟨R, 0, none⟩)] 179) ∧ W0.heap[(w.heap.size + 1)]? = some (spo key) ∧ W0.heap[R]? = some (.cells #[.int .u8 (h : Int), lv, .int .u64 (pl : Int), .map none] 177) ∧ Kp w W0 ∧ SpR base W0 lv xs ∧ ∀ b', none = some b' → SetAt W0 b' (xs.map (Sp.only h))) ⟨by exact bl_alloc (last_of _ _) _, by exact last_at _ _ _ (by simp), by exact bl_kp HR.out kpt, by exact kpt, by exact HS.out.kp kpt, by exact fun b hb => ((HQS.out b hb).1).same (Below.block (show Kp w _ from kpt) b (HQS.out b hb).1.lt)⟩ ?_
  rintro W0 ⟨xV0, xKB, xR0, xK0, xS0, xQS0⟩
  have V0 := hid xV0
  have KB := hid xKB
  have R0 := hid xR0
  have K0 := hid xK0
  have S0 := hid xS0
  have QS0 := hid xQS0
  clear xV0 xKB xR0 xK0 xS0 xQS0
  have em := map_nil none
  have Q0 : Kp W0 W0.drew := (Kp.refl _).drew
  have MK : Hid (∀ W, Kp W0 W → W.cell? ⟨w.heap.size, 0, none⟩ = some (.pointer (some ⟨R, 0, none⟩)) ∧ W.cell? ⟨R, 2, none⟩ = some (.int .u64 (pl : Int)) ∧ W.cell? ⟨(w.heap.size + 1), 0, none⟩ = some (.int .i8 key.a) ∧ Hid (Kp W0 W)) := fun W k => ⟨bl_cell (bl_kp V0.out k) 0 _ rfl, bl_cell (bl_kp R0.out k) 2 _ rfl, bl_cell (bl_kp KB.out k) 0 _ rfl, k⟩
  refine wp_region_noPanic ?_
  refine hdrew MK Q0 (fun hH => ?_)
  have KQ := Q0
  refine tk 0 (some 8) (Op.load 179 (Operand.tmp 2)) 179 (v := ?v0c1) rfl ?h0c1 hH ?_
  case h0c1 => intro _ _; go_simp; try with_reducible rfl
  try simp only [ps]
  refine tk 1 (some 9) (Op.nilCheck (Operand.tmp 8)) 0 (v := ?v1c2) rfl ?h1c2 hH ?_
  case h1c2 => intro _ _; go_simp; try with_reducible rfl
  try simp only [ps]
  refine tk 2 (some 10) (Op.fieldAddr 177 (Operand.tmp 9) 2) 0 (v := ?v2c3) rfl ?h2c3 hH ?_
  case h2c3 => intro _ _; go_simp; try with_reducible rfl
  try simp only [ps]
  refine tk 3 (some 11) (Op.load 22 (Operand.tmp 10)) 22 (v := ?v3c4) rfl ?h3c4 hH ?_
  case h3c4 => intro _ _; go_simp; try with_reducible rfl
  try simp only [ps]
  refine tk 4 (some 12) (Op.fieldAddr 83 (Operand.tmp 3) 0) 0 (v := ?v4c5) rfl ?h4c5 hH ?_
  case h4c5 => intro _ _; go_simp; try with_reducible rfl
  try simp only [ps]
  refine tk 5 (some 13) (Op.load 78 (Operand.tmp 12)) 78 (v := ?v5c6) rfl ?h5c6 hH ?_
  case h5c6 => intro _ _; go_simp; try with_reducible rfl
  try simp only [ps]
  refine tk 6 (some 14) (Op.binOp BinOp.shr 22 (Operand.tmp 11) (Operand.tmp 13) 78) 22 (v := ?v6c7) rfl ?h6c7 hH ?_
  case h6c7 => intro _ _; go_simp; try with_reducible rfl
  try simp only [ps]
  refine tk 7 (some 15) (Op.binOp BinOp.and 22 (Operand.tmp 14) (Operand.const (Value.int IntKind.u64 1)) 22) 22 (v := ?v7c8) rfl ?h7c8 hH ?_
  case h7c8 => intro _ _; go_simp; try with_reducible rfl
  try simp only [ps]
  refine tk 8 (some 16) (Op.binOp BinOp.eql 22 (Operand.tmp 15) (Operand.const (Value.int IntKind.u64 0)) 22) 4 (v := ?v8c9) rfl ?h8c9 hH ?_
  case h8c9 => intro _ _; go_simp; try with_reducible rfl
  try simp only [ps]
  refine tk 9 (some 7) (Op.assign (Operand.tmp 16)) 4 (v := ?v9c10) rfl ?h9c10 hH ?_
  case h9c10 => intro _ _; go_simp; try with_reducible rfl
  try simp only [ps]
  refine wpAnyH_done (by kernel_rfl) ?_ _
  refine NoPanic.normal ?_
  rw [HB.out]
  refine opqE (fun W1 => W1.heap[w.heap.size]? = some (.cells #[.pointer (some ⟨R, 0, none⟩)] 179) ∧ W1.heap[(w.heap.size + 1)]? = some (spo key) ∧ W1.heap[R]? = some (.cells #[.int .u8 (h : Int), lv, .int .u64 (pl : Int), .map none] 177) ∧ Kp w W1 ∧ SpR base W1 lv xs ∧ ∀ b', none = some b' → SetAt W1 b' (xs.map (Sp.only h))) ⟨by exact bl_kp V0.out KQ, by exact bl_kp KB.out KQ, by exact bl_kp R0.out KQ, by exact K0.out.trans KQ, by exact S0.out.kp KQ, by exact fun b hb => (QS0.out b hb).same (KQ.block b (QS0.out b hb).lt)⟩ ?_
  rintro W1 ⟨xV1, xKB1, xR1, xK1, xS1, xQ1⟩
  have V1 := hid xV1
  have KB1 := hid xKB1
  have R1 := hid xR1
  have K1 := hid xK1
  have S1 := hid xS1
  have Q1 := hid xQ1
  clear xV1 xKB1 xR1 xK1 xS1 xQ1
  obtain ⟨r0, r1, r2, r3⟩ := cells4 R1.out
  have v0 := bl_cell V1.out 0 _ rfl
  go_wp2_with fail
  refine (confA_any R w.heap.size (w.heap.size + 1) h hh key hk (fun _ => True) lv xs _ (S1.out.spl (fun _ _ => trivial)) hn v0 r0 KB1.out).mono ?_
  rintro e w2 ⟨rfl, k2⟩
  go_wp2_with fail
  go_ret
  exact ⟨rfl, K1.out.trans k2⟩
 | some b =>
  obtain ⟨q, hq⟩ : ∃ q, (xs.map (Sp.only h)).contains key = q := ⟨_, rfl⟩
  have HQ : Hid (∀ W, (Instr.lookup 175 (.map (some b)) (spv key) true).run Tryz.prog W = .ok (.tuple #[.agg #[], .bool ((xs.map (Sp.only h)).contains key)]) W → (Instr.lookup 175 (.map (some b)) (spv key) true).run Tryz.prog W = .ok (.tuple #[.agg #[], .bool q]) W) := by
   rw [hq]
   exact fun W h => h
  have E : Hid (xs.any (fun y => y.only h == key) = q) := by
   show _ = _
   rw [← hq, Bool.eq_iff_iff, List.any_eq_true, List.contains_iff_mem, List.mem_map]
   constructor
   ·
    rintro ⟨y, hy, e⟩
    exact ⟨y, hy, by simpa using e⟩
   ·
    rintro ⟨y, hy, e⟩
    exact ⟨y, hy, by simp [e]⟩
  clear hq
  go_enter Tryz.func133, Tryz.ntmps133
  go_upto_region 1 with fail
  refine opq (fun W0 => W0.heap[w.heap.size]? = some (.cells #[.pointer (some ⟨R, 0, none⟩)] 179) ∧ W0.heap[(w.heap.size + 1)]? = some (spo key) ∧ W0.heap[R]? = some (.cells #[.int .u8 (h : Int), lv, .int .u64 (pl : Int), .map (some b)] 177) ∧ Kp w W0 ∧ SpR base W0 lv xs ∧ ∀ b', (some b) = some b' → SetAt W0 b' (xs.map (Sp.only h))) ⟨by exact bl_alloc (last_of _ _) _, by exact last_at _ _ _ (by simp), by exact bl_kp HR.out kpt, by exact kpt, by exact HS.out.kp kpt, by exact fun b hb => ((HQS.out b hb).1).same (Below.block (show Kp w _ from kpt) b (HQS.out b hb).1.lt)⟩ ?_
  rintro W0 ⟨xV0, xKB, xR0, xK0, xS0, xQS0⟩
  have V0 := hid xV0
  have KB := hid xKB
  have R0 := hid xR0
  have K0 := hid xK0
  have S0 := hid xS0
  have QS0 := hid xQS0
  clear xV0 xKB xR0 xK0 xS0 xQS0
  have em := map_nil (some b)
  have Q0 : Kp W0 W0.drew := (Kp.refl _).drew
  have MK : Hid (∀ W, Kp W0 W → W.cell? ⟨w.heap.size, 0, none⟩ = some (.pointer (some ⟨R, 0, none⟩)) ∧ W.cell? ⟨R, 2, none⟩ = some (.int .u64 (pl : Int)) ∧ W.cell? ⟨(w.heap.size + 1), 0, none⟩ = some (.int .i8 key.a) ∧ Hid (Kp W0 W)) := fun W k => ⟨bl_cell (bl_kp V0.out k) 0 _ rfl, bl_cell (bl_kp R0.out k) 2 _ rfl, bl_cell (bl_kp KB.out k) 0 _ rfl, k⟩
  refine wp_region_noPanic ?_
  refine hdrew MK Q0 (fun hH => ?_)
  have KQ := Q0
  refine tk 0 (some 8) (Op.load 179 (Operand.tmp 2)) 179 (v := ?v0d1) rfl ?h0d1 hH ?_
  case h0d1 => intro _ _; go_simp; try with_reducible rfl
  try simp only [ps]
  refine tk 1 (some 9) (Op.nilCheck (Operand.tmp 8)) 0 (v := ?v1d2) rfl ?h1d2 hH ?_
  case h1d2 => intro _ _; go_simp; try with_reducible rfl
  try simp only [ps]
  refine tk 2 (some 10) (Op.fieldAddr 177 (Operand.tmp 9) 2) 0 (v := ?v2d3) rfl ?h2d3 hH ?_
  case h2d3 => intro _ _; go_simp; try with_reducible rfl
  try simp only [ps]
  refine tk 3 (some 11) (Op.load 22 (Operand.tmp 10)) 22 (v := ?v3d4) rfl ?h3d4 hH ?_
  case h3d4 => intro _ _; go_simp; try with_reducible rfl
  try simp only [ps]
  refine tk 4 (some 12) (Op.fieldAddr 83 (Operand.tmp 3) 0) 0 (v := ?v4d5) rfl ?h4d5 hH ?_
  case h4d5 => intro _ _; go_simp; try with_reducible rfl
  try simp only [ps]
  refine tk 5 (some 13) (Op.load 78 (Operand.tmp 12)) 78 (v := ?v5d6) rfl ?h5d6 hH ?_
  case h5d6 => intro _ _; go_simp; try with_reducible rfl
  try simp only [ps]
  refine tk 6 (some 14) (Op.binOp BinOp.shr 22 (Operand.tmp 11) (Operand.tmp 13) 78) 22 (v := ?v6d7) rfl ?h6d7 hH ?_
  case h6d7 => intro _ _; go_simp; try with_reducible rfl
  try simp only [ps]
  refine tk 7 (some 15) (Op.binOp BinOp.and 22 (Operand.tmp 14) (Operand.const (Value.int IntKind.u64 1)) 22) 22 (v := ?v7d8) rfl ?h7d8 hH ?_
  case h7d8 => intro _ _; go_simp; try with_reducible rfl
  try simp only [ps]
  refine tk 8 (some 16) (Op.binOp BinOp.eql 22 (Operand.tmp 15) (Operand.const (Value.int IntKind.u64 0)) 22) 4 (v := ?v8d9) rfl ?h8d9 hH ?_
  case h8d9 => intro _ _; go_simp; try with_reducible rfl
  try simp only [ps]
  refine tk 9 (some 7) (Op.assign (Operand.tmp 16)) 4 (v := ?v9d10) rfl ?h9d10 hH ?_
  case h9d10 => intro _ _; go_simp; try with_reducible rfl
  try simp only [ps]
  refine wpAnyH_done (by kernel_rfl) ?_ _
  refine NoPanic.normal ?_
  rw [HB.out]
  refine opqE (fun W1 => W1.heap[w.heap.size]? = some (.cells #[.pointer (some ⟨R, 0, none⟩)] 179) ∧ W1.heap[(w.heap.size + 1)]? = some (spo key) ∧ W1.heap[R]? = some (.cells #[.int .u8 (h : Int), lv, .int .u64 (pl : Int), .map (some b)] 177) ∧ Kp w W1 ∧ SpR base W1 lv xs ∧ ∀ b', (some b) = some b' → SetAt W1 b' (xs.map (Sp.only h))) ⟨by exact bl_kp V0.out KQ, by exact bl_kp KB.out KQ, by exact bl_kp R0.out KQ, by exact K0.out.trans KQ, by exact S0.out.kp KQ, by exact fun b hb => (QS0.out b hb).same (KQ.block b (QS0.out b hb).lt)⟩ ?_
  rintro W1 ⟨xV1, xKB1, xR1, xK1, xS1, xQ1⟩
  have V1 := hid xV1
  have KB1 := hid xKB1
  have R1 := hid xR1
  have K1 := hid xK1
  have S1 := hid xS1
  have Q1 := hid xQ1
  clear xV1 xKB1 xR1 xK1 xS1 xQ1
  obtain ⟨r0, r1, r2, r3⟩ := cells4 R1.out
  have v0 := bl_cell V1.out 0 _ rfl
  go_upto_region 7 with fail
  clear r0 r1 r2 r3 v0
  have Q0 : Kp W1 W1.drew := (Kp.refl _).drew
  have MK : Hid (∀ W, Kp W1 W → W.cell? ⟨w.heap.size, 0, none⟩ = some (.pointer (some ⟨R, 0, none⟩)) ∧ W.cell? ⟨R, 3, none⟩ = some (.map (some b)) ∧ W.cell? ⟨(w.heap.size + 1), 0, none⟩ = some (.int .i8 key.a) ∧ W.cell? ⟨(w.heap.size + 1), 1, none⟩ = some (.int .i8 key.f0) ∧ W.cell? ⟨(w.heap.size + 1), 2, none⟩ = some (.int .i8 key.t0) ∧ W.cell? ⟨(w.heap.size + 1), 3, none⟩ = some (.int .i8 key.f1) ∧ W.cell? ⟨(w.heap.size + 1), 4, none⟩ = some (.int .i8 key.t1) ∧ W.cell? ⟨(w.heap.size + 1), 5, none⟩ = some (.int .i8 key.f2) ∧ W.cell? ⟨(w.heap.size + 1), 6, none⟩ = some (.int .i8 key.t2) ∧ (Instr.lookup 175 (.map (some b)) (spv key) true).run Tryz.prog W = .ok (.tuple #[.agg #[], .bool q]) W ∧ Hid (Kp W1 W)) := fun W k => ⟨bl_cell (bl_kp V1.out k) 0 _ rfl, bl_cell (bl_kp R1.out k) 3 _ rfl, bl_cell (bl_kp KB1.out k) 0 _ rfl, bl_cell (bl_kp KB1.out k) 1 _ rfl, bl_cell (bl_kp KB1.out k) 2 _ rfl, bl_cell (bl_kp KB1.out k) 3 _ rfl, bl_cell (bl_kp KB1.out k) 4 _ rfl, bl_cell (bl_kp KB1.out k) 5 _ rfl, bl_cell (bl_kp KB1.out k) 6 _ rfl, HQ.out _ (((Q1.out b rfl).same (k.block b (Q1.out b rfl).lt)).look Tryz.underlying175 key hk), k⟩
  refine wp_region_noPanic ?_
  refine hdrew MK Q0 (fun hH => ?_)
  have KQ := Q0
  refine tk 0 (some 36) (Op.load 179 (Operand.tmp 2)) 179 (v := ?v0s1) rfl ?h0s1 hH ?_
  case h0s1 => intro _ _; go_simp; try with_reducible rfl
  try simp only [ps]
  refine tk 1 (some 37) (Op.nilCheck (Operand.tmp 36)) 0 (v := ?v1s2) rfl ?h1s2 hH ?_
  case h1s2 => intro _ _; go_simp; try with_reducible rfl
  try simp only [ps]
  refine tk 2 (some 38) (Op.fieldAddr 177 (Operand.tmp 37) 3) 0 (v := ?v2s3) rfl ?h2s3 hH ?_
  case h2s3 => intro _ _; go_simp; try with_reducible rfl
  try simp only [ps]
  refine tk 3 (some 39) (Op.load 175 (Operand.tmp 38)) 175 (v := ?v3s4) rfl ?h3s4 hH ?_
  case h3s4 => intro _ _; go_simp; try with_reducible rfl
  try simp only [ps]
  refine tk 4 (some 40) (Op.load 83 (Operand.tmp 3)) 83 (v := ?v4s5) rfl ?h4s5 hH ?_
  case h4s5 => intro _ _; go_simp; try with_reducible rfl
  try simp only [ps]
  refine tk 5 (some 41) (Op.lookup 175 (Operand.tmp 39) (Operand.tmp 40) true) 215 (v := ?v5s6) rfl ?h5s6 hH ?_
  case h5s6 => intro _ _; go_simp; try with_reducible rfl
  try simp only [ps]
  refine tk 6 (some 35) (Op.move (Operand.tmp 41)) 215 (v := ?v6s7) rfl ?h6s7 hH ?_
  case h6s7 => intro _ _; go_simp; try with_reducible rfl
  try simp only [ps]
  refine tk 7 (some 42) (Op.extract (Operand.tmp 35) 0) 206 (v := ?v7s8) rfl ?h7s8 hH ?_
  case h7s8 => intro _ _; go_simp; try with_reducible rfl
  try simp only [ps]
  refine tk 8 (some 43) (Op.extract (Operand.tmp 35) 1) 4 (v := ?v8s9) rfl ?h8s9 hH ?_
  case h8s9 => intro _ _; go_simp; try with_reducible rfl
  try simp only [ps]
  refine wpAnyH_ready (rs := [9]) (by kernel_rfl) (by simp) ?_
  refine AllReadyH.cons (o := { dst := some 5, op := Op.alloc 206, type := 0, pos := "spot.go:111", after := #[], guard := none }) rfl (fun K hKq => ?_) AllReadyH.nil
  go_simp
  refine hKq.out _ _ (MK.out _ (by first | exact KQ.alloc _ | exact (KQ0.alloc _).drew)) (fun hN => ?_)
  clear hKq K hH KQ
  have hH := hN
  clear hN
  have KQ := hH.2.2.2.2.2.2.2.2.2.2.out
  try simp only [ps]
  refine wpAnyH_ready (rs := [10]) (by kernel_rfl) (by simp) ?_
  refine AllReadyH.cons (o := { dst := none, op := Op.store 206 (Operand.tmp 5) (Operand.tmp 42), type := 0, pos := "spot.go:111", after := #[{ on := 9, ground := Ground.data }, { on := 7, ground := Ground.data }, { on := 0, ground := Ground.phase }, { on := 1, ground := Ground.phase }, { on := 2, ground := Ground.phase }, { on := 3, ground := Ground.phase }, { on := 4, ground := Ground.phase }, { on := 5, ground := Ground.phase }, { on := 6, ground := Ground.phase }, { on := 7, ground := Ground.phase }, { on := 8, ground := Ground.textOnly Departure.lateStores }, { on := 9, ground := Ground.phase }], guard := none }) rfl (fun K hKq => ?_) AllReadyH.nil
  go_simp
  refine hKq.out _ _ (MK.out _ KQ) (fun hN => ?_)
  clear hKq K hH KQ
  have hH := hN
  clear hN
  have KQ := hH.2.2.2.2.2.2.2.2.2.2.out
  try simp only [ps]
  refine tk 11 (some 6) (Op.assign (Operand.tmp 43)) 4 (v := ?v11s10) rfl ?h11s10 hH ?_
  case h11s10 => intro _ _; go_simp; try with_reducible rfl
  try simp only [ps]
  refine wpAnyH_done (by kernel_rfl) ?_ _
  refine NoPanic.normal ?_
  go_wp2_with fail
  go_ret
  exact ⟨by rw [E.out]; rfl, K1.out.trans KQ⟩
theorem rhasB_any (R h pl : Nat) (lv : Value) (sn : Option Nat) (z0 z1 z2 z3 : Value) (hh : h < 8) (base : Nat) (xs : List Sp) (key : Sp) (hk : key.Ok) (hkey : key.only h = key) (w : World) (hR : w.heap[R]? = some (.cells #[z0, z1, z2, z3, .int .u8 (h : Int), lv, .int .u64 (pl : Int), .map sn] 182)) (hS : SpR base w lv xs) (hn : xs.length ≤ 5000000000000) (hP : PlOk pl xs) (hs : ∀ b, sn = some b → SetAt w b (xs.map (Sp.only h)) ∧ h ≠ 0) :
  Calls Tryz.prog 133 #[.pointer (some ⟨R, 4, none⟩), spv key] w fun e w' => e = .returned (.bool (xs.any (fun y => y.only h == key))) ∧ Kp w w' := by
 have HR := hid hR
 have HS := hid hS
 have HQS := hid hs
 have hka := hk.a0
 have hkb := hk.a1
 obtain ⟨a, ha⟩ : ∃ a, key.a.toNat = a := ⟨_, rfl⟩
 have HBI : Hid (bits .and .u64 ((pl : Int) / 2 ^ key.a.toNat) 1 = ((pl / 2 ^ a % 2 : Nat) : Int)) := by
  show _ = _
  rw [ha]
  have h1 : ((pl : Int) / 2 ^ a) = ((pl / 2 ^ a : Nat) : Int) := by rw [Int.natCast_ediv, Int.natCast_pow]; rfl
  have h2 : pl / 2 ^ a ≤ pl := Nat.div_le_self _ _
  have h3 := hP.lt
  rw [h1, show (1 : Int) = ((1 : Nat) : Int) from rfl, u64_and_nat _ _ (by omega) (by omega), Nat.and_one_is_mod]
 clear hR hS hs
 by_cases hb : pl / 2 ^ a % 2 = 1
 case neg =>
  have HB : Hid ((bits .and .u64 ((pl : Int) / 2 ^ key.a.toNat) 1 == 0) = true) := by show _ = _; rw [HBI.out, beq_iff_eq]; omega
  have E : Hid (xs.any (fun y => y.only h == key) = false) := by
   show _ = _
   rw [List.any_eq_false]
   intro y hy e
   have e2 : y.only h = key := by simpa using e
   refine hb ((hP.bit a (by omega)).2 ⟨y, hy, ?_⟩)
   have : (y.only h).a = y.a := rfl
   rw [← this, e2]
   omega
  clear hb HBI ha hP hkey
  go_enter Tryz.func133, Tryz.ntmps133
  go_upto_region 1 with fail
  refine opq (fun W0 => W0.heap[w.heap.size]? = some (.cells #[.pointer (some ⟨R, 4, none⟩)] 179) ∧ W0.heap[(w.heap.size + 1)]? = some (spo key) ∧ W0.heap[R]? = some (.cells #[z0, z1, z2, z3, .int .u8 (h : Int), lv, .int .u64 (pl : Int), .map sn] 182) ∧ Kp w W0 ∧ SpR base W0 lv xs ∧ ∀ b, sn = some b → SetAt W0 b (xs.map (Sp.only h))) ⟨by exact bl_alloc (last_of _ _) _, by exact last_at _ _ _ (by simp), by exact bl_kp HR.out kpt, by exact kpt, by exact HS.out.kp kpt, by exact fun b hb => ((HQS.out b hb).1).same (Below.block (show Kp w _ from kpt) b (HQS.out b hb).1.lt)⟩ ?_
  rintro W0 ⟨xV0, xKB, xR0, xK0, xS0, xQS0⟩
  have V0 := hid xV0
  have KB := hid xKB
  have R0 := hid xR0
  have K0 := hid xK0
  have S0 := hid xS0
  have QS0 := hid xQS0
  clear xV0 xKB xR0 xK0 xS0 xQS0
  have Q0 : Kp W0 W0.drew := (Kp.refl _).drew
  have MK : Hid (∀ W, Kp W0 W → W.cell? ⟨w.heap.size, 0, none⟩ = some (.pointer (some ⟨R, 4, none⟩)) ∧ W.cell? ⟨R, 6, none⟩ = some (.int .u64 (pl : Int)) ∧ W.cell? ⟨(w.heap.size + 1), 0, none⟩ = some (.int .i8 key.a) ∧ Hid (Kp W0 W)) := fun W k => ⟨bl_cell (bl_kp V0.out k) 0 _ rfl, bl_cell (bl_kp R0.out k) 6 _ rfl, bl_cell (bl_kp KB.out k) 0 _ rfl, k⟩
  refine wp_region_noPanic ?_
  refine hdrew MK Q0 (fun hH => ?_)
  have KQ := Q0
  refine tk 0 (some 8) (Op.load 179 (Operand.tmp 2)) 179 (v := ?v0a1) rfl ?h0a1 hH ?_
  case h0a1 => intro _ _; go_simp; try with_reducible rfl
  try simp only [ps]
  refine tk 1 (some 9) (Op.nilCheck (Operand.tmp 8)) 0 (v := ?v1a2) rfl ?h1a2 hH ?_
  case h1a2 => intro _ _; go_simp; try with_reducible rfl
  try simp only [ps]
  refine tk 2 (some 10) (Op.fieldAddr 177 (Operand.tmp 9) 2) 0 (v := ?v2a3) rfl ?h2a3 hH ?_
  case h2a3 => intro _ _; go_simp; try with_reducible rfl
  try simp only [ps]
  refine tk 3 (some 11) (Op.load 22 (Operand.tmp 10)) 22 (v := ?v3a4) rfl ?h3a4 hH ?_
  case h3a4 => intro _ _; go_simp; try with_reducible rfl
  try simp only [ps]
  refine tk 4 (some 12) (Op.fieldAddr 83 (Operand.tmp 3) 0) 0 (v := ?v4a5) rfl ?h4a5 hH ?_
  case h4a5 => intro _ _; go_simp; try with_reducible rfl
  try simp only [ps]
  refine tk 5 (some 13) (Op.load 78 (Operand.tmp 12)) 78 (v := ?v5a6) rfl ?h5a6 hH ?_
  case h5a6 => intro _ _; go_simp; try with_reducible rfl
  try simp only [ps]
  refine tk 6 (some 14) (Op.binOp BinOp.shr 22 (Operand.tmp 11) (Operand.tmp 13) 78) 22 (v := ?v6a7) rfl ?h6a7 hH ?_
  case h6a7 => intro _ _; go_simp; try with_reducible rfl
  try simp only [ps]
  refine tk 7 (some 15) (Op.binOp BinOp.and 22 (Operand.tmp 14) (Operand.const (Value.int IntKind.u64 1)) 22) 22 (v := ?v7a8) rfl ?h7a8 hH ?_
  case h7a8 => intro _ _; go_simp; try with_reducible rfl
  try simp only [ps]
  refine tk 8 (some 16) (Op.binOp BinOp.eql 22 (Operand.tmp 15) (Operand.const (Value.int IntKind.u64 0)) 22) 4 (v := ?v8a9) rfl ?h8a9 hH ?_
  case h8a9 => intro _ _; go_simp; try with_reducible rfl
  try simp only [ps]
  refine tk 9 (some 7) (Op.assign (Operand.tmp 16)) 4 (v := ?v9a10) rfl ?h9a10 hH ?_
  case h9a10 => intro _ _; go_simp; try with_reducible rfl
  try simp only [ps]
  refine wpAnyH_done (by kernel_rfl) ?_ _
  refine NoPanic.normal ?_
  rw [HB.out]
  refine opqE (fun W1 => W1.heap[w.heap.size]? = some (.cells #[.pointer (some ⟨R, 4, none⟩)] 179) ∧ W1.heap[(w.heap.size + 1)]? = some (spo key) ∧ W1.heap[R]? = some (.cells #[z0, z1, z2, z3, .int .u8 (h : Int), lv, .int .u64 (pl : Int), .map sn] 182) ∧ Kp w W1 ∧ SpR base W1 lv xs ∧ ∀ b, sn = some b → SetAt W1 b (xs.map (Sp.only h))) ⟨by exact bl_kp V0.out KQ, by exact bl_kp KB.out KQ, by exact bl_kp R0.out KQ, by exact K0.out.trans KQ, by exact S0.out.kp KQ, by exact fun b hb => (QS0.out b hb).same (KQ.block b (QS0.out b hb).lt)⟩ ?_
  rintro W1 ⟨xV1, xKB1, xR1, xK1, xS1, xQ1⟩
  have V1 := hid xV1
  have KB1 := hid xKB1
  have R1 := hid xR1
  have K1 := hid xK1
  have S1 := hid xS1
  have Q1 := hid xQ1
  clear xV1 xKB1 xR1 xK1 xS1 xQ1
  have r4 := bl_cell R1.out 4 _ rfl
  have r5 := bl_cell R1.out 5 _ rfl
  have r6 := bl_cell R1.out 6 _ rfl
  have r7 := bl_cell R1.out 7 _ rfl
  have v0 := bl_cell V1.out 0 _ rfl
  go_wp2_with fail
  go_ret
  exact ⟨by rw [E.out]; rfl, K1.out⟩
 case pos =>
 have HB : Hid ((bits .and .u64 ((pl : Int) / 2 ^ key.a.toNat) 1 == 0) = false) := by show _ = _; rw [HBI.out, hb]; rfl
 by_cases h0 : h = 0
 ·
  have h0b : ((h : Int) == 0) = true := by rw [h0]; rfl
  have E : Hid (xs.any (fun y => y.only h == key) = true) := by
   show _ = _
   obtain ⟨y, hy, hya⟩ := (hP.bit a (by omega)).1 hb
   rw [List.any_eq_true]
   refine ⟨y, hy, ?_⟩
   have e1 : y.only h = key.only h := by
    rw [h0]
    unfold Sp.only
    rw [show y.a = key.a by omega]
    rfl
   rw [e1, hkey]
   simp
  clear hb HBI ha hP hkey h0
  go_enter Tryz.func133, Tryz.ntmps133
  go_upto_region 1 with fail
  refine opq (fun W0 => W0.heap[w.heap.size]? = some (.cells #[.pointer (some ⟨R, 4, none⟩)] 179) ∧ W0.heap[(w.heap.size + 1)]? = some (spo key) ∧ W0.heap[R]? = some (.cells #[z0, z1, z2, z3, .int .u8 (h : Int), lv, .int .u64 (pl : Int), .map sn] 182) ∧ Kp w W0 ∧ SpR base W0 lv xs ∧ ∀ b, sn = some b → SetAt W0 b (xs.map (Sp.only h))) ⟨by exact bl_alloc (last_of _ _) _, by exact last_at _ _ _ (by simp), by exact bl_kp HR.out kpt, by exact kpt, by exact HS.out.kp kpt, by exact fun b hb => ((HQS.out b hb).1).same (Below.block (show Kp w _ from kpt) b (HQS.out b hb).1.lt)⟩ ?_
  rintro W0 ⟨xV0, xKB, xR0, xK0, xS0, xQS0⟩
  have V0 := hid xV0
  have KB := hid xKB
  have R0 := hid xR0
  have K0 := hid xK0
  have S0 := hid xS0
  have QS0 := hid xQS0
  clear xV0 xKB xR0 xK0 xS0 xQS0
  have Q0 : Kp W0 W0.drew := (Kp.refl _).drew
  have MK : Hid (∀ W, Kp W0 W → W.cell? ⟨w.heap.size, 0, none⟩ = some (.pointer (some ⟨R, 4, none⟩)) ∧ W.cell? ⟨R, 6, none⟩ = some (.int .u64 (pl : Int)) ∧ W.cell? ⟨(w.heap.size + 1), 0, none⟩ = some (.int .i8 key.a) ∧ Hid (Kp W0 W)) := fun W k => ⟨bl_cell (bl_kp V0.out k) 0 _ rfl, bl_cell (bl_kp R0.out k) 6 _ rfl, bl_cell (bl_kp KB.out k) 0 _ rfl, k⟩
  refine wp_region_noPanic ?_
  refine hdrew MK Q0 (fun hH => ?_)
  have KQ := Q0
  refine tk 0 (some 8) (Op.load 179 (Operand.tmp 2)) 179 (v := ?v0b1) rfl ?h0b1 hH ?_
  case h0b1 => intro _ _; go_simp; try with_reducible rfl
  try simp only [ps]
  refine tk 1 (some 9) (Op.nilCheck (Operand.tmp 8)) 0 (v := ?v1b2) rfl ?h1b2 hH ?_
  case h1b2 => intro _ _; go_simp; try with_reducible rfl
  try simp only [ps]
  refine tk 2 (some 10) (Op.fieldAddr 177 (Operand.tmp 9) 2) 0 (v := ?v2b3) rfl ?h2b3 hH ?_
  case h2b3 => intro _ _; go_simp; try with_reducible rfl
  try simp only [ps]
  refine tk 3 (some 11) (Op.load 22 (Operand.tmp 10)) 22 (v := ?v3b4) rfl ?h3b4 hH ?_
  case h3b4 => intro _ _; go_simp; try with_reducible rfl
  try simp only [ps]
  refine tk 4 (some 12) (Op.fieldAddr 83 (Operand.tmp 3) 0) 0 (v := ?v4b5) rfl ?h4b5 hH ?_
  case h4b5 => intro _ _; go_simp; try with_reducible rfl
  try simp only [ps]
  refine tk 5 (some 13) (Op.load 78 (Operand.tmp 12)) 78 (v := ?v5b6) rfl ?h5b6 hH ?_
  case h5b6 => intro _ _; go_simp; try with_reducible rfl
  try simp only [ps]
  refine tk 6 (some 14) (Op.binOp BinOp.shr 22 (Operand.tmp 11) (Operand.tmp 13) 78) 22 (v := ?v6b7) rfl ?h6b7 hH ?_
  case h6b7 => intro _ _; go_simp; try with_reducible rfl
  try simp only [ps]
  refine tk 7 (some 15) (Op.binOp BinOp.and 22 (Operand.tmp 14) (Operand.const (Value.int IntKind.u64 1)) 22) 22 (v := ?v7b8) rfl ?h7b8 hH ?_
  case h7b8 => intro _ _; go_simp; try with_reducible rfl
  try simp only [ps]
  refine tk 8 (some 16) (Op.binOp BinOp.eql 22 (Operand.tmp 15) (Operand.const (Value.int IntKind.u64 0)) 22) 4 (v := ?v8b9) rfl ?h8b9 hH ?_
  case h8b9 => intro _ _; go_simp; try with_reducible rfl
  try simp only [ps]
  refine tk 9 (some 7) (Op.assign (Operand.tmp 16)) 4 (v := ?v9b10) rfl ?h9b10 hH ?_
  case h9b10 => intro _ _; go_simp; try with_reducible rfl
  try simp only [ps]
  refine wpAnyH_done (by kernel_rfl) ?_ _
  refine NoPanic.normal ?_
  rw [HB.out]
  refine opqE (fun W1 => W1.heap[w.heap.size]? = some (.cells #[.pointer (some ⟨R, 4, none⟩)] 179) ∧ W1.heap[(w.heap.size + 1)]? = some (spo key) ∧ W1.heap[R]? = some (.cells #[z0, z1, z2, z3, .int .u8 (h : Int), lv, .int .u64 (pl : Int), .map sn] 182) ∧ Kp w W1 ∧ SpR base W1 lv xs ∧ ∀ b, sn = some b → SetAt W1 b (xs.map (Sp.only h))) ⟨by exact bl_kp V0.out KQ, by exact bl_kp KB.out KQ, by exact bl_kp R0.out KQ, by exact K0.out.trans KQ, by exact S0.out.kp KQ, by exact fun b hb => (QS0.out b hb).same (KQ.block b (QS0.out b hb).lt)⟩ ?_
  rintro W1 ⟨xV1, xKB1, xR1, xK1, xS1, xQ1⟩
  have V1 := hid xV1
  have KB1 := hid xKB1
  have R1 := hid xR1
  have K1 := hid xK1
  have S1 := hid xS1
  have Q1 := hid xQ1
  clear xV1 xKB1 xR1 xK1 xS1 xQ1
  have r4 := bl_cell R1.out 4 _ rfl
  have r5 := bl_cell R1.out 5 _ rfl
  have r6 := bl_cell R1.out 6 _ rfl
  have r7 := bl_cell R1.out 7 _ rfl
  have v0 := bl_cell V1.out 0 _ rfl
  go_wp2_with fail
  go_ret
  exact ⟨by rw [E.out]; rfl, K1.out⟩
 have h0b : ((h : Int) == 0) = false := by rw [beq_eq_false_iff_ne]; omega
 have h0c : ¬ (h : Int) = 0 := by omega
 clear hb HBI ha hP
 cases sn with
 | none =>
  go_enter Tryz.func133, Tryz.ntmps133
  go_upto_region 1 with fail
  refine opq (fun W0 => W0.heap[w.heap.size]? = some (.cells #[.pointer (some ⟨R, 4, none⟩)] 179) ∧ W0.heap[(w.heap.size + 1)]? = some (spo key) ∧ W0.heap[R]? = some (.cells #[z0, z1, z2, z3, .int .u8 (h : Int), lv, .int .u64 (pl : Int), .map none] 182) ∧ Kp w W0 ∧ SpR base W0 lv xs ∧ ∀ b', none = some b' → SetAt W0 b' (xs.map (Sp.only h))) ⟨by exact bl_alloc (last_of _ _) _, by exact last_at _ _ _ (by simp), by exact bl_kp HR.out kpt, by exact kpt, by exact HS.out.kp kpt, by exact fun b hb => ((HQS.out b hb).1).same (Below.block (show Kp w _ from kpt) b (HQS.out b hb).1.lt)⟩ ?_
  rintro W0 ⟨xV0, xKB, xR0, xK0, xS0, xQS0⟩
  have V0 := hid xV0
  have KB := hid xKB
  have R0 := hid xR0
  have K0 := hid xK0
  have S0 := hid xS0
  have QS0 := hid xQS0
  clear xV0 xKB xR0 xK0 xS0 xQS0
  have em := map_nil none
  have Q0 : Kp W0 W0.drew := (Kp.refl _).drew
  have MK : Hid (∀ W, Kp W0 W → W.cell? ⟨w.heap.size, 0, none⟩ = some (.pointer (some ⟨R, 4, none⟩)) ∧ W.cell? ⟨R, 6, none⟩ = some (.int .u64 (pl : Int)) ∧ W.cell? ⟨(w.heap.size + 1), 0, none⟩ = some (.int .i8 key.a) ∧ Hid (Kp W0 W)) := fun W k => ⟨bl_cell (bl_kp V0.out k) 0 _ rfl, bl_cell (bl_kp R0.out k) 6 _ rfl, bl_cell (bl_kp KB.out k) 0 _ rfl, k⟩
  refine wp_region_noPanic ?_
  refine hdrew MK Q0 (fun hH => ?_)
  have KQ := Q0
  refine tk 0 (some 8) (Op.load 179 (Operand.tmp 2)) 179 (v := ?v0c1) rfl ?h0c1 hH ?_
  case h0c1 => intro _ _; go_simp; try with_reducible rfl
  try simp only [ps]
  refine tk 1 (some 9) (Op.nilCheck (Operand.tmp 8)) 0 (v := ?v1c2) rfl ?h1c2 hH ?_
  case h1c2 => intro _ _; go_simp; try with_reducible rfl
  try simp only [ps]
  refine tk 2 (some 10) (Op.fieldAddr 177 (Operand.tmp 9) 2) 0 (v := ?v2c3) rfl ?h2c3 hH ?_
  case h2c3 => intro _ _; go_simp; try with_reducible rfl
  try simp only [ps]
  refine tk 3 (some 11) (Op.load 22 (Operand.tmp 10)) 22 (v := ?v3c4) rfl ?h3c4 hH ?_
  case h3c4 => intro _ _; go_simp; try with_reducible rfl
  try simp only [ps]
  refine tk 4 (some 12) (Op.fieldAddr 83 (Operand.tmp 3) 0) 0 (v := ?v4c5) rfl ?h4c5 hH ?_
  case h4c5 => intro _ _; go_simp; try with_reducible rfl
  try simp only [ps]
  refine tk 5 (some 13) (Op.load 78 (Operand.tmp 12)) 78 (v := ?v5c6) rfl ?h5c6 hH ?_
  case h5c6 => intro _ _; go_simp; try with_reducible rfl
  try simp only [ps]
  refine tk 6 (some 14) (Op.binOp BinOp.shr 22 (Operand.tmp 11) (Operand.tmp 13) 78) 22 (v := ?v6c7) rfl ?h6c7 hH ?_
  case h6c7 => intro _ _; go_simp; try with_reducible rfl
  try simp only [ps]
  refine tk 7 (some 15) (Op.binOp BinOp.and 22 (Operand.tmp 14) (Operand.const (Value.int IntKind.u64 1)) 22) 22 (v := ?v7c8) rfl ?h7c8 hH ?_
  case h7c8 => intro _ _; go_simp; try with_reducible rfl
  try simp only [ps]
  refine tk 8 (some 16) (Op.binOp BinOp.eql 22 (Operand.tmp 15) (Operand.const (Value.int IntKind.u64 0)) 22) 4 (v := ?v8c9) rfl ?h8c9 hH ?_
  case h8c9 => intro _ _; go_simp; try with_reducible rfl
  try simp only [ps]
  refine tk 9 (some 7) (Op.assign (Operand.tmp 16)) 4 (v := ?v9c10) rfl ?h9c10 hH ?_
  case h9c10 => intro _ _; go_simp; try with_reducible rfl
  try simp only [ps]
  refine wpAnyH_done (by kernel_rfl) ?_ _
  refine NoPanic.normal ?_
  rw [HB.out]
  refine opqE (fun W1 => W1.heap[w.heap.size]? = some (.cells #[.pointer (some ⟨R, 4, none⟩)] 179) ∧ W1.heap[(w.heap.size + 1)]? = some (spo key) ∧ W1.heap[R]? = some (.cells #[z0, z1, z2, z3, .int .u8 (h : Int), lv, .int .u64 (pl : Int), .map none] 182) ∧ Kp w W1 ∧ SpR base W1 lv xs ∧ ∀ b', none = some b' → SetAt W1 b' (xs.map (Sp.only h))) ⟨by exact bl_kp V0.out KQ, by exact bl_kp KB.out KQ, by exact bl_kp R0.out KQ, by exact K0.out.trans KQ, by exact S0.out.kp KQ, by exact fun b hb => (QS0.out b hb).same (KQ.block b (QS0.out b hb).lt)⟩ ?_
  rintro W1 ⟨xV1, xKB1, xR1, xK1, xS1, xQ1⟩
  have V1 := hid xV1
  have KB1 := hid xKB1
  have R1 := hid xR1
  have K1 := hid xK1
  have S1 := hid xS1
  have Q1 := hid xQ1
  clear xV1 xKB1 xR1 xK1 xS1 xQ1
  have r4 := bl_cell R1.out 4 _ rfl
  have r5 := bl_cell R1.out 5 _ rfl
  have r6 := bl_cell R1.out 6 _ rfl
  have r7 := bl_cell R1.out 7 _ rfl
  have v0 := bl_cell V1.out 0 _ rfl
  go_wp2_with fail
  refine (confB_any R w.heap.size (w.heap.size + 1) h hh key hk (fun _ => True) lv xs _ (S1.out.spl (fun _ _ => trivial)) hn v0 r4 KB1.out).mono ?_
  rintro e w2 ⟨rfl, k2⟩
  go_wp2_with fail
  go_ret
  exact ⟨rfl, K1.out.trans k2⟩
 | some b =>
  obtain ⟨q, hq⟩ : ∃ q, (xs.map (Sp.only h)).contains key = q := ⟨_, rfl⟩
  have HQ : Hid (∀ W, (Instr.lookup 175 (.map (some b)) (spv key) true).run Tryz.prog W = .ok (.tuple #[.agg #[], .bool ((xs.map (Sp.only h)).contains key)]) W → (Instr.lookup 175 (.map (some b)) (spv key) true).run Tryz.prog W = .ok (.tuple #[.agg #[], .bool q]) W) := by
   rw [hq]
   exact fun W h => h
  have E : Hid (xs.any (fun y => y.only h == key) = q) := by
   show _ = _
   rw [← hq, Bool.eq_iff_iff, List.any_eq_true, List.contains_iff_mem, List.mem_map]
   constructor
   ·
    rintro ⟨y, hy, e⟩
    exact ⟨y, hy, by simpa using e⟩
   ·
    rintro ⟨y, hy, e⟩
    exact ⟨y, hy, by simp [e]⟩
  clear hq
  go_enter Tryz.func133, Tryz.ntmps133
  go_upto_region 1 with fail
  refine opq (fun W0 => W0.heap[w.heap.size]? = some (.cells #[.pointer (some ⟨R, 4, none⟩)] 179) ∧ W0.heap[(w.heap.size + 1)]? = some (spo key) ∧ W0.heap[R]? = some (.cells #[z0, z1, z2, z3, .int .u8 (h : Int), lv, .int .u64 (pl : Int), .map (some b)] 182) ∧ Kp w W0 ∧ SpR base W0 lv xs ∧ ∀ b', (some b) = some b' → SetAt W0 b' (xs.map (Sp.only h))) ⟨by exact bl_alloc (last_of _ _) _, by exact last_at _ _ _ (by simp), by exact bl_kp HR.out kpt, by exact kpt, by exact HS.out.kp kpt, by exact fun b hb => ((HQS.out b hb).1).same (Below.block (show Kp w _ from kpt) b (HQS.out b hb).1.lt)⟩ ?_
  rintro W0 ⟨xV0, xKB, xR0, xK0, xS0, xQS0⟩
  have V0 := hid xV0
  have KB := hid xKB
  have R0 := hid xR0
  have K0 := hid xK0
  have S0 := hid xS0
  have QS0 := hid xQS0
  clear xV0 xKB xR0 xK0 xS0 xQS0
  have em := map_nil (some b)
  have Q0 : Kp W0 W0.drew := (Kp.refl _).drew
  have MK : Hid (∀ W, Kp W0 W → W.cell? ⟨w.heap.size, 0, none⟩ = some (.pointer (some ⟨R, 4, none⟩)) ∧ W.cell? ⟨R, 6, none⟩ = some (.int .u64 (pl : Int)) ∧ W.cell? ⟨(w.heap.size + 1), 0, none⟩ = some (.int .i8 key.a) ∧ Hid (Kp W0 W)) := fun W k => ⟨bl_cell (bl_kp V0.out k) 0 _ rfl, bl_cell (bl_kp R0.out k) 6 _ rfl, bl_cell (bl_kp KB.out k) 0 _ rfl, k⟩
  refine wp_region_noPanic ?_
  refine hdrew MK Q0 (fun hH => ?_)
  have KQ := Q0
  refine tk 0 (some 8) (Op.load 179 (Operand.tmp 2)) 179 (v := ?v0d1) rfl ?h0d1 hH ?_
  case h0d1 => intro _ _; go_simp; try with_reducible rfl
  try simp only [ps]
  refine tk 1 (some 9) (Op.nilCheck (Operand.tmp 8)) 0 (v := ?v1d2) rfl ?h1d2 hH ?_
  case h1d2 => intro _ _; go_simp; try with_reducible rfl
  try simp only [ps]
  refine tk 2 (some 10) (Op.fieldAddr 177 (Operand.tmp 9) 2) 0 (v := ?v2d3) rfl ?h2d3 hH ?_
  case h2d3 => intro _ _; go_simp; try with_reducible rfl
  try simp only [ps]
  refine tk 3 (some 11) (Op.load 22 (Operand.tmp 10)) 22 (v := ?v3d4) rfl ?h3d4 hH ?_
  case h3d4 => intro _ _; go_simp; try with_reducible rfl
  try simp only [ps]
  refine tk 4 (some 12) (Op.fieldAddr 83 (Operand.tmp 3) 0) 0 (v := ?v4d5) rfl ?h4d5 hH ?_
  case h4d5 => intro _ _; go_simp; try with_reducible rfl
  try simp only [ps]
  refine tk 5 (some 13) (Op.load 78 (Operand.tmp 12)) 78 (v := ?v5d6) rfl ?h5d6 hH ?_
  case h5d6 => intro _ _; go_simp; try with_reducible rfl
  try simp only [ps]
  refine tk 6 (some 14) (Op.binOp BinOp.shr 22 (Operand.tmp 11) (Operand.tmp 13) 78) 22 (v := ?v6d7) rfl ?h6d7 hH ?_
  case h6d7 => intro _ _; go_simp; try with_reducible rfl
  try simp only [ps]
  refine tk 7 (some 15) (Op.binOp BinOp.and 22 (Operand.tmp 14) (Operand.const (Value.int IntKind.u64 1)) 22) 22 (v := ?v7d8) rfl ?h7d8 hH ?_
  case h7d8 => intro _ _; go_simp; try with_reducible rfl
  try simp only [ps]
  refine tk 8 (some 16) (Op.binOp BinOp.eql 22 (Operand.tmp 15) (Operand.const (Value.int IntKind.u64 0)) 22) 4 (v := ?v8d9) rfl ?h8d9 hH ?_
  case h8d9 => intro _ _; go_simp; try with_reducible rfl
  try simp only [ps]
  refine tk 9 (some 7) (Op.assign (Operand.tmp 16)) 4 (v := ?v9d10) rfl ?h9d10 hH ?_
  case h9d10 => intro _ _; go_simp; try with_reducible rfl
  try simp only [ps]
  refine wpAnyH_done (by kernel_rfl) ?_ _
  refine NoPanic.normal ?_
  rw [HB.out]
  refine opqE (fun W1 => W1.heap[w.heap.size]? = some (.cells #[.pointer (some ⟨R, 4, none⟩)] 179) ∧ W1.heap[(w.heap.size + 1)]? = some (spo key) ∧ W1.heap[R]? = some (.cells #[z0, z1, z2, z3, .int .u8 (h : Int), lv, .int .u64 (pl : Int), .map (some b)] 182) ∧ Kp w W1 ∧ SpR base W1 lv xs ∧ ∀ b', (some b) = some b' → SetAt W1 b' (xs.map (Sp.only h))) ⟨by exact bl_kp V0.out KQ, by exact bl_kp KB.out KQ, by exact bl_kp R0.out KQ, by exact K0.out.trans KQ, by exact S0.out.kp KQ, by exact fun b hb => (QS0.out b hb).same (KQ.block b (QS0.out b hb).lt)⟩ ?_
  rintro W1 ⟨xV1, xKB1, xR1, xK1, xS1, xQ1⟩
  have V1 := hid xV1
  have KB1 := hid xKB1
  have R1 := hid xR1
  have K1 := hid xK1
  have S1 := hid xS1
  have Q1 := hid xQ1
  clear xV1 xKB1 xR1 xK1 xS1 xQ1
  have r4 := bl_cell R1.out 4 _ rfl
  have r5 := bl_cell R1.out 5 _ rfl
  have r6 := bl_cell R1.out 6 _ rfl
  have r7 := bl_cell R1.out 7 _ rfl
  have v0 := bl_cell V1.out 0 _ rfl
  go_upto_region 7 with fail
  clear r4 r5 r6 r7 v0
  have Q0 : Kp W1 W1.drew := (Kp.refl _).drew
  have MK : Hid (∀ W, Kp W1 W → W.cell? ⟨w.heap.size, 0, none⟩ = some (.pointer (some ⟨R, 4, none⟩)) ∧ W.cell? ⟨R, 7, none⟩ = some (.map (some b)) ∧ W.cell? ⟨(w.heap.size + 1), 0, none⟩ = some (.int .i8 key.a) ∧ W.cell? ⟨(w.heap.size + 1), 1, none⟩ = some (.int .i8 key.f0) ∧ W.cell? ⟨(w.heap.size + 1), 2, none⟩ = some (.int .i8 key.t0) ∧ W.cell? ⟨(w.heap.size + 1), 3, none⟩ = some (.int .i8 key.f1) ∧ W.cell? ⟨(w.heap.size + 1), 4, none⟩ = some (.int .i8 key.t1) ∧ W.cell? ⟨(w.heap.size + 1), 5, none⟩ = some (.int .i8 key.f2) ∧ W.cell? ⟨(w.heap.size + 1), 6, none⟩ = some (.int .i8 key.t2) ∧ (Instr.lookup 175 (.map (some b)) (spv key) true).run Tryz.prog W = .ok (.tuple #[.agg #[], .bool q]) W ∧ Hid (Kp W1 W)) := fun W k => ⟨bl_cell (bl_kp V1.out k) 0 _ rfl, bl_cell (bl_kp R1.out k) 7 _ rfl, bl_cell (bl_kp KB1.out k) 0 _ rfl, bl_cell (bl_kp KB1.out k) 1 _ rfl, bl_cell (bl_kp KB1.out k) 2 _ rfl, bl_cell (bl_kp KB1.out k) 3 _ rfl, bl_cell (bl_kp KB1.out k) 4 _ rfl, bl_cell (bl_kp KB1.out k) 5 _ rfl, bl_cell (bl_kp KB1.out k) 6 _ rfl, HQ.out _ (((Q1.out b rfl).same (k.block b (Q1.out b rfl).lt)).look Tryz.underlying175 key hk), k⟩
  refine wp_region_noPanic ?_
  refine hdrew MK Q0 (fun hH => ?_)
  have KQ := Q0
  refine tk 0 (some 36) (Op.load 179 (Operand.tmp 2)) 179 (v := ?v0s1) rfl ?h0s1 hH ?_
  case h0s1 => intro _ _; go_simp; try with_reducible rfl
  try simp only [ps]
  refine tk 1 (some 37) (Op.nilCheck (Operand.tmp 36)) 0 (v := ?v1s2) rfl ?h1s2 hH ?_
  case h1s2 => intro _ _; go_simp; try with_reducible rfl
  try simp only [ps]
  refine tk 2 (some 38) (Op.fieldAddr 177 (Operand.tmp 37) 3) 0 (v := ?v2s3) rfl ?h2s3 hH ?_
  case h2s3 => intro _ _; go_simp; try with_reducible rfl
  try simp only [ps]
  refine tk 3 (some 39) (Op.load 175 (Operand.tmp 38)) 175 (v := ?v3s4) rfl ?h3s4 hH ?_
  case h3s4 => intro _ _; go_simp; try with_reducible rfl
  try simp only [ps]
  refine tk 4 (some 40) (Op.load 83 (Operand.tmp 3)) 83 (v := ?v4s5) rfl ?h4s5 hH ?_
  case h4s5 => intro _ _; go_simp; try with_reducible rfl
  try simp only [ps]
  refine tk 5 (some 41) (Op.lookup 175 (Operand.tmp 39) (Operand.tmp 40) true) 215 (v := ?v5s6) rfl ?h5s6 hH ?_
  case h5s6 => intro _ _; go_simp; try with_reducible rfl
  try simp only [ps]
  refine tk 6 (some 35) (Op.move (Operand.tmp 41)) 215 (v := ?v6s7) rfl ?h6s7 hH ?_
  case h6s7 => intro _ _; go_simp; try with_reducible rfl
  try simp only [ps]
  refine tk 7 (some 42) (Op.extract (Operand.tmp 35) 0) 206 (v := ?v7s8) rfl ?h7s8 hH ?_
  case h7s8 => intro _ _; go_simp; try with_reducible rfl
  try simp only [ps]
  refine tk 8 (some 43) (Op.extract (Operand.tmp 35) 1) 4 (v := ?v8s9) rfl ?h8s9 hH ?_
  case h8s9 => intro _ _; go_simp; try with_reducible rfl
  try simp only [ps]
  refine wpAnyH_ready (rs := [9]) (by kernel_rfl) (by simp) ?_
  refine AllReadyH.cons (o := { dst := some 5, op := Op.alloc 206, type := 0, pos := "spot.go:111", after := #[], guard := none }) rfl (fun K hKq => ?_) AllReadyH.nil
  go_simp
  refine hKq.out _ _ (MK.out _ (by first | exact KQ.alloc _ | exact (KQ0.alloc _).drew)) (fun hN => ?_)
  clear hKq K hH KQ
  have hH := hN
  clear hN
  have KQ := hH.2.2.2.2.2.2.2.2.2.2.out
  try simp only [ps]
  refine wpAnyH_ready (rs := [10]) (by kernel_rfl) (by simp) ?_
  refine AllReadyH.cons (o := { dst := none, op := Op.store 206 (Operand.tmp 5) (Operand.tmp 42), type := 0, pos := "spot.go:111", after := #[{ on := 9, ground := Ground.data }, { on := 7, ground := Ground.data }, { on := 0, ground := Ground.phase }, { on := 1, ground := Ground.phase }, { on := 2, ground := Ground.phase }, { on := 3, ground := Ground.phase }, { on := 4, ground := Ground.phase }, { on := 5, ground := Ground.phase }, { on := 6, ground := Ground.phase }, { on := 7, ground := Ground.phase }, { on := 8, ground := Ground.textOnly Departure.lateStores }, { on := 9, ground := Ground.phase }], guard := none }) rfl (fun K hKq => ?_) AllReadyH.nil
  go_simp
  refine hKq.out _ _ (MK.out _ KQ) (fun hN => ?_)
  clear hKq K hH KQ
  have hH := hN
  clear hN
  have KQ := hH.2.2.2.2.2.2.2.2.2.2.out
  try simp only [ps]
  refine tk 11 (some 6) (Op.assign (Operand.tmp 43)) 4 (v := ?v11s10) rfl ?h11s10 hH ?_
  case h11s10 => intro _ _; go_simp; try with_reducible rfl
  try simp only [ps]
  refine wpAnyH_done (by kernel_rfl) ?_ _
  refine NoPanic.normal ?_
  go_wp2_with fail
  go_ret
  exact ⟨by rw [E.out]; rfl, K1.out.trans KQ⟩
end Go.Proofs.YtnajcnhgeggngaaGreat.Way
