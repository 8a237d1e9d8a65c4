/-
 Proved: the law RxOnly of glosslaw4 returns true for every two rows of numbers, every string, every two ints, every byte and either way of writing, and leaves the rows as they were (P4.3, P4.4). The tied card, no condition.
-/
import Derived.Test.YtikmgckefbjbkaaGreatDoorM2
import Derived.Test.YtikmgckefbjbkaaGreatDoorM5
import Derived.Test.YtikmgckefbjbkaaGreatDoorM3
import Derived.Test.YtikmgckefbjbkaaGreatDoorM4
import Derived.Test.YtikmgckefbjbkaaGreatDoorM6
import Derived.Deep.CutBlock
import Derived.ProofKit
import Derived.OpenShut
import Derived.ChangeSame
import Derived.Test.YtikmgckefbjbkaaGreatDoorRows
import Derived.Test.YtikmgckefbjbkaaGreatDoorChecked
import Derived.HandedShaped
import Derived.Shelf.Vars
import Derived.LaidMore
import Derived.LaidHandle
import Derived.LaidLaws
import Derived.Stop.Joined
import Derived.Test.YtikmgckefbjbkaaGreatDoorTie
import Derived.Test.YtikmgckefbjbkaaGreatDoorCards
import Derived.Below
import Derived.WalkKit
import Derived.ShutString
import Derived.ChangeOld
import Derived.SevenTiedAt

/-! ### KSame -/

namespace Go.Proofs.YtikmgckefbjbkaaGreatDoor
open Go.RowKit

structure KSameSaid (a : Rx) : Prop where
 all : ∀ (b : Rx) (va vb : Value) (w : World) (ok ok' : Nat → Prop), Is w ok a va → Is w ok' b vb → Calls Tryz.prog 20 #[va, vb] w fun e w' => e = .returned (.bool (sameR a b)) ∧ Kp w w'
theorem sameL_ne : ∀ (a b : List Rx), a.length ≠ b.length → sameL a b = false
 | [], [], h => absurd rfl h
 | [], _ :: _, _ => by simp [sameL]
 | _ :: _, [], _ => by simp [sameL]
 | x :: a, y :: b, h => by
  rw [sameL, sameL_ne a b (fun e => h (by simp [e])), Bool.and_false]
theorem sameL_end (a b : List Rx) (q : Nat) (ha : a.length ≤ q) (hb : b.length ≤ q) : sameL (a.drop q) (b.drop q) = true := by
 rw [List.drop_eq_nil_of_le ha, List.drop_eq_nil_of_le hb, sameL]
theorem sameL_at (a b : List Rx) (q : Nat) (x y : Rx) (ha : a[q]? = some x) (hb : b[q]? = some y) : sameL (a.drop q) (b.drop q) = (sameR x y && sameL (a.drop (q + 1)) (b.drop (q + 1))) := by
 obtain ⟨h1, e1⟩ := List.getElem?_eq_some_iff.1 ha
 obtain ⟨h2, e2⟩ := List.getElem?_eq_some_iff.1 hb
 rw [List.drop_eq_getElem_cons h1, List.drop_eq_getElem_cons h2, e1, e2, sameL]

set_option maxHeartbeats 2000000 in
set_option maxRecDepth 100000 in
theorem ksame_step (k mn mx n : Int) (s : W4) (kids : List Rx) (H : ∀ a, a ∈ kids → KSameSaid a) (hl : kids.length ≤ 1000000) : KSameSaid (.mk k mn mx n s kids) := by
 refine ⟨fun b va vb w ok ok' hia hib => ?_⟩
 cases b with
 | mk k' mn' mx' n' s' kids' =>
  obtain ⟨ad, l, c, rfl, ra⟩ := hia.row
  obtain ⟨ad', l', c', rfl, rb⟩ := hib.row
  have la := hid ra.ln
  have lb := hid rb.ln
  have hca := ra.cp
  have hcb := rb.cp
  have hll : l ≤ 1000000 := by rw [la.out]; exact hl
  have RA := hid ra
  have RB := hid rb
  have HH := hid H
  clear ra rb hia hib H hl
  have e0 : Hid (sameR (.mk k mn mx n s kids) (.mk k' mn' mx' n' s' kids') = (k == k' && mn == mn' && mx == mx' && n == n' && s == s' && sameL kids kids')) := by show _ = _; rw [sameR]
  have es : ∀ w, (Op.equalIn 10000 24 (.agg #[.int .u64 (s.a : Int), .int .u64 (s.b : Int), .int .u64 (s.c : Int), .int .u64 (s.d : Int)]) (.agg #[.int .u64 (s'.a : Int), .int .u64 (s'.b : Int), .int .u64 (s'.c : Int), .int .u64 (s'.d : Int)])).run Tryz.prog w = .ok (s == s') w := fun w => by rw [w4_eq]; exact eq_vv _ _ _ _ _ _ _ _ w
  obtain ⟨q5, hq5⟩ : ∃ q, (s == s') = q := ⟨_, rfl⟩
  rw [hq5] at es e0
  clear hq5
  obtain ⟨Z, hZ⟩ : ∃ Z, sameR (.mk k mn mx n s kids) (.mk k' mn' mx' n' s' kids') = Z := ⟨_, rfl⟩
  rw [hZ] at e0 ⊢
  clear hZ
  go_enter Tryz.func20, Tryz.ntmps20
  go_upto_region 1 with fail
  refine opq (fun W => W.heap[w.heap.size]? = some (rxo k mn mx n s (.slice ad l c)) ∧ W.heap[w.heap.size + 1]? = some (rxo k' mn' mx' n' s' (.slice ad' l' c')) ∧ Kp w W) ⟨by exact bl_alloc (last_of _ _) _, by exact last_at _ _ _ (by simp), by exact ((Kp.refl _).alloc _).alloc _⟩ ?_
  rintro W0 ⟨y1, y2, y3⟩
  have A := hid y1
  have B := hid y2
  have K := hid y3
  clear y1 y2 y3
  have a0 := bl_cell (A.out) 0 _ rfl
  have a1 := bl_cell (A.out) 1 _ rfl
  have a2 := bl_cell (A.out) 2 _ rfl
  have a3 := bl_cell (A.out) 3 _ rfl
  have a4 := bl_cell (A.out) 4 _ rfl
  have a5 := bl_cell (A.out) 5 _ rfl
  have a6 := bl_cell (A.out) 6 _ rfl
  have a7 := bl_cell (A.out) 7 _ rfl
  have a8 := bl_cell (A.out) 8 _ rfl
  have b0 := bl_cell (B.out) 0 _ rfl
  have b1 := bl_cell (B.out) 1 _ rfl
  have b2 := bl_cell (B.out) 2 _ rfl
  have b3 := bl_cell (B.out) 3 _ rfl
  have b4 := bl_cell (B.out) 4 _ rfl
  have b5 := bl_cell (B.out) 5 _ rfl
  have b6 := bl_cell (B.out) 6 _ rfl
  have b7 := bl_cell (B.out) 7 _ rfl
  have b8 := bl_cell (B.out) 8 _ rfl
  cases h1 : (k == k') with
  | false =>
   have E : Hid (Z = false) := by show _ = _; rw [e0.out]; simp [h1]
   have m1 : (k != k') = true := by simp [bne, h1]
   go_wp2
   go_ret
   exact ⟨ret_bool E.out.symm, K.out⟩
  | true =>
  have m1 : (k != k') = false := by simp [bne, h1]
  cases h2 : (mn == mn') with
  | false =>
   have E : Hid (Z = false) := by show _ = _; rw [e0.out]; simp [h2]
   have m2 : (mn != mn') = true := by simp [bne, h2]
   go_wp2
   go_ret
   exact ⟨ret_bool E.out.symm, K.out⟩
  | true =>
  have m2 : (mn != mn') = false := by simp [bne, h2]
  cases h3 : (mx == mx') with
  | false =>
   have E : Hid (Z = false) := by show _ = _; rw [e0.out]; simp [h3]
   have m3 : (mx != mx') = true := by simp [bne, h3]
   go_wp2
   go_ret
   exact ⟨ret_bool E.out.symm, K.out⟩
  | true =>
  have m3 : (mx != mx') = false := by simp [bne, h3]
  cases h4 : (n == n') with
  | false =>
   have E : Hid (Z = false) := by show _ = _; rw [e0.out]; simp [h4]
   have m4 : (n != n') = true := by simp [bne, h4]
   go_wp2
   go_ret
   exact ⟨ret_bool E.out.symm, K.out⟩
  | true =>
  have m4 : (n != n') = false := by simp [bne, h4]
  cases q5 with
  | false =>
   have E : Hid (Z = false) := by show _ = _; rw [e0.out]; simp
   go_wp2
   go_ret
   exact ⟨ret_bool E.out.symm, K.out⟩
  | true =>
  by_cases hlen : l = l'
  case neg =>
   have E : Hid (Z = false) := by show _ = _; rw [e0.out, sameL_ne kids kids' (by rw [← la.out, ← lb.out]; exact hlen)]; simp
   have m6 : ((l : Int) != (l' : Int)) = true := by simp [bne]; omega
   go_wp2
   go_ret
   exact ⟨ret_bool E.out.symm, K.out⟩
  subst hlen
  have E : Hid (Z = sameL kids kids') := by show _ = _; rw [e0.out, h1, h2, h3, h4]; rfl
  have L1 := hid la.out
  clear e0 la
  go_wp2_with fail
  clear h1 h2 h3 h4 m1 m2 m3 m4 es
  clear a0 a1 a2 a3 a4 a5 a6 a7 a8 b0 b1 b2 b3 b4 b5 b6 b7 b8
  go_loopg [51] l (fun gg i wr => ∃ q : Nat, q + gg = l ∧ i = .int .i64 (q : Int) ∧ sameL kids kids' = sameL (kids.drop q) (kids'.drop q) ∧ Kp W0 wr)
  case atStart => exact ⟨0, by omega, rfl, rfl, Kp.refl _⟩
  case round =>
   obtain ⟨q, hq, rfl, hS, hK⟩ := hrel
   have S := hid hS
   have K1 := hid hK
   have A1 := hid (bl_kp A.out hK)
   have B1 := hid (bl_kp B.out hK)
   clear hS hK
   by_cases hlt : q < l
   ·
    have gkw : IntKind.i64.wrap ((q : Int) + 1) = (q : Int) + 1 := by rw [IntKind.wrap_i64]; omega
    have ga : (q : Int) < (l : Int) := by omega
    have g0 : (0 : Int) ≤ (q : Int) := by omega
    obtain ⟨r, hr⟩ : ∃ r, kids[q]? = some r := ⟨_, List.getElem?_eq_getElem (by rw [← L1.out]; exact hlt)⟩
    obtain ⟨r', hr'⟩ : ∃ r, kids'[q]? = some r := ⟨_, List.getElem?_eq_getElem (by rw [← lb.out]; exact hlt)⟩
    have S1 := hid (S.out.trans (sameL_at kids kids' q r r' hr hr'))
    have TS := hid (HH.out r (List.mem_of_getElem? hr))
    obtain ⟨bb, oo, kk, pn, px, pm, pt, pad, pl, pc, e1, hbb, i1, ce1⟩ := (RA.out.kp (K.out.trans K1.out)).at q r hr
    obtain ⟨bb', oo', kk', pn', px', pm', pt', pad', pl', pc', e1', hbb', i1', ce1'⟩ := (RB.out.kp (K.out.trans K1.out)).at q r' hr'
    subst e1
    subst e1'
    have I1 := hid i1
    have I2 := hid i1'
    have C1 := hid ce1
    have C2 := hid ce1'
    clear hr hr' i1 i1' ce1 ce1' S
    obtain ⟨z, hz⟩ : ∃ z, sameR r r' = z := ⟨_, rfl⟩
    rw [hz] at S1
    have HZ := hid hz
    clear hz
    go_upto_region 6 with fail
    have Q0 : Kp wr wr.drew := (Kp.refl _).drew
    have MK : Hid (∀ W, Kp wr W → W.cell? ⟨w.heap.size, 8, none⟩ = some (.slice (some ⟨bb, oo, none⟩) l c) ∧ W.cell? ⟨(w.heap.size + 1), 8, none⟩ = some (.slice (some ⟨bb', oo', none⟩) l c') ∧ W.cell? ⟨bb, (oo + q * 9), none⟩ = some (.int .i64 kk) ∧ W.cell? ⟨bb, (oo + q * 9 + 1), none⟩ = some (.int .i64 pn) ∧ W.cell? ⟨bb, (oo + q * 9 + 2), none⟩ = some (.int .i64 px) ∧ W.cell? ⟨bb, (oo + q * 9 + 3), none⟩ = some (.int .i64 pm) ∧ W.cell? ⟨bb, (oo + q * 9 + 4), none⟩ = some (Value.int .u64 (pt.a : Int)) ∧ W.cell? ⟨bb, (oo + q * 9 + 5), none⟩ = some (Value.int .u64 (pt.b : Int)) ∧ W.cell? ⟨bb, (oo + q * 9 + 6), none⟩ = some (Value.int .u64 (pt.c : Int)) ∧ W.cell? ⟨bb, (oo + q * 9 + 7), none⟩ = some (Value.int .u64 (pt.d : Int)) ∧ W.cell? ⟨bb, (oo + q * 9 + 8), none⟩ = some (Value.slice pad pl pc) ∧ W.cell? ⟨bb', (oo' + q * 9), none⟩ = some (.int .i64 kk') ∧ W.cell? ⟨bb', (oo' + q * 9 + 1), none⟩ = some (.int .i64 pn') ∧ W.cell? ⟨bb', (oo' + q * 9 + 2), none⟩ = some (.int .i64 px') ∧ W.cell? ⟨bb', (oo' + q * 9 + 3), none⟩ = some (.int .i64 pm') ∧ W.cell? ⟨bb', (oo' + q * 9 + 4), none⟩ = some (Value.int .u64 (pt'.a : Int)) ∧ W.cell? ⟨bb', (oo' + q * 9 + 5), none⟩ = some (Value.int .u64 (pt'.b : Int)) ∧ W.cell? ⟨bb', (oo' + q * 9 + 6), none⟩ = some (Value.int .u64 (pt'.c : Int)) ∧ W.cell? ⟨bb', (oo' + q * 9 + 7), none⟩ = some (Value.int .u64 (pt'.d : Int)) ∧ W.cell? ⟨bb', (oo' + q * 9 + 8), none⟩ = some (Value.slice pad' pl' pc') ∧ Hid (Kp wr W)) := fun W k => ⟨bl_cell (bl_kp A1.out k) 8 _ rfl, bl_cell (bl_kp B1.out k) 8 _ rfl, (cells_of_is (C1.out.turn (k.block _ hbb))).1, (cells_of_is (C1.out.turn (k.block _ hbb))).2.1, (cells_of_is (C1.out.turn (k.block _ hbb))).2.2.1, (cells_of_is (C1.out.turn (k.block _ hbb))).2.2.2.1, (cells_of_is (C1.out.turn (k.block _ hbb))).2.2.2.2.1, (cells_of_is (C1.out.turn (k.block _ hbb))).2.2.2.2.2.1, (cells_of_is (C1.out.turn (k.block _ hbb))).2.2.2.2.2.2.1, (cells_of_is (C1.out.turn (k.block _ hbb))).2.2.2.2.2.2.2.1, (cells_of_is (C1.out.turn (k.block _ hbb))).2.2.2.2.2.2.2.2, (cells_of_is (C2.out.turn (k.block _ hbb'))).1, (cells_of_is (C2.out.turn (k.block _ hbb'))).2.1, (cells_of_is (C2.out.turn (k.block _ hbb'))).2.2.1, (cells_of_is (C2.out.turn (k.block _ hbb'))).2.2.2.1, (cells_of_is (C2.out.turn (k.block _ hbb'))).2.2.2.2.1, (cells_of_is (C2.out.turn (k.block _ hbb'))).2.2.2.2.2.1, (cells_of_is (C2.out.turn (k.block _ hbb'))).2.2.2.2.2.2.1, (cells_of_is (C2.out.turn (k.block _ hbb'))).2.2.2.2.2.2.2.1, (cells_of_is (C2.out.turn (k.block _ hbb'))).2.2.2.2.2.2.2.2, k⟩
    refine wp_region_noPanic ?_
    refine wp_region_held_drew (S := (fun W => W.cell? ⟨w.heap.size, 8, none⟩ = some (.slice (some ⟨bb, oo, none⟩) l c) ∧ W.cell? ⟨(w.heap.size + 1), 8, none⟩ = some (.slice (some ⟨bb', oo', none⟩) l c') ∧ W.cell? ⟨bb, (oo + q * 9), none⟩ = some (.int .i64 kk) ∧ W.cell? ⟨bb, (oo + q * 9 + 1), none⟩ = some (.int .i64 pn) ∧ W.cell? ⟨bb, (oo + q * 9 + 2), none⟩ = some (.int .i64 px) ∧ W.cell? ⟨bb, (oo + q * 9 + 3), none⟩ = some (.int .i64 pm) ∧ W.cell? ⟨bb, (oo + q * 9 + 4), none⟩ = some (Value.int .u64 (pt.a : Int)) ∧ W.cell? ⟨bb, (oo + q * 9 + 5), none⟩ = some (Value.int .u64 (pt.b : Int)) ∧ W.cell? ⟨bb, (oo + q * 9 + 6), none⟩ = some (Value.int .u64 (pt.c : Int)) ∧ W.cell? ⟨bb, (oo + q * 9 + 7), none⟩ = some (Value.int .u64 (pt.d : Int)) ∧ W.cell? ⟨bb, (oo + q * 9 + 8), none⟩ = some (Value.slice pad pl pc) ∧ W.cell? ⟨bb', (oo' + q * 9), none⟩ = some (.int .i64 kk') ∧ W.cell? ⟨bb', (oo' + q * 9 + 1), none⟩ = some (.int .i64 pn') ∧ W.cell? ⟨bb', (oo' + q * 9 + 2), none⟩ = some (.int .i64 px') ∧ W.cell? ⟨bb', (oo' + q * 9 + 3), none⟩ = some (.int .i64 pm') ∧ W.cell? ⟨bb', (oo' + q * 9 + 4), none⟩ = some (Value.int .u64 (pt'.a : Int)) ∧ W.cell? ⟨bb', (oo' + q * 9 + 5), none⟩ = some (Value.int .u64 (pt'.b : Int)) ∧ W.cell? ⟨bb', (oo' + q * 9 + 6), none⟩ = some (Value.int .u64 (pt'.c : Int)) ∧ W.cell? ⟨bb', (oo' + q * 9 + 7), none⟩ = some (Value.int .u64 (pt'.d : Int)) ∧ W.cell? ⟨bb', (oo' + q * 9 + 8), none⟩ = some (Value.slice pad' pl' pc') ∧ Hid (Kp wr W))) (by kernel_rfl) ?_ (fun hH => ?_)
    ·
     exact MK.out _ Q0
    have KQ := Q0
    refine wpAnyH_take (i := 0) (oi := { dst := some 54, op := Op.fieldAddr 27 (Operand.tmp 2) 5, type := 0, pos := "keep.go:127", after := #[], guard := none }) (v := ?v0a1) rfl (by kernel_rfl) (by kernel_rfl) (by kernel_rfl) (fun _ _ _ h => h) (Or.inl ⟨by rfl, ?hy0a1⟩) hH ?r0a1
    case hy0a1 => (intro W hSw; (try dsimp only at hSw); go_simp; try (with_reducible rfl))
    try simp only [Act.put, List.setIfInBounds_toArray, List.set_cons_zero, List.set_cons_succ]
    refine wpAnyH_take (i := 1) (oi := { dst := some 55, op := Op.load 25 (Operand.tmp 54), type := 25, pos := "keep.go:127", after := #[{ on := 0, ground := Ground.data }], guard := none }) (v := ?v1a2) rfl (by kernel_rfl) (by kernel_rfl) (by kernel_rfl) (fun _ _ _ h => h) (Or.inl ⟨by rfl, ?hy1a2⟩) hH ?r1a2
    case hy1a2 => (intro W hSw; (try dsimp only at hSw); go_simp; try (with_reducible rfl))
    try simp only [Act.put, List.setIfInBounds_toArray, List.set_cons_zero, List.set_cons_succ]
    refine wpAnyH_take (i := 2) (oi := { dst := some 56, op := Op.move (Operand.tmp 5), type := 3, pos := "keep.go:127", after := #[], guard := none }) (v := ?v2a3) rfl (by kernel_rfl) (by kernel_rfl) (by kernel_rfl) (fun _ _ _ h => h) (Or.inl ⟨by rfl, ?hy2a3⟩) hH ?r2a3
    case hy2a3 => (intro W hSw; (try dsimp only at hSw); go_simp; try (with_reducible rfl))
    try simp only [Act.put, List.setIfInBounds_toArray, List.set_cons_zero, List.set_cons_succ]
    refine wpAnyH_take (i := 3) (oi := { dst := some 57, op := Op.indexAddr 25 (Operand.tmp 55) (Operand.tmp 56), type := 0, pos := "keep.go:127", after := #[{ on := 1, ground := Ground.data }, { on := 2, ground := Ground.data }], guard := none }) (v := ?v3a4) rfl (by kernel_rfl) (by kernel_rfl) (by kernel_rfl) (fun _ _ _ h => h) (Or.inl ⟨by rfl, ?hy3a4⟩) hH ?r3a4
    case hy3a4 => (intro W hSw; (try dsimp only at hSw); go_simp; try (with_reducible rfl))
    try simp only [Act.put, List.setIfInBounds_toArray, List.set_cons_zero, List.set_cons_succ]
    refine wpAnyH_take (i := 4) (oi := { dst := some 58, op := Op.load 27 (Operand.tmp 57), type := 27, pos := "keep.go:127", after := #[{ on := 3, ground := Ground.data }], guard := none }) (v := ?v4a5) rfl (by kernel_rfl) (by kernel_rfl) (by kernel_rfl) (fun _ _ _ h => h) (Or.inl ⟨by rfl, ?hy4a5⟩) hH ?r4a5
    case hy4a5 => (intro W hSw; (try dsimp only at hSw); go_simp; try (with_reducible rfl))
    try simp only [Act.put, List.setIfInBounds_toArray, List.set_cons_zero, List.set_cons_succ]
    refine wpAnyH_take (i := 5) (oi := { dst := some 59, op := Op.fieldAddr 27 (Operand.tmp 3) 5, type := 0, pos := "keep.go:127", after := #[], guard := none }) (v := ?v5a6) rfl (by kernel_rfl) (by kernel_rfl) (by kernel_rfl) (fun _ _ _ h => h) (Or.inl ⟨by rfl, ?hy5a6⟩) hH ?r5a6
    case hy5a6 => (intro W hSw; (try dsimp only at hSw); go_simp; try (with_reducible rfl))
    try simp only [Act.put, List.setIfInBounds_toArray, List.set_cons_zero, List.set_cons_succ]
    refine wpAnyH_take (i := 6) (oi := { dst := some 60, op := Op.load 25 (Operand.tmp 59), type := 25, pos := "keep.go:127", after := #[{ on := 5, ground := Ground.data }], guard := none }) (v := ?v6a7) rfl (by kernel_rfl) (by kernel_rfl) (by kernel_rfl) (fun _ _ _ h => h) (Or.inl ⟨by rfl, ?hy6a7⟩) hH ?r6a7
    case hy6a7 => (intro W hSw; (try dsimp only at hSw); go_simp; try (with_reducible rfl))
    try simp only [Act.put, List.setIfInBounds_toArray, List.set_cons_zero, List.set_cons_succ]
    refine wpAnyH_take (i := 7) (oi := { dst := some 61, op := Op.move (Operand.tmp 5), type := 3, pos := "keep.go:127", after := #[], guard := none }) (v := ?v7a8) rfl (by kernel_rfl) (by kernel_rfl) (by kernel_rfl) (fun _ _ _ h => h) (Or.inl ⟨by rfl, ?hy7a8⟩) hH ?r7a8
    case hy7a8 => (intro W hSw; (try dsimp only at hSw); go_simp; try (with_reducible rfl))
    try simp only [Act.put, List.setIfInBounds_toArray, List.set_cons_zero, List.set_cons_succ]
    refine wpAnyH_take (i := 8) (oi := { dst := some 62, op := Op.indexAddr 25 (Operand.tmp 60) (Operand.tmp 61), type := 0, pos := "keep.go:127", after := #[{ on := 6, ground := Ground.data }, { on := 7, ground := Ground.data }], guard := none }) (v := ?v8a9) rfl (by kernel_rfl) (by kernel_rfl) (by kernel_rfl) (fun _ _ _ h => h) (Or.inl ⟨by rfl, ?hy8a9⟩) hH ?r8a9
    case hy8a9 => (intro W hSw; (try dsimp only at hSw); go_simp; try (with_reducible rfl))
    try simp only [Act.put, List.setIfInBounds_toArray, List.set_cons_zero, List.set_cons_succ]
    refine wpAnyH_take (i := 9) (oi := { dst := some 63, op := Op.load 27 (Operand.tmp 62), type := 27, pos := "keep.go:127", after := #[{ on := 8, ground := Ground.data }], guard := none }) (v := ?v9a10) rfl (by kernel_rfl) (by kernel_rfl) (by kernel_rfl) (fun _ _ _ h => h) (Or.inl ⟨by rfl, ?hy9a10⟩) hH ?r9a10
    case hy9a10 => (intro W hSw; (try dsimp only at hSw); go_simp; try (with_reducible rfl))
    try simp only [Act.put, List.setIfInBounds_toArray, List.set_cons_zero, List.set_cons_succ]
    refine wpAnyH_ready (rs := [10]) (by kernel_rfl) (by simp) ?_
    refine AllReadyH.cons (o := { dst := some 64, op := Op.call { callee := Callee.value (Operand.func 20), args := #[Operand.tmp 58, Operand.tmp 63], argTypes := #[27, 27] }, type := 4, pos := "keep.go:127", after := #[{ on := 4, ground := Ground.data }, { on := 9, ground := Ground.data }], guard := none }) rfl (fun K hKq => ?_) AllReadyH.nil
    go_simp
    refine (TS.out.all r' _ _ _ ok ok' (I1.out.kp KQ) (I2.out.kp KQ)).mono ?_
    rintro e y1 ⟨rfl, kq⟩
    rw [HZ.out]
    refine hKq.out _ _ (MK.out _ (KQ.trans kq)) (fun hN => ?_)
    clear kq
    clear hKq K hH KQ
    have hH := hN
    clear hN
    have KQ := hH.2.2.2.2.2.2.2.2.2.2.2.2.2.2.2.2.2.2.2.2.out
    try simp only [Act.put, List.setIfInBounds_toArray, List.set_cons_zero, List.set_cons_succ]
    refine wpAnyH_take (i := 11) (oi := { dst := some 65, op := Op.unOp UnOp.not 4 (Operand.tmp 64), type := 4, pos := "keep.go:127", after := #[{ on := 10, ground := Ground.data }], guard := none }) (v := ?v11a11) rfl (by kernel_rfl) (by kernel_rfl) (by kernel_rfl) (fun _ _ _ h => h) (Or.inl ⟨by rfl, ?hy11a11⟩) hH ?r11a11
    case hy11a11 => (intro W hSw; (try dsimp only at hSw); go_simp; try (with_reducible rfl))
    try simp only [Act.put, List.setIfInBounds_toArray, List.set_cons_zero, List.set_cons_succ]
    refine wpAnyH_done (by kernel_rfl) ?_ _
    refine NoPanic.normal ?_
    have K2 := hid (K1.out.trans KQ)
    cases z with
    | false =>
     have EF : Hid (Z = false) := by show _ = _; rw [E.out, S1.out]; rfl
     go_wp2_with fail
     go_ret
     exact ⟨ret_bool EF.out.symm, K.out.trans K2.out⟩
    | true =>
     have ET : Hid (sameL kids kids' = sameL (kids.drop (q + 1)) (kids'.drop (q + 1))) := by show _ = _; rw [S1.out]; rfl
     go_wp2_with fail
     go_roundg (gk - 1)
     case measure => omega
     case rel => exact ⟨q + 1, by omega, by go_num, ET.out, K2.out⟩
   ·
    have ga : ¬ (q : Int) < (l : Int) := by omega
    have ET : Hid (Z = true) := by show _ = _; rw [E.out, S.out]; exact sameL_end _ _ _ (by rw [← L1.out]; omega) (by rw [← lb.out]; omega)
    go_wp2_with fail
    go_ret
    exact ⟨ret_bool ET.out.symm, K.out.trans K1.out⟩

theorem ksame_any : ∀ a, RxFit a → KSameSaid a
 | .mk k mn mx n s kids, h => by
  unfold RxFit at h
  exact ksame_step k mn mx n s kids (fun a ha => ksame_any a (h.2 a ha)) h.1
termination_by a => SizeOf.sizeOf a
decreasing_by
 have := List.sizeOf_lt_of_mem ha
 simp
 omega
end Go.Proofs.YtikmgckefbjbkaaGreatDoor

/-! ### SameEq -/

namespace Go.Proofs.YtikmgckefbjbkaaGreatDoor
open Go.RowKit

mutual
theorem sameR_refl : ∀ a : Rx, sameR a a = true
 | .mk k mn mx n s ks => by simp [sameR, sameL_refl ks]
theorem sameL_refl : ∀ a : List Rx, sameL a a = true
 | [] => by simp [sameL]
 | a :: l => by simp [sameL, sameR_refl a, sameL_refl l]
end
mutual
theorem sameR_eq : ∀ a b : Rx, sameR a b = true → a = b
 | .mk k mn mx n s ks, .mk k' mn' mx' n' s' ks', h => by
  simp only [sameR, Bool.and_eq_true, beq_iff_eq] at h
  obtain ⟨⟨⟨⟨⟨h1, h2⟩, h3⟩, h4⟩, h5⟩, h6⟩ := h
  rw [h1, h2, h3, h4, h5, sameL_eq ks ks' h6]
theorem sameL_eq : ∀ a b : List Rx, sameL a b = true → a = b
 | [], [], _ => rfl
 | a :: l, b :: m, h => by
  simp only [sameL, Bool.and_eq_true] at h
  rw [sameR_eq a b h.1, sameL_eq l m h.2]
 | [], _ :: _, h => by simp [sameL] at h
 | _ :: _, [], h => by simp [sameL] at h
end
end Go.Proofs.YtikmgckefbjbkaaGreatDoor

/-! ### Talk -/

namespace Go.Proofs.YtikmgckefbjbkaaGreatDoor
open Go.RowKit

theorem fit_of_ok : ∀ r, RxOk r → RxFit r
 | .mk k mn mx n s kids, h => by
  unfold RxOk at h
  unfold RxFit
  exact ⟨h.1, fun a ha => fit_of_ok a (h.2.2 a ha)⟩
termination_by r => SizeOf.sizeOf r
decreasing_by
 have := List.sizeOf_lt_of_mem ha
 simp
 omega
theorem slim_of_ok : ∀ r, RxOk r → Slim r
 | .mk k mn mx n s kids, h => by
  unfold RxOk at h
  unfold Slim
  exact ⟨h.1, fun a ha => slim_of_ok a (h.2.2 a ha)⟩
termination_by r => SizeOf.sizeOf r
decreasing_by
 have := List.sizeOf_lt_of_mem ha
 simp
 omega
theorem print_size (ere : Bool) (T : Rx) (hO : RxOk T) : (bs (printT ere T)).size ≤ 1000000 := by
 rw [bs_size]
 unfold printT
 split
 ·
  rename_i h
  have := (Trip.right_fit ere T hO h).2
  omega
 ·
  simp
theorem nds_right (ere : Bool) (T : Rx) (h : right ere T = true) : nds T ≤ 40 := by
 unfold right at h
 obtain ⟨c, hc⟩ := Option.isSome_iff_exists.1 h
 have := (Trip.cnt_any T).all ere true true ⟨0, 0, 0⟩ c hc
 simp at this
 omega
/-- A tree's text. -/
theorem talk_print (T : Rx) (ere : Bool) (hO : RxOk T) (S : ByteArray) (hS : bs (printT ere T) = S) (w : World) {k mn mx m : Int} {t : W4} {ad : Option Addr} {l c : Nat} (h : Pd w T k mn mx m t ad l c) :
  Calls Tryz.prog 10 #[rxv k mn mx m t (.slice ad l c), .bool ere] w fun e w' => e = .returned (.string S) ∧ Kp w w' := by
 subst hS
 exact print_any T ere _ k mn mx m t ad l c w hO (fun hr => (Trip.right_fit ere T hO hr).1) h.is
theorem talk_right (T : Rx) (ere b : Bool) (hO : RxOk T) (hb : right ere T = b) (w : World) {k mn mx m : Int} {t : W4} {ad : Option Addr} {l c : Nat} (h : Pd w T k mn mx m t ad l c) :
  Calls Tryz.prog 15 #[rxv k mn mx m t (.slice ad l c), .bool ere] w fun e w' => e = .returned (.bool b) ∧ Kp w w' := by
 subst hb
 exact Right_any T ere _ k mn mx m t ad l c w hO h.is
theorem talk_same (T U : Rx) (b : Bool) (hO : RxOk T) (hb : sameR T U = b) (w : World) {k mn mx m : Int} {t : W4} {ad : Option Addr} {l c : Nat} {k' mn' mx' m' : Int} {t' : W4} {ad' : Option Addr} {l' c' : Nat} (h : Pd w T k mn mx m t ad l c) (h' : Pd w U k' mn' mx' m' t' ad' l' c') :
  Calls Tryz.prog 16 #[rxv k mn mx m t (.slice ad l c), rxv k' mn' mx' m' t' (.slice ad' l' c')] w fun e w' => e = .returned (.bool b) ∧ Kp w w' := by
 subst hb
 exact same_any T U _ _ w _ _ (fit_of_ok T hO) h.is h'.is
theorem talk_ksame (T U : Rx) (b : Bool) (hO : RxOk T) (hb : sameR T U = b) (w : World) {k mn mx m : Int} {t : W4} {ad : Option Addr} {l c : Nat} {k' mn' mx' m' : Int} {t' : W4} {ad' : Option Addr} {l' c' : Nat} (h : Pd w T k mn mx m t ad l c) (h' : Pd w U k' mn' mx' m' t' ad' l' c') :
  Calls Tryz.prog 20 #[rxv k mn mx m t (.slice ad l c), rxv k' mn' mx' m' t' (.slice ad' l' c')] w fun e w' => e = .returned (.bool b) ∧ Kp w w' := by
 subst hb
 exact (ksame_any T (fit_of_ok T hO)).all U _ _ w _ _ h.is h'.is
theorem talk_nodes (T : Rx) (N : Nat) (hO : RxOk T) (hn : nds T = N) (hN : N ≤ 1000000) (w : World) {k mn mx m : Int} {t : W4} {ad : Option Addr} {l c : Nat} (h : Pd w T k mn mx m t ad l c) :
  Calls Tryz.prog 18 #[rxv k mn mx m t (.slice ad l c)] w fun e w' => e = .returned (.int .i64 ((N : Nat) : Int)) ∧ Kp w w' := by
 subst hn
 exact (Nodes_any T hN (slim_of_ok T hO)).all _ _ w h.is
end Go.Proofs.YtikmgckefbjbkaaGreatDoor

/-! ### Talk2 -/

namespace Go.Proofs.YtikmgckefbjbkaaGreatDoor
open Go.RowKit

theorem print_len (ere : Bool) (T : Rx) (hO : RxOk T) : (bs (printT ere T)).size ≤ 84000 := by
 rw [bs_size]
 unfold printT
 split
 ·
  rename_i h
  exact (Trip.right_fit ere T hO h).2
 ·
  simp
end Go.Proofs.YtikmgckefbjbkaaGreatDoor

/-! ### Sound -/

namespace Go.Proofs.YtikmgckefbjbkaaGreatDoor.Sound
open Go Go.Proofs.YtikmgckefbjbkaaGreatDoor

theorem sgn_b (s : ByteArray) (ere : Bool) (i : Nat) : (sgn s ere i).2.1 < 256 := by
 unfold sgn
 split
 ·
  decide
 split
 ·
  unfold quoted
  split
  ·
   decide
  ·
   have hb := ch_lt (s.extract (i + 1) s.size) 0
   unfold qs
   repeat' split
   all_goals (first | decide | exact hb)
 ·
  exact ch_lt s i
theorem sgn_six (s : ByteArray) (i : Nat) (h : (sgn s false i).1 = 6) : (sgn s false i).2.2 = 1 := by
 unfold sgn at h ⊢
 split at h
 ·
  exact absurd h (by decide)
 split at h
 ·
  exfalso
  unfold quoted at h
  split at h
  ·
   exact absurd h (by decide)
  ·
   unfold qs framing at h
   revert h
   repeat' split
   all_goals (intro h; dsimp only at h; first | omega | simp_all)
 ·
  rename_i h1 h2
  rw [if_neg h1, if_neg h2]
theorem sgn_nine (s : ByteArray) (ere : Bool) (i : Nat) (h : (sgn s ere i).1 = 9) : ere = true := by
 cases ere with
 | true => rfl
 | false =>
  exfalso
  unfold sgn at h
  split at h
  ·
   exact absurd h (by decide)
  split at h
  ·
   unfold quoted at h
   split at h
   ·
    exact absurd h (by decide)
   ·
    unfold qs framing at h
    revert h
    repeat' split
    all_goals (intro h; dsimp only at h; first | omega | simp_all)
  ·
   unfold bare at h
   revert h
   repeat' split
   all_goals (intro h; dsimp only at h; first | omega | simp_all)

/-- A part that may stand in a row. -/
structure CkP (ere : Bool) (d : Nat) (r : Rx) (g g' : Nat) : Prop where
 k2 : r.k ≠ 2
 k3 : r.k ≠ 3
 ok : RxOk r
 chk : ∀ b e, (ere = false → r.k = 7 → b = true) → (ere = false → r.k = 8 → e = true) → ∀ n, n + nds r ≤ 40 → chk ere r b e ⟨n, g, d⟩ = some ⟨n + nds r, g', d⟩
/-- What a part that is read leaves. -/
structure PS (ere : Bool) (t : St) (o : Out) : Prop where
 n : t.n ≤ o.st.n
 g : t.g ≤ o.st.g
 d : o.st.d = t.d
 ok : o.st.n ≤ 40 → o.st.g ≤ 3 → CkP ere t.d o.r t.g o.st.g ∧ o.st.n = t.n + nds o.r
/-- What the reading of a choice leaves. -/
structure CR (ere : Bool) (t : St) (o : Out) : Prop where
 n : t.n ≤ o.st.n
 g : t.g ≤ o.st.g
 d : o.st.d = t.d
 ok : o.st.n ≤ 40 → o.st.g ≤ 3 → RxOk o.r ∧ o.st.n = t.n + nds o.r ∧ ∀ n, n + nds o.r ≤ 40 → chk ere o.r true true ⟨n, t.g, t.d⟩ = some ⟨n + nds o.r, o.st.g, t.d⟩
structure CS (c : St → Out) (s : ByteArray) (ere : Bool) : Prop where
 all : ∀ t, Inv s t → (c t).e = 0 → CR ere t (c t)
theorem PS.take {ere : Bool} {t : St} (r : Rx) (sz : Nat) (h : t.g ≤ 3 → CkP ere t.d r t.g t.g) (hn : nds r = 1) : PS ere t (pTake sz r t) :=
 ⟨by show t.n ≤ t.n + 1; omega, Nat.le_refl _, rfl, fun _ hg => ⟨h hg, by show t.n + 1 = t.n + nds r; rw [hn]⟩⟩
theorem set_p (ere : Bool) (q : Nat → Bool) (d g : Nat) (hq : 0 < cnt q 256) (hg : g ≤ 3) : CkP ere d (rset q) g g := by
 have h := Trip.set_good ere q hq d g hg
 exact ⟨h.k2, h.k3, h.ok, fun b e _ _ n hn => h.chk b e n hn⟩
theorem leaf_p7 (ere : Bool) (d g : Nat) : CkP ere d (.mk 7 0 0 0 W4.z []) g g := by
 refine ⟨by show (7 : Int) ≠ 2; decide, by show (7 : Int) ≠ 3; decide, Trip.leaf_ok 7, fun b e hb _ n hn => ?_⟩
 rw [Trip.nds0] at hn ⊢
 rw [Go.Proofs.YtikmgckefbjbkaaGreatDoor.chk]
 have hl : leanB (.mk 7 0 0 0 W4.z []) = true := rfl
 rw [if_neg (by rw [hl]; simp; omega), if_neg (by decide), if_neg (by decide), if_neg (by decide), if_neg (by decide), if_neg (by decide), if_neg (by decide), if_pos rfl, if_pos ?_]
 cases ere with
 | true => rfl
 | false => rw [hb rfl rfl]; rfl
theorem leaf_p8 (ere : Bool) (d g : Nat) : CkP ere d (.mk 8 0 0 0 W4.z []) g g := by
 refine ⟨by show (8 : Int) ≠ 2; decide, by show (8 : Int) ≠ 3; decide, Trip.leaf_ok 8, fun b e _ he n hn => ?_⟩
 rw [Trip.nds0] at hn ⊢
 rw [Go.Proofs.YtikmgckefbjbkaaGreatDoor.chk]
 have hl : leanB (.mk 8 0 0 0 W4.z []) = true := rfl
 rw [if_neg (by rw [hl]; simp; omega), if_neg (by decide), if_neg (by decide), if_neg (by decide), if_neg (by decide), if_neg (by decide), if_neg (by decide), if_neg (by decide), if_pos rfl, if_pos ?_]
 cases ere with
 | true => rfl
 | false => rw [he rfl rfl]; rfl
theorem grp_p (ere : Bool) (R : Rx) (d g g' : Nat) (hd : d ≠ 6) (hg : g + 1 ≤ 3) (hk : RxOk R) (h : ∀ n, n + nds R ≤ 40 → chk ere R true true ⟨n, g + 1, d + 1⟩ = some ⟨n + nds R, g', d + 1⟩) : CkP ere d (.mk 5 0 0 ((g + 1 : Nat) : Int) W4.z [R]) g g' := by
 refine ⟨by show (5 : Int) ≠ 2; decide, by show (5 : Int) ≠ 3; decide, ?_, fun b e _ _ m hm => ?_⟩
 ·
  unfold RxOk
  exact ⟨by simp, Trip.z_lt, fun a ha => by
   obtain rfl : a = R := by simpa using ha
   exact hk⟩
 ·
  rw [Trip.nds1] at hm ⊢
  rw [Go.Proofs.YtikmgckefbjbkaaGreatDoor.chk]
  have hl : leanB (.mk 5 0 0 ((g + 1 : Nat) : Int) W4.z [R]) = true := rfl
  rw [if_neg (by rw [hl]; simp; omega), if_neg (by decide), if_neg (by decide), if_neg (by decide), if_neg (by decide), if_pos rfl, if_neg (by simp; omega)]
  rw [chkGroup]
  have := h (m + 1) (by omega)
  rw [this]
  show some (Ck.mk (m + 1 + nds R) g' (d + 1 - 1)) = _
  rw [show m + 1 + nds R = m + (1 + nds R) by omega, show d + 1 - 1 = d by omega]
theorem rep_p (ere : Bool) (X : Rx) (lo hi : Int) (d g g' : Nat) (h : CkP ere d X g g') (hk : mayRep X.k = true) (ht : timesFit lo hi = true) : CkP ere d (rrep lo hi X) g g' := by
 unfold rrep
 refine ⟨by show (4 : Int) ≠ 2; decide, by show (4 : Int) ≠ 3; decide, ?_, fun b e _ _ m hm => ?_⟩
 ·
  unfold RxOk
  exact ⟨by simp, Trip.z_lt, fun a ha => by
   obtain rfl : a = X := by simpa using ha
   exact h.ok⟩
 ·
  have n7 : X.k ≠ 7 := by intro e; rw [e] at hk; exact absurd hk (by decide)
  have n8 : X.k ≠ 8 := by intro e; rw [e] at hk; exact absurd hk (by decide)
  rw [Trip.nds1] at hm ⊢
  rw [Go.Proofs.YtikmgckefbjbkaaGreatDoor.chk]
  have hl : leanB (.mk 4 lo hi 0 W4.z [X]) = true := rfl
  rw [if_neg (by rw [hl]; simp; omega), if_neg (by decide), if_neg (by decide), if_neg (by decide), if_pos rfl, if_pos ht, chkRep, if_pos hk, h.chk false false (fun _ e => absurd e n7) (fun _ e => absurd e n8) (m + 1) (by omega)]
  rw [show m + 1 + nds X = m + (1 + nds X) by omega]
theorem one_byte (b : Nat) (hb : b < 256) : 0 < cnt (addB (fun _ => false) b) 256 := cnt_pos _ b hb (by unfold addB; simp)

/-- What is read where something stands, and what it may be. -/
structure One (ere : Bool) (k sz : Nat) (t : St) (o : Out) : Prop where
 ps : PS ere t o
 k7 : o.r.k = 7 → k = 5
 k8 : o.r.k = 8 → k = 6 ∧ o.st.i = t.i + sz
theorem pOne_s {c : St → Out} {s : ByteArray} {ere : Bool} {k b sz : Nat} {t : St} (hc : CS c s ere) (h : Inv s t) (hb : b < 256) (h1 : t.i + sz ≤ s.size) (h2 : k ≠ 1 → k ≠ 0 → 1 ≤ sz) (he : (pOne c s ere k b sz t).e = 0) : One ere k sz t (pOne c s ere k b sz t) := by
 have hn := h.n
 have hgi := h.g
 unfold pOne at he ⊢
 by_cases c2 : k = 2
 ·
  rw [if_pos c2] at he ⊢
  exact ⟨PS.take _ _ (fun hg => set_p ere _ t.d t.g (one_byte b hb) hg) (Trip.nds0 _ _ _ _ _), fun e => absurd e (by show ¬(1 : Int) = 7; decide), fun e => absurd e (by show ¬(1 : Int) = 8; decide)⟩
 rw [if_neg c2] at he ⊢
 by_cases c3 : k = 3
 ·
  rw [if_pos c3] at he ⊢
  exact ⟨PS.take _ _ (fun hg => set_p ere _ t.d t.g (cnt_pos _ 97 (by omega) rfl) hg) (Trip.nds0 _ _ _ _ _), fun e => absurd e (by show ¬(1 : Int) = 7; decide), fun e => absurd e (by show ¬(1 : Int) = 8; decide)⟩
 rw [if_neg c3] at he ⊢
 by_cases c5 : k = 5
 ·
  rw [if_pos c5] at he ⊢
  exact ⟨PS.take _ _ (fun _ => leaf_p7 ere t.d t.g) (Trip.nds0 _ _ _ _ _), fun _ => c5, fun e => absurd e (by show ¬(7 : Int) = 8; decide)⟩
 rw [if_neg c5] at he ⊢
 by_cases c6 : k = 6
 ·
  rw [if_pos c6] at he ⊢
  exact ⟨PS.take _ _ (fun _ => leaf_p8 ere t.d t.g) (Trip.nds0 _ _ _ _ _), fun e => absurd e (by show ¬(8 : Int) = 7; decide), fun _ => ⟨c6, rfl⟩⟩
 rw [if_neg c6] at he ⊢
 by_cases c14 : k = 14
 ·
  rw [if_pos c14] at he ⊢
  unfold pBack at he ⊢
  by_cases hx : b < 49 ∨ t.g + 48 < b
  ·
   rw [if_pos hx] at he; exact absurd he (by show ¬(1 : Nat) = 0; decide)
  rw [if_neg hx]
  refine ⟨PS.take _ _ (fun hg => ?_) (Trip.nds0 _ _ _ _ _), fun e => absurd e (by show ¬(6 : Int) = 7; decide), fun e => absurd e (by show ¬(6 : Int) = 8; decide)⟩
  have hg' := Trip.back_good ere (b - 48) t.d t.g hg (by omega) (by omega)
  rw [show (((b - 48 : Nat)) : Int) = (b : Int) - 48 by omega] at hg'
  exact ⟨hg'.k2, hg'.k3, hg'.ok, fun b e _ _ n hn => hg'.chk b e n hn⟩
 rw [if_neg c14] at he ⊢
 by_cases c4 : k = 4
 ·
  rw [if_pos c4] at he ⊢
  unfold pBracket at he ⊢
  split at he
  ·
   exact absurd he (by show ¬(1 : Nat) = 0; decide)
  ·
   rename_i p j hj
   dsimp only at he ⊢
   generalize (if bTurn s t.i then notB p else p) = q at he ⊢
   by_cases hq : cnt q 256 = 0
   ·
    rw [if_pos hq] at he; exact absurd he (by show ¬(1 : Nat) = 0; decide)
   ·
    rw [if_neg hq]
    refine ⟨⟨by show t.n ≤ t.n + 1; omega, Nat.le_refl _, rfl, fun _ hg => ⟨set_p ere q t.d t.g (by omega) hg, ?_⟩⟩, fun e => absurd e (by show ¬(1 : Int) = 7; decide), fun e => absurd e (by show ¬(1 : Int) = 8; decide)⟩
    show t.n + 1 = t.n + nds (rset q)
    unfold rset
    rw [Trip.nds0]
 rw [if_neg c4] at he ⊢
 by_cases c7 : k = 7
 ·
  rw [if_pos c7] at he ⊢
  have hsz := h2 (by omega) (by omega)
  unfold pGroup at he ⊢
  by_cases hd : t.d = 6
  ·
   rw [if_pos hd] at he; exact absurd he (by show ¬(2 : Nat) = 0; decide)
  rw [if_neg hd] at he ⊢
  dsimp only at he ⊢
  have hi : Inv s ⟨t.i + sz, t.n, t.g + 1, t.d + 1⟩ := ⟨h1, by show t.n ≤ 3 * (t.i + sz) + 1; omega, by show t.g + 1 ≤ t.i + sz; omega⟩
  have hs := hc.all _ hi
  obtain ⟨o, hoo⟩ : ∃ o, c ⟨t.i + sz, t.n, t.g + 1, t.d + 1⟩ = o := ⟨_, rfl⟩
  rw [hoo] at hs he ⊢
  by_cases hoe : o.e ≠ 0
  ·
   rw [if_pos hoe] at he; exact absurd he hoe
  rw [if_neg hoe] at he ⊢
  have hs := hs (by omega)
  by_cases h8 : (sgn s ere o.st.i).1 ≠ 8
  ·
   rw [if_pos h8] at he; exact absurd he (by show ¬(1 : Nat) = 0; decide)
  rw [if_neg h8] at he ⊢
  have hsn := hs.n
  have hsg := hs.g
  have hsd := hs.d
  simp only at hsn hsg hsd
  refine ⟨⟨by show t.n ≤ o.st.n + 1; omega, by show t.g ≤ o.st.g; omega, by show o.st.d - 1 = t.d; omega, fun hN hG => ?_⟩, fun e => absurd e (by show ¬(5 : Int) = 7; decide), fun e => absurd e (by show ¬(5 : Int) = 8; decide)⟩
  have hN' : o.st.n + 1 ≤ 40 := hN
  have hG' : o.st.g ≤ 3 := hG
  obtain ⟨i1, i2, i3⟩ := hs.ok (by omega) hG'
  refine ⟨grp_p ere o.r t.d t.g o.st.g hd (by omega) i1 i3, ?_⟩
  show o.st.n + 1 = t.n + nds (.mk 5 0 0 ((t.g + 1 : Nat) : Int) W4.z [o.r])
  rw [Trip.nds1]
  simp only at i2
  omega
 rw [if_neg c7] at he
 exact absurd he (by show ¬(1 : Nat) = 0; decide)
theorem PS.rep {ere : Bool} {t t1 t2 : St} {r : Rx} {lo hi : Int} (h : PS ere t ⟨r, 0, t1⟩) (hk : mayRep r.k = true) (ht : timesFit lo hi = true) (hn : t2.n = t1.n + 1) (hg : t2.g = t1.g) (hd : t2.d = t1.d) : PS ere t ⟨rrep lo hi r, 0, t2⟩ := by
 have h1 : t.n ≤ t1.n := h.n
 have h2 : t.g ≤ t1.g := h.g
 have h3 : t1.d = t.d := h.d
 refine ⟨by show t.n ≤ t2.n; omega, by show t.g ≤ t2.g; omega, by show t2.d = t.d; omega, fun hN hG => ?_⟩
 have hN' : t2.n ≤ 40 := hN
 have hG' : t2.g ≤ 3 := hG
 obtain ⟨i1, i2⟩ := h.ok (by show t1.n ≤ 40; omega) (by show t1.g ≤ 3; omega)
 have i1 : CkP ere t.d r t.g t1.g := i1
 have i2 : t1.n = t.n + nds r := i2
 show CkP ere t.d (rrep lo hi r) t.g t2.g ∧ t2.n = t.n + nds (rrep lo hi r)
 rw [hg]
 refine ⟨rep_p ere r lo hi t.d t.g t1.g i1 hk ht, ?_⟩
 unfold rrep
 rw [Trip.nds1]
 omega
theorem pInt_fit {s : ByteArray} {ere : Bool} {i z : Nat} {a b : Int} {j : Nat} (he : pInt s ere i z = (some (a, b), j)) : timesFit a b = true := by
 unfold pInt at he
 dsimp only at he
 split at he
 ·
  split at he
  ·
   split at he
   ·
    rename_i ht
    injection he with hx _
    injection hx with hx
    injection hx with h1 h2
    rw [← h1, ← h2]
    exact ht
   ·
    injection he with hx _; cases hx
  ·
   injection he with hx _; cases hx
 ·
  injection he with hx _; cases hx
theorem pRep_s {s : ByteArray} {ere : Bool} {r : Rx} {t t1 : St} (h : PS ere t ⟨r, 0, t1⟩) (hk : mayRep r.k = true) (he : (pRep s ere r t1).e = 0) : PS ere t (pRep s ere r t1) ∧ (pRep s ere r t1).r.k ≠ 7 ∧ (pRep s ere r t1).r.k ≠ 8 := by
 have n7 : r.k ≠ 7 := by intro e; rw [e] at hk; exact absurd hk (by decide)
 have n8 : r.k ≠ 8 := by intro e; rw [e] at hk; exact absurd hk (by decide)
 unfold pRep at he ⊢
 dsimp only at he ⊢
 by_cases c1 : (sgn s ere t1.i).1 = 10
 ·
  rw [if_pos c1]
  exact ⟨h.rep hk (by decide) rfl rfl rfl, by show (4 : Int) ≠ 7; decide, by show (4 : Int) ≠ 8; decide⟩
 rw [if_neg c1] at he ⊢
 by_cases c2 : (sgn s ere t1.i).1 = 11
 ·
  rw [if_pos c2]
  exact ⟨h.rep hk (by decide) rfl rfl rfl, by show (4 : Int) ≠ 7; decide, by show (4 : Int) ≠ 8; decide⟩
 rw [if_neg c2] at he ⊢
 by_cases c3 : (sgn s ere t1.i).1 = 12
 ·
  rw [if_pos c3]
  exact ⟨h.rep hk (by decide) rfl rfl rfl, by show (4 : Int) ≠ 7; decide, by show (4 : Int) ≠ 8; decide⟩
 rw [if_neg c3] at he ⊢
 by_cases c4 : (sgn s ere t1.i).1 = 13
 ·
  rw [if_pos c4] at he ⊢
  split at he
  ·
   exact absurd he (by show ¬(1 : Nat) = 0; decide)
  ·
   rename_i a b j hj
   exact ⟨h.rep hk (pInt_fit hj) rfl rfl rfl, by show (4 : Int) ≠ 7; decide, by show (4 : Int) ≠ 8; decide⟩
 rw [if_neg c4]
 exact ⟨h, n7, n8⟩

/-- A part, and where an anchor may stand. -/
structure Part (s : ByteArray) (ere : Bool) (began : Nat) (t : St) (o : Out) : Prop where
 ps : PS ere t o
 k7 : ere = false → o.r.k = 7 → t.i = began
 k8 : ere = false → o.r.k = 8 → ends (sgn s ere o.st.i).1 = true
theorem sgnIn_b (s : ByteArray) (ere : Bool) (began i : Nat) : (sgnIn s ere began i).2.1 < 256 := by
 have := sgn_b s ere i
 unfold sgnIn
 dsimp only
 split
 ·
  exact this
 ·
  split <;> exact this
theorem pPart_s {c : St → Out} {s : ByteArray} {ere : Bool} {began : Nat} {t : St} (hc : CS c s ere) (h : Inv s t) (he : (pPart c s ere began t).e = 0) : Part s ere began t (pPart c s ere began t) := by
 have hz := sgnIn_sz s ere began t.i h.i
 have key : (pOne c s ere (sgnIn s ere began t.i).1 (sgnIn s ere began t.i).2.1 (sgnIn s ere began t.i).2.2 t).e = 0 → One ere (sgnIn s ere began t.i).1 (sgnIn s ere began t.i).2.2 t (pOne c s ere (sgnIn s ere began t.i).1 (sgnIn s ere began t.i).2.1 (sgnIn s ere began t.i).2.2 t) := pOne_s hc h (sgnIn_b s ere began t.i) hz.1 hz.2.2
 unfold pPart at he ⊢
 dsimp only at he ⊢
 obtain ⟨o, ho⟩ : ∃ o, pOne c s ere (sgnIn s ere began t.i).1 (sgnIn s ere began t.i).2.1 (sgnIn s ere began t.i).2.2 t = o := ⟨_, rfl⟩
 rw [ho] at key he ⊢
 by_cases hm : o.e ≠ 0 ∨ mayRep o.r.k = false
 ·
  rw [if_pos hm] at he ⊢
  have k := key he
  refine ⟨k.ps, fun hE h7 => ?_, fun hE h8 => ?_⟩
  ·
   have h5 := k.k7 h7
   subst hE
   unfold sgnIn at h5
   dsimp only at h5
   rw [if_neg (by decide)] at h5
   split at h5
   ·
    exact absurd h5 (by show ¬(2 : Nat) = 5; decide)
   ·
    rename_i hp
    rw [h5] at hp
    unfold plainIn at hp
    rw [if_neg (by decide), if_pos rfl] at hp
    simpa using hp
  ·
   obtain ⟨h6, hi⟩ := k.k8 h8
   subst hE
   rw [hi]
   unfold sgnIn at h6 ⊢
   dsimp only at h6 ⊢
   rw [if_neg (by decide)] at h6 ⊢
   split at h6
   ·
    exact absurd h6 (by show ¬(2 : Nat) = 6; decide)
   ·
    rename_i hp
    rw [if_neg hp]
    rw [h6] at hp
    unfold plainIn at hp
    rw [if_neg (by decide), if_neg (by decide), if_pos rfl] at hp
    dsimp only at hp
    rw [sgn_six s t.i h6]
    unfold ends
    by_cases e1 : (sgn s false (t.i + 1)).1 = 1
    ·
     rw [e1]; rfl
    ·
     by_cases e8 : (sgn s false (t.i + 1)).1 = 8
     ·
      rw [e8]; rfl
     ·
      exfalso; apply hp; simp [e1, e8]
 ·
  rw [if_neg hm] at he ⊢
  have he0 : o.e = 0 := by
   rcases Nat.eq_zero_or_pos o.e with h | h
   ·
    exact h
   ·
    exact absurd (Or.inl (by omega)) hm
  have hmr : mayRep o.r.k = true := by
   cases hk : mayRep o.r.k with
   | true => rfl
   | false => exact absurd (Or.inr hk) hm
  have k := (key he0).ps
  have k' : PS ere t ⟨o.r, 0, o.st⟩ := ⟨k.n, k.g, k.d, k.ok⟩
  obtain ⟨a1, a2, a3⟩ := pRep_s (s := s) k' hmr he
  exact ⟨a1, fun _ e => absurd e a2, fun _ e => absurd e a3⟩

/-- Parts in a row. -/
inductive LS (ere : Bool) (d : Nat) : List Rx → Nat → Nat → Prop
 | nil (g : Nat) : LS ere d [] g g
 | cons {T : Rx} {ks : List Rx} {g g1 g' : Nat} (h : CkP ere d T g g1) (r : LS ere d ks g1 g') : LS ere d (T :: ks) g g'
theorem LS.snoc {ere : Bool} {d : Nat} {ks : List Rx} {g g1 : Nat} (h : LS ere d ks g g1) : ∀ {T : Rx} {g' : Nat}, CkP ere d T g1 g' → LS ere d (ks ++ [T]) g g' := by
 induction h with
 | nil g => intro T g' hT; exact .cons hT (.nil _)
 | cons h r ih => intro T g' hT; exact .cons h (ih hT)
theorem LS.ok {ere : Bool} {d : Nat} {ks : List Rx} {g g' : Nat} (h : LS ere d ks g g') : ∀ r ∈ ks, RxOk r := by
 induction h with
 | nil g => intro r hr; cases hr
 | cons h r ih =>
  intro x hx
  rcases List.mem_cons.1 hx with rfl | hx
  ·
   exact h.ok
  ·
   exact ih x hx
theorem LS.cat {ere : Bool} {d : Nat} {ks : List Rx} {g g' : Nat} (h : LS ere d ks g g') : ∀ (first : Bool) (n : Nat), (ere = false → first = false → ∀ r ∈ ks, r.k ≠ 7) → (ere = false → ∀ r ∈ ks.tail, r.k ≠ 7) → (ere = false → ∀ r ∈ ks.dropLast, r.k ≠ 8) → n + ndss ks ≤ 40 → chkCat ere ks first ⟨n, g, d⟩ = some ⟨n + ndss ks, g', d⟩ := by
 induction h with
 | nil g => intro first n _ _ _ _; rw [chkCat]; simp [ndss]
 | cons h r ih =>
  rename_i T ks g g1 g'
  intro first n h7 h7' h8 hn
  rw [ndss] at hn ⊢
  rw [chkCat, if_neg (by rintro (h' | h'); exact h.k2 h'; exact h.k3 h'), h.chk first ks.isEmpty ?_ ?_ n (by omega)]
  ·
   show chkCat ere ks false ⟨n + nds T, g1, d⟩ = _
   rw [ih false (n + nds T) (fun hE _ => h7' hE) (fun hE r hr => h7' hE r (List.mem_of_mem_tail hr)) ?_ (by omega), Nat.add_assoc]
   intro hE r hr
   refine h8 hE r ?_
   cases ks with
   | nil => cases hr
   | cons a l => exact List.mem_cons_of_mem _ hr
  ·
   intro hE hk
   cases first with
   | true => rfl
   | false => exact absurd hk (h7 hE rfl T List.mem_cons_self)
  ·
   intro hE hk
   cases ks with
   | nil => rfl
   | cons a l => exact absurd hk (h8 hE T List.mem_cons_self)

/-- What a row leaves. -/
structure RS (ere : Bool) (t : St) (o : Out) : Prop where
 n : t.n ≤ o.st.n
 g : t.g ≤ o.st.g
 d : o.st.d = t.d
 ok : o.st.n ≤ 40 → o.st.g ≤ 3 → RxOk o.r ∧ o.st.n = t.n + nds o.r ∧ o.r.k ≠ 3 ∧ ∀ b e, (ere = false → b = true ∧ e = true) → ∀ n, n + nds o.r ≤ 40 → chk ere o.r b e ⟨n, t.g, t.d⟩ = some ⟨n + nds o.r, o.st.g, t.d⟩
/-- How far a row is. -/
structure RI (s : ByteArray) (ere : Bool) (t0 : St) (ks : List Rx) (t : St) : Prop where
 inv : Inv s t
 n : t0.n ≤ t.n
 g : t0.g ≤ t.g
 d : t.d = t0.d
 i : ks ≠ [] → t0.i < t.i
 i0 : t0.i ≤ t.i
 ok : t.n ≤ 40 → t.g ≤ 3 → LS ere t0.d ks t0.g t.g ∧ t.n = t0.n + ndss ks ∧ (ere = false → ∀ r ∈ ks.tail, r.k ≠ 7) ∧ (ere = false → (∀ r ∈ ks, r.k ≠ 8) ∨ (ends (sgn s ere t.i).1 = true ∧ ∀ r ∈ ks.dropLast, r.k ≠ 8))
theorem row_out {s : ByteArray} {ere : Bool} {t0 t : St} {ks : List Rx} (h : RI s ere t0 ks t) : RS ere t0 (rowOut ks t) := by
 have h1 := h.n
 have h2 := h.g
 have h3 := h.d
 have big : (∀ r, ks ≠ [r]) → RS ere t0 ⟨.mk 2 0 0 0 W4.z ks, 0, ⟨t.i, t.n + 1, t.g, t.d⟩⟩ := fun hne => by
  refine ⟨by show t0.n ≤ t.n + 1; omega, h2, h3, fun hN hG => ?_⟩
  have hN' : t.n + 1 ≤ 40 := hN
  obtain ⟨i1, i2, i3, i4⟩ := h.ok (by omega) hG
  have z : nds (.mk 2 0 0 0 W4.z ks) = 1 + ndss ks := by rw [nds]
  have hl := Trip.len_ndss ks
  refine ⟨?_, by show t.n + 1 = t0.n + nds (.mk 2 0 0 0 W4.z ks); rw [z]; omega, by show (2 : Int) ≠ 3; decide, fun b e _ n hn => ?_⟩
  ·
   show RxOk (.mk 2 0 0 0 W4.z ks)
   unfold RxOk
   exact ⟨by omega, Trip.z_lt, i1.ok⟩
  ·
   show chk ere (.mk 2 0 0 0 W4.z ks) b e ⟨n, t0.g, t0.d⟩ = some ⟨n + nds (.mk 2 0 0 0 W4.z ks), t.g, t0.d⟩
   have hn' : n + nds (.mk 2 0 0 0 W4.z ks) ≤ 40 := hn
   rw [z] at hn' ⊢
   rw [Go.Proofs.YtikmgckefbjbkaaGreatDoor.chk]
   have hL : leanB (.mk 2 0 0 0 W4.z ks) = true := by
    unfold leanB kidsFit
    simp
    intro hl1
    match ks, hl1 with
    | [r], _ => exact hne r rfl
   rw [if_neg (by rw [hL]; simp; omega), if_neg (by decide), if_pos rfl]
   rw [i1.cat true (n + 1) (fun _ hf => by cases hf) i3 (fun hE => ?_) (by omega), show n + 1 + ndss ks = n + (1 + ndss ks) by omega]
   rcases i4 hE with a | a
   ·
    exact fun r hr => a r (List.dropLast_subset _ hr)
   ·
    exact a.2
 match ks, h, big with
 | [], h, big => exact big (fun r e => by cases e)
 | [r], h, _ =>
  show RS ere t0 ⟨r, 0, t⟩
  refine ⟨h1, h2, h3, fun hN hG => ?_⟩
  obtain ⟨i1, i2, i3, i4⟩ := h.ok hN hG
  have hz : ndss [r] = nds r := by simp [ndss]
  cases i1 with
  | cons hp hr =>
   cases hr
   refine ⟨hp.ok, by show t.n = t0.n + nds r; omega, hp.k3, fun b e hbe n hn => hp.chk b e (fun hE _ => (hbe hE).1) (fun hE _ => (hbe hE).2) n hn⟩
 | a :: b :: l, h, big => exact big (fun r e => by cases e)
theorem rowL_s {c : St → Out} {s : ByteArray} {ere : Bool} (hc : CS c s ere) (hcg : CGood c s) (t0 : St) : ∀ f ks t, RI s ere t0 ks t → (pRowL c s ere t0.i f ks t).e = 0 → RS ere t0 (pRowL c s ere t0.i f ks t)
 | 0, _, _, _, he => absurd he (by show ¬(1 : Nat) = 0; decide)
 | f + 1, ks, t, h, he => by
  unfold pRowL at he ⊢
  by_cases hE : ends (sgn s ere t.i).1 = true
  ·
   rw [if_pos hE]
   exact row_out h
  rw [if_neg hE] at he ⊢
  dsimp only at he ⊢
  have hp := fun x => pPart_s (began := t0.i) hc h.inv x
  have hg := pPart_good (ere := ere) (began := t0.i) hcg h.inv
  obtain ⟨o, ho⟩ : ∃ o, pPart c s ere t0.i t = o := ⟨_, rfl⟩
  rw [ho] at hp hg he ⊢
  by_cases hoe : o.e ≠ 0
  ·
   rw [if_pos hoe] at he; exact absurd he hoe
  rw [if_neg hoe] at he ⊢
  have hp := hp (by omega)
  obtain ⟨g1, g2, g3⟩ := hg.ok (by omega)
  have p1 := hp.ps.n
  have p2 := hp.ps.g
  have p3 := hp.ps.d
  have q1 := h.n
  have q2 := h.g
  have q3 := h.d
  have q4 := h.i0
  refine rowL_s hc hcg t0 f _ _ ⟨g2, by omega, by omega, by omega, fun _ => by omega, by omega, fun hN hG => ?_⟩ he
  obtain ⟨i1, i2, i3, i4⟩ := h.ok (by omega) (by omega)
  obtain ⟨j1, j2⟩ := hp.ps.ok hN hG
  have hk : keepL o.st.n ks o.r = ks ++ [o.r] := by unfold keepL; rw [if_neg (by omega)]
  rw [hk]
  rw [q3] at j1
  refine ⟨i1.snoc j1, by rw [ndss_app]; simp [ndss]; omega, fun hF r hr => ?_, fun hF => ?_⟩
  ·
   match ks, h, i3, hr with
   | [], h, i3, hr => cases hr
   | a :: l, h, i3, hr =>
    have hr' : r ∈ l ++ [o.r] := hr
    rcases List.mem_append.1 hr' with hx | hx
    ·
     exact i3 hF r hx
    ·
     obtain rfl : r = o.r := by simpa using hx
     intro h7
     have := hp.k7 hF h7
     have := h.i (by simp)
     omega
  ·
   have all8 : ∀ r ∈ ks, r.k ≠ 8 := by
    rcases i4 hF with a | a
    ·
     exact a
    ·
     exact absurd a.1 hE
   by_cases h8 : o.r.k = 8
   ·
    right
    rw [List.dropLast_concat]
    exact ⟨hp.k8 hF h8, all8⟩
   ·
    left
    intro r hr
    rcases List.mem_append.1 hr with hx | hx
    ·
     exact all8 r hx
    ·
     obtain rfl : r = o.r := by simpa using hx
     exact h8
theorem row_s {c : St → Out} {s : ByteArray} {ere : Bool} (hc : CS c s ere) (hcg : CGood c s) (t : St) (h : Inv s t) (he : (pRow c s ere t).e = 0) : RS ere t (pRow c s ere t) :=
 rowL_s hc hcg t _ _ _ ⟨h, Nat.le_refl _, Nat.le_refl _, rfl, fun h => absurd rfl h, Nat.le_refl _, fun _ _ => ⟨.nil _, by simp [ndss], fun _ r hr => (by cases hr), fun _ => Or.inl (fun r hr => by cases hr)⟩⟩ he

/-- Rows of a choice. -/
inductive LA (d : Nat) : List Rx → Nat → Nat → Prop
 | nil (g : Nat) : LA d [] g g
 | cons {T : Rx} {ks : List Rx} {g g1 g' : Nat} (k3 : T.k ≠ 3) (ok : RxOk T) (h : ∀ n, n + nds T ≤ 40 → chk true T false false ⟨n, g, d⟩ = some ⟨n + nds T, g1, d⟩) (r : LA d ks g1 g') : LA d (T :: ks) g g'
theorem LA.snoc {d : Nat} {ks : List Rx} {g g1 : Nat} (h : LA d ks g g1) : ∀ {T : Rx} {g' : Nat}, T.k ≠ 3 → RxOk T → (∀ n, n + nds T ≤ 40 → chk true T false false ⟨n, g1, d⟩ = some ⟨n + nds T, g', d⟩) → LA d (ks ++ [T]) g g' := by
 induction h with
 | nil g => intro T g' h1 h2 h3; exact .cons h1 h2 h3 (.nil _)
 | cons k3 ok h r ih => intro T g' h1 h2 h3; exact .cons k3 ok h (ih h1 h2 h3)
theorem LA.ok {d : Nat} {ks : List Rx} {g g' : Nat} (h : LA d ks g g') : ∀ r ∈ ks, RxOk r := by
 induction h with
 | nil g => intro r hr; cases hr
 | cons k3 ok h r ih =>
  intro x hx
  rcases List.mem_cons.1 hx with rfl | hx
  ·
   exact ok
  ·
   exact ih x hx
theorem LA.alt {d : Nat} {ks : List Rx} {g g' : Nat} (h : LA d ks g g') : ∀ n, n + ndss ks ≤ 40 → chkAlt true ks ⟨n, g, d⟩ = some ⟨n + ndss ks, g', d⟩ := by
 induction h with
 | nil g => intro n _; rw [chkAlt]; simp [ndss]
 | cons k3 ok h r ih =>
  rename_i T ks g g1 g'
  intro n hn
  rw [ndss] at hn ⊢
  rw [chkAlt, if_neg k3, h n (by omega)]
  show chkAlt true ks ⟨n + nds T, g1, d⟩ = _
  rw [ih (n + nds T) (by omega), Nat.add_assoc]
structure CI (s : ByteArray) (t0 : St) (ks : List Rx) (t : St) : Prop where
 i : t.i ≤ s.size
 ni : t.n ≤ 3 * t.i + 2
 gi : t.g ≤ t.i
 n : t0.n ≤ t.n
 g : t0.g ≤ t.g
 d : t.d = t0.d
 l : t.n ≤ 40 → 2 ≤ ks.length ∨ (1 ≤ ks.length ∧ (sgn s true t.i).1 = 9)
 ok : t.n ≤ 40 → t.g ≤ 3 → LA t0.d ks t0.g t.g ∧ t.n = t0.n + ndss ks
theorem chL_s {c : St → Out} {s : ByteArray} (hc : CS c s true) (hcg : CGood c s) (t0 : St) : ∀ f ks t, CI s t0 ks t → (pChL c s true f ks t).e = 0 → CR true t0 (pChL c s true f ks t)
 | 0, _, _, _, he => absurd he (by show ¬(1 : Nat) = 0; decide)
 | f + 1, ks, t, h, he => by
  have h1 := h.n
  have h2 := h.g
  have h3 := h.d
  have h4 := h.i
  have h5 := h.ni
  have h6 := h.gi
  unfold pChL at he ⊢
  by_cases h9 : (sgn s true t.i).1 = 9
  ·
   rw [if_pos h9] at he ⊢
   dsimp only at he ⊢
   have hz := (sgn_sz s true t.i h4)
   have hlt : t.i < s.size := by have := hz.2.2 (by omega) (by omega); omega
   have hi : Inv s ⟨t.i + 1, t.n, t.g, t.d⟩ := ⟨hlt, by show t.n ≤ 3 * (t.i + 1) + 1; omega, by show t.g ≤ t.i + 1; omega⟩
   have hr := fun x => row_s hc hcg _ hi x
   have hg := pRow_good (ere := true) hcg hi
   obtain ⟨o, ho⟩ : ∃ o, pRow c s true ⟨t.i + 1, t.n, t.g, t.d⟩ = o := ⟨_, rfl⟩
   rw [ho] at hr hg he ⊢
   by_cases hoe : o.e ≠ 0
   ·
    rw [if_pos hoe] at he; exact absurd he hoe
   rw [if_neg hoe] at he ⊢
   have hr := hr (by omega)
   obtain ⟨g1, g2, g3, g4⟩ := hg.ok (by omega)
   have r1 : t.n ≤ o.st.n := hr.n
   have r2 : t.g ≤ o.st.g := hr.g
   have r3 : o.st.d = t.d := hr.d
   refine chL_s hc hcg t0 f _ _ ⟨hg.le, g2, g3, by omega, by omega, by omega, fun hN => ?_, fun hN hG => ?_⟩ he
   ·
    left
    have : keepL o.st.n ks o.r = ks ++ [o.r] := by unfold keepL; rw [if_neg (by omega)]
    rw [this]
    rcases h.l (by omega) with a | a
    ·
     simp; omega
    ·
     simp; omega
   ·
    have hk : keepL o.st.n ks o.r = ks ++ [o.r] := by unfold keepL; rw [if_neg (by omega)]
    rw [hk]
    obtain ⟨i1, i2⟩ := h.ok (by omega) (by omega)
    obtain ⟨j1, j2, j3, j4⟩ := hr.ok hN hG
    have j2 : o.st.n = t.n + nds o.r := j2
    have j4 := j4 false false (fun e => by cases e)
    refine ⟨i1.snoc j3 j1 (fun n hn => ?_), by rw [ndss_app]; simp [ndss]; omega⟩
    have := j4 n hn
    rw [show t0.d = t.d by omega]
    exact this
  ·
   rw [if_neg h9] at he ⊢
   refine ⟨by show t0.n ≤ t.n + 1; omega, h2, h3, fun hN hG => ?_⟩
   have hN' : t.n + 1 ≤ 40 := hN
   obtain ⟨i1, i2⟩ := h.ok (by omega) hG
   have hl := Trip.len_ndss ks
   have hlen : 2 ≤ ks.length := by
    rcases h.l (by omega) with a | a
    ·
     exact a
    ·
     exact absurd a.2 h9
   have z : nds (.mk 3 0 0 0 W4.z ks) = 1 + ndss ks := by rw [nds]
   refine ⟨?_, by show t.n + 1 = t0.n + nds (.mk 3 0 0 0 W4.z ks); rw [z]; omega, fun n hn => ?_⟩
   ·
    show RxOk (.mk 3 0 0 0 W4.z ks)
    unfold RxOk
    exact ⟨by omega, Trip.z_lt, i1.ok⟩
   ·
    show chk true (.mk 3 0 0 0 W4.z ks) true true ⟨n, t0.g, t0.d⟩ = some ⟨n + nds (.mk 3 0 0 0 W4.z ks), t.g, t0.d⟩
    have hn' : n + nds (.mk 3 0 0 0 W4.z ks) ≤ 40 := hn
    rw [z] at hn' ⊢
    rw [Go.Proofs.YtikmgckefbjbkaaGreatDoor.chk]
    have hL : leanB (.mk 3 0 0 0 W4.z ks) = true := by
     unfold leanB kidsFit
     simp
     omega
    rw [if_neg (by rw [hL]; simp; omega), if_neg (by decide), if_neg (by decide), if_pos rfl, if_pos rfl, i1.alt (n + 1) (by omega), show n + 1 + ndss ks = n + (1 + ndss ks) by omega]
theorem RS.cr {ere : Bool} {t : St} {o : Out} (h : RS ere t o) : CR ere t o := ⟨h.n, h.g, h.d, fun hN hG => by
 obtain ⟨i1, i2, _, i4⟩ := h.ok hN hG
 exact ⟨i1, i2, i4 true true (fun _ => ⟨rfl, rfl⟩)⟩⟩
theorem ch1_s {c : St → Out} {s : ByteArray} {ere : Bool} (hc : CS c s ere) (hcg : CGood c s) (t : St) (h : Inv s t) (he : (pCh1 c s ere t).e = 0) : CR ere t (pCh1 c s ere t) := by
 have hr := fun x => row_s hc hcg _ h x
 have hg := pRow_good (ere := ere) hcg h
 unfold pCh1 at he ⊢
 dsimp only at he ⊢
 obtain ⟨o, ho⟩ : ∃ o, pRow c s ere t = o := ⟨_, rfl⟩
 rw [ho] at hr hg he ⊢
 by_cases hm : o.e ≠ 0 ∨ (sgn s ere o.st.i).1 ≠ 9
 ·
  rw [if_pos hm] at he ⊢
  exact (hr he).cr
 rw [if_neg hm] at he ⊢
 have h9 : (sgn s ere o.st.i).1 = 9 := by
  rcases Nat.decEq (sgn s ere o.st.i).1 9 with h | h
  ·
   exact absurd (Or.inr h) hm
  ·
   exact h
 have h0 : o.e = 0 := by
  rcases Nat.decEq o.e 0 with h | h
  ·
   exact absurd (Or.inl h) hm
  ·
   exact h
 obtain rfl := sgn_nine s ere o.st.i h9
 have hr := hr h0
 obtain ⟨g1, g2, g3, g4⟩ := hg.ok h0
 refine chL_s hc hcg t _ _ _ ⟨hg.le, g2, g3, hr.n, hr.g, hr.d, fun _ => Or.inr ⟨by simp, h9⟩, fun hN hG => ?_⟩ he
 obtain ⟨j1, j2, j3, j4⟩ := hr.ok hN hG
 exact ⟨.cons j3 j1 (j4 false false (fun e => by cases e)) (.nil _), by simp [ndss]; omega⟩
theorem ch_s (s : ByteArray) (ere : Bool) : ∀ D, CS (pCh s ere D) s ere
 | 0 => ⟨fun _ _ he => absurd he (by show ¬(1 : Nat) = 0; decide)⟩
 | D + 1 => ⟨fun t h he => ch1_s (ch_s s ere D) (pCh_good s ere D) t h he⟩

/-- A choice's errors are known ones. -/
def E12 (e : Nat) : Prop := e = 0 ∨ e = 1 ∨ e = 2
structure CE (c : St → Out) : Prop where
 all : ∀ t, E12 (c t).e
theorem one_e {c : St → Out} (hc : CE c) (s : ByteArray) (ere : Bool) (k b sz : Nat) (t : St) : E12 (pOne c s ere k b sz t).e := by
 unfold pOne
 split
 ·
  exact Or.inl rfl
 split
 ·
  exact Or.inl rfl
 split
 ·
  exact Or.inl rfl
 split
 ·
  exact Or.inl rfl
 split
 ·
  unfold pBack; split
  ·
   exact Or.inr (Or.inl rfl)
  ·
   exact Or.inl rfl
 split
 ·
  unfold pBracket; split
  ·
   exact Or.inr (Or.inl rfl)
  ·
   dsimp only; generalize (if bTurn s t.i then _ else _) = q; split
   ·
    exact Or.inr (Or.inl rfl)
   ·
    exact Or.inl rfl
 split
 ·
  unfold pGroup; split
  ·
   exact Or.inr (Or.inr rfl)
  ·
   dsimp only
   have := hc.all ⟨t.i + sz, t.n, t.g + 1, t.d + 1⟩
   generalize c ⟨t.i + sz, t.n, t.g + 1, t.d + 1⟩ = o at this ⊢
   split
   ·
    exact this
   ·
    split
    ·
     exact Or.inr (Or.inl rfl)
    ·
     exact Or.inl rfl
 ·
  exact Or.inr (Or.inl rfl)
theorem rep_e (s : ByteArray) (ere : Bool) (r : Rx) (t : St) : E12 (pRep s ere r t).e := by
 unfold pRep
 dsimp only
 split
 ·
  exact Or.inl rfl
 split
 ·
  exact Or.inl rfl
 split
 ·
  exact Or.inl rfl
 split
 ·
  split
  ·
   exact Or.inr (Or.inl rfl)
  ·
   exact Or.inl rfl
 ·
  exact Or.inl rfl
theorem part_e {c : St → Out} (hc : CE c) (s : ByteArray) (ere : Bool) (began : Nat) (t : St) : E12 (pPart c s ere began t).e := by
 unfold pPart
 dsimp only
 split
 ·
  exact one_e hc _ _ _ _ _ _
 ·
  exact rep_e _ _ _ _
theorem rowL_e {c : St → Out} (hc : CE c) (s : ByteArray) (ere : Bool) (began : Nat) : ∀ f ks t, E12 (pRowL c s ere began f ks t).e
 | 0, _, _ => Or.inr (Or.inl rfl)
 | f + 1, ks, t => by
  unfold pRowL
  split
  ·
   unfold rowOut; split <;> exact Or.inl rfl
  ·
   dsimp only
   have := part_e hc s ere began t
   generalize pPart c s ere began t = o at this ⊢
   split
   ·
    exact this
   ·
    exact rowL_e hc s ere began f _ _
theorem chL_e {c : St → Out} (hc : CE c) (s : ByteArray) (ere : Bool) : ∀ f ks t, E12 (pChL c s ere f ks t).e
 | 0, _, _ => Or.inr (Or.inl rfl)
 | f + 1, ks, t => by
  unfold pChL
  split
  ·
   dsimp only
   have : E12 (pRow c s ere ⟨t.i + 1, t.n, t.g, t.d⟩).e := rowL_e hc s ere _ _ _ _
   generalize pRow c s ere ⟨t.i + 1, t.n, t.g, t.d⟩ = o at this ⊢
   split
   ·
    exact this
   ·
    exact chL_e hc s ere f _ _
  ·
   exact Or.inl rfl
theorem ch_e (s : ByteArray) (ere : Bool) : ∀ D, CE (pCh s ere D)
 | 0 => ⟨fun _ => Or.inr (Or.inl rfl)⟩
 | D + 1 => ⟨fun t => by
  unfold pCh pCh1
  dsimp only
  have : E12 (pRow (pCh s ere D) s ere t).e := rowL_e (ch_e s ere D) s ere _ _ _ _
  split
  ·
   exact this
  ·
   exact chL_e (ch_e s ere D) s ere _ _ _⟩

/-- What is read is right, and is what the reader says; what is refused is told, within the text. -/
theorem parse_sound (s : ByteArray) (ere : Bool) : ((pParse s ere).2.2 = 0 → (pParse s ere).2.1 = 0 ∧ right ere (pParse s ere).1 = true ∧ RxOk (pParse s ere).1) ∧
  ((pParse s ere).2.2 ≠ 0 → ((pParse s ere).2.2 = 1 ∨ (pParse s ere).2.2 = 2 ∨ (pParse s ere).2.2 = 4) ∧ (pParse s ere).2.1 ≤ s.size ∧ (pParse s ere).1 = rx0) := by
 have hi : Inv s ⟨0, 0, 0, 0⟩ := ⟨Nat.zero_le _, Nat.zero_le _, Nat.zero_le _⟩
 have hs := (ch_s s ere 7).all _ hi
 have hg := (pCh_good s ere 7).all _ hi
 have he := (ch_e s ere 7).all ⟨0, 0, 0, 0⟩
 unfold pParse pWhole
 dsimp only
 obtain ⟨o, ho⟩ : ∃ o, pCh s ere 7 ⟨0, 0, 0, 0⟩ = o := ⟨_, rfl⟩
 rw [ho] at hs hg he ⊢
 by_cases h0 : o.e ≠ 0
 ·
  rw [if_pos h0]
  rw [if_pos (show (⟨rx0, o.e, o.st⟩ : Out).e ≠ 0 from h0)]
  refine ⟨fun h => absurd h h0, fun _ => ⟨?_, hg.1, rfl⟩⟩
  rcases he with h | h | h
  ·
   exact absurd h h0
  ·
   exact Or.inl h
  ·
   exact Or.inr (Or.inl h)
 rw [if_neg h0]
 by_cases h1 : o.st.i < s.size
 ·
  rw [if_pos h1, if_pos (show (⟨rx0, 1, o.st⟩ : Out).e ≠ 0 by show (1 : Nat) ≠ 0; decide)]
  exact ⟨fun h => absurd h (by show ¬(1 : Nat) = 0; decide), fun _ => ⟨Or.inl rfl, hg.1, rfl⟩⟩
 rw [if_neg h1]
 by_cases h2 : o.st.n > 40 ∨ o.st.g > 3
 ·
  rw [if_pos h2, if_pos (show (⟨rx0, 4, o.st⟩ : Out).e ≠ 0 by show (4 : Nat) ≠ 0; decide)]
  exact ⟨fun h => absurd h (by show ¬(4 : Nat) = 0; decide), fun _ => ⟨Or.inr (Or.inr rfl), hg.1, rfl⟩⟩
 rw [if_neg h2, if_neg h0]
 refine ⟨fun _ => ?_, fun h => absurd rfl h⟩
 obtain ⟨i1, i2, i3⟩ := (hs (by omega)).ok (by omega) (by omega)
 refine ⟨rfl, ?_, i1⟩
 unfold right
 have i2 : o.st.n = 0 + nds o.r := i2
 show (chk ere o.r true true ⟨0, 0, 0⟩).isSome = true
 have := i3 0 (by omega)
 have this : chk ere o.r true true ⟨0, 0, 0⟩ = some ⟨0 + nds o.r, o.st.g, 0⟩ := this
 rw [this]
 rfl
end Go.Proofs.YtikmgckefbjbkaaGreatDoor.Sound

/-! ### OnlyW -/

namespace Go.Proofs.YtikmgckefbjbkaaGreatDoor
open Go.RowKit

set_option maxHeartbeats 4000000 in
set_option maxRecDepth 100000 in
theorem lawOnly_any (aK : Option Addr) (lK cK : Nat) (aN : Option Addr) (lN cN : Nat) (raw : ByteArray) (at_ : Int) (c : Nat) (hc : c < 256) (how : Int) (ere : Bool) (w : World) (hK : Nums w w.heap.size aK lK) (hN : Nums w w.heap.size aN lN) (h0 : ∃ m, w.cell? ⟨0, 0, none⟩ = some (.int .i64 m)) :
  Calls Tryz.prog 6 #[.agg #[.slice aK lK cK, .slice aN lN cN], .string raw, .int .i64 at_, .int .u8 (c : Int), .int .i64 how, .bool ere] w fun e w' => e = .returned (.bool true) ∧ Kp w w' := by
 have HK := hid hK
 have HN := hid hN
 have Z0 := hid h0
 clear hK hN h0
 go_enter Tryz.func6, Tryz.ntmps6
 go_upto_region 1 with fail
 refine opq (fun V0 => V0.heap[w.heap.size]? = some (.cells #[.slice aK lK cK, .slice aN lN cN] 36) ∧ Kp w V0 ∧ (∃ mz, V0.cell? ⟨0, 0, none⟩ = some (.int .i64 mz))) ⟨by exact last_of _ _, by exact (by repeat (first | exact Kp.refl _ | refine Kp.alloc ?_ _ | refine Kp.drew ?_ | refine Kp.drewN _ ?_)), by exact cell0 Z0.out (by repeat (first | exact Kp.refl _ | refine Kp.alloc ?_ _ | refine Kp.drew ?_ | refine Kp.drewN _ ?_))⟩ ?_
 rintro V0 ⟨xA_1, xK_1, xZ_1⟩
 have A_1 : Hid (V0.heap[w.heap.size]? = some (.cells #[.slice aK lK cK, .slice aN lN cN] 36)) := xA_1
 have K_1 : Hid (Kp w V0) := xK_1
 have Z_1 : Hid ((∃ mz, V0.cell? ⟨0, 0, none⟩ = some (.int .i64 mz))) := xZ_1
 clear xA_1 xK_1 xZ_1
 have NK := hid ((HK.out.km (K_1.out.km (Nat.le_refl _))).up K_1.out.size)
 have NN := hid ((HN.out.km (K_1.out.km (Nat.le_refl _))).up K_1.out.size)
 clear Z0 HK HN
 have p0 := bl_cell (A_1.out) 0 _ rfl
 have p1 := bl_cell (A_1.out) 1 _ rfl
 go_wp2_with fail
 refine (made_any ere (rowS_any ere) aK lK cK aN lN cN V0 NK.out NN.out).mono ?_
 rintro e V1 ⟨⟨T, v, rfl, hI, hR, hO, kv⟩⟩
 obtain ⟨k1, mn1, mx1, mm1, t1, ad1, l1, c1, rfl⟩ := hI.form
 have PD1 : Hid (Pd V1 T k1 mn1 mx1 mm1 t1 ad1 l1 c1) := ⟨hI.weak (fun _ _ _ => trivial)⟩
 clear hI p0 p1 NK NN
 have K_2 : Hid (Kp w V1) := K_1.out.trans kv
 have Z_2 : Hid ((∃ mz, V1.cell? ⟨0, 0, none⟩ = some (.int .i64 mz))) := cell0 Z_1.out kv
 clear A_1 K_1 Z_1
 obtain ⟨S, hS⟩ : ∃ S, bs (printT ere T) = S := ⟨_, rfl⟩
 have hsz : S.size ≤ 1000000 := hS ▸ print_size ere T hO
 have hsz2 : S.size ≤ 84000 := hS ▸ print_len ere T hO
 have PR := hid (talk_print T ere hO S hS)
 clear kv hR hO hS hsz
 go_wp2_with fail
 refine (PR.out _ PD1.out).mono ?_
 rintro e V2 ⟨rfl, kv⟩
 have K_3 : Hid (Kp w V2) := K_2.out.trans kv
 have Z_3 : Hid ((∃ mz, V2.cell? ⟨0, 0, none⟩ = some (.int .i64 mz))) := cell0 Z_2.out kv
 clear K_2 Z_2
 clear kv PR PD1
 go_upto_region 2 with fail
 obtain ⟨m, hm, hm2⟩ : ∃ m : Nat, max ((S.size : Int) - 1) 0 = (m : Int) ∧ (0 < S.size → m < S.size) ∧ m ≤ 84000 := ⟨S.size - 1, by omega, by omega⟩
 have gw : IntKind.i64.wrap ((S.size : Int) - 1) = (S.size : Int) - 1 := by rw [IntKind.wrap_i64]; omega
 go_wp2_with fail
 refine (within_nat _ m (by omega) _).mono ?_
 rintro e V2 ⟨i, him, rfl, rfl⟩
 have hi : 0 < S.size → i < S.size := by omega
 clear hm hm2 gw him
 go_upto_block 0 with fail
 go_cut [13] (fun v wc => ∃ q : ByteArray, v = .string q ∧ q.size ≤ 1000000 ∧ Kp V2 wc)
 case first =>
  by_cases hz : S.size = 0
  ·
   obtain rfl : S = ⟨#[]⟩ := by
    cases S with
    | mk d => exact congrArg ByteArray.mk (Array.size_eq_zero_iff.1 hz)
   go_wp2_with fail
   go_meet
   case rel => exact ⟨_, rfl, by rw [ByteArray.size_extract]; omega, Kp.refl _⟩
  have hil : i < S.size := hi (by omega)
  have hne : S.toList.isEmpty = false := by rw [str_nil]; exact decide_eq_false (by omega)
  have hnl : ¬ S.toList = [] := by intro e; rw [e] at hne; cases hne
  by_cases h7 : bits .and .i64 how 7 = 7
  ·
   go_wp2_with fail
   go_meet
   case rel => exact ⟨_, rfl, by rw [ByteArray.size_extract]; omega, Kp.refl _⟩
  have h7b : (bits .and .i64 how 7 == 7) = false := beq_false_of_ne h7
  have gi : IntKind.i64.wrap ((i : Int) + 1) = (i : Int) + 1 := by rw [IntKind.wrap_i64]; omega
  have il1 : (i : Int) ≤ (S.size : Int) := by omega
  have il2 : (i : Int) + 1 ≤ (S.size : Int) := by omega
  have il3 : (0 : Int) ≤ (i : Int) + 1 := by omega
  by_cases h0 : bits .and .i64 how 3 = 0
  ·
   go_upto_region 7 with fail
   have Q0 : Kp V2 V2.drew := (Kp.refl _).drew
   have MK : Hid (∀ W, Kp V2 W → Hid (Kp V2 W)) := fun W k => k
   refine wp_region_noPanic ?_
   refine wp_region_held_drew (S := (fun W => Hid (Kp V2 W))) (by kernel_rfl) ?_ (fun hH => ?_)
   ·
    exact MK.out _ Q0
   have KQ := Q0
   refine wpAnyH_take (i := 0) (oi := { dst := some 52, op := Op.move (Operand.tmp 13), type := 9, pos := "law.go:76", after := #[], guard := none }) (v := ?v0r7x1) rfl (by kernel_rfl) (by kernel_rfl) (by kernel_rfl) (fun _ _ _ h => h) (Or.inl ⟨by rfl, ?hy0r7x1⟩) hH ?r0r7x1
   case hy0r7x1 => (intro W hSw; (try dsimp only at hSw); go_simp; try (with_reducible rfl))
   try simp only [Act.put, List.setIfInBounds_toArray, List.set_cons_zero, List.set_cons_succ]
   refine wpAnyH_take (i := 1) (oi := { dst := some 53, op := Op.move (Operand.tmp 14), type := 3, pos := "law.go:76", after := #[], guard := none }) (v := ?v1r7x2) rfl (by kernel_rfl) (by kernel_rfl) (by kernel_rfl) (fun _ _ _ h => h) (Or.inl ⟨by rfl, ?hy1r7x2⟩) hH ?r1r7x2
   case hy1r7x2 => (intro W hSw; (try dsimp only at hSw); go_simp; try (with_reducible rfl))
   try simp only [Act.put, List.setIfInBounds_toArray, List.set_cons_zero, List.set_cons_succ]
   refine wpAnyH_take (i := 2) (oi := { dst := some 54, op := Op.slice 9 (Operand.tmp 52) none (some (Operand.tmp 53)) none, type := 9, pos := "law.go:76", after := #[{ on := 0, ground := Ground.data }, { on := 1, ground := Ground.data }], guard := none }) (v := ?v2r7x3) rfl (by kernel_rfl) (by kernel_rfl) (by kernel_rfl) (fun _ _ _ h => h) (Or.inl ⟨by rfl, ?hy2r7x3⟩) hH ?r2r7x3
   case hy2r7x3 => (intro W hSw; (try dsimp only at hSw); go_simp; try (with_reducible rfl))
   try simp only [Act.put, List.setIfInBounds_toArray, List.set_cons_zero, List.set_cons_succ]
   refine wpAnyH_take (i := 3) (oi := { dst := some 55, op := Op.move (Operand.tmp 3), type := 5, pos := "law.go:76", after := #[], guard := none }) (v := ?v3r7x4) rfl (by kernel_rfl) (by kernel_rfl) (by kernel_rfl) (fun _ _ _ h => h) (Or.inl ⟨by rfl, ?hy3r7x4⟩) hH ?r3r7x4
   case hy3r7x4 => (intro W hSw; (try dsimp only at hSw); go_simp; try (with_reducible rfl))
   try simp only [Act.put, List.setIfInBounds_toArray, List.set_cons_zero, List.set_cons_succ]
   refine wpAnyH_take (i := 7) (oi := { dst := some 59, op := Op.move (Operand.tmp 13), type := 9, pos := "law.go:76", after := #[], guard := none }) (v := ?v7r7x5) rfl (by kernel_rfl) (by kernel_rfl) (by kernel_rfl) (fun _ _ _ h => h) (Or.inl ⟨by rfl, ?hy7r7x5⟩) hH ?r7r7x5
   case hy7r7x5 => (intro W hSw; (try dsimp only at hSw); go_simp; try (with_reducible rfl))
   try simp only [Act.put, List.setIfInBounds_toArray, List.set_cons_zero, List.set_cons_succ]
   refine wpAnyH_take (i := 8) (oi := { dst := some 60, op := Op.move (Operand.tmp 14), type := 3, pos := "law.go:76", after := #[], guard := none }) (v := ?v8r7x6) rfl (by kernel_rfl) (by kernel_rfl) (by kernel_rfl) (fun _ _ _ h => h) (Or.inl ⟨by rfl, ?hy8r7x6⟩) hH ?r8r7x6
   case hy8r7x6 => (intro W hSw; (try dsimp only at hSw); go_simp; try (with_reducible rfl))
   try simp only [Act.put, List.setIfInBounds_toArray, List.set_cons_zero, List.set_cons_succ]
   refine wpAnyH_take (i := 9) (oi := { dst := some 61, op := Op.binOp BinOp.add 3 (Operand.tmp 60) (Operand.const (Value.int IntKind.i64 1)) 3, type := 3, pos := "law.go:76", after := #[{ on := 8, ground := Ground.data }], guard := none }) (v := ?v9r7x7) rfl (by kernel_rfl) (by kernel_rfl) (by kernel_rfl) (fun _ _ _ h => h) (Or.inl ⟨by rfl, ?hy9r7x7⟩) hH ?r9r7x7
   case hy9r7x7 => (intro W hSw; (try dsimp only at hSw); go_simp; try (with_reducible rfl))
   try simp only [Act.put, List.setIfInBounds_toArray, List.set_cons_zero, List.set_cons_succ]
   refine wpAnyH_take (i := 10) (oi := { dst := some 62, op := Op.slice 9 (Operand.tmp 59) (some (Operand.tmp 61)) none none, type := 9, pos := "law.go:76", after := #[{ on := 7, ground := Ground.data }, { on := 9, ground := Ground.data }], guard := none }) (v := ?v10r7x8) rfl (by kernel_rfl) (by kernel_rfl) (by kernel_rfl) (fun _ _ _ h => h) (Or.inl ⟨by rfl, ?hy10r7x8⟩) hH ?r10r7x8
   case hy10r7x8 => (intro W hSw; (try dsimp only at hSw); go_simp; try (with_reducible rfl))
   try simp only [Act.put, List.setIfInBounds_toArray, List.set_cons_zero, List.set_cons_succ]
   refine wpAnyH_ready (rs := [4]) (by kernel_rfl) (by simp) ?_
   refine AllReadyH.cons (o := { dst := some 56, op := Op.buildSlice 47 1 #[(0, Operand.tmp 55)], type := 47, pos := "law.go:76", after := #[{ on := 3, ground := Ground.data }], guard := none }) rfl (fun K hKq => ?_) AllReadyH.nil
   go_simp
   refine hKq.out _ _ (MK.out _ (KQ.alloc _)) (fun hN => ?_)
   clear hKq K hH KQ
   have hH := hN
   clear hN
   have KQ := hH.out
   try simp only [Act.put, List.setIfInBounds_toArray, List.set_cons_zero, List.set_cons_succ]
   refine wpAnyH_ready (rs := [5]) (by kernel_rfl) (by simp) ?_
   refine AllReadyH.cons (o := { dst := some 57, op := Op.convert 47 9 (Operand.tmp 56), type := 9, pos := "law.go:76", after := #[{ on := 4, ground := Ground.data }], guard := none }) rfl (fun K hKq => ?_) AllReadyH.nil
   have cv : (convert 47 9 (.slice (some ⟨V2.heap.size, 0, none⟩) 1 1)).run Tryz.prog ((V2.alloc (.cells #[.int .u8 (c : Int)] 5)).drew) = .ok (.string (bs [UInt8.ofNat c])) ((V2.alloc (.cells #[.int .u8 (c : Int)] 5)).drew) := conv_one V2.drew c hc
   go_simp
   refine hKq.out _ _ (MK.out _ KQ) (fun hN => ?_)
   clear cv
   clear hKq K hH KQ
   have hH := hN
   clear hN
   have KQ := hH.out
   try simp only [Act.put, List.setIfInBounds_toArray, List.set_cons_zero, List.set_cons_succ]
   refine wpAnyH_take (i := 6) (oi := { dst := some 58, op := Op.binOp BinOp.add 9 (Operand.tmp 54) (Operand.tmp 57) 9, type := 9, pos := "law.go:76", after := #[{ on := 2, ground := Ground.data }, { on := 5, ground := Ground.data }], guard := none }) (v := ?v6r7x9) rfl (by kernel_rfl) (by kernel_rfl) (by kernel_rfl) (fun _ _ _ h => h) (Or.inl ⟨by rfl, ?hy6r7x9⟩) hH ?r6r7x9
   case hy6r7x9 => (intro W hSw; (try dsimp only at hSw); go_simp; rw [if_neg (by simp [bs_size]; omega)])
   try simp only [Act.put, List.setIfInBounds_toArray, List.set_cons_zero, List.set_cons_succ]
   refine wpAnyH_take (i := 11) (oi := { dst := some 63, op := Op.binOp BinOp.add 9 (Operand.tmp 58) (Operand.tmp 62) 9, type := 9, pos := "law.go:76", after := #[{ on := 6, ground := Ground.data }, { on := 10, ground := Ground.data }], guard := none }) (v := ?v11r7x10) rfl (by kernel_rfl) (by kernel_rfl) (by kernel_rfl) (fun _ _ _ h => h) (Or.inl ⟨by rfl, ?hy11r7x10⟩) hH ?r11r7x10
   case hy11r7x10 => (intro W hSw; (try dsimp only at hSw); go_simp; rw [if_neg (by simp [bs_size]; omega)])
   try simp only [Act.put, List.setIfInBounds_toArray, List.set_cons_zero, List.set_cons_succ]
   refine wpAnyH_take (i := 12) (oi := { dst := some 13, op := Op.assign (Operand.tmp 63), type := 9, pos := "law.go:76", after := #[{ on := 11, ground := Ground.data }, { on := 0, ground := Ground.phase }, { on := 1, ground := Ground.phase }, { on := 2, ground := Ground.phase }, { on := 3, ground := Ground.phase }, { on := 4, ground := Ground.phase }, { on := 5, ground := Ground.phase }, { on := 6, ground := Ground.phase }, { on := 7, ground := Ground.phase }, { on := 8, ground := Ground.phase }, { on := 9, ground := Ground.phase }, { on := 10, ground := Ground.phase }, { on := 11, ground := Ground.phase }], guard := none }) (v := ?v12r7x11) rfl (by kernel_rfl) (by kernel_rfl) (by kernel_rfl) (fun _ _ _ h => h) (Or.inl ⟨by rfl, ?hy12r7x11⟩) hH ?r12r7x11
   case hy12r7x11 => (intro W hSw; (try dsimp only at hSw); go_simp; try (with_reducible rfl))
   try simp only [Act.put, List.setIfInBounds_toArray, List.set_cons_zero, List.set_cons_succ]
   refine wpAnyH_done (by kernel_rfl) ?_ _
   refine NoPanic.normal ?_
   go_wp2_with fail
   go_meet
   case rel => exact ⟨_, rfl, by simp [ByteArray.size_append, ByteArray.size_extract, bs_size]; omega, KQ⟩
  have h0b : (bits .and .i64 how 3 == 0) = false := beq_false_of_ne h0
  by_cases h1 : bits .and .i64 how 3 = 1
  ·
   go_upto_region 9 with fail
   have Q0 : Kp V2 V2.drew := (Kp.refl _).drew
   have MK : Hid (∀ W, Kp V2 W → Hid (Kp V2 W)) := fun W k => k
   refine wp_region_noPanic ?_
   refine wp_region_held_drew (S := (fun W => Hid (Kp V2 W))) (by kernel_rfl) ?_ (fun hH => ?_)
   ·
    exact MK.out _ Q0
   have KQ := Q0
   refine wpAnyH_take (i := 0) (oi := { dst := some 68, op := Op.move (Operand.tmp 13), type := 9, pos := "law.go:78", after := #[], guard := none }) (v := ?v0r9x1) rfl (by kernel_rfl) (by kernel_rfl) (by kernel_rfl) (fun _ _ _ h => h) (Or.inl ⟨by rfl, ?hy0r9x1⟩) hH ?r0r9x1
   case hy0r9x1 => (intro W hSw; (try dsimp only at hSw); go_simp; try (with_reducible rfl))
   try simp only [Act.put, List.setIfInBounds_toArray, List.set_cons_zero, List.set_cons_succ]
   refine wpAnyH_take (i := 1) (oi := { dst := some 69, op := Op.move (Operand.tmp 14), type := 3, pos := "law.go:78", after := #[], guard := none }) (v := ?v1r9x2) rfl (by kernel_rfl) (by kernel_rfl) (by kernel_rfl) (fun _ _ _ h => h) (Or.inl ⟨by rfl, ?hy1r9x2⟩) hH ?r1r9x2
   case hy1r9x2 => (intro W hSw; (try dsimp only at hSw); go_simp; try (with_reducible rfl))
   try simp only [Act.put, List.setIfInBounds_toArray, List.set_cons_zero, List.set_cons_succ]
   refine wpAnyH_take (i := 2) (oi := { dst := some 70, op := Op.slice 9 (Operand.tmp 68) none (some (Operand.tmp 69)) none, type := 9, pos := "law.go:78", after := #[{ on := 0, ground := Ground.data }, { on := 1, ground := Ground.data }], guard := none }) (v := ?v2r9x3) rfl (by kernel_rfl) (by kernel_rfl) (by kernel_rfl) (fun _ _ _ h => h) (Or.inl ⟨by rfl, ?hy2r9x3⟩) hH ?r2r9x3
   case hy2r9x3 => (intro W hSw; (try dsimp only at hSw); go_simp; try (with_reducible rfl))
   try simp only [Act.put, List.setIfInBounds_toArray, List.set_cons_zero, List.set_cons_succ]
   refine wpAnyH_take (i := 3) (oi := { dst := some 71, op := Op.move (Operand.tmp 13), type := 9, pos := "law.go:78", after := #[], guard := none }) (v := ?v3r9x4) rfl (by kernel_rfl) (by kernel_rfl) (by kernel_rfl) (fun _ _ _ h => h) (Or.inl ⟨by rfl, ?hy3r9x4⟩) hH ?r3r9x4
   case hy3r9x4 => (intro W hSw; (try dsimp only at hSw); go_simp; try (with_reducible rfl))
   try simp only [Act.put, List.setIfInBounds_toArray, List.set_cons_zero, List.set_cons_succ]
   refine wpAnyH_take (i := 4) (oi := { dst := some 72, op := Op.move (Operand.tmp 14), type := 3, pos := "law.go:78", after := #[], guard := none }) (v := ?v4r9x5) rfl (by kernel_rfl) (by kernel_rfl) (by kernel_rfl) (fun _ _ _ h => h) (Or.inl ⟨by rfl, ?hy4r9x5⟩) hH ?r4r9x5
   case hy4r9x5 => (intro W hSw; (try dsimp only at hSw); go_simp; try (with_reducible rfl))
   try simp only [Act.put, List.setIfInBounds_toArray, List.set_cons_zero, List.set_cons_succ]
   refine wpAnyH_take (i := 5) (oi := { dst := some 73, op := Op.binOp BinOp.add 3 (Operand.tmp 72) (Operand.const (Value.int IntKind.i64 1)) 3, type := 3, pos := "law.go:78", after := #[{ on := 4, ground := Ground.data }], guard := none }) (v := ?v5r9x6) rfl (by kernel_rfl) (by kernel_rfl) (by kernel_rfl) (fun _ _ _ h => h) (Or.inl ⟨by rfl, ?hy5r9x6⟩) hH ?r5r9x6
   case hy5r9x6 => (intro W hSw; (try dsimp only at hSw); go_simp; try (with_reducible rfl))
   try simp only [Act.put, List.setIfInBounds_toArray, List.set_cons_zero, List.set_cons_succ]
   refine wpAnyH_take (i := 6) (oi := { dst := some 74, op := Op.slice 9 (Operand.tmp 71) (some (Operand.tmp 73)) none none, type := 9, pos := "law.go:78", after := #[{ on := 3, ground := Ground.data }, { on := 5, ground := Ground.data }], guard := none }) (v := ?v6r9x7) rfl (by kernel_rfl) (by kernel_rfl) (by kernel_rfl) (fun _ _ _ h => h) (Or.inl ⟨by rfl, ?hy6r9x7⟩) hH ?r6r9x7
   case hy6r9x7 => (intro W hSw; (try dsimp only at hSw); go_simp; try (with_reducible rfl))
   try simp only [Act.put, List.setIfInBounds_toArray, List.set_cons_zero, List.set_cons_succ]
   refine wpAnyH_take (i := 7) (oi := { dst := some 75, op := Op.binOp BinOp.add 9 (Operand.tmp 70) (Operand.tmp 74) 9, type := 9, pos := "law.go:78", after := #[{ on := 2, ground := Ground.data }, { on := 6, ground := Ground.data }], guard := none }) (v := ?v7r9x8) rfl (by kernel_rfl) (by kernel_rfl) (by kernel_rfl) (fun _ _ _ h => h) (Or.inl ⟨by rfl, ?hy7r9x8⟩) hH ?r7r9x8
   case hy7r9x8 => (intro W hSw; (try dsimp only at hSw); go_simp; rw [if_neg (by simp; omega)])
   try simp only [Act.put, List.setIfInBounds_toArray, List.set_cons_zero, List.set_cons_succ]
   refine wpAnyH_take (i := 8) (oi := { dst := some 13, op := Op.assign (Operand.tmp 75), type := 9, pos := "law.go:78", after := #[{ on := 7, ground := Ground.data }, { on := 0, ground := Ground.phase }, { on := 1, ground := Ground.phase }, { on := 2, ground := Ground.phase }, { on := 3, ground := Ground.phase }, { on := 4, ground := Ground.phase }, { on := 5, ground := Ground.phase }, { on := 6, ground := Ground.phase }, { on := 7, ground := Ground.phase }], guard := none }) (v := ?v8r9x9) rfl (by kernel_rfl) (by kernel_rfl) (by kernel_rfl) (fun _ _ _ h => h) (Or.inl ⟨by rfl, ?hy8r9x9⟩) hH ?r8r9x9
   case hy8r9x9 => (intro W hSw; (try dsimp only at hSw); go_simp; try (with_reducible rfl))
   try simp only [Act.put, List.setIfInBounds_toArray, List.set_cons_zero, List.set_cons_succ]
   refine wpAnyH_done (by kernel_rfl) ?_ _
   refine NoPanic.normal ?_
   go_wp2_with fail
   go_meet
   case rel => exact ⟨_, rfl, by simp [ByteArray.size_append, ByteArray.size_extract]; omega, KQ⟩
  have h1b : (bits .and .i64 how 3 == 1) = false := beq_false_of_ne h1
  by_cases h2 : bits .and .i64 how 3 = 2
  ·
   go_upto_region 11 with fail
   have Q0 : Kp V2 V2.drew := (Kp.refl _).drew
   have MK : Hid (∀ W, Kp V2 W → Hid (Kp V2 W)) := fun W k => k
   refine wp_region_noPanic ?_
   refine wp_region_held_drew (S := (fun W => Hid (Kp V2 W))) (by kernel_rfl) ?_ (fun hH => ?_)
   ·
    exact MK.out _ Q0
   have KQ := Q0
   refine wpAnyH_take (i := 0) (oi := { dst := some 80, op := Op.move (Operand.tmp 13), type := 9, pos := "law.go:80", after := #[], guard := none }) (v := ?v0r11x1) rfl (by kernel_rfl) (by kernel_rfl) (by kernel_rfl) (fun _ _ _ h => h) (Or.inl ⟨by rfl, ?hy0r11x1⟩) hH ?r0r11x1
   case hy0r11x1 => (intro W hSw; (try dsimp only at hSw); go_simp; try (with_reducible rfl))
   try simp only [Act.put, List.setIfInBounds_toArray, List.set_cons_zero, List.set_cons_succ]
   refine wpAnyH_take (i := 1) (oi := { dst := some 81, op := Op.move (Operand.tmp 14), type := 3, pos := "law.go:80", after := #[], guard := none }) (v := ?v1r11x2) rfl (by kernel_rfl) (by kernel_rfl) (by kernel_rfl) (fun _ _ _ h => h) (Or.inl ⟨by rfl, ?hy1r11x2⟩) hH ?r1r11x2
   case hy1r11x2 => (intro W hSw; (try dsimp only at hSw); go_simp; try (with_reducible rfl))
   try simp only [Act.put, List.setIfInBounds_toArray, List.set_cons_zero, List.set_cons_succ]
   refine wpAnyH_take (i := 2) (oi := { dst := some 82, op := Op.slice 9 (Operand.tmp 80) none (some (Operand.tmp 81)) none, type := 9, pos := "law.go:80", after := #[{ on := 0, ground := Ground.data }, { on := 1, ground := Ground.data }], guard := none }) (v := ?v2r11x3) rfl (by kernel_rfl) (by kernel_rfl) (by kernel_rfl) (fun _ _ _ h => h) (Or.inl ⟨by rfl, ?hy2r11x3⟩) hH ?r2r11x3
   case hy2r11x3 => (intro W hSw; (try dsimp only at hSw); go_simp; try (with_reducible rfl))
   try simp only [Act.put, List.setIfInBounds_toArray, List.set_cons_zero, List.set_cons_succ]
   refine wpAnyH_take (i := 3) (oi := { dst := some 83, op := Op.move (Operand.tmp 3), type := 5, pos := "law.go:80", after := #[], guard := none }) (v := ?v3r11x4) rfl (by kernel_rfl) (by kernel_rfl) (by kernel_rfl) (fun _ _ _ h => h) (Or.inl ⟨by rfl, ?hy3r11x4⟩) hH ?r3r11x4
   case hy3r11x4 => (intro W hSw; (try dsimp only at hSw); go_simp; try (with_reducible rfl))
   try simp only [Act.put, List.setIfInBounds_toArray, List.set_cons_zero, List.set_cons_succ]
   refine wpAnyH_take (i := 7) (oi := { dst := some 87, op := Op.move (Operand.tmp 13), type := 9, pos := "law.go:80", after := #[], guard := none }) (v := ?v7r11x5) rfl (by kernel_rfl) (by kernel_rfl) (by kernel_rfl) (fun _ _ _ h => h) (Or.inl ⟨by rfl, ?hy7r11x5⟩) hH ?r7r11x5
   case hy7r11x5 => (intro W hSw; (try dsimp only at hSw); go_simp; try (with_reducible rfl))
   try simp only [Act.put, List.setIfInBounds_toArray, List.set_cons_zero, List.set_cons_succ]
   refine wpAnyH_take (i := 8) (oi := { dst := some 88, op := Op.move (Operand.tmp 14), type := 3, pos := "law.go:80", after := #[], guard := none }) (v := ?v8r11x6) rfl (by kernel_rfl) (by kernel_rfl) (by kernel_rfl) (fun _ _ _ h => h) (Or.inl ⟨by rfl, ?hy8r11x6⟩) hH ?r8r11x6
   case hy8r11x6 => (intro W hSw; (try dsimp only at hSw); go_simp; try (with_reducible rfl))
   try simp only [Act.put, List.setIfInBounds_toArray, List.set_cons_zero, List.set_cons_succ]
   refine wpAnyH_take (i := 9) (oi := { dst := some 89, op := Op.slice 9 (Operand.tmp 87) (some (Operand.tmp 88)) none none, type := 9, pos := "law.go:80", after := #[{ on := 7, ground := Ground.data }, { on := 8, ground := Ground.data }], guard := none }) (v := ?v9r11x7) rfl (by kernel_rfl) (by kernel_rfl) (by kernel_rfl) (fun _ _ _ h => h) (Or.inl ⟨by rfl, ?hy9r11x7⟩) hH ?r9r11x7
   case hy9r11x7 => (intro W hSw; (try dsimp only at hSw); go_simp; try (with_reducible rfl))
   try simp only [Act.put, List.setIfInBounds_toArray, List.set_cons_zero, List.set_cons_succ]
   refine wpAnyH_ready (rs := [4]) (by kernel_rfl) (by simp) ?_
   refine AllReadyH.cons (o := { dst := some 84, op := Op.buildSlice 47 1 #[(0, Operand.tmp 83)], type := 47, pos := "law.go:80", after := #[{ on := 3, ground := Ground.data }], guard := none }) rfl (fun K hKq => ?_) AllReadyH.nil
   go_simp
   refine hKq.out _ _ (MK.out _ (KQ.alloc _)) (fun hN => ?_)
   clear hKq K hH KQ
   have hH := hN
   clear hN
   have KQ := hH.out
   try simp only [Act.put, List.setIfInBounds_toArray, List.set_cons_zero, List.set_cons_succ]
   refine wpAnyH_ready (rs := [5]) (by kernel_rfl) (by simp) ?_
   refine AllReadyH.cons (o := { dst := some 85, op := Op.convert 47 9 (Operand.tmp 84), type := 9, pos := "law.go:80", after := #[{ on := 4, ground := Ground.data }], guard := none }) rfl (fun K hKq => ?_) AllReadyH.nil
   have cv : (convert 47 9 (.slice (some ⟨V2.heap.size, 0, none⟩) 1 1)).run Tryz.prog ((V2.alloc (.cells #[.int .u8 (c : Int)] 5)).drew) = .ok (.string (bs [UInt8.ofNat c])) ((V2.alloc (.cells #[.int .u8 (c : Int)] 5)).drew) := conv_one V2.drew c hc
   go_simp
   refine hKq.out _ _ (MK.out _ KQ) (fun hN => ?_)
   clear cv
   clear hKq K hH KQ
   have hH := hN
   clear hN
   have KQ := hH.out
   try simp only [Act.put, List.setIfInBounds_toArray, List.set_cons_zero, List.set_cons_succ]
   refine wpAnyH_take (i := 6) (oi := { dst := some 86, op := Op.binOp BinOp.add 9 (Operand.tmp 82) (Operand.tmp 85) 9, type := 9, pos := "law.go:80", after := #[{ on := 2, ground := Ground.data }, { on := 5, ground := Ground.data }], guard := none }) (v := ?v6r11x8) rfl (by kernel_rfl) (by kernel_rfl) (by kernel_rfl) (fun _ _ _ h => h) (Or.inl ⟨by rfl, ?hy6r11x8⟩) hH ?r6r11x8
   case hy6r11x8 => (intro W hSw; (try dsimp only at hSw); go_simp; rw [if_neg (by simp [bs_size]; omega)])
   try simp only [Act.put, List.setIfInBounds_toArray, List.set_cons_zero, List.set_cons_succ]
   refine wpAnyH_take (i := 10) (oi := { dst := some 90, op := Op.binOp BinOp.add 9 (Operand.tmp 86) (Operand.tmp 89) 9, type := 9, pos := "law.go:80", after := #[{ on := 6, ground := Ground.data }, { on := 9, ground := Ground.data }], guard := none }) (v := ?v10r11x9) rfl (by kernel_rfl) (by kernel_rfl) (by kernel_rfl) (fun _ _ _ h => h) (Or.inl ⟨by rfl, ?hy10r11x9⟩) hH ?r10r11x9
   case hy10r11x9 => (intro W hSw; (try dsimp only at hSw); go_simp; rw [if_neg (by simp [bs_size]; omega)])
   try simp only [Act.put, List.setIfInBounds_toArray, List.set_cons_zero, List.set_cons_succ]
   refine wpAnyH_take (i := 11) (oi := { dst := some 13, op := Op.assign (Operand.tmp 90), type := 9, pos := "law.go:80", after := #[{ on := 10, ground := Ground.data }, { on := 0, ground := Ground.phase }, { on := 1, ground := Ground.phase }, { on := 2, ground := Ground.phase }, { on := 3, ground := Ground.phase }, { on := 4, ground := Ground.phase }, { on := 5, ground := Ground.phase }, { on := 6, ground := Ground.phase }, { on := 7, ground := Ground.phase }, { on := 8, ground := Ground.phase }, { on := 9, ground := Ground.phase }, { on := 10, ground := Ground.phase }], guard := none }) (v := ?v11r11x10) rfl (by kernel_rfl) (by kernel_rfl) (by kernel_rfl) (fun _ _ _ h => h) (Or.inl ⟨by rfl, ?hy11r11x10⟩) hH ?r11r11x10
   case hy11r11x10 => (intro W hSw; (try dsimp only at hSw); go_simp; try (with_reducible rfl))
   try simp only [Act.put, List.setIfInBounds_toArray, List.set_cons_zero, List.set_cons_succ]
   refine wpAnyH_done (by kernel_rfl) ?_ _
   refine NoPanic.normal ?_
   go_wp2_with fail
   go_meet
   case rel => exact ⟨_, rfl, by simp [ByteArray.size_append, ByteArray.size_extract, bs_size]; omega, KQ⟩
  have h2b : (bits .and .i64 how 3 == 2) = false := beq_false_of_ne h2
  go_wp2_with fail
  go_meet
  case rel => exact ⟨_, rfl, by rw [ByteArray.size_extract]; omega, Kp.refl _⟩
 case rest =>
 obtain ⟨q, rfl, hq, kv⟩ := hcut
 rename World => V3
 have K_4 : Hid (Kp w V3) := K_3.out.trans kv
 have Z_4 : Hid ((∃ mz, V3.cell? ⟨0, 0, none⟩ = some (.int .i64 mz))) := cell0 Z_3.out kv
 clear K_3 Z_3
 clear kv hi hsz2
 obtain ⟨P, n, er, hp⟩ : ∃ P n er, pParse q ere = (P, n, er) := ⟨(pParse q ere).1, (pParse q ere).2.1, (pParse q ere).2.2, rfl⟩
 have hs := Sound.parse_sound q ere
 rw [hp] at hs
 have HS := hid hs
 have PA := hid (parse_at q ere P n er hq hp)
 clear hp hs hq
 go_wp2_with fail
 refine (PA.out _ Z_4.out).mono ?_
 rintro en V4 ⟨k2, mn2, mx2, mm2, t2, ad2, l2, c2, rfl, pd, kv⟩
 have PD2 : Hid (Pd V4 P k2 mn2 mx2 mm2 t2 ad2 l2 c2) := pd
 clear pd
 have K_5 : Hid (Kp w V4) := K_4.out.trans kv
 have Z_5 : Hid ((∃ mz, V4.cell? ⟨0, 0, none⟩ = some (.int .i64 mz))) := cell0 Z_4.out kv
 clear K_4 Z_4
 clear kv PA
 go_upto_region 13 with fail
 refine opq (fun U1 => Kp w U1 ∧ (∃ mz, U1.cell? ⟨0, 0, none⟩ = some (.int .i64 mz)) ∧ Pd U1 P k2 mn2 mx2 mm2 t2 ad2 l2 c2 ∧ U1.heap[V4.heap.size]? = some (rxo k2 mn2 mx2 mm2 t2 (.slice ad2 l2 c2))) ⟨by exact K_5.out.trans (by repeat (first | exact Kp.refl _ | refine Kp.alloc ?_ _ | refine Kp.drew ?_ | refine Kp.drewN _ ?_)), by exact cell0 Z_5.out (by repeat (first | exact Kp.refl _ | refine Kp.alloc ?_ _ | refine Kp.drew ?_ | refine Kp.drewN _ ?_)), by exact PD2.out.kp (by repeat (first | exact Kp.refl _ | refine Kp.alloc ?_ _ | refine Kp.drew ?_ | refine Kp.drewN _ ?_)), by (first | exact last_at _ _ _ (by simp) | (refine bl_alloc ?_ _; first | exact last_at _ _ _ (by simp) | (refine bl_alloc ?_ _; first | exact last_at _ _ _ (by simp) | (refine bl_alloc ?_ _; exact last_at _ _ _ (by simp)))))⟩ ?_
 rintro U1 ⟨xK_6, xZ_6, xPD2_6, xR2_6⟩
 have K_6 : Hid (Kp w U1) := xK_6
 have Z_6 : Hid ((∃ mz, U1.cell? ⟨0, 0, none⟩ = some (.int .i64 mz))) := xZ_6
 have PD2_6 : Hid (Pd U1 P k2 mn2 mx2 mm2 t2 ad2 l2 c2) := xPD2_6
 have R2_6 : Hid (U1.heap[V4.heap.size]? = some (rxo k2 mn2 mx2 mm2 t2 (.slice ad2 l2 c2))) := xR2_6
 clear xK_6 xZ_6 xPD2_6 xR2_6
 clear K_5 Z_5 PD2
 by_cases he : er = 0
 ·
  subst he
  obtain ⟨hn, hr, ho⟩ := HS.out.1 rfl
  subst hn
  obtain ⟨S2, hS2⟩ : ∃ S2, bs (printT ere P) = S2 := ⟨_, rfl⟩
  have PR := hid (talk_print P ere ho S2 hS2)
  have PA := hid (parse_at S2 ere P 0 0 (hS2 ▸ print_size ere P ho) (hS2 ▸ Trip.print_trip ere P ho hr))
  have RG := hid (talk_right P ere true ho hr)
  have KS := hid (talk_ksame P P true ho (sameR_refl P))
  clear HS hr ho hS2
  have p0 := bl_cell (R2_6.out) 0 _ rfl
  have p1 := bl_cell (R2_6.out) 1 _ rfl
  have p2 := bl_cell (R2_6.out) 2 _ rfl
  have p3 := bl_cell (R2_6.out) 3 _ rfl
  have p4 := bl_cell (R2_6.out) 4 _ rfl
  have p5 := bl_cell (R2_6.out) 5 _ rfl
  have p6 := bl_cell (R2_6.out) 6 _ rfl
  have p7 := bl_cell (R2_6.out) 7 _ rfl
  have p8 := bl_cell (R2_6.out) 8 _ rfl
  go_upto_region 15 with fail
  go_wp2_with fail
  refine (PR.out _ PD2_6.out).mono ?_
  rintro e V5 ⟨rfl, kv⟩
  clear p0 p1 p2 p3 p4 p5 p6 p7 p8
  have K_7 : Hid (Kp w V5) := K_6.out.trans kv
  have Z_7 : Hid ((∃ mz, V5.cell? ⟨0, 0, none⟩ = some (.int .i64 mz))) := cell0 Z_6.out kv
  have PD2_7 : Hid (Pd V5 P k2 mn2 mx2 mm2 t2 ad2 l2 c2) := PD2_6.out.kp kv
  have R2_7 : Hid (V5.heap[V4.heap.size]? = some (rxo k2 mn2 mx2 mm2 t2 (.slice ad2 l2 c2))) := bl_kp R2_6.out kv
  clear K_6 Z_6 PD2_6 R2_6
  clear kv
  go_wp2_with fail
  refine (PA.out _ Z_7.out).mono ?_
  rintro en V6 ⟨k3, mn3, mx3, mm3, t3, ad3, l3, c3, rfl, pd, kv⟩
  have PD3 : Hid (Pd V6 P k3 mn3 mx3 mm3 t3 ad3 l3 c3) := pd
  clear pd
  have K_8 : Hid (Kp w V6) := K_7.out.trans kv
  have Z_8 : Hid ((∃ mz, V6.cell? ⟨0, 0, none⟩ = some (.int .i64 mz))) := cell0 Z_7.out kv
  have PD2_8 : Hid (Pd V6 P k2 mn2 mx2 mm2 t2 ad2 l2 c2) := PD2_7.out.kp kv
  have R2_8 : Hid (V6.heap[V4.heap.size]? = some (rxo k2 mn2 mx2 mm2 t2 (.slice ad2 l2 c2))) := bl_kp R2_7.out kv
  clear K_7 Z_7 PD2_7 R2_7
  clear kv PA PR
  go_upto_region 16 with fail
  refine opq (fun U2 => Kp w U2 ∧ (∃ mz, U2.cell? ⟨0, 0, none⟩ = some (.int .i64 mz)) ∧ Pd U2 P k2 mn2 mx2 mm2 t2 ad2 l2 c2 ∧ U2.heap[V4.heap.size]? = some (rxo k2 mn2 mx2 mm2 t2 (.slice ad2 l2 c2)) ∧ Pd U2 P k3 mn3 mx3 mm3 t3 ad3 l3 c3 ∧ U2.heap[V6.heap.size]? = some (rxo k3 mn3 mx3 mm3 t3 (.slice ad3 l3 c3))) ⟨by exact K_8.out.trans (by repeat (first | exact Kp.refl _ | refine Kp.alloc ?_ _ | refine Kp.drew ?_ | refine Kp.drewN _ ?_)), by exact cell0 Z_8.out (by repeat (first | exact Kp.refl _ | refine Kp.alloc ?_ _ | refine Kp.drew ?_ | refine Kp.drewN _ ?_)), by exact PD2_8.out.kp (by repeat (first | exact Kp.refl _ | refine Kp.alloc ?_ _ | refine Kp.drew ?_ | refine Kp.drewN _ ?_)), by exact bl_kp R2_8.out (by repeat (first | exact Kp.refl _ | refine Kp.alloc ?_ _ | refine Kp.drew ?_ | refine Kp.drewN _ ?_)), by exact PD3.out.kp (by repeat (first | exact Kp.refl _ | refine Kp.alloc ?_ _ | refine Kp.drew ?_ | refine Kp.drewN _ ?_)), by (first | exact last_at _ _ _ (by simp) | (refine bl_alloc ?_ _; first | exact last_at _ _ _ (by simp) | (refine bl_alloc ?_ _; first | exact last_at _ _ _ (by simp) | (refine bl_alloc ?_ _; exact last_at _ _ _ (by simp)))))⟩ ?_
  rintro U2 ⟨xK_9, xZ_9, xPD2_9, xR2_9, xPD3_9, xR3_9⟩
  have K_9 : Hid (Kp w U2) := xK_9
  have Z_9 : Hid ((∃ mz, U2.cell? ⟨0, 0, none⟩ = some (.int .i64 mz))) := xZ_9
  have PD2_9 : Hid (Pd U2 P k2 mn2 mx2 mm2 t2 ad2 l2 c2) := xPD2_9
  have R2_9 : Hid (U2.heap[V4.heap.size]? = some (rxo k2 mn2 mx2 mm2 t2 (.slice ad2 l2 c2))) := xR2_9
  have PD3_9 : Hid (Pd U2 P k3 mn3 mx3 mm3 t3 ad3 l3 c3) := xPD3_9
  have R3_9 : Hid (U2.heap[V6.heap.size]? = some (rxo k3 mn3 mx3 mm3 t3 (.slice ad3 l3 c3))) := xR3_9
  clear xK_9 xZ_9 xPD2_9 xR2_9 xPD3_9 xR3_9
  clear K_8 Z_8 PD2_8 R2_8 PD3
  have p0 := bl_cell (R2_9.out) 0 _ rfl
  have p1 := bl_cell (R2_9.out) 1 _ rfl
  have p2 := bl_cell (R2_9.out) 2 _ rfl
  have p3 := bl_cell (R2_9.out) 3 _ rfl
  have p4 := bl_cell (R2_9.out) 4 _ rfl
  have p5 := bl_cell (R2_9.out) 5 _ rfl
  have p6 := bl_cell (R2_9.out) 6 _ rfl
  have p7 := bl_cell (R2_9.out) 7 _ rfl
  have p8 := bl_cell (R2_9.out) 8 _ rfl
  go_wp2_with fail
  refine (RG.out _ PD2_9.out).mono ?_
  rintro e Y1 ⟨rfl, kv⟩
  clear p0 p1 p2 p3 p4 p5 p6 p7 p8
  have K_10 : Hid (Kp w Y1) := K_9.out.trans kv
  have Z_10 : Hid ((∃ mz, Y1.cell? ⟨0, 0, none⟩ = some (.int .i64 mz))) := cell0 Z_9.out kv
  have PD2_10 : Hid (Pd Y1 P k2 mn2 mx2 mm2 t2 ad2 l2 c2) := PD2_9.out.kp kv
  have R2_10 : Hid (Y1.heap[V4.heap.size]? = some (rxo k2 mn2 mx2 mm2 t2 (.slice ad2 l2 c2))) := bl_kp R2_9.out kv
  have PD3_10 : Hid (Pd Y1 P k3 mn3 mx3 mm3 t3 ad3 l3 c3) := PD3_9.out.kp kv
  have R3_10 : Hid (Y1.heap[V6.heap.size]? = some (rxo k3 mn3 mx3 mm3 t3 (.slice ad3 l3 c3))) := bl_kp R3_9.out kv
  clear K_9 Z_9 PD2_9 R2_9 PD3_9 R3_9
  clear kv
  have p0 := bl_cell (R2_10.out) 0 _ rfl
  have p1 := bl_cell (R2_10.out) 1 _ rfl
  have p2 := bl_cell (R2_10.out) 2 _ rfl
  have p3 := bl_cell (R2_10.out) 3 _ rfl
  have p4 := bl_cell (R2_10.out) 4 _ rfl
  have p5 := bl_cell (R2_10.out) 5 _ rfl
  have p6 := bl_cell (R2_10.out) 6 _ rfl
  have p7 := bl_cell (R2_10.out) 7 _ rfl
  have p8 := bl_cell (R2_10.out) 8 _ rfl
  have z0 := bl_cell (R3_10.out) 0 _ rfl
  have z1 := bl_cell (R3_10.out) 1 _ rfl
  have z2 := bl_cell (R3_10.out) 2 _ rfl
  have z3 := bl_cell (R3_10.out) 3 _ rfl
  have z4 := bl_cell (R3_10.out) 4 _ rfl
  have z5 := bl_cell (R3_10.out) 5 _ rfl
  have z6 := bl_cell (R3_10.out) 6 _ rfl
  have z7 := bl_cell (R3_10.out) 7 _ rfl
  have z8 := bl_cell (R3_10.out) 8 _ rfl
  go_wp2_with fail
  refine (KS.out _ PD3_10.out PD2_10.out).mono ?_
  rintro e Y2 ⟨rfl, kv⟩
  clear p0 p1 p2 p3 p4 p5 p6 p7 p8 z0 z1 z2 z3 z4 z5 z6 z7 z8
  have K_11 : Hid (Kp w Y2) := K_10.out.trans kv
  have Z_11 : Hid ((∃ mz, Y2.cell? ⟨0, 0, none⟩ = some (.int .i64 mz))) := cell0 Z_10.out kv
  have PD2_11 : Hid (Pd Y2 P k2 mn2 mx2 mm2 t2 ad2 l2 c2) := PD2_10.out.kp kv
  have R2_11 : Hid (Y2.heap[V4.heap.size]? = some (rxo k2 mn2 mx2 mm2 t2 (.slice ad2 l2 c2))) := bl_kp R2_10.out kv
  have PD3_11 : Hid (Pd Y2 P k3 mn3 mx3 mm3 t3 ad3 l3 c3) := PD3_10.out.kp kv
  have R3_11 : Hid (Y2.heap[V6.heap.size]? = some (rxo k3 mn3 mx3 mm3 t3 (.slice ad3 l3 c3))) := bl_kp R3_10.out kv
  clear K_10 Z_10 PD2_10 R2_10 PD3_10 R3_10
  clear kv
  go_wp2_with fail
  refine (runs_any _ Z_11.out).mono ?_
  rintro e Y3 ⟨rfl, kv⟩
  have K_12 : Hid (Kp w Y3) := K_11.out.trans kv
  have Z_12 : Hid ((∃ mz, Y3.cell? ⟨0, 0, none⟩ = some (.int .i64 mz))) := cell0 Z_11.out kv
  have PD2_12 : Hid (Pd Y3 P k2 mn2 mx2 mm2 t2 ad2 l2 c2) := PD2_11.out.kp kv
  have R2_12 : Hid (Y3.heap[V4.heap.size]? = some (rxo k2 mn2 mx2 mm2 t2 (.slice ad2 l2 c2))) := bl_kp R2_11.out kv
  have PD3_12 : Hid (Pd Y3 P k3 mn3 mx3 mm3 t3 ad3 l3 c3) := PD3_11.out.kp kv
  have R3_12 : Hid (Y3.heap[V6.heap.size]? = some (rxo k3 mn3 mx3 mm3 t3 (.slice ad3 l3 c3))) := bl_kp R3_11.out kv
  clear K_11 Z_11 PD2_11 R2_11 PD3_11 R3_11
  clear kv
  go_wp2_with fail
  go_ret
  exact ⟨rfl, K_12.out⟩
 obtain ⟨h124, hn, hT⟩ := HS.out.2 he
 subst hT
 have hn1 : (n : Int) ≤ (q.size : Int) := by omega
 have hn0 : (0 : Int) ≤ (n : Int) := by omega
 have KS : Hid (∀ (w' : World) {k mn mx m : Int} {t : W4} {ad : Option Addr} {l c : Nat}, Pd w' rx0 k mn mx m t ad l c → Calls Tryz.prog 20 #[rxv k mn mx m t (.slice ad l c), .agg #[.int .i64 0, .int .i64 0, .int .i64 0, .int .i64 0, .int .u64 0, .int .u64 0, .int .u64 0, .int .u64 0, .slice none 0 0]] w' fun e w'' => e = .returned (.bool true) ∧ Kp w' w'') := fun w' _ _ _ _ _ _ _ _ h => by
  have := (ksame_any rx0 (fit_of_ok rx0 (Trip.leaf_ok 0))).all rx0 _ (rxv 0 0 0 0 W4.z (.slice none 0 0)) w' _ (fun _ => True) h.is (Is.leaf _ _ _ _ _ _ _)
  rw [sameR_refl] at this
  exact this
 clear HS he
 rcases h124 with rfl | rfl | rfl
 ·
  have p0 := bl_cell (R2_6.out) 0 _ rfl
  have p1 := bl_cell (R2_6.out) 1 _ rfl
  have p2 := bl_cell (R2_6.out) 2 _ rfl
  have p3 := bl_cell (R2_6.out) 3 _ rfl
  have p4 := bl_cell (R2_6.out) 4 _ rfl
  have p5 := bl_cell (R2_6.out) 5 _ rfl
  have p6 := bl_cell (R2_6.out) 6 _ rfl
  have p7 := bl_cell (R2_6.out) 7 _ rfl
  have p8 := bl_cell (R2_6.out) 8 _ rfl
  go_wp2_with fail
  refine (KS.out _ PD2_6.out).mono ?_
  rintro e Y1 ⟨rfl, kv⟩
  clear p0 p1 p2 p3 p4 p5 p6 p7 p8
  have K_7 : Hid (Kp w Y1) := K_6.out.trans kv
  have Z_7 : Hid ((∃ mz, Y1.cell? ⟨0, 0, none⟩ = some (.int .i64 mz))) := cell0 Z_6.out kv
  have PD2_7 : Hid (Pd Y1 rx0 k2 mn2 mx2 mm2 t2 ad2 l2 c2) := PD2_6.out.kp kv
  have R2_7 : Hid (Y1.heap[V4.heap.size]? = some (rxo k2 mn2 mx2 mm2 t2 (.slice ad2 l2 c2))) := bl_kp R2_6.out kv
  clear K_6 Z_6 PD2_6 R2_6
  clear kv
  go_wp2_with fail
  refine (runs_any _ Z_7.out).mono ?_
  rintro e Y2 ⟨rfl, kv⟩
  have K_8 : Hid (Kp w Y2) := K_7.out.trans kv
  have Z_8 : Hid ((∃ mz, Y2.cell? ⟨0, 0, none⟩ = some (.int .i64 mz))) := cell0 Z_7.out kv
  have PD2_8 : Hid (Pd Y2 rx0 k2 mn2 mx2 mm2 t2 ad2 l2 c2) := PD2_7.out.kp kv
  have R2_8 : Hid (Y2.heap[V4.heap.size]? = some (rxo k2 mn2 mx2 mm2 t2 (.slice ad2 l2 c2))) := bl_kp R2_7.out kv
  clear K_7 Z_7 PD2_7 R2_7
  clear kv
  go_wp2_with fail
  go_ret
  exact ⟨rfl, K_8.out⟩
 ·
  have p0 := bl_cell (R2_6.out) 0 _ rfl
  have p1 := bl_cell (R2_6.out) 1 _ rfl
  have p2 := bl_cell (R2_6.out) 2 _ rfl
  have p3 := bl_cell (R2_6.out) 3 _ rfl
  have p4 := bl_cell (R2_6.out) 4 _ rfl
  have p5 := bl_cell (R2_6.out) 5 _ rfl
  have p6 := bl_cell (R2_6.out) 6 _ rfl
  have p7 := bl_cell (R2_6.out) 7 _ rfl
  have p8 := bl_cell (R2_6.out) 8 _ rfl
  go_wp2_with fail
  refine (KS.out _ PD2_6.out).mono ?_
  rintro e Y1 ⟨rfl, kv⟩
  clear p0 p1 p2 p3 p4 p5 p6 p7 p8
  have K_7 : Hid (Kp w Y1) := K_6.out.trans kv
  have Z_7 : Hid ((∃ mz, Y1.cell? ⟨0, 0, none⟩ = some (.int .i64 mz))) := cell0 Z_6.out kv
  have PD2_7 : Hid (Pd Y1 rx0 k2 mn2 mx2 mm2 t2 ad2 l2 c2) := PD2_6.out.kp kv
  have R2_7 : Hid (Y1.heap[V4.heap.size]? = some (rxo k2 mn2 mx2 mm2 t2 (.slice ad2 l2 c2))) := bl_kp R2_6.out kv
  clear K_6 Z_6 PD2_6 R2_6
  clear kv
  go_wp2_with fail
  refine (runs_any _ Z_7.out).mono ?_
  rintro e Y2 ⟨rfl, kv⟩
  have K_8 : Hid (Kp w Y2) := K_7.out.trans kv
  have Z_8 : Hid ((∃ mz, Y2.cell? ⟨0, 0, none⟩ = some (.int .i64 mz))) := cell0 Z_7.out kv
  have PD2_8 : Hid (Pd Y2 rx0 k2 mn2 mx2 mm2 t2 ad2 l2 c2) := PD2_7.out.kp kv
  have R2_8 : Hid (Y2.heap[V4.heap.size]? = some (rxo k2 mn2 mx2 mm2 t2 (.slice ad2 l2 c2))) := bl_kp R2_7.out kv
  clear K_7 Z_7 PD2_7 R2_7
  clear kv
  go_wp2_with fail
  go_ret
  exact ⟨rfl, K_8.out⟩
 ·
  have p0 := bl_cell (R2_6.out) 0 _ rfl
  have p1 := bl_cell (R2_6.out) 1 _ rfl
  have p2 := bl_cell (R2_6.out) 2 _ rfl
  have p3 := bl_cell (R2_6.out) 3 _ rfl
  have p4 := bl_cell (R2_6.out) 4 _ rfl
  have p5 := bl_cell (R2_6.out) 5 _ rfl
  have p6 := bl_cell (R2_6.out) 6 _ rfl
  have p7 := bl_cell (R2_6.out) 7 _ rfl
  have p8 := bl_cell (R2_6.out) 8 _ rfl
  go_wp2_with fail
  refine (KS.out _ PD2_6.out).mono ?_
  rintro e Y1 ⟨rfl, kv⟩
  clear p0 p1 p2 p3 p4 p5 p6 p7 p8
  have K_7 : Hid (Kp w Y1) := K_6.out.trans kv
  have Z_7 : Hid ((∃ mz, Y1.cell? ⟨0, 0, none⟩ = some (.int .i64 mz))) := cell0 Z_6.out kv
  have PD2_7 : Hid (Pd Y1 rx0 k2 mn2 mx2 mm2 t2 ad2 l2 c2) := PD2_6.out.kp kv
  have R2_7 : Hid (Y1.heap[V4.heap.size]? = some (rxo k2 mn2 mx2 mm2 t2 (.slice ad2 l2 c2))) := bl_kp R2_6.out kv
  clear K_6 Z_6 PD2_6 R2_6
  clear kv
  go_wp2_with fail
  refine (runs_any _ Z_7.out).mono ?_
  rintro e Y2 ⟨rfl, kv⟩
  have K_8 : Hid (Kp w Y2) := K_7.out.trans kv
  have Z_8 : Hid ((∃ mz, Y2.cell? ⟨0, 0, none⟩ = some (.int .i64 mz))) := cell0 Z_7.out kv
  have PD2_8 : Hid (Pd Y2 rx0 k2 mn2 mx2 mm2 t2 ad2 l2 c2) := PD2_7.out.kp kv
  have R2_8 : Hid (Y2.heap[V4.heap.size]? = some (rxo k2 mn2 mx2 mm2 t2 (.slice ad2 l2 c2))) := bl_kp R2_7.out kv
  clear K_7 Z_7 PD2_7 R2_7
  clear kv
  go_wp2_with fail
  go_ret
  exact ⟨rfl, K_8.out⟩
end Go.Proofs.YtikmgckefbjbkaaGreatDoor

/-! ### OpenKeep -/

namespace Go.Proofs.YtikmgckefbjbkaaGreatDoor
open Go.ChangeShapes Go.WideShapes Go.ChangeAt Go.RowKit

theorem cells36 : Tryz.prog.cellsOf 36 = 2 := by kernel_rfl
theorem cellsNums : Tryz.prog.cellsOf 34 = 1 := by kernel_rfl
theorem list2 {α : Type} (l : List α) (h : (⟨l⟩ : Array α).size = 2) : ∃ a b, l = [a, b] := by
 match l, h with
 | [a, b], _ => exact ⟨a, b, rfl⟩
theorem open_nums {H : Type} {enc : TypeId × Value → H} {W : World} {n : Nat} {c : Value} {y : DataW H × List MemPlace}
  (h : DataW.trod enc Tryz.prog W 0 (fun _ => true) true n 34 [c] = some y) : ∃ a l k, c = .slice a l k ∧ Nums W W.heap.size a l := by
 rcases open_ints Tryz.underlying34 Tryz.underlying3 (by kernel_rfl) h with ⟨hcs, _⟩ | ⟨x, l, k, zs, hcs, _, hl, _, hz, _, hcell, _⟩
 ·
  injection hcs with hcs
  exact ⟨none, 0, 0, hcs, ⟨fun h => absurd h (by omega)⟩⟩
 ·
  injection hcs with hcs
  refine ⟨some x, l, k, hcs, ⟨fun h0 => ?_⟩⟩
  have hz : zs.length = k := by simpa using hz
  obtain ⟨b, off, rfl, hc⟩ := ints_at hcell (by omega)
  exact ⟨b, off, rfl, World.block_lt_of_cell? W _ (hc 0 (by omega)), fun i hi => ⟨_, hc i (by omega)⟩⟩
set_option maxRecDepth 100000 in
theorem open_keep {H : Type} {enc : TypeId × Value → H} {W : World} {base : Nat} {v : Value} {d : DataW H} {ps : List MemPlace}
  (hv : Value.okWide Tryz.prog W .any base 36 v) (h : DataW.Trod enc Tryz.prog W 0 (fun _ => true) true 36 v d ps) : ∃ aK lK cK aN lN cN, v = .agg #[.slice aK lK cK, .slice aN lN cN] ∧ Nums W W.heap.size aK lK ∧ Nums W W.heap.size aN lN := by
 obtain ⟨cs, rfl, hsz⟩ := okWide_struct Tryz.underlying36 hv
 rw [cells36] at hsz
 obtain ⟨l⟩ := cs
 obtain ⟨c0, c1, rfl⟩ := list2 l hsz
 obtain ⟨fuel, hf⟩ := h
 obtain ⟨y0, y1, m, _, _, h0, h1⟩ := trod_struct2 Tryz.underlying36 hf
 simp [Value.cells, cellsNums] at h0 h1
 obtain ⟨aK, lK, cK, rfl, nk⟩ := open_nums h0
 obtain ⟨aN, lN, cN, rfl, nn⟩ := open_nums h1
 exact ⟨aK, lK, cK, aN, lN, cN, rfl, nk, nn⟩
end Go.Proofs.YtikmgckefbjbkaaGreatDoor

/-! ### Wrap -/

namespace Go.Proofs.YtikmgckefbjbkaaGreatDoor
open Go.ChangeShapes Go.WideShapes Go.ChangeAt Go.RowKit

theorem and_shaped {H : Type} {enc : TypeId × Value → H} {a : Assume} {C : Checked} {os : Go.Os} {f : FuncId} {fn : Func} {s : ChangeSpec} {conds : List PathCond} {apart fresh handsOn again : Bool} {X : World → Array Value → Prop}
  (hX : ∀ (w w' : World) (args : Array Value), w.heap = w'.heap → X w args → X w' args)
  (own : ownKnob C.prog.godebug = none) (started : os.Started) (noInit : C.prog.inits.idxOf? f = none) (hfn : C.prog.funcs[f]? = some fn)
  (witness : ∃ (w : World) (tape : Tape) (i : Input), w.os = os ∧ (w.forCall tape i).Shaped C.prog ∧ i.vars = [] ∧ Input.okWide C.prog (w.forCall tape i) .any w.heap.size f i ∧
   ((s.pre enc C.prog fn conds apart (w.forCall tape i).memory i.args ∧ X (w.forCall tape i).memory i.args) ∧ sizedMet enc C.prog fn (OpenSpec.ofChange s) apart (w.forCall tape i).memory i.args) ∧ a.holds C.prog (lone (Frame.enter C.prog f i.args .normal) [] (w.forCall tape i)))
  (contract : ∀ (W : World) (base : Nat) (args : Array Value) (ds gs : List (DataW H)) (before : List MemPlace),
   (∀ (j : Nat) t v, fn.params[j]? = some t → args[j]? = some v → Value.okWide C.prog W .any base t v) →
   DataW.Whole enc C.prog fn.params.toList s.vars apart W args.toList ds gs before →
   conds.all (PathCond.test C.prog ⟨fn.params.toList, ds, s.plain.varTypes C.prog, gs⟩) = true →
   (DataW.weightsEach C.prog (fn.params.toList ++ s.plain.varTypes C.prog) (ds ++ gs)).all (· ≤ reachBytes) = true → X W args → W.ShapedOpen C.prog →
   Calls C.prog f args W fun e W' => ∃ v, e = .returned v ∧ s.post enc C.prog fn apart fresh handsOn again W args v W') :
  ReturnsInHanded a C os f .any (fun w args => (s.pre enc C.prog fn conds apart w args ∧ X w args) ∧ sizedMet enc C.prog fn (OpenSpec.ofChange s) apart w args) (s.post enc C.prog fn apart fresh handsOn again) := by
 refine returnsInHanded_of_calls own started noInit witness ?_
 intro w tape i _ hsh _ hok hpre hholds
 obtain ⟨_, _, _, fn', hfn', _, _, _, _, hval⟩ := hok
 have e : fn' = fn := Option.some.inj (hfn'.symm.trans hfn)
 subst e
 obtain ⟨⟨⟨ds, gs, before, hw, hc⟩, hx⟩, hz⟩ := hpre
 have hw' := DataW.Whole.of_heap (w' := w.forCall tape i) (by rfl) hw
 refine (contract (w.forCall tape i) w.heap.size i.args ds gs before hval hw' hc (hz.weights hw) (hX _ _ _ (by rfl) hx) hsh).mono fun e W' ⟨v, he, hp⟩ => ?_
 subst he
 exact ChangeSpec.post_blind hp

theorem own : ownKnob Tryz.prog.godebug = none := by kernel_rfl

/-- What every row of this seat lists. -/
abbrev laid3 : List (String × DataW Unit) := [("math/bits.deBruijn32tab", Rows.laid_math_bits_deBruijn32tab), ("math/bits.deBruijn64tab", Rows.laid_math_bits_deBruijn64tab), ("internal/strconv.uint64pow10", Rows.laid_internal_strconv_uint64pow10)]

/-- The door's own heap meets the condition. -/
theorem door_met (os : Go.Os) (args : Array Value) : laidMetH Tryz.prog laid3 ((World.doorLaid Tryz.prog 24 os).forCall (fun _ _ => 0) ⟨#[], args, []⟩).memory :=
 laidMetH_of_parts3 (fuel := 8) (laidMet_of_run' 8 (by kernel_rfl) (by kernel_rfl)) (by kernel_rfl) (by kernel_rfl)

/-- MaxLen holds a number. -/
theorem maxLen {W : World} (h : W.ShapedOpen Tryz.prog) : ∃ m, W.cell? ⟨0, 0, none⟩ = some (.int .i64 m) :=
 cell_of_shapedOpen_int (P := Tryz.prog) (g := 0) (t := 3) (zero := #[.int .i64 0]) h (of_decide_eq_true (by kernel_rfl)) (by kernel_rfl) rfl (by kernel_rfl) (by kernel_rfl) Tryz.underlying3
end Go.Proofs.YtikmgckefbjbkaaGreatDoor

/-! ### RxOnlyProof -/

namespace Go.Proofs.YtikmgckefbjbkaaGreatDoor.rxOnly
open Go.ChangeShapes Go.WideShapes Go.ChangeAt Go.RowKit
open Go.ChangeMaps (open_string shut_string)
set_option linter.unusedVariables false

theorem laidOut : laidOutB Tryz.prog = true := by kernel_rfl
set_option maxRecDepth 100000 in
theorem lifted (os : Go.Os) (started : os.Started) (H : Type) (enc : TypeId × Value → H) :
  ReturnsInHanded {} Tryz.checked os 6 .any (fun w args => (Rows.rxOnlySpec.pre enc Tryz.prog Tryz.f6 [] false w args ∧ laidMetH Tryz.prog laid3 w) ∧ sizedMet enc Tryz.prog Tryz.f6 (OpenSpec.ofChange Rows.rxOnlySpec) false w args)
   (Rows.rxOnlySpec.post enc Tryz.prog Tryz.f6 false true false false) := by
 refine and_shaped (C := Tryz.checked) (X := fun w _ => laidMetH Tryz.prog laid3 w) (fun _ _ _ hh h => h.of_heap hh) own started (by kernel_rfl) Tryz.func6
  (ChangeSpec.witness_shaped (enc := enc) (C := Tryz.checked) (os := os) (X := fun w _ => laidMetH Tryz.prog laid3 w) false (World.doorLaid Tryz.prog 24 os) #[.agg #[.slice none 0 0, .slice none 0 0], .string ⟨#[]⟩, .int .i64 0, .int .u8 0, .int .i64 0, .bool false] 8 rfl (World.shaped_of_RefB (by kernel_rfl) (by kernel_rfl)) (by kernel_rfl) (by kernel_rfl) (by kernel_rfl) (door_met os _)) ?_
 intro W base args ds gs before hval0 hW _ _ hL hsh
 have hval : ∀ (j : Nat) t v, Tryz.f6.params[j]? = some t → args[j]? = some v → Value.okWide Tryz.prog W .any base t v := hval0
 have hW' := hW
 obtain ⟨p, q, hA0, hV, rfl, hfz, hnd⟩ := hW
 have hA : DataW.TrodAll enc Tryz.prog W 0 (fun _ => true) true Tryz.f6.params.toList args.toList ds p := hA0
 rw [Tryz.params6] at hA hval
 obtain ⟨v0, vs0, d0, ds0, p0, q0, hargs, rfl, rfl, h0, r0⟩ := trodAll_cons hA
 obtain ⟨v1, vs1, d1, ds1, p1, q1, rfl, rfl, rfl, h1, r1⟩ := trodAll_cons r0
 obtain ⟨v2, vs2, d2, ds2, p2, q2, rfl, rfl, rfl, h2, r2⟩ := trodAll_cons r1
 obtain ⟨v3, vs3, d3, ds3, p3, q3, rfl, rfl, rfl, h3, r3⟩ := trodAll_cons r2
 obtain ⟨v4, vs4, d4, ds4, p4, q4, rfl, rfl, rfl, h4, r4⟩ := trodAll_cons r3
 obtain ⟨v5, vs5, d5, ds5, p5, q5, rfl, rfl, rfl, h5, r5⟩ := trodAll_cons r4
 obtain ⟨rfl, rfl, rfl⟩ := trodAll_nil r5
 obtain rfl : args = #[v0, v1, v2, v3, v4, v5] := by cases args; simp_all
 obtain ⟨rfl, rfl⟩ := trodVars_none hV
 have k0 := h0
 have lt0 : ∀ x ∈ p0, x.block < W.heap.size := by obtain ⟨m, hm⟩ := k0; exact DataW.trod_lt m _ _ _ hm
 obtain ⟨aK0, lK0, cK0, aN0, lN0, cN0, rfl, nk0, nn0⟩ := open_keep (hval 0 36 v0 rfl rfl) k0
 obtain ⟨a1, rfl, rfl, rfl, w1⟩ := open_string Tryz.underlying9 (hval 1 9 v1 rfl rfl) h1
 obtain ⟨a2, rfl, rfl, rfl, w2⟩ := open_int Tryz.underlying3 (hval 2 3 v2 rfl rfl) h2
 obtain ⟨a3, rfl, rfl, rfl, w3⟩ := open_int Tryz.underlying5 (hval 3 5 v3 rfl rfl) h3
 obtain ⟨x3, hx3, hxx3⟩ : ∃ x : Nat, a3 = (x : Int) ∧ x < 256 := by
  obtain ⟨h1, h2⟩ := bounds_u8 w3
  exact ⟨a3.toNat, by omega, by omega⟩
 subst hx3
 obtain ⟨a4, rfl, rfl, rfl, w4⟩ := open_int Tryz.underlying3 (hval 4 3 v4 rfl rfl) h4
 obtain ⟨a5, rfl, rfl, rfl⟩ := open_bool Tryz.underlying4 (hval 5 4 v5 rfl rfl) h5
 clear hA0 hval0
 refine (lawOnly_any aK0 lK0 cK0 aN0 lN0 cN0 a1 a2 x3 hxx3 a4 a5 W nk0 nn0 (maxLen hsh)).mono fun e W' ⟨he, bel⟩ => ?_
 subst he
 exact ⟨_, rfl, _, _, _, [], _, [], hW', trodAll_mk1 (shut_bool Tryz.underlying4 _), (trodAll_cons_mk (Below.trod laidOut (by kernel_rfl) (of_decide_eq_true (by kernel_rfl)) k0 bel lt0) (trodAll_cons_mk (shut_string Tryz.underlying9 w1) (trodAll_cons_mk (shut_int Tryz.underlying3 w2) (trodAll_cons_mk (shut_int Tryz.underlying5 w3) (trodAll_cons_mk (shut_int Tryz.underlying3 w4) (trodAll_cons_mk (shut_bool Tryz.underlying4 a5) trodAll_mk0)))))), rfl, Below.frame bel _, fun h => by cases h⟩

theorem over : Rows.rxOnlyRow.holds Tryz.pinned (OpenSpec.ofChange Rows.rxOnlySpec) :=
 OpenClaim.holds_of_wide 6 Tryz.f6 rfl rfl rfl rfl rfl rfl rfl ⟨rfl, rfl, rfl, rfl, rfl⟩ rfl rfl rfl rfl rfl (by kernel_rfl) Tryz.func6 (by kernel_rfl)
  (of_decide_eq_true (by kernel_rfl)) (by unfold Func.isWrapper; first | (rw [if_pos (by decide +kernel)]; kernel_rfl) | (rw [if_neg (by decide +kernel)]; exact ⟨rfl, rfl⟩))
  (fun os started H enc _ => lifted os started H enc)

theorem carded : Rows.RxOnlyCardSaid :=
 Claim7.holds_tied_plain_at .later [] [.data, .data, .data] true (true, "b0fe336dcdce6718dfc6eec349fd5cdbe898f712e022f33c787b29cefe3acb2a") false
  over (fun _ h => by cases h) (by kernel_rfl) (fun _ h => by cases h) rxOnly_row_tie rfl ⟨rfl, rfl⟩ (by kernel_rfl) rfl
  (fun f fn hf hfn => by
   obtain rfl : f = 6 := Option.some.inj ((show Tryz.prog.funcNamed "gloss/glosslaw4.RxOnly" = some 6 by kernel_rfl).symm.trans hf) |>.symm
   obtain rfl : fn = Tryz.f6 := (Option.some.inj (Tryz.func6.symm.trans hfn)).symm
   exact ⟨by kernel_rfl, fun j t ht => by
    rw [Tryz.params6] at ht
    have hm : t ∈ [36, 9, 3, 5, 3, 4] := by simpa using Array.mem_of_getElem? ht
    have hall : ([36, 9, 3, 5, 3, 4].all fun u => !Tryz.prog.wantsStandIn u) = true := by kernel_rfl
    exact (show Tryz.prog.wantsStandIn t = false by simpa using List.all_eq_true.1 hall t hm)⟩)
  (by kernel_rfl)

end Go.Proofs.YtikmgckefbjbkaaGreatDoor.rxOnly
namespace Go.Proofs.YtikmgckefbjbkaaGreatDoor

theorem rxOnly_holds : Rows.RxOnlyCardSaid := rxOnly.carded

end Go.Proofs.YtikmgckefbjbkaaGreatDoor
