/-
  Texts of this claim: KSame, SameEq, Count2.
-/
import Derived.Test.YtommgdgilcemdaaGreatDoorCmdRM17
import Derived.Test.YtommgdgilcemdaaGreatDoorCmdRM22

/-! ### KSame -/

namespace Go.Proofs.YtommgdgilcemdaaGreatDoor
open Go.RowKit

structure KSameSaid (a : Rx) : Prop where
 all : ∀ (b : Rx) (va vb : Value) (w : World) (ok ok' : Nat → Prop), Is w ok a va → Is w ok' b vb → Calls Tryz.prog 53 #[va, vb] w fun e w' => e = .returned (.bool (sameR a b)) ∧ Kp w w'
theorem sameL_ne : ∀ (a b : List Rx), a.length ≠ b.length → sameL a b = false
 | [], [], h => absurd rfl h
 | [], _ :: _, _ => by simp [sameL]
 | _ :: _, [], _ => by simp [sameL]
 | x :: a, y :: b, h => by
  rw [sameL, sameL_ne a b (fun e => h (by simp [e])), Bool.and_false]
theorem sameL_end (a b : List Rx) (q : Nat) (ha : a.length ≤ q) (hb : b.length ≤ q) : sameL (a.drop q) (b.drop q) = true := by
 rw [List.drop_eq_nil_of_le ha, List.drop_eq_nil_of_le hb, sameL]
theorem sameL_at (a b : List Rx) (q : Nat) (x y : Rx) (ha : a[q]? = some x) (hb : b[q]? = some y) : sameL (a.drop q) (b.drop q) = (sameR x y && sameL (a.drop (q + 1)) (b.drop (q + 1))) := by
 obtain ⟨h1, e1⟩ := List.getElem?_eq_some_iff.1 ha
 obtain ⟨h2, e2⟩ := List.getElem?_eq_some_iff.1 hb
 rw [List.drop_eq_getElem_cons h1, List.drop_eq_getElem_cons h2, e1, e2, sameL]

set_option maxHeartbeats 2000000 in
set_option maxRecDepth 100000 in
theorem ksame_step (k mn mx n : Int) (s : W4) (kids : List Rx) (H : ∀ a, a ∈ kids → KSameSaid a) (hl : kids.length ≤ 1000000) : KSameSaid (.mk k mn mx n s kids) := by
 refine ⟨fun b va vb w ok ok' hia hib => ?_⟩
 cases b with
 | mk k' mn' mx' n' s' kids' =>
  obtain ⟨ad, l, c, rfl, ra⟩ := hia.row
  obtain ⟨ad', l', c', rfl, rb⟩ := hib.row
  have la := hid ra.ln
  have lb := hid rb.ln
  have hca := ra.cp
  have hcb := rb.cp
  have hll : l ≤ 1000000 := by rw [la.out]; exact hl
  have RA := hid ra
  have RB := hid rb
  have HH := hid H
  clear ra rb hia hib H hl
  have e0 : Hid (sameR (.mk k mn mx n s kids) (.mk k' mn' mx' n' s' kids') = (k == k' && mn == mn' && mx == mx' && n == n' && s == s' && sameL kids kids')) := by show _ = _; rw [sameR]
  have es : ∀ w, (Op.equalIn 10000 24 (.agg #[.int .u64 (s.a : Int), .int .u64 (s.b : Int), .int .u64 (s.c : Int), .int .u64 (s.d : Int)]) (.agg #[.int .u64 (s'.a : Int), .int .u64 (s'.b : Int), .int .u64 (s'.c : Int), .int .u64 (s'.d : Int)])).run Tryz.prog w = .ok (s == s') w := fun w => by rw [w4_eq]; exact eq_vv _ _ _ _ _ _ _ _ w
  obtain ⟨q5, hq5⟩ : ∃ q, (s == s') = q := ⟨_, rfl⟩
  rw [hq5] at es e0
  clear hq5
  obtain ⟨Z, hZ⟩ : ∃ Z, sameR (.mk k mn mx n s kids) (.mk k' mn' mx' n' s' kids') = Z := ⟨_, rfl⟩
  rw [hZ] at e0 ⊢
  clear hZ
  go_enter Tryz.func53, Tryz.ntmps53
  go_upto_region 1 with fail
  refine opq (fun W => W.heap[w.heap.size]? = some (rxo k mn mx n s (.slice ad l c)) ∧ W.heap[w.heap.size + 1]? = some (rxo k' mn' mx' n' s' (.slice ad' l' c')) ∧ Kp w W) ⟨by exact bl_alloc (last_of _ _) _, by exact last_at _ _ _ (by simp), by exact ((Kp.refl _).alloc _).alloc _⟩ ?_
  rintro W0 ⟨y1, y2, y3⟩
  have A := hid y1
  have B := hid y2
  have K := hid y3
  clear y1 y2 y3
  have a0 := bl_cell (A.out) 0 _ rfl
  have a1 := bl_cell (A.out) 1 _ rfl
  have a2 := bl_cell (A.out) 2 _ rfl
  have a3 := bl_cell (A.out) 3 _ rfl
  have a4 := bl_cell (A.out) 4 _ rfl
  have a5 := bl_cell (A.out) 5 _ rfl
  have a6 := bl_cell (A.out) 6 _ rfl
  have a7 := bl_cell (A.out) 7 _ rfl
  have a8 := bl_cell (A.out) 8 _ rfl
  have b0 := bl_cell (B.out) 0 _ rfl
  have b1 := bl_cell (B.out) 1 _ rfl
  have b2 := bl_cell (B.out) 2 _ rfl
  have b3 := bl_cell (B.out) 3 _ rfl
  have b4 := bl_cell (B.out) 4 _ rfl
  have b5 := bl_cell (B.out) 5 _ rfl
  have b6 := bl_cell (B.out) 6 _ rfl
  have b7 := bl_cell (B.out) 7 _ rfl
  have b8 := bl_cell (B.out) 8 _ rfl
  cases h1 : (k == k') with
  | false =>
   have E : Hid (Z = false) := by show _ = _; rw [e0.out]; simp [h1]
   have m1 : (k != k') = true := by simp [bne, h1]
   go_wp2
   go_ret
   exact ⟨ret_bool E.out.symm, K.out⟩
  | true =>
  have m1 : (k != k') = false := by simp [bne, h1]
  cases h2 : (mn == mn') with
  | false =>
   have E : Hid (Z = false) := by show _ = _; rw [e0.out]; simp [h2]
   have m2 : (mn != mn') = true := by simp [bne, h2]
   go_wp2
   go_ret
   exact ⟨ret_bool E.out.symm, K.out⟩
  | true =>
  have m2 : (mn != mn') = false := by simp [bne, h2]
  cases h3 : (mx == mx') with
  | false =>
   have E : Hid (Z = false) := by show _ = _; rw [e0.out]; simp [h3]
   have m3 : (mx != mx') = true := by simp [bne, h3]
   go_wp2
   go_ret
   exact ⟨ret_bool E.out.symm, K.out⟩
  | true =>
  have m3 : (mx != mx') = false := by simp [bne, h3]
  cases h4 : (n == n') with
  | false =>
   have E : Hid (Z = false) := by show _ = _; rw [e0.out]; simp [h4]
   have m4 : (n != n') = true := by simp [bne, h4]
   go_wp2
   go_ret
   exact ⟨ret_bool E.out.symm, K.out⟩
  | true =>
  have m4 : (n != n') = false := by simp [bne, h4]
  cases q5 with
  | false =>
   have E : Hid (Z = false) := by show _ = _; rw [e0.out]; simp
   go_wp2
   go_ret
   exact ⟨ret_bool E.out.symm, K.out⟩
  | true =>
  by_cases hlen : l = l'
  case neg =>
   have E : Hid (Z = false) := by show _ = _; rw [e0.out, sameL_ne kids kids' (by rw [← la.out, ← lb.out]; exact hlen)]; simp
   have m6 : ((l : Int) != (l' : Int)) = true := by simp [bne]; omega
   go_wp2
   go_ret
   exact ⟨ret_bool E.out.symm, K.out⟩
  subst hlen
  have E : Hid (Z = sameL kids kids') := by show _ = _; rw [e0.out, h1, h2, h3, h4]; rfl
  have L1 := hid la.out
  clear e0 la
  go_wp2_with fail
  clear h1 h2 h3 h4 m1 m2 m3 m4 es
  clear a0 a1 a2 a3 a4 a5 a6 a7 a8 b0 b1 b2 b3 b4 b5 b6 b7 b8
  go_loopg [51] l (fun gg i wr => ∃ q : Nat, q + gg = l ∧ i = .int .i64 (q : Int) ∧ sameL kids kids' = sameL (kids.drop q) (kids'.drop q) ∧ Kp W0 wr)
  case atStart => exact ⟨0, by omega, rfl, rfl, Kp.refl _⟩
  case round =>
   obtain ⟨q, hq, rfl, hS, hK⟩ := hrel
   have S := hid hS
   have K1 := hid hK
   have A1 := hid (bl_kp A.out hK)
   have B1 := hid (bl_kp B.out hK)
   clear hS hK
   by_cases hlt : q < l
   ·
    have gkw : IntKind.i64.wrap ((q : Int) + 1) = (q : Int) + 1 := by rw [IntKind.wrap_i64]; omega
    have ga : (q : Int) < (l : Int) := by omega
    have g0 : (0 : Int) ≤ (q : Int) := by omega
    obtain ⟨r, hr⟩ : ∃ r, kids[q]? = some r := ⟨_, List.getElem?_eq_getElem (by rw [← L1.out]; exact hlt)⟩
    obtain ⟨r', hr'⟩ : ∃ r, kids'[q]? = some r := ⟨_, List.getElem?_eq_getElem (by rw [← lb.out]; exact hlt)⟩
    have S1 := hid (S.out.trans (sameL_at kids kids' q r r' hr hr'))
    have TS := hid (HH.out r (List.mem_of_getElem? hr))
    obtain ⟨bb, oo, kk, pn, px, pm, pt, pad, pl, pc, e1, hbb, i1, ce1⟩ := (RA.out.kp (K.out.trans K1.out)).at q r hr
    obtain ⟨bb', oo', kk', pn', px', pm', pt', pad', pl', pc', e1', hbb', i1', ce1'⟩ := (RB.out.kp (K.out.trans K1.out)).at q r' hr'
    subst e1
    subst e1'
    have I1 := hid i1
    have I2 := hid i1'
    have C1 := hid ce1
    have C2 := hid ce1'
    clear hr hr' i1 i1' ce1 ce1' S
    obtain ⟨z, hz⟩ : ∃ z, sameR r r' = z := ⟨_, rfl⟩
    rw [hz] at S1
    have HZ := hid hz
    clear hz
    go_upto_region 6 with fail
    have Q0 : Kp wr wr.drew := (Kp.refl _).drew
    have MK : Hid (∀ W, Kp wr W → W.cell? ⟨w.heap.size, 8, none⟩ = some (.slice (some ⟨bb, oo, none⟩) l c) ∧ W.cell? ⟨(w.heap.size + 1), 8, none⟩ = some (.slice (some ⟨bb', oo', none⟩) l c') ∧ W.cell? ⟨bb, (oo + q * 9), none⟩ = some (.int .i64 kk) ∧ W.cell? ⟨bb, (oo + q * 9 + 1), none⟩ = some (.int .i64 pn) ∧ W.cell? ⟨bb, (oo + q * 9 + 2), none⟩ = some (.int .i64 px) ∧ W.cell? ⟨bb, (oo + q * 9 + 3), none⟩ = some (.int .i64 pm) ∧ W.cell? ⟨bb, (oo + q * 9 + 4), none⟩ = some (Value.int .u64 (pt.a : Int)) ∧ W.cell? ⟨bb, (oo + q * 9 + 5), none⟩ = some (Value.int .u64 (pt.b : Int)) ∧ W.cell? ⟨bb, (oo + q * 9 + 6), none⟩ = some (Value.int .u64 (pt.c : Int)) ∧ W.cell? ⟨bb, (oo + q * 9 + 7), none⟩ = some (Value.int .u64 (pt.d : Int)) ∧ W.cell? ⟨bb, (oo + q * 9 + 8), none⟩ = some (Value.slice pad pl pc) ∧ W.cell? ⟨bb', (oo' + q * 9), none⟩ = some (.int .i64 kk') ∧ W.cell? ⟨bb', (oo' + q * 9 + 1), none⟩ = some (.int .i64 pn') ∧ W.cell? ⟨bb', (oo' + q * 9 + 2), none⟩ = some (.int .i64 px') ∧ W.cell? ⟨bb', (oo' + q * 9 + 3), none⟩ = some (.int .i64 pm') ∧ W.cell? ⟨bb', (oo' + q * 9 + 4), none⟩ = some (Value.int .u64 (pt'.a : Int)) ∧ W.cell? ⟨bb', (oo' + q * 9 + 5), none⟩ = some (Value.int .u64 (pt'.b : Int)) ∧ W.cell? ⟨bb', (oo' + q * 9 + 6), none⟩ = some (Value.int .u64 (pt'.c : Int)) ∧ W.cell? ⟨bb', (oo' + q * 9 + 7), none⟩ = some (Value.int .u64 (pt'.d : Int)) ∧ W.cell? ⟨bb', (oo' + q * 9 + 8), none⟩ = some (Value.slice pad' pl' pc') ∧ Hid (Kp wr W)) := fun W k => ⟨bl_cell (bl_kp A1.out k) 8 _ rfl, bl_cell (bl_kp B1.out k) 8 _ rfl, (cells_of_is (C1.out.turn (k.block _ hbb))).1, (cells_of_is (C1.out.turn (k.block _ hbb))).2.1, (cells_of_is (C1.out.turn (k.block _ hbb))).2.2.1, (cells_of_is (C1.out.turn (k.block _ hbb))).2.2.2.1, (cells_of_is (C1.out.turn (k.block _ hbb))).2.2.2.2.1, (cells_of_is (C1.out.turn (k.block _ hbb))).2.2.2.2.2.1, (cells_of_is (C1.out.turn (k.block _ hbb))).2.2.2.2.2.2.1, (cells_of_is (C1.out.turn (k.block _ hbb))).2.2.2.2.2.2.2.1, (cells_of_is (C1.out.turn (k.block _ hbb))).2.2.2.2.2.2.2.2, (cells_of_is (C2.out.turn (k.block _ hbb'))).1, (cells_of_is (C2.out.turn (k.block _ hbb'))).2.1, (cells_of_is (C2.out.turn (k.block _ hbb'))).2.2.1, (cells_of_is (C2.out.turn (k.block _ hbb'))).2.2.2.1, (cells_of_is (C2.out.turn (k.block _ hbb'))).2.2.2.2.1, (cells_of_is (C2.out.turn (k.block _ hbb'))).2.2.2.2.2.1, (cells_of_is (C2.out.turn (k.block _ hbb'))).2.2.2.2.2.2.1, (cells_of_is (C2.out.turn (k.block _ hbb'))).2.2.2.2.2.2.2.1, (cells_of_is (C2.out.turn (k.block _ hbb'))).2.2.2.2.2.2.2.2, k⟩
    refine wp_region_noPanic ?_
    refine wp_region_held_drew (S := (fun W => W.cell? ⟨w.heap.size, 8, none⟩ = some (.slice (some ⟨bb, oo, none⟩) l c) ∧ W.cell? ⟨(w.heap.size + 1), 8, none⟩ = some (.slice (some ⟨bb', oo', none⟩) l c') ∧ W.cell? ⟨bb, (oo + q * 9), none⟩ = some (.int .i64 kk) ∧ W.cell? ⟨bb, (oo + q * 9 + 1), none⟩ = some (.int .i64 pn) ∧ W.cell? ⟨bb, (oo + q * 9 + 2), none⟩ = some (.int .i64 px) ∧ W.cell? ⟨bb, (oo + q * 9 + 3), none⟩ = some (.int .i64 pm) ∧ W.cell? ⟨bb, (oo + q * 9 + 4), none⟩ = some (Value.int .u64 (pt.a : Int)) ∧ W.cell? ⟨bb, (oo + q * 9 + 5), none⟩ = some (Value.int .u64 (pt.b : Int)) ∧ W.cell? ⟨bb, (oo + q * 9 + 6), none⟩ = some (Value.int .u64 (pt.c : Int)) ∧ W.cell? ⟨bb, (oo + q * 9 + 7), none⟩ = some (Value.int .u64 (pt.d : Int)) ∧ W.cell? ⟨bb, (oo + q * 9 + 8), none⟩ = some (Value.slice pad pl pc) ∧ W.cell? ⟨bb', (oo' + q * 9), none⟩ = some (.int .i64 kk') ∧ W.cell? ⟨bb', (oo' + q * 9 + 1), none⟩ = some (.int .i64 pn') ∧ W.cell? ⟨bb', (oo' + q * 9 + 2), none⟩ = some (.int .i64 px') ∧ W.cell? ⟨bb', (oo' + q * 9 + 3), none⟩ = some (.int .i64 pm') ∧ W.cell? ⟨bb', (oo' + q * 9 + 4), none⟩ = some (Value.int .u64 (pt'.a : Int)) ∧ W.cell? ⟨bb', (oo' + q * 9 + 5), none⟩ = some (Value.int .u64 (pt'.b : Int)) ∧ W.cell? ⟨bb', (oo' + q * 9 + 6), none⟩ = some (Value.int .u64 (pt'.c : Int)) ∧ W.cell? ⟨bb', (oo' + q * 9 + 7), none⟩ = some (Value.int .u64 (pt'.d : Int)) ∧ W.cell? ⟨bb', (oo' + q * 9 + 8), none⟩ = some (Value.slice pad' pl' pc') ∧ Hid (Kp wr W))) (by kernel_rfl) ?_ (fun hH => ?_)
    ·
     exact MK.out _ Q0
    have KQ := Q0
    refine wpAnyH_take (i := 0) (oi := { dst := some 54, op := Op.fieldAddr 27 (Operand.tmp 2) 5, type := 0, pos := "keep.go:127", after := #[], guard := none }) (v := ?v0a1) rfl (by kernel_rfl) (by kernel_rfl) (by kernel_rfl) (fun _ _ _ h => h) (Or.inl ⟨by rfl, ?hy0a1⟩) hH ?r0a1
    case hy0a1 => (intro W hSw; (try dsimp only at hSw); go_simp; try (with_reducible rfl))
    try simp only [Act.put, List.setIfInBounds_toArray, List.set_cons_zero, List.set_cons_succ]
    refine wpAnyH_take (i := 1) (oi := { dst := some 55, op := Op.load 25 (Operand.tmp 54), type := 25, pos := "keep.go:127", after := #[{ on := 0, ground := Ground.data }], guard := none }) (v := ?v1a2) rfl (by kernel_rfl) (by kernel_rfl) (by kernel_rfl) (fun _ _ _ h => h) (Or.inl ⟨by rfl, ?hy1a2⟩) hH ?r1a2
    case hy1a2 => (intro W hSw; (try dsimp only at hSw); go_simp; try (with_reducible rfl))
    try simp only [Act.put, List.setIfInBounds_toArray, List.set_cons_zero, List.set_cons_succ]
    refine wpAnyH_take (i := 2) (oi := { dst := some 56, op := Op.move (Operand.tmp 5), type := 3, pos := "keep.go:127", after := #[], guard := none }) (v := ?v2a3) rfl (by kernel_rfl) (by kernel_rfl) (by kernel_rfl) (fun _ _ _ h => h) (Or.inl ⟨by rfl, ?hy2a3⟩) hH ?r2a3
    case hy2a3 => (intro W hSw; (try dsimp only at hSw); go_simp; try (with_reducible rfl))
    try simp only [Act.put, List.setIfInBounds_toArray, List.set_cons_zero, List.set_cons_succ]
    refine wpAnyH_take (i := 3) (oi := { dst := some 57, op := Op.indexAddr 25 (Operand.tmp 55) (Operand.tmp 56), type := 0, pos := "keep.go:127", after := #[{ on := 1, ground := Ground.data }, { on := 2, ground := Ground.data }], guard := none }) (v := ?v3a4) rfl (by kernel_rfl) (by kernel_rfl) (by kernel_rfl) (fun _ _ _ h => h) (Or.inl ⟨by rfl, ?hy3a4⟩) hH ?r3a4
    case hy3a4 => (intro W hSw; (try dsimp only at hSw); go_simp; try (with_reducible rfl))
    try simp only [Act.put, List.setIfInBounds_toArray, List.set_cons_zero, List.set_cons_succ]
    refine wpAnyH_take (i := 4) (oi := { dst := some 58, op := Op.load 27 (Operand.tmp 57), type := 27, pos := "keep.go:127", after := #[{ on := 3, ground := Ground.data }], guard := none }) (v := ?v4a5) rfl (by kernel_rfl) (by kernel_rfl) (by kernel_rfl) (fun _ _ _ h => h) (Or.inl ⟨by rfl, ?hy4a5⟩) hH ?r4a5
    case hy4a5 => (intro W hSw; (try dsimp only at hSw); go_simp; try (with_reducible rfl))
    try simp only [Act.put, List.setIfInBounds_toArray, List.set_cons_zero, List.set_cons_succ]
    refine wpAnyH_take (i := 5) (oi := { dst := some 59, op := Op.fieldAddr 27 (Operand.tmp 3) 5, type := 0, pos := "keep.go:127", after := #[], guard := none }) (v := ?v5a6) rfl (by kernel_rfl) (by kernel_rfl) (by kernel_rfl) (fun _ _ _ h => h) (Or.inl ⟨by rfl, ?hy5a6⟩) hH ?r5a6
    case hy5a6 => (intro W hSw; (try dsimp only at hSw); go_simp; try (with_reducible rfl))
    try simp only [Act.put, List.setIfInBounds_toArray, List.set_cons_zero, List.set_cons_succ]
    refine wpAnyH_take (i := 6) (oi := { dst := some 60, op := Op.load 25 (Operand.tmp 59), type := 25, pos := "keep.go:127", after := #[{ on := 5, ground := Ground.data }], guard := none }) (v := ?v6a7) rfl (by kernel_rfl) (by kernel_rfl) (by kernel_rfl) (fun _ _ _ h => h) (Or.inl ⟨by rfl, ?hy6a7⟩) hH ?r6a7
    case hy6a7 => (intro W hSw; (try dsimp only at hSw); go_simp; try (with_reducible rfl))
    try simp only [Act.put, List.setIfInBounds_toArray, List.set_cons_zero, List.set_cons_succ]
    refine wpAnyH_take (i := 7) (oi := { dst := some 61, op := Op.move (Operand.tmp 5), type := 3, pos := "keep.go:127", after := #[], guard := none }) (v := ?v7a8) rfl (by kernel_rfl) (by kernel_rfl) (by kernel_rfl) (fun _ _ _ h => h) (Or.inl ⟨by rfl, ?hy7a8⟩) hH ?r7a8
    case hy7a8 => (intro W hSw; (try dsimp only at hSw); go_simp; try (with_reducible rfl))
    try simp only [Act.put, List.setIfInBounds_toArray, List.set_cons_zero, List.set_cons_succ]
    refine wpAnyH_take (i := 8) (oi := { dst := some 62, op := Op.indexAddr 25 (Operand.tmp 60) (Operand.tmp 61), type := 0, pos := "keep.go:127", after := #[{ on := 6, ground := Ground.data }, { on := 7, ground := Ground.data }], guard := none }) (v := ?v8a9) rfl (by kernel_rfl) (by kernel_rfl) (by kernel_rfl) (fun _ _ _ h => h) (Or.inl ⟨by rfl, ?hy8a9⟩) hH ?r8a9
    case hy8a9 => (intro W hSw; (try dsimp only at hSw); go_simp; try (with_reducible rfl))
    try simp only [Act.put, List.setIfInBounds_toArray, List.set_cons_zero, List.set_cons_succ]
    refine wpAnyH_take (i := 9) (oi := { dst := some 63, op := Op.load 27 (Operand.tmp 62), type := 27, pos := "keep.go:127", after := #[{ on := 8, ground := Ground.data }], guard := none }) (v := ?v9a10) rfl (by kernel_rfl) (by kernel_rfl) (by kernel_rfl) (fun _ _ _ h => h) (Or.inl ⟨by rfl, ?hy9a10⟩) hH ?r9a10
    case hy9a10 => (intro W hSw; (try dsimp only at hSw); go_simp; try (with_reducible rfl))
    try simp only [Act.put, List.setIfInBounds_toArray, List.set_cons_zero, List.set_cons_succ]
    refine wpAnyH_ready (rs := [10]) (by kernel_rfl) (by simp) ?_
    refine AllReadyH.cons (o := { dst := some 64, op := Op.call { callee := Callee.value (Operand.func 53), args := #[Operand.tmp 58, Operand.tmp 63], argTypes := #[27, 27] }, type := 4, pos := "keep.go:127", after := #[{ on := 4, ground := Ground.data }, { on := 9, ground := Ground.data }], guard := none }) rfl (fun K hKq => ?_) AllReadyH.nil
    go_simp
    refine (TS.out.all r' _ _ _ ok ok' (I1.out.kp KQ) (I2.out.kp KQ)).mono ?_
    rintro e y1 ⟨rfl, kq⟩
    rw [HZ.out]
    refine hKq.out _ _ (MK.out _ (KQ.trans kq)) (fun hN => ?_)
    clear kq
    clear hKq K hH KQ
    have hH := hN
    clear hN
    have KQ := hH.2.2.2.2.2.2.2.2.2.2.2.2.2.2.2.2.2.2.2.2.out
    try simp only [Act.put, List.setIfInBounds_toArray, List.set_cons_zero, List.set_cons_succ]
    refine wpAnyH_take (i := 11) (oi := { dst := some 65, op := Op.unOp UnOp.not 4 (Operand.tmp 64), type := 4, pos := "keep.go:127", after := #[{ on := 10, ground := Ground.data }], guard := none }) (v := ?v11a11) rfl (by kernel_rfl) (by kernel_rfl) (by kernel_rfl) (fun _ _ _ h => h) (Or.inl ⟨by rfl, ?hy11a11⟩) hH ?r11a11
    case hy11a11 => (intro W hSw; (try dsimp only at hSw); go_simp; try (with_reducible rfl))
    try simp only [Act.put, List.setIfInBounds_toArray, List.set_cons_zero, List.set_cons_succ]
    refine wpAnyH_done (by kernel_rfl) ?_ _
    refine NoPanic.normal ?_
    have K2 := hid (K1.out.trans KQ)
    cases z with
    | false =>
     have EF : Hid (Z = false) := by show _ = _; rw [E.out, S1.out]; rfl
     go_wp2_with fail
     go_ret
     exact ⟨ret_bool EF.out.symm, K.out.trans K2.out⟩
    | true =>
     have ET : Hid (sameL kids kids' = sameL (kids.drop (q + 1)) (kids'.drop (q + 1))) := by show _ = _; rw [S1.out]; rfl
     go_wp2_with fail
     go_roundg (gk - 1)
     case measure => omega
     case rel => exact ⟨q + 1, by omega, by go_num, ET.out, K2.out⟩
   ·
    have ga : ¬ (q : Int) < (l : Int) := by omega
    have ET : Hid (Z = true) := by show _ = _; rw [E.out, S.out]; exact sameL_end _ _ _ (by rw [← L1.out]; omega) (by rw [← lb.out]; omega)
    go_wp2_with fail
    go_ret
    exact ⟨ret_bool ET.out.symm, K.out.trans K1.out⟩

theorem ksame_any : ∀ a, RxFit a → KSameSaid a
 | .mk k mn mx n s kids, h => by
  unfold RxFit at h
  exact ksame_step k mn mx n s kids (fun a ha => ksame_any a (h.2 a ha)) h.1
termination_by a => SizeOf.sizeOf a
decreasing_by
 have := List.sizeOf_lt_of_mem ha
 simp
 omega
end Go.Proofs.YtommgdgilcemdaaGreatDoor

/-! ### SameEq -/

namespace Go.Proofs.YtommgdgilcemdaaGreatDoor
open Go.RowKit

mutual
theorem sameR_refl : ∀ a : Rx, sameR a a = true
 | .mk k mn mx n s ks => by simp [sameR, sameL_refl ks]
theorem sameL_refl : ∀ a : List Rx, sameL a a = true
 | [] => by simp [sameL]
 | a :: l => by simp [sameL, sameR_refl a, sameL_refl l]
end
mutual
theorem sameR_eq : ∀ a b : Rx, sameR a b = true → a = b
 | .mk k mn mx n s ks, .mk k' mn' mx' n' s' ks', h => by
  simp only [sameR, Bool.and_eq_true, beq_iff_eq] at h
  obtain ⟨⟨⟨⟨⟨h1, h2⟩, h3⟩, h4⟩, h5⟩, h6⟩ := h
  rw [h1, h2, h3, h4, h5, sameL_eq ks ks' h6]
theorem sameL_eq : ∀ a b : List Rx, sameL a b = true → a = b
 | [], [], _ => rfl
 | a :: l, b :: m, h => by
  simp only [sameL, Bool.and_eq_true] at h
  rw [sameR_eq a b h.1, sameL_eq l m h.2]
 | [], _ :: _, h => by simp [sameL] at h
 | _ :: _, [], h => by simp [sameL] at h
end
end Go.Proofs.YtommgdgilcemdaaGreatDoor

/-! ### Count2 -/

namespace Go.Proofs.YtommgdgilcemdaaGreatDoor
open Go.RowKit

/-- No row of kids is longer than a million. -/
def Slim : Rx → Prop
 | .mk _ _ _ _ _ kids => kids.length ≤ 1000000 ∧ ∀ a, a ∈ kids → Slim a
termination_by r => SizeOf.sizeOf r
decreasing_by
 have := List.sizeOf_lt_of_mem (by assumption)
 simp
 omega

/-! ### Groups -/
mutual
def grp : Rx → Nat
 | .mk k _ _ _ _ kids => (if k = 5 then 1 else 0) + grps kids
def grps : List Rx → Nat
 | [] => 0
 | r :: rs => grp r + grps rs
end
theorem grps_app (a b : List Rx) : grps (a ++ b) = grps a + grps b := by
 induction a with
 | nil => simp [grps]
 | cons x a ih => simp only [List.cons_append, grps, ih]; omega
theorem grps_take (a : List Rx) (q : Nat) : grps (a.take q) ≤ grps a := by
 have := grps_app (a.take q) (a.drop q)
 rw [List.take_append_drop] at this
 omega
theorem grps_mem (a : List Rx) (r : Rx) (h : r ∈ a) : grp r ≤ grps a := by
 induction a with
 | nil => cases h
 | cons x a ih =>
  simp only [grps]
  rcases List.mem_cons.1 h with rfl | h
  ·
   omega
  ·
   have := ih h; omega
structure GroupsSaid (r : Rx) : Prop where
 all : ∀ (ok : Nat → Prop) (v : Value) (w : World), Is w ok r v → Calls Tryz.prog 93 #[v] w fun e w' => e = .returned (.int .i64 ((grp r : Nat) : Int)) ∧ Kp w w'

set_option maxHeartbeats 2000000 in
set_option maxRecDepth 100000 in
theorem Groups_step (k mn mx m : Int) (t : W4) (kids : List Rx) (H : ∀ r, r ∈ kids → GroupsSaid r) (hB : grp (.mk k mn mx m t kids) ≤ 1000000) (hS : kids.length ≤ 1000000) : GroupsSaid (.mk k mn mx m t kids) := by
 refine ⟨fun ok v w hI => ?_⟩
 obtain ⟨ad, l, c, rfl, hr⟩ := hI.row
 have hle := hr.ln
 have hlc := hr.cp
 subst hle
 obtain ⟨L, hL⟩ : ∃ L, kids.length = L := ⟨_, rfl⟩
 rw [hL] at hr hlc hS ⊢
 have HL := hid hL
 have RR := hid hr
 have HH := hid H
 have hG : grp (.mk k mn mx m t kids) = (if k = 5 then 1 else 0) + grps kids := by unfold grp; rfl
 rw [hG] at hB ⊢
 clear hI hr H hG hL
 by_cases k5 : k = 5
 ·
  subst k5
  rw [if_pos rfl] at hB ⊢
  obtain ⟨M, hM⟩ : ∃ M, grps kids = M := ⟨_, rfl⟩
  rw [hM] at hB ⊢
  have HM := hid hM
  clear hM
  obtain ⟨T, hT⟩ : ∃ T, 1 + M = T := ⟨_, rfl⟩
  rw [hT]
  have HT := hid hT
  clear hT
  go_enter Tryz.func93, Tryz.ntmps93
  go_upto_region 1 with fail
  refine opq (fun W0 => W0.heap[w.heap.size]? = some (rxo 5 mn mx m t (.slice ad L c)) ∧ Kp w W0 ∧ RowAt W0 ok kids ad L c) ⟨by (first | exact last_at _ _ _ (by simp) | (refine bl_alloc ?_ _; first | exact last_at _ _ _ (by simp) | (refine bl_alloc ?_ _; first | exact last_at _ _ _ (by simp) | (refine bl_alloc ?_ _; exact last_at _ _ _ (by simp))))), by exact (by repeat (first | exact Kp.refl _ | refine Kp.alloc ?_ _ | refine Kp.drew ?_ | refine Kp.drewN _ ?_)), by exact RR.out.kp (by repeat (first | exact Kp.refl _ | refine Kp.alloc ?_ _ | refine Kp.drew ?_ | refine Kp.drewN _ ?_))⟩ ?_
  rintro W0 ⟨xA0, xK0, xR0⟩
  have A0 : Hid (W0.heap[w.heap.size]? = some (rxo 5 mn mx m t (.slice ad L c))) := xA0
  have K0 : Hid (Kp w W0) := xK0
  have R0 : Hid (RowAt W0 ok kids ad L c) := xR0
  clear xA0 xK0 xR0
  have a0 := bl_cell (A0.out) 0 _ rfl
  have a1 := bl_cell (A0.out) 1 _ rfl
  have a2 := bl_cell (A0.out) 2 _ rfl
  have a3 := bl_cell (A0.out) 3 _ rfl
  have a4 := bl_cell (A0.out) 4 _ rfl
  have a5 := bl_cell (A0.out) 5 _ rfl
  have a6 := bl_cell (A0.out) 6 _ rfl
  have a7 := bl_cell (A0.out) 7 _ rfl
  have a8 := bl_cell (A0.out) 8 _ rfl
  go_wp2_with fail
  clear a0 a1 a2 a3 a4 a5 a6 a7 a8
  go_loopg [3, 12] L (fun gg v i wr => ∃ q A : Nat, q + gg = L ∧ i = .int .i64 (q : Int) ∧ v = .int .i64 (A : Int) ∧ 1 + grps (kids.take q) = A ∧ Kp W0 wr)
  case atStart => exact ⟨0, 1, by omega, rfl, rfl, by rw [List.take_zero, grps], Kp.refl _⟩
  case round =>
   obtain ⟨q, A, hq, rfl, rfl, hA, hK⟩ := hrel
   have hle := grps_take kids q
   rw [HM.out] at hle
   have hAb : A ≤ 1000001 := by omega
   have HA := hid hA
   have K := hid hK
   clear hA hK hle
   by_cases hlt : q < L
   ·
    have gkw : IntKind.i64.wrap ((q : Int) + 1) = (q : Int) + 1 := by rw [IntKind.wrap_i64]; omega
    have ga : (q : Int) < (L : Int) := by omega
    have g0 : (0 : Int) ≤ (q : Int) := by omega
    obtain ⟨r, hr⟩ : ∃ r, kids[q]? = some r := ⟨_, List.getElem?_eq_getElem (by rw [HL.out]; exact hlt)⟩
    have htk : grps (kids.take (q + 1)) = grps (kids.take q) + grp r := by
     rw [List.take_succ_eq_append_getElem (by rw [HL.out]; exact hlt), grps_app, (List.getElem?_eq_some_iff.1 hr).2]
     simp [grps]
    have hle : grp r ≤ grps kids := grps_mem kids r (List.mem_of_getElem? hr)
    rw [HM.out] at hle
    obtain ⟨bb, oo, kk, mn', mx', mm, tt, ad', ll, cc, e1, hbb, i1, ce1⟩ := (R0.out.kp K.out).at q r hr
    subst e1
    have TS := hid (HH.out r (List.mem_of_getElem? hr)).all
    obtain ⟨G, hG⟩ : ∃ G, grp r = G := ⟨_, rfl⟩
    rw [hG] at TS htk hle
    have HTK := hid htk
    have hw : IntKind.i64.wrap ((A : Int) + (G : Int)) = (A : Int) + (G : Int) := by rw [IntKind.wrap_i64]; omega
    have I1 := hid i1
    have CE1 := hid ce1
    clear hr htk i1 ce1 hG
    obtain ⟨x0, x1, x2, x3, x4, x5, x6, x7, x8⟩ := cells_of_is CE1.out
    go_upto_region 7 with fail
    clear x0 x1 x2 x3 x4 x5 x6 x7 x8
    refine opq (fun W => W.heap[wr.heap.size]? = some (rxo kk mn' mx' mm tt (.slice ad' ll cc)) ∧ Kp wr W) ⟨by exact last_at _ _ _ (by simp), by exact (Kp.refl _).alloc _⟩ ?_
    rintro W1 ⟨y1, y2⟩
    have A1 := hid y1
    have K1 := hid y2
    clear y1 y2
    have a0 := bl_cell (A1.out) 0 _ rfl
    have a1 := bl_cell (A1.out) 1 _ rfl
    have a2 := bl_cell (A1.out) 2 _ rfl
    have a3 := bl_cell (A1.out) 3 _ rfl
    have a4 := bl_cell (A1.out) 4 _ rfl
    have a5 := bl_cell (A1.out) 5 _ rfl
    have a6 := bl_cell (A1.out) 6 _ rfl
    have a7 := bl_cell (A1.out) 7 _ rfl
    have a8 := bl_cell (A1.out) 8 _ rfl
    go_wp2_with fail
    clear a0 a1 a2 a3 a4 a5 a6 a7 a8
    refine (TS.out ok _ _ (I1.out.kp K1.out)).mono ?_
    rintro e W2 ⟨rfl, k2⟩
    have K2 := hid (K.out.trans (K1.out.trans k2))
    clear k2
    go_wp2_with fail
    go_roundg (gk - 1)
    case measure => omega
    case rel => exact ⟨q + 1, A + G, by omega, by go_num, by go_num, by rw [HTK.out, ← Nat.add_assoc, HA.out], K2.out⟩
   ·
    have ga : ¬ (q : Int) < (L : Int) := by omega
    have E : Hid (A = T) := by
     show _ = _
     rw [← HT.out, ← HA.out, List.take_of_length_le (by rw [HL.out]; omega), HM.out]
    go_wp2_with fail
    go_ret
    exact ⟨by rw [E.out]; rfl, K0.out.trans K.out⟩
 ·
  have g5 : (k == 5) = false := by simp [k5]
  rw [if_neg k5] at hB ⊢
  obtain ⟨M, hM⟩ : ∃ M, grps kids = M := ⟨_, rfl⟩
  rw [hM] at hB ⊢
  have HM := hid hM
  clear hM
  obtain ⟨T, hT⟩ : ∃ T, 0 + M = T := ⟨_, rfl⟩
  rw [hT]
  have HT := hid hT
  clear hT
  go_enter Tryz.func93, Tryz.ntmps93
  go_upto_region 1 with fail
  refine opq (fun W0 => W0.heap[w.heap.size]? = some (rxo k mn mx m t (.slice ad L c)) ∧ Kp w W0 ∧ RowAt W0 ok kids ad L c) ⟨by (first | exact last_at _ _ _ (by simp) | (refine bl_alloc ?_ _; first | exact last_at _ _ _ (by simp) | (refine bl_alloc ?_ _; first | exact last_at _ _ _ (by simp) | (refine bl_alloc ?_ _; exact last_at _ _ _ (by simp))))), by exact (by repeat (first | exact Kp.refl _ | refine Kp.alloc ?_ _ | refine Kp.drew ?_ | refine Kp.drewN _ ?_)), by exact RR.out.kp (by repeat (first | exact Kp.refl _ | refine Kp.alloc ?_ _ | refine Kp.drew ?_ | refine Kp.drewN _ ?_))⟩ ?_
  rintro W0 ⟨xA0, xK0, xR0⟩
  have A0 : Hid (W0.heap[w.heap.size]? = some (rxo k mn mx m t (.slice ad L c))) := xA0
  have K0 : Hid (Kp w W0) := xK0
  have R0 : Hid (RowAt W0 ok kids ad L c) := xR0
  clear xA0 xK0 xR0
  have a0 := bl_cell (A0.out) 0 _ rfl
  have a1 := bl_cell (A0.out) 1 _ rfl
  have a2 := bl_cell (A0.out) 2 _ rfl
  have a3 := bl_cell (A0.out) 3 _ rfl
  have a4 := bl_cell (A0.out) 4 _ rfl
  have a5 := bl_cell (A0.out) 5 _ rfl
  have a6 := bl_cell (A0.out) 6 _ rfl
  have a7 := bl_cell (A0.out) 7 _ rfl
  have a8 := bl_cell (A0.out) 8 _ rfl
  go_wp2_with fail
  clear a0 a1 a2 a3 a4 a5 a6 a7 a8
  go_loopg [3, 12] L (fun gg v i wr => ∃ q A : Nat, q + gg = L ∧ i = .int .i64 (q : Int) ∧ v = .int .i64 (A : Int) ∧ 0 + grps (kids.take q) = A ∧ Kp W0 wr)
  case atStart => exact ⟨0, 0, by omega, rfl, rfl, by rw [List.take_zero, grps], Kp.refl _⟩
  case round =>
   obtain ⟨q, A, hq, rfl, rfl, hA, hK⟩ := hrel
   have hle := grps_take kids q
   rw [HM.out] at hle
   have hAb : A ≤ 1000001 := by omega
   have HA := hid hA
   have K := hid hK
   clear hA hK hle
   by_cases hlt : q < L
   ·
    have gkw : IntKind.i64.wrap ((q : Int) + 1) = (q : Int) + 1 := by rw [IntKind.wrap_i64]; omega
    have ga : (q : Int) < (L : Int) := by omega
    have g0 : (0 : Int) ≤ (q : Int) := by omega
    obtain ⟨r, hr⟩ : ∃ r, kids[q]? = some r := ⟨_, List.getElem?_eq_getElem (by rw [HL.out]; exact hlt)⟩
    have htk : grps (kids.take (q + 1)) = grps (kids.take q) + grp r := by
     rw [List.take_succ_eq_append_getElem (by rw [HL.out]; exact hlt), grps_app, (List.getElem?_eq_some_iff.1 hr).2]
     simp [grps]
    have hle : grp r ≤ grps kids := grps_mem kids r (List.mem_of_getElem? hr)
    rw [HM.out] at hle
    obtain ⟨bb, oo, kk, mn', mx', mm, tt, ad', ll, cc, e1, hbb, i1, ce1⟩ := (R0.out.kp K.out).at q r hr
    subst e1
    have TS := hid (HH.out r (List.mem_of_getElem? hr)).all
    obtain ⟨G, hG⟩ : ∃ G, grp r = G := ⟨_, rfl⟩
    rw [hG] at TS htk hle
    have HTK := hid htk
    have hw : IntKind.i64.wrap ((A : Int) + (G : Int)) = (A : Int) + (G : Int) := by rw [IntKind.wrap_i64]; omega
    have I1 := hid i1
    have CE1 := hid ce1
    clear hr htk i1 ce1 hG
    obtain ⟨x0, x1, x2, x3, x4, x5, x6, x7, x8⟩ := cells_of_is CE1.out
    go_upto_region 7 with fail
    clear x0 x1 x2 x3 x4 x5 x6 x7 x8
    refine opq (fun W => W.heap[wr.heap.size]? = some (rxo kk mn' mx' mm tt (.slice ad' ll cc)) ∧ Kp wr W) ⟨by exact last_at _ _ _ (by simp), by exact (Kp.refl _).alloc _⟩ ?_
    rintro W1 ⟨y1, y2⟩
    have A1 := hid y1
    have K1 := hid y2
    clear y1 y2
    have a0 := bl_cell (A1.out) 0 _ rfl
    have a1 := bl_cell (A1.out) 1 _ rfl
    have a2 := bl_cell (A1.out) 2 _ rfl
    have a3 := bl_cell (A1.out) 3 _ rfl
    have a4 := bl_cell (A1.out) 4 _ rfl
    have a5 := bl_cell (A1.out) 5 _ rfl
    have a6 := bl_cell (A1.out) 6 _ rfl
    have a7 := bl_cell (A1.out) 7 _ rfl
    have a8 := bl_cell (A1.out) 8 _ rfl
    go_wp2_with fail
    clear a0 a1 a2 a3 a4 a5 a6 a7 a8
    refine (TS.out ok _ _ (I1.out.kp K1.out)).mono ?_
    rintro e W2 ⟨rfl, k2⟩
    have K2 := hid (K.out.trans (K1.out.trans k2))
    clear k2
    go_wp2_with fail
    go_roundg (gk - 1)
    case measure => omega
    case rel => exact ⟨q + 1, A + G, by omega, by go_num, by go_num, by rw [HTK.out, ← Nat.add_assoc, HA.out], K2.out⟩
   ·
    have ga : ¬ (q : Int) < (L : Int) := by omega
    have E : Hid (A = T) := by
     show _ = _
     rw [← HT.out, ← HA.out, List.take_of_length_le (by rw [HL.out]; omega), HM.out]
    go_wp2_with fail
    go_ret
    exact ⟨by rw [E.out]; rfl, K0.out.trans K.out⟩

theorem Groups_any : ∀ a, grp a ≤ 1000000 → Slim a → GroupsSaid a
 | .mk k mn mx n s kids, h, hs => by
  unfold Slim at hs
  exact Groups_step k mn mx n s kids (fun a ha => Groups_any a (by unfold grp at h; have := grps_mem kids a ha; omega) (hs.2 a ha)) h hs.1
termination_by a => SizeOf.sizeOf a
decreasing_by
 have := List.sizeOf_lt_of_mem ha
 simp
 omega

/-! ### Nodes -/
mutual
def nds : Rx → Nat
 | .mk _ _ _ _ _ kids => 1 + ndss kids
def ndss : List Rx → Nat
 | [] => 0
 | r :: rs => nds r + ndss rs
end
theorem ndss_app (a b : List Rx) : ndss (a ++ b) = ndss a + ndss b := by
 induction a with
 | nil => simp [ndss]
 | cons x a ih => simp only [List.cons_append, ndss, ih]; omega
theorem ndss_take (a : List Rx) (q : Nat) : ndss (a.take q) ≤ ndss a := by
 have := ndss_app (a.take q) (a.drop q)
 rw [List.take_append_drop] at this
 omega
theorem ndss_mem (a : List Rx) (r : Rx) (h : r ∈ a) : nds r ≤ ndss a := by
 induction a with
 | nil => cases h
 | cons x a ih =>
  simp only [ndss]
  rcases List.mem_cons.1 h with rfl | h
  ·
   omega
  ·
   have := ih h; omega
end Go.Proofs.YtommgdgilcemdaaGreatDoor
