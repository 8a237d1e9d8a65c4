/-
  Texts of this claim: Parse, Text1, Row2.
-/
import Derived.Test.YtommgdgilcemdaaGreatDoorCmdLM15
import Derived.Test.YtommgdgilcemdaaGreatDoorCmdLM4
import Derived.Test.YtommgdgilcemdaaGreatDoorCmdLM8
import Derived.Laws.IdiomStrings
import Derived.Test.YtommgdgilcemdaaGreatDoorCmdLM5
import Derived.Lib.BufferRead
import Derived.Deep.LoopGhost

/-! ### Parse -/

namespace Go.Proofs.YtommgdgilcemdaaGreatDoor
open Go.RowKit

theorem choice_all (s : ByteArray) (ere : Bool) (hs : s.size ≤ 1000000) : ∀ D, ChSaid (pCh s ere D) s ere D
 | 0 => ⟨fun i n g d P w h hv hD h6 => absurd hD (by omega)⟩
 | D + 1 => ⟨fun i n g d P w h hv hD _ => choice_any (pCh s ere D) D s ere i n g d P w (choice_all s ere hs D) (pCh_good s ere D) h hv (by omega) hs⟩

set_option maxHeartbeats 2000000 in
set_option maxRecDepth 100000 in
theorem whole_any (s : ByteArray) (ere : Bool) (P : Nat) (w : World) (h : Rd w P s ere 0 0 0 0) (hs : s.size ≤ 1000000) :
  Calls Tryz.prog 26 #[.pointer (some ⟨P, 0, none⟩)] w fun e w' => RetE w P s ere (pWhole s ere) e w' := by
 have R : Hid (Rd w P s ere 0 0 0 0) := h
 have hP : P < w.heap.size := h.lt
 clear h
 have hinv : Inv s ⟨0, 0, 0, 0⟩ := ⟨Nat.zero_le _, by show 0 ≤ 3 * 0 + 1; omega, Nat.le_refl _⟩
 obtain ⟨o, ho⟩ : ∃ o, pCh s ere 7 ⟨0, 0, 0, 0⟩ = o := ⟨_, rfl⟩
 have hgood := (pCh_good s ere 7).all _ hinv
 have CA : Hid (∀ w, Rd w P s ere 0 0 0 0 → Calls Tryz.prog 58 #[.pointer (some ⟨P, 0, none⟩)] w fun e w' => RetE w P s ere o e w') := by
  intro w h
  have := (choice_all s ere hs 7).all 0 0 0 0 P w h hinv rfl (by omega)
  rw [ho] at this
  exact this
 have E0 : Hid (pWhole s ere = if o.e ≠ 0 then ⟨rx0, o.e, o.st⟩ else if o.st.i < s.size then ⟨rx0, 1, o.st⟩ else if o.st.n > 40 ∨ o.st.g > 3 then ⟨rx0, 4, o.st⟩ else o) := by
  show _ = _
  unfold pWhole
  rw [ho]
 rw [ho] at hgood
 have ho1 : o.st.i ≤ s.size := hgood.1
 clear ho hgood hinv
 obtain ⟨r, er, ⟨i, n, g, d⟩⟩ := o
 simp only at ho1
 go_enter Tryz.func26, Tryz.ntmps26
 go_upto_region 1 with fail
 refine opq (fun W0 => Rd W0 P s ere 0 0 0 0 ∧ W0.heap[w.heap.size]? = some rzo ∧ Ks P w W0) ⟨by exact R.out.kp (by repeat (first | exact Kp.refl _ | refine Kp.alloc ?_ _ | refine Kp.drew ?_ | refine Kp.drewN _ ?_)), by (first | exact last_at _ _ _ (by simp) | (refine bl_alloc ?_ _; first | exact last_at _ _ _ (by simp) | (refine bl_alloc ?_ _; first | exact last_at _ _ _ (by simp) | (refine bl_alloc ?_ _; exact last_at _ _ _ (by simp))))), by exact (Kp.ks (by repeat (first | exact Kp.refl _ | refine Kp.alloc ?_ _ | refine Kp.drew ?_ | refine Kp.drewN _ ?_)) (Nat.le_of_lt hP))⟩ ?_
 rintro W0 ⟨xR0, xB0, xK0⟩
 have R0 : Hid (Rd W0 P s ere 0 0 0 0) := xR0
 have B0 : Hid (W0.heap[w.heap.size]? = some rzo) := xB0
 have K0 : Hid (Ks P w W0) := xK0
 clear xR0 xB0 xK0
 clear R
 have hs0 : w.heap.size < W0.heap.size := bl_lt B0.out
 go_wp2_with fail
 refine (CA.out _ R0.out).mono ?_
 rintro e W1 ⟨⟨v, rfl, rr⟩⟩
 obtain ⟨kk, mn, mx, mm, tt, ad, ll, cc, rfl⟩ := rr.is.form
 have hs1 := rr.ks.size
 have R1 : Hid (Rd W1 P s ere i n g d) := rr.rd
 have I1 : Hid (Is W1 (fun b => W0.heap.size ≤ b) r (rxv kk mn mx mm tt (.slice ad ll cc))) := rr.is
 have B1 := hid (bl_ks B0.out (by omega) rr.ks)
 have K1 := hid (K0.out.trans rr.ks)
 clear rr R0 B0 K0 CA
 dsimp only
 go_upto_region 2 with fail
 refine opq (fun W2 => Rd W2 P s ere i n g d ∧ W2.heap[W1.heap.size]? = some (rxo kk mn mx mm tt (.slice ad ll cc)) ∧ Is W2 (fun b => w.heap.size ≤ b ∧ b ≠ w.heap.size) r (rxv kk mn mx mm tt (.slice ad ll cc)) ∧ W2.heap[w.heap.size]? = some rzo ∧ Ks P w W2) ⟨by exact R1.out.kp (by repeat (first | exact Kp.refl _ | refine Kp.alloc ?_ _ | refine Kp.drew ?_ | refine Kp.drewN _ ?_)), by (first | exact last_at _ _ _ (by simp) | (refine bl_alloc ?_ _; first | exact last_at _ _ _ (by simp) | (refine bl_alloc ?_ _; first | exact last_at _ _ _ (by simp) | (refine bl_alloc ?_ _; exact last_at _ _ _ (by simp))))), by exact (I1.out.weak (ok' := fun b => w.heap.size ≤ b ∧ b ≠ w.heap.size) (fun _ hb _ => ⟨by omega, by omega⟩)).kp (by repeat (first | exact Kp.refl _ | refine Kp.alloc ?_ _ | refine Kp.drew ?_ | refine Kp.drewN _ ?_)), by exact bl_kp B1.out (by repeat (first | exact Kp.refl _ | refine Kp.alloc ?_ _ | refine Kp.drew ?_ | refine Kp.drewN _ ?_)), by exact K1.out.kpt (by repeat (first | exact Kp.refl _ | refine Kp.alloc ?_ _ | refine Kp.drew ?_ | refine Kp.drewN _ ?_)) hP⟩ ?_
 rintro W2 ⟨xR2, xA2, xI2, xB2, xK2⟩
 have R2 : Hid (Rd W2 P s ere i n g d) := xR2
 have A2 : Hid (W2.heap[W1.heap.size]? = some (rxo kk mn mx mm tt (.slice ad ll cc))) := xA2
 have I2 : Hid (Is W2 (fun b => w.heap.size ≤ b ∧ b ≠ w.heap.size) r (rxv kk mn mx mm tt (.slice ad ll cc))) := xI2
 have B2 : Hid (W2.heap[w.heap.size]? = some rzo) := xB2
 have K2 : Hid (Ks P w W2) := xK2
 clear xR2 xA2 xI2 xB2 xK2
 clear R1 I1 B1 K1
 by_cases he : er = 0
 ·
  subst he
  obtain ⟨lt, hlt⟩ : ∃ lt, decide (i < s.size) = lt := ⟨_, rfl⟩
  have HLT := hid hlt
  go_upto_region 4 with fail
  go_cut [16] (fun v wc => v = .bool lt ∧ Kp W2 wc)
  case first =>
   have Q0 : Kp W2 W2.drew := (Kp.refl _).drew
   have MK : Hid (∀ W, Kp W2 W → W.cell? ⟨P, 0, none⟩ = some (.string s) ∧ W.cell? ⟨P, 2, none⟩ = some (.int .i64 (i : Int)) ∧ Hid (Kp W2 W)) := fun W k => ⟨(R2.out.kp k).cells.1, (R2.out.kp k).cells.2.2.1, k⟩
   refine wp_region_noPanic ?_
   refine wp_region_held_drew (S := (fun W => W.cell? ⟨P, 0, none⟩ = some (.string s) ∧ W.cell? ⟨P, 2, none⟩ = some (.int .i64 (i : Int)) ∧ Hid (Kp W2 W))) (by kernel_rfl) ?_ (fun hH => ?_)
   ·
    exact MK.out _ Q0
   have KQ := Q0
   refine wpAnyH_take (i := 0) (oi := { dst := some 17, op := Op.move (Operand.tmp 0), type := 90, pos := "parse.go:35", after := #[], guard := none }) (v := ?v0a1) rfl (by kernel_rfl) (by kernel_rfl) (by kernel_rfl) (fun _ _ _ h => h) (Or.inl ⟨by rfl, ?hy0a1⟩) hH ?r0a1
   case hy0a1 => (intro W hSw; (try dsimp only at hSw); go_simp; try (with_reducible rfl))
   try simp only [Act.put, List.setIfInBounds_toArray, List.set_cons_zero, List.set_cons_succ]
   refine wpAnyH_take (i := 1) (oi := { dst := some 18, op := Op.nilCheck (Operand.tmp 17), type := 0, pos := "parse.go:35", after := #[{ on := 0, ground := Ground.data }], guard := none }) (v := ?v1a2) rfl (by kernel_rfl) (by kernel_rfl) (by kernel_rfl) (fun _ _ _ h => h) (Or.inl ⟨by rfl, ?hy1a2⟩) hH ?r1a2
   case hy1a2 => (intro W hSw; (try dsimp only at hSw); go_simp; try (with_reducible rfl))
   try simp only [Act.put, List.setIfInBounds_toArray, List.set_cons_zero, List.set_cons_succ]
   refine wpAnyH_take (i := 2) (oi := { dst := some 19, op := Op.fieldAddr 66 (Operand.tmp 18) 2, type := 0, pos := "parse.go:35", after := #[{ on := 1, ground := Ground.data }], guard := none }) (v := ?v2a3) rfl (by kernel_rfl) (by kernel_rfl) (by kernel_rfl) (fun _ _ _ h => h) (Or.inl ⟨by rfl, ?hy2a3⟩) hH ?r2a3
   case hy2a3 => (intro W hSw; (try dsimp only at hSw); go_simp; try (with_reducible rfl))
   try simp only [Act.put, List.setIfInBounds_toArray, List.set_cons_zero, List.set_cons_succ]
   refine wpAnyH_take (i := 3) (oi := { dst := some 20, op := Op.load 3 (Operand.tmp 19), type := 3, pos := "parse.go:35", after := #[{ on := 2, ground := Ground.data }], guard := none }) (v := ?v3a4) rfl (by kernel_rfl) (by kernel_rfl) (by kernel_rfl) (fun _ _ _ h => h) (Or.inl ⟨by rfl, ?hy3a4⟩) hH ?r3a4
   case hy3a4 => (intro W hSw; (try dsimp only at hSw); go_simp; try (with_reducible rfl))
   try simp only [Act.put, List.setIfInBounds_toArray, List.set_cons_zero, List.set_cons_succ]
   refine wpAnyH_take (i := 4) (oi := { dst := some 21, op := Op.move (Operand.tmp 0), type := 90, pos := "parse.go:35", after := #[], guard := none }) (v := ?v4a5) rfl (by kernel_rfl) (by kernel_rfl) (by kernel_rfl) (fun _ _ _ h => h) (Or.inl ⟨by rfl, ?hy4a5⟩) hH ?r4a5
   case hy4a5 => (intro W hSw; (try dsimp only at hSw); go_simp; try (with_reducible rfl))
   try simp only [Act.put, List.setIfInBounds_toArray, List.set_cons_zero, List.set_cons_succ]
   refine wpAnyH_take (i := 5) (oi := { dst := some 22, op := Op.nilCheck (Operand.tmp 21), type := 0, pos := "parse.go:35", after := #[{ on := 4, ground := Ground.data }], guard := none }) (v := ?v5a6) rfl (by kernel_rfl) (by kernel_rfl) (by kernel_rfl) (fun _ _ _ h => h) (Or.inl ⟨by rfl, ?hy5a6⟩) hH ?r5a6
   case hy5a6 => (intro W hSw; (try dsimp only at hSw); go_simp; try (with_reducible rfl))
   try simp only [Act.put, List.setIfInBounds_toArray, List.set_cons_zero, List.set_cons_succ]
   refine wpAnyH_take (i := 6) (oi := { dst := some 23, op := Op.fieldAddr 66 (Operand.tmp 22) 0, type := 0, pos := "parse.go:35", after := #[{ on := 5, ground := Ground.data }], guard := none }) (v := ?v6a7) rfl (by kernel_rfl) (by kernel_rfl) (by kernel_rfl) (fun _ _ _ h => h) (Or.inl ⟨by rfl, ?hy6a7⟩) hH ?r6a7
   case hy6a7 => (intro W hSw; (try dsimp only at hSw); go_simp; try (with_reducible rfl))
   try simp only [Act.put, List.setIfInBounds_toArray, List.set_cons_zero, List.set_cons_succ]
   refine wpAnyH_take (i := 7) (oi := { dst := some 24, op := Op.load 9 (Operand.tmp 23), type := 9, pos := "parse.go:35", after := #[{ on := 6, ground := Ground.data }], guard := none }) (v := ?v7a8) rfl (by kernel_rfl) (by kernel_rfl) (by kernel_rfl) (fun _ _ _ h => h) (Or.inl ⟨by rfl, ?hy7a8⟩) hH ?r7a8
   case hy7a8 => (intro W hSw; (try dsimp only at hSw); go_simp; try (with_reducible rfl))
   try simp only [Act.put, List.setIfInBounds_toArray, List.set_cons_zero, List.set_cons_succ]
   refine wpAnyH_take (i := 8) (oi := { dst := some 25, op := Op.call { callee := Callee.builtin Builtin.len, args := #[Operand.tmp 24], argTypes := #[9] }, type := 3, pos := "parse.go:35", after := #[{ on := 7, ground := Ground.data }], guard := none }) (v := ?v8a9) rfl (by kernel_rfl) (by kernel_rfl) (by kernel_rfl) (fun _ _ _ h => h) (Or.inl ⟨by rfl, ?hy8a9⟩) hH ?r8a9
   case hy8a9 => (intro W hSw; (try dsimp only at hSw); go_simp; try (with_reducible rfl))
   try simp only [Act.put, List.setIfInBounds_toArray, List.set_cons_zero, List.set_cons_succ]
   refine wpAnyH_take (i := 9) (oi := { dst := some 26, op := Op.binOp BinOp.lss 3 (Operand.tmp 20) (Operand.tmp 25) 3, type := 4, pos := "parse.go:35", after := #[{ on := 3, ground := Ground.data }, { on := 8, ground := Ground.data }], guard := none }) (v := ?v9a10) rfl (by kernel_rfl) (by kernel_rfl) (by kernel_rfl) (fun _ _ _ h => h) (Or.inl ⟨by rfl, ?hy9a10⟩) hH ?r9a10
   case hy9a10 => (intro W hSw; (try dsimp only at hSw); go_simp; try (with_reducible rfl))
   try simp only [Act.put, List.setIfInBounds_toArray, List.set_cons_zero, List.set_cons_succ]
   refine wpAnyH_take (i := 10) (oi := { dst := some 16, op := Op.assign (Operand.tmp 26), type := 4, pos := "parse.go:35", after := #[{ on := 9, ground := Ground.data }], guard := none }) (v := ?v10a11) rfl (by kernel_rfl) (by kernel_rfl) (by kernel_rfl) (fun _ _ _ h => h) (Or.inl ⟨by rfl, ?hy10a11⟩) hH ?r10a11
   case hy10a11 => (intro W hSw; (try dsimp only at hSw); go_simp; try (with_reducible rfl))
   try simp only [Act.put, List.setIfInBounds_toArray, List.set_cons_zero, List.set_cons_succ]
   refine wpAnyH_done (by kernel_rfl) ?_ _
   refine NoPanic.normal ?_
   go_wp2_with fail
   go_meet
   case rel => exact ⟨rfl, KQ⟩
  case rest =>
   obtain ⟨rfl, k3⟩ := hcut
   rename World => W3
   have R3 := hid (R2.out.kp k3)
   have A3 := hid (bl_kp A2.out k3)
   have I3 := hid (I2.out.kp k3)
   have B3 := hid (bl_kp B2.out k3)
   have K3 := hid (K2.out.kpt k3 hP)
   clear k3 R2 A2 I2 B2 K2 hlt
   have p3 := R3.out.cells.2.2.2.1
   have p4 := R3.out.cells.2.2.2.2.1
   cases lt with
   | true =>
    have h1 : i < s.size := by have := HLT.out; simp at this; omega
    have E : Hid (pWhole s ere = ⟨rx0, 1, ⟨i, n, g, d⟩⟩) := by show _ = _; rw [E0.out]; rw [if_neg (by omega), if_pos h1]
    have b0 := bl_cell (B3.out) 0 _ rfl
    have fb0 := bl_frozen (B3.out) 0
    have b1 := bl_cell (B3.out) 1 _ rfl
    have fb1 := bl_frozen (B3.out) 1
    have b2 := bl_cell (B3.out) 2 _ rfl
    have fb2 := bl_frozen (B3.out) 2
    have b3 := bl_cell (B3.out) 3 _ rfl
    have fb3 := bl_frozen (B3.out) 3
    have b4 := bl_cell (B3.out) 4 _ rfl
    have fb4 := bl_frozen (B3.out) 4
    have b5 := bl_cell (B3.out) 5 _ rfl
    have fb5 := bl_frozen (B3.out) 5
    have b6 := bl_cell (B3.out) 6 _ rfl
    have fb6 := bl_frozen (B3.out) 6
    have b7 := bl_cell (B3.out) 7 _ rfl
    have fb7 := bl_frozen (B3.out) 7
    have b8 := bl_cell (B3.out) 8 _ rfl
    have fb8 := bl_frozen (B3.out) 8
    go_wp2_with fail
    refine bodyPost_ret (v := .tuple #[rz, .int .i64 1]) (rx_ret2 rfl _ _ _ _ _ rfl rfl (bl_set9 B3.out _ _ _ _ _ _ _ _ _) rfl) rfl ?_
    rw [E.out]
    exact ⟨_, rfl, Ret.fail R3.out K3.out (ks_set9 _ _ _ _ _ _ _ _ _) hP (Nat.le_refl _)⟩
   | false =>
    have h1 : ¬ i < s.size := by have := HLT.out; simp at this; omega
    by_cases hn : n > 40
    ·
     have gn : (40 : Int) < (n : Int) := by omega
     have E : Hid (pWhole s ere = ⟨rx0, 4, ⟨i, n, g, d⟩⟩) := by show _ = _; rw [E0.out]; rw [if_neg (by omega), if_neg h1, if_pos (Or.inl hn)]
     have b0 := bl_cell (B3.out) 0 _ rfl
     have fb0 := bl_frozen (B3.out) 0
     have b1 := bl_cell (B3.out) 1 _ rfl
     have fb1 := bl_frozen (B3.out) 1
     have b2 := bl_cell (B3.out) 2 _ rfl
     have fb2 := bl_frozen (B3.out) 2
     have b3 := bl_cell (B3.out) 3 _ rfl
     have fb3 := bl_frozen (B3.out) 3
     have b4 := bl_cell (B3.out) 4 _ rfl
     have fb4 := bl_frozen (B3.out) 4
     have b5 := bl_cell (B3.out) 5 _ rfl
     have fb5 := bl_frozen (B3.out) 5
     have b6 := bl_cell (B3.out) 6 _ rfl
     have fb6 := bl_frozen (B3.out) 6
     have b7 := bl_cell (B3.out) 7 _ rfl
     have fb7 := bl_frozen (B3.out) 7
     have b8 := bl_cell (B3.out) 8 _ rfl
     have fb8 := bl_frozen (B3.out) 8
     go_wp2_with fail
     refine bodyPost_ret (v := .tuple #[rz, .int .i64 4]) (rx_ret2 rfl _ _ _ _ _ rfl rfl (bl_set9 B3.out _ _ _ _ _ _ _ _ _) rfl) rfl ?_
     rw [E.out]
     exact ⟨_, rfl, Ret.fail R3.out K3.out (ks_set9 _ _ _ _ _ _ _ _ _) hP (Nat.le_refl _)⟩
    have gn : ¬ (40 : Int) < (n : Int) := by omega
    by_cases hg : g > 3
    ·
     have gg : (3 : Int) < (g : Int) := by omega
     have E : Hid (pWhole s ere = ⟨rx0, 4, ⟨i, n, g, d⟩⟩) := by show _ = _; rw [E0.out]; rw [if_neg (by omega), if_neg h1, if_pos (Or.inr hg)]
     have b0 := bl_cell (B3.out) 0 _ rfl
     have fb0 := bl_frozen (B3.out) 0
     have b1 := bl_cell (B3.out) 1 _ rfl
     have fb1 := bl_frozen (B3.out) 1
     have b2 := bl_cell (B3.out) 2 _ rfl
     have fb2 := bl_frozen (B3.out) 2
     have b3 := bl_cell (B3.out) 3 _ rfl
     have fb3 := bl_frozen (B3.out) 3
     have b4 := bl_cell (B3.out) 4 _ rfl
     have fb4 := bl_frozen (B3.out) 4
     have b5 := bl_cell (B3.out) 5 _ rfl
     have fb5 := bl_frozen (B3.out) 5
     have b6 := bl_cell (B3.out) 6 _ rfl
     have fb6 := bl_frozen (B3.out) 6
     have b7 := bl_cell (B3.out) 7 _ rfl
     have fb7 := bl_frozen (B3.out) 7
     have b8 := bl_cell (B3.out) 8 _ rfl
     have fb8 := bl_frozen (B3.out) 8
     go_wp2_with fail
     refine bodyPost_ret (v := .tuple #[rz, .int .i64 4]) (rx_ret2 rfl _ _ _ _ _ rfl rfl (bl_set9 B3.out _ _ _ _ _ _ _ _ _) rfl) rfl ?_
     rw [E.out]
     exact ⟨_, rfl, Ret.fail R3.out K3.out (ks_set9 _ _ _ _ _ _ _ _ _) hP (Nat.le_refl _)⟩
    have gg : ¬ (3 : Int) < (g : Int) := by omega
    have E : Hid (pWhole s ere = ⟨r, 0, ⟨i, n, g, d⟩⟩) := by show _ = _; rw [E0.out]; rw [if_neg (by omega), if_neg h1, if_neg (by omega)]
    have a0 := bl_cell (A3.out) 0 _ rfl
    have a1 := bl_cell (A3.out) 1 _ rfl
    have a2 := bl_cell (A3.out) 2 _ rfl
    have a3 := bl_cell (A3.out) 3 _ rfl
    have a4 := bl_cell (A3.out) 4 _ rfl
    have a5 := bl_cell (A3.out) 5 _ rfl
    have a6 := bl_cell (A3.out) 6 _ rfl
    have a7 := bl_cell (A3.out) 7 _ rfl
    have a8 := bl_cell (A3.out) 8 _ rfl
    have b0 := bl_cell (B3.out) 0 _ rfl
    have fb0 := bl_frozen (B3.out) 0
    have b1 := bl_cell (B3.out) 1 _ rfl
    have fb1 := bl_frozen (B3.out) 1
    have b2 := bl_cell (B3.out) 2 _ rfl
    have fb2 := bl_frozen (B3.out) 2
    have b3 := bl_cell (B3.out) 3 _ rfl
    have fb3 := bl_frozen (B3.out) 3
    have b4 := bl_cell (B3.out) 4 _ rfl
    have fb4 := bl_frozen (B3.out) 4
    have b5 := bl_cell (B3.out) 5 _ rfl
    have fb5 := bl_frozen (B3.out) 5
    have b6 := bl_cell (B3.out) 6 _ rfl
    have fb6 := bl_frozen (B3.out) 6
    have b7 := bl_cell (B3.out) 7 _ rfl
    have fb7 := bl_frozen (B3.out) 7
    have b8 := bl_cell (B3.out) 8 _ rfl
    have fb8 := bl_frozen (B3.out) 8
    go_wp2_with fail
    refine bodyPost_ret (v := .tuple #[rxv kk mn mx mm tt (.slice ad ll cc), .int .i64 0]) (rx_ret2 rfl _ _ _ _ _ rfl rfl (bl_set9 B3.out _ _ _ _ _ _ _ _ _) rfl) rfl ?_
    rw [E.out]
    exact ⟨_, rfl, Ret.fin I3.out R3.out K3.out (ks_set9 _ _ _ _ _ _ _ _ _) hP (Nat.le_refl _)⟩
 ·
  have ge : ((er : Int) != 0) = true := by simp; omega
  have E : Hid (pWhole s ere = ⟨rx0, er, ⟨i, n, g, d⟩⟩) := by show _ = _; rw [E0.out]; exact if_pos he
  have b0 := bl_cell (B2.out) 0 _ rfl
  have fb0 := bl_frozen (B2.out) 0
  have b1 := bl_cell (B2.out) 1 _ rfl
  have fb1 := bl_frozen (B2.out) 1
  have b2 := bl_cell (B2.out) 2 _ rfl
  have fb2 := bl_frozen (B2.out) 2
  have b3 := bl_cell (B2.out) 3 _ rfl
  have fb3 := bl_frozen (B2.out) 3
  have b4 := bl_cell (B2.out) 4 _ rfl
  have fb4 := bl_frozen (B2.out) 4
  have b5 := bl_cell (B2.out) 5 _ rfl
  have fb5 := bl_frozen (B2.out) 5
  have b6 := bl_cell (B2.out) 6 _ rfl
  have fb6 := bl_frozen (B2.out) 6
  have b7 := bl_cell (B2.out) 7 _ rfl
  have fb7 := bl_frozen (B2.out) 7
  have b8 := bl_cell (B2.out) 8 _ rfl
  have fb8 := bl_frozen (B2.out) 8
  go_wp2_with fail
  refine bodyPost_ret (v := .tuple #[rz, .int .i64 (er : Int)]) (rx_ret2 rfl _ _ _ _ _ rfl rfl (bl_set9 B2.out _ _ _ _ _ _ _ _ _) rfl) rfl ?_
  rw [E.out]
  exact ⟨_, rfl, Ret.fail R2.out K2.out (ks_set9 _ _ _ _ _ _ _ _ _) hP (Nat.le_refl _)⟩

theorem rx_ret3 {fn : Func} {p u x : Tmp} (h : fn.results = #[.cell p 27, .tmp u, .tmp x]) (tmps : Array Value) (w : World) (S : Nat) (cs : Array Value) (a b : Value) (hp : tmps.getD p undef = .pointer (some ⟨S, 0, none⟩)) (hu : tmps.getD u undef = a) (hx : tmps.getD x undef = b) (hA : w.heap[S]? = some (.cells cs 27)) (hc : cs.size = 9) : (results fn tmps).run Tryz.prog w = .ok (.tuple #[.agg cs, a, b]) w := by
 have hl := run_loadVar_row (P := Tryz.prog) w S 27 27 cs (0, 0) _ hA Tryz.underlying27 rfl (by rw [hc]; kernel_rfl)
 have hp' : tmps[p]?.getD undef = .pointer (some ⟨S, 0, none⟩) := by simpa using hp
 have hu' : tmps[u]?.getD undef = a := by simpa using hu
 have hx' : tmps[x]?.getD undef = b := by simpa using hx
 simp [results, h, hp', hu', hx', asAddr, hl]

/-- What Parse leaves. -/
structure Parsed (w : World) (s : ByteArray) (ere : Bool) (e : Ending) (w' : World) : Prop where
 ex : ∃ v, e = .returned (.tuple #[v, .int .i64 ((pParse s ere).2.1 : Nat), .int .i64 ((pParse s ere).2.2 : Nat)]) ∧ Is w' (fun b => w.heap.size ≤ b) (pParse s ere).1 v ∧ Kp w w'

set_option maxHeartbeats 2000000 in
set_option maxRecDepth 100000 in
theorem parse_any (s : ByteArray) (ere : Bool) (w : World) (h0 : ∃ m, w.cell? ⟨1, 0, none⟩ = some (.int .i64 m)) (hs : s.size ≤ 1000000) :
  Calls Tryz.prog 9 #[.string s, .bool ere] w fun e w' => Parsed w s ere e w' := by
 have H0 := hid h0
 have hw : 1 < w.heap.size := by obtain ⟨m, hm⟩ := h0; exact World.block_lt_of_cell? w _ hm
 clear h0
 obtain ⟨o, ho⟩ : ∃ o, pWhole s ere = o := ⟨_, rfl⟩
 have E0 : Hid (pParse s ere = if o.e ≠ 0 then (rx0, o.st.i, o.e) else (o.r, 0, 0)) := by
  show _ = _
  unfold pParse
  rw [ho]
 have WA : Hid (∀ P w, Rd w P s ere 0 0 0 0 → Calls Tryz.prog 26 #[.pointer (some ⟨P, 0, none⟩)] w fun e w' => RetE w P s ere o e w') := by
  intro P w h
  have := whole_any s ere P w h hs
  rw [ho] at this
  exact this
 clear ho
 obtain ⟨r, er, ⟨i, n, g, d⟩⟩ := o
 go_enter Tryz.func9, Tryz.ntmps9
 go_upto_region 2 with fail
 refine opq (fun W0 => Rd W0 (w.heap.size + 1) s ere 0 0 0 0 ∧ W0.heap[w.heap.size]? = some rzo ∧ Kp w W0) ⟨by exact ⟨last_at _ _ _ (by simp), by omega, by obtain ⟨m, hm⟩ := H0.out; exact ⟨m, (Kp.cell (a := w) (by repeat (first | exact Kp.refl _ | refine Kp.alloc ?_ _ | refine Kp.drew ?_ | refine Kp.drewN _ ?_)) hw).trans hm⟩⟩, by (first | exact last_at _ _ _ (by simp) | (refine bl_alloc ?_ _; first | exact last_at _ _ _ (by simp) | (refine bl_alloc ?_ _; first | exact last_at _ _ _ (by simp) | (refine bl_alloc ?_ _; exact last_at _ _ _ (by simp))))), by exact (by repeat (first | exact Kp.refl _ | refine Kp.alloc ?_ _ | refine Kp.drew ?_ | refine Kp.drewN _ ?_))⟩ ?_
 rintro W0 ⟨xR0, xB0, xK0⟩
 have R0 : Hid (Rd W0 (w.heap.size + 1) s ere 0 0 0 0) := xR0
 have B0 : Hid (W0.heap[w.heap.size]? = some rzo) := xB0
 have K0 : Hid (Kp w W0) := xK0
 clear xR0 xB0 xK0
 have hs0 : w.heap.size + 1 < W0.heap.size := R0.out.lt
 go_wp2_with fail
 refine (WA.out (w.heap.size + 1) _ R0.out).mono ?_
 rintro e W1 ⟨⟨v, rfl, rr⟩⟩
 obtain ⟨kk, mn, mx, mm, tt, ad, ll, cc, rfl⟩ := rr.is.form
 have hs1 := rr.ks.size
 have R1 : Hid (Rd W1 (w.heap.size + 1) s ere i n g d) := rr.rd
 have I1 : Hid (Is W1 (fun b => W0.heap.size ≤ b) r (rxv kk mn mx mm tt (.slice ad ll cc))) := rr.is
 have B1 := hid (bl_ks B0.out (by omega) rr.ks)
 have K1 := hid (rr.ks.up K0.out (by omega))
 clear rr R0 B0 K0 WA
 dsimp only
 go_upto_region 3 with fail
 refine opq (fun W2 => Rd W2 (w.heap.size + 1) s ere i n g d ∧ W2.heap[W1.heap.size]? = some (rxo kk mn mx mm tt (.slice ad ll cc)) ∧ Is W2 (fun b => w.heap.size ≤ b ∧ b ≠ w.heap.size) r (rxv kk mn mx mm tt (.slice ad ll cc)) ∧ W2.heap[w.heap.size]? = some rzo ∧ Kp w W2) ⟨by exact R1.out.kp (by repeat (first | exact Kp.refl _ | refine Kp.alloc ?_ _ | refine Kp.drew ?_ | refine Kp.drewN _ ?_)), by (first | exact last_at _ _ _ (by simp) | (refine bl_alloc ?_ _; first | exact last_at _ _ _ (by simp) | (refine bl_alloc ?_ _; first | exact last_at _ _ _ (by simp) | (refine bl_alloc ?_ _; exact last_at _ _ _ (by simp))))), by exact (I1.out.weak (ok' := fun b => w.heap.size ≤ b ∧ b ≠ w.heap.size) (fun _ hb _ => ⟨by omega, by omega⟩)).kp (by repeat (first | exact Kp.refl _ | refine Kp.alloc ?_ _ | refine Kp.drew ?_ | refine Kp.drewN _ ?_)), by exact bl_kp B1.out (by repeat (first | exact Kp.refl _ | refine Kp.alloc ?_ _ | refine Kp.drew ?_ | refine Kp.drewN _ ?_)), by exact K1.out.trans (by repeat (first | exact Kp.refl _ | refine Kp.alloc ?_ _ | refine Kp.drew ?_ | refine Kp.drewN _ ?_))⟩ ?_
 rintro W2 ⟨xR2, xA2, xI2, xB2, xK2⟩
 have R2 : Hid (Rd W2 (w.heap.size + 1) s ere i n g d) := xR2
 have A2 : Hid (W2.heap[W1.heap.size]? = some (rxo kk mn mx mm tt (.slice ad ll cc))) := xA2
 have I2 : Hid (Is W2 (fun b => w.heap.size ≤ b ∧ b ≠ w.heap.size) r (rxv kk mn mx mm tt (.slice ad ll cc))) := xI2
 have B2 : Hid (W2.heap[w.heap.size]? = some rzo) := xB2
 have K2 : Hid (Kp w W2) := xK2
 clear xR2 xA2 xI2 xB2 xK2
 clear R1 I1 B1 K1
 by_cases he : er = 0
 ·
  subst he
  have E : Hid (pParse s ere = (r, 0, 0)) := by show _ = _; rw [E0.out]; rfl
  have a0 := bl_cell (A2.out) 0 _ rfl
  have a1 := bl_cell (A2.out) 1 _ rfl
  have a2 := bl_cell (A2.out) 2 _ rfl
  have a3 := bl_cell (A2.out) 3 _ rfl
  have a4 := bl_cell (A2.out) 4 _ rfl
  have a5 := bl_cell (A2.out) 5 _ rfl
  have a6 := bl_cell (A2.out) 6 _ rfl
  have a7 := bl_cell (A2.out) 7 _ rfl
  have a8 := bl_cell (A2.out) 8 _ rfl
  have b0 := bl_cell (B2.out) 0 _ rfl
  have fb0 := bl_frozen (B2.out) 0
  have b1 := bl_cell (B2.out) 1 _ rfl
  have fb1 := bl_frozen (B2.out) 1
  have b2 := bl_cell (B2.out) 2 _ rfl
  have fb2 := bl_frozen (B2.out) 2
  have b3 := bl_cell (B2.out) 3 _ rfl
  have fb3 := bl_frozen (B2.out) 3
  have b4 := bl_cell (B2.out) 4 _ rfl
  have fb4 := bl_frozen (B2.out) 4
  have b5 := bl_cell (B2.out) 5 _ rfl
  have fb5 := bl_frozen (B2.out) 5
  have b6 := bl_cell (B2.out) 6 _ rfl
  have fb6 := bl_frozen (B2.out) 6
  have b7 := bl_cell (B2.out) 7 _ rfl
  have fb7 := bl_frozen (B2.out) 7
  have b8 := bl_cell (B2.out) 8 _ rfl
  have fb8 := bl_frozen (B2.out) 8
  go_wp2_with fail
  refine bodyPost_ret (v := .tuple #[rxv kk mn mx mm tt (.slice ad ll cc), .int .i64 0, .int .i64 0]) (rx_ret3 rfl _ _ _ _ _ _ rfl rfl rfl (bl_set9 B2.out _ _ _ _ _ _ _ _ _) rfl) rfl ?_
  refine ⟨rxv kk mn mx mm tt (.slice ad ll cc), ?_, ?_, (ks_set9 _ _ _ _ _ _ _ _ _).up K2.out (Nat.le_refl _)⟩
  ·
   rw [E.out]; rfl
  ·
   rw [E.out]; exact (I2.out.ks (ks_set9 _ _ _ _ _ _ _ _ _) (fun _ hb _ => hb.2)).weak (fun _ hb _ => hb.1)
 ·
  have ge : ((er : Int) != 0) = true := by simp; omega
  have E : Hid (pParse s ere = (rx0, i, er)) := by show _ = _; rw [E0.out]; exact if_pos he
  go_upto_region 4 with fail
  have Q0 : Ks w.heap.size W2 W2.drew := (Ks.refl _ _).drew
  have MK : Hid (∀ W, Ks w.heap.size W2 W → W.cell? ⟨(w.heap.size + 1), 2, none⟩ = some (.int .i64 (i : Int)) ∧ Hid (Ks w.heap.size W2 W)) := fun W k => ⟨(R2.out.ks1 k (by omega) (by omega)).cells.2.2.1, k⟩
  refine wp_region_noPanic ?_
  refine wp_region_held_drew (S := (fun W => W.cell? ⟨(w.heap.size + 1), 2, none⟩ = some (.int .i64 (i : Int)) ∧ Hid (Ks w.heap.size W2 W))) (by kernel_rfl) ?_ (fun hH => ?_)
  ·
   exact MK.out _ Q0
  have KQ := Q0
  refine wpAnyH_take (i := 0) (oi := { dst := some 19, op := Op.build 27 #[], type := 27, pos := "parse.go:15", after := #[], guard := none }) (v := ?v0b1) rfl (by kernel_rfl) (by kernel_rfl) (by kernel_rfl) (fun _ _ _ h => h) (Or.inl ⟨by rfl, ?hy0b1⟩) hH ?r0b1
  case hy0b1 => (intro W hSw; (try dsimp only at hSw); go_simp; try (with_reducible rfl))
  try simp only [Act.put, List.setIfInBounds_toArray, List.set_cons_zero, List.set_cons_succ]
  refine wpAnyH_take (i := 1) (oi := { dst := some 20, op := Op.fieldAddr 66 (Operand.tmp 7) 2, type := 0, pos := "parse.go:15", after := #[{ on := 4, ground := Ground.gcOnly Departure.lateStores }], guard := none }) (v := ?v1b2) rfl (by kernel_rfl) (by kernel_rfl) (by kernel_rfl) (fun _ _ _ h => h) (Or.inl ⟨by rfl, ?hy1b2⟩) hH ?r1b2
  case hy1b2 => (intro W hSw; (try dsimp only at hSw); go_simp; try (with_reducible rfl))
  try simp only [Act.put, List.setIfInBounds_toArray, List.set_cons_zero, List.set_cons_succ]
  refine wpAnyH_take (i := 2) (oi := { dst := some 21, op := Op.load 3 (Operand.tmp 20), type := 3, pos := "parse.go:15", after := #[{ on := 1, ground := Ground.data }, { on := 4, ground := Ground.gcOnly Departure.lateStores }], guard := none }) (v := ?v2b3) rfl (by kernel_rfl) (by kernel_rfl) (by kernel_rfl) (fun _ _ _ h => h) (Or.inl ⟨by rfl, ?hy2b3⟩) hH ?r2b3
  case hy2b3 => (intro W hSw; (try dsimp only at hSw); go_simp; try (with_reducible rfl))
  try simp only [Act.put, List.setIfInBounds_toArray, List.set_cons_zero, List.set_cons_succ]
  refine wpAnyH_take (i := 3) (oi := { dst := some 22, op := Op.move (Operand.tmp 9), type := 28, pos := "parse.go:15", after := #[{ on := 5, ground := Ground.gcOnly Departure.lateStores }], guard := none }) (v := ?v3b4) rfl (by kernel_rfl) (by kernel_rfl) (by kernel_rfl) (fun _ _ _ h => h) (Or.inl ⟨by rfl, ?hy3b4⟩) hH ?r3b4
  case hy3b4 => (intro W hSw; (try dsimp only at hSw); go_simp; try (with_reducible rfl))
  try simp only [Act.put, List.setIfInBounds_toArray, List.set_cons_zero, List.set_cons_succ]
  refine wpAnyH_ready (rs := [4]) (by kernel_rfl) (by simp) ?_
  refine AllReadyH.cons (o := { dst := none, op := Op.store 27 (Operand.tmp 4) (Operand.tmp 19), type := 0, pos := "parse.go:15", after := #[{ on := 0, ground := Ground.data }, { on := 0, ground := Ground.phase }, { on := 1, ground := Ground.textOnly Departure.lateStores }, { on := 2, ground := Ground.textOnly Departure.lateStores }, { on := 3, ground := Ground.textOnly Departure.lateStores }], guard := none }) rfl (fun K hKq => ?_) AllReadyH.nil
  have b0 := bl_cell (B2.out) 0 _ rfl
  have fb0 := bl_frozen (B2.out) 0
  have b1 := bl_cell (B2.out) 1 _ rfl
  have fb1 := bl_frozen (B2.out) 1
  have b2 := bl_cell (B2.out) 2 _ rfl
  have fb2 := bl_frozen (B2.out) 2
  have b3 := bl_cell (B2.out) 3 _ rfl
  have fb3 := bl_frozen (B2.out) 3
  have b4 := bl_cell (B2.out) 4 _ rfl
  have fb4 := bl_frozen (B2.out) 4
  have b5 := bl_cell (B2.out) 5 _ rfl
  have fb5 := bl_frozen (B2.out) 5
  have b6 := bl_cell (B2.out) 6 _ rfl
  have fb6 := bl_frozen (B2.out) 6
  have b7 := bl_cell (B2.out) 7 _ rfl
  have fb7 := bl_frozen (B2.out) 7
  have b8 := bl_cell (B2.out) 8 _ rfl
  have fb8 := bl_frozen (B2.out) 8
  go_simp
  refine hKq.out _ _ (MK.out _ (ks_set9 _ _ _ _ _ _ _ _ _).drew) (fun hN => ?_)
  clear hKq K hH KQ
  have hH := hN
  clear hN
  have KQ := hH.2.out
  try simp only [Act.put, List.setIfInBounds_toArray, List.set_cons_zero, List.set_cons_succ]
  refine wpAnyH_take (i := 5) (oi := { dst := some 5, op := Op.assign (Operand.tmp 21), type := 3, pos := "parse.go:15", after := #[{ on := 2, ground := Ground.data }, { on := 4, ground := Ground.chain }, { on := 0, ground := Ground.phase }, { on := 1, ground := Ground.phase }, { on := 2, ground := Ground.phase }, { on := 3, ground := Ground.textOnly Departure.lateStores }, { on := 4, ground := Ground.phase }], guard := none }) (v := ?v5b5) rfl (by kernel_rfl) (by kernel_rfl) (by kernel_rfl) (fun _ _ _ h => h) (Or.inl ⟨by rfl, ?hy5b5⟩) hH ?r5b5
  case hy5b5 => (intro W hSw; (try dsimp only at hSw); go_simp; try (with_reducible rfl))
  try simp only [Act.put, List.setIfInBounds_toArray, List.set_cons_zero, List.set_cons_succ]
  refine wpAnyH_take (i := 6) (oi := { dst := some 6, op := Op.assign (Operand.tmp 22), type := 28, pos := "parse.go:15", after := #[{ on := 3, ground := Ground.data }, { on := 5, ground := Ground.chain }, { on := 0, ground := Ground.phase }, { on := 1, ground := Ground.phase }, { on := 2, ground := Ground.phase }, { on := 3, ground := Ground.phase }, { on := 4, ground := Ground.phase }, { on := 5, ground := Ground.phase }], guard := none }) (v := ?v6b6) rfl (by kernel_rfl) (by kernel_rfl) (by kernel_rfl) (fun _ _ _ h => h) (Or.inl ⟨by rfl, ?hy6b6⟩) hH ?r6b6
  case hy6b6 => (intro W hSw; (try dsimp only at hSw); go_simp; try (with_reducible rfl))
  try simp only [Act.put, List.setIfInBounds_toArray, List.set_cons_zero, List.set_cons_succ]
  refine wpAnyH_done (by kernel_rfl) ?_ _
  refine NoPanic.normal ?_
  go_wp2_with fail
  refine bodyPost_ret (v := .tuple #[rz, .int .i64 (i : Int), .int .i64 (er : Int)]) (rx_ret3 rfl _ _ _ _ _ _ rfl rfl rfl (bl_drew (bl_set9 B2.out _ _ _ _ _ _ _ _ _)) rfl) rfl ?_
  refine ⟨rz, ?_, ?_, ((ks_set9 _ _ _ _ _ _ _ _ _).up K2.out (Nat.le_refl _)).drew⟩
  ·
   rw [E.out]
  ·
   rw [E.out]; exact is_zero _ _
end Go.Proofs.YtommgdgilcemdaaGreatDoor

/-! ### Text1 -/

namespace Go.Proofs.YtommgdgilcemdaaGreatDoor
open Go.RowKit

/-- A text of bytes. -/
def bs (l : List UInt8) : ByteArray := ⟨l.toArray⟩
theorem bs_app (a b : List UInt8) : bs a ++ bs b = bs (a ++ b) := by
 apply ByteArray.ext
 apply Array.toList_inj.1
 rw [ByteArray.data_append, Array.toList_append]
 simp [bs]
theorem bs_size (a : List UInt8) : (bs a).size = a.length := by
 show a.toArray.size = a.length
 simp
theorem bs_toList (a : List UInt8) : (bs a).toList = a := ByteArray.toList_mk a
def dec (n : Nat) : List UInt8 := Lib.decDigits n
theorem dec_len (n : Nat) (h : n < 100) : (dec n).length ≤ 2 := (by decide +kernel : ∀ n : Fin 100, (dec n.val).length ≤ 2) ⟨n, h⟩
theorem itoa_any (n : Nat) (h : n < 100) (w : World) : Calls Tryz.prog 51 #[.int .i64 (n : Int)] w fun e w' => e = .returned (.string (bs (dec n))) ∧ w' = w := Tryz.strconv_Itoa_small n h w

def framedT (a x b : List UInt8) (ere : Bool) : List UInt8 := if ere then a ++ x ++ b else [92] ++ a ++ x ++ [92] ++ b
set_option maxHeartbeats 2000000 in
set_option maxRecDepth 100000 in
theorem framed_any (a x b : List UInt8) (ere : Bool) (ha : a.length ≤ 100) (hx : x.length ≤ 10000000) (hb : b.length ≤ 100) (w : World) : Calls Tryz.prog 83 #[.string (bs a), .string (bs x), .string (bs b), .bool ere] w fun e w' => e = .returned (.string (bs (framedT a x b ere))) ∧ w' = w := by
 rw [← bs_size] at ha hx hb
 have E : Hid (bs (framedT a x b ere) = if ere then bs a ++ bs x ++ bs b else bs [92] ++ bs a ++ bs x ++ bs [92] ++ bs b) := by
  show _ = _
  unfold framedT
  cases ere <;> simp [bs_app]
 obtain ⟨A, hA⟩ : ∃ A, bs a = A := ⟨_, rfl⟩
 obtain ⟨X, hX⟩ : ∃ X, bs x = X := ⟨_, rfl⟩
 obtain ⟨B, hB⟩ : ∃ B, bs b = B := ⟨_, rfl⟩
 rw [hA, hX, hB] at E
 rw [hA] at ha ⊢
 rw [hX] at hx ⊢
 rw [hB] at hb ⊢
 clear hA hX hB
 cases ere with
 | true =>
  go_enter Tryz.func83, Tryz.ntmps83
  go_wp2
  go_ret
  exact ⟨by rw [E.out]; rfl, rfl⟩
 | false =>
  go_enter Tryz.func83, Tryz.ntmps83
  go_wp2
  go_ret
  exact ⟨by rw [E.out]; rfl, rfl⟩

def ivT (lo : Nat) (hi : Int) : List UInt8 := if hi = lo then dec lo else if hi = -1 then dec lo ++ [44] else dec lo ++ [44] ++ dec hi.toNat

set_option maxHeartbeats 2000000 in
set_option maxRecDepth 100000 in
theorem ivText_any (lo : Nat) (hi : Int) (hlo : lo ≤ 20) (h1 : -1 ≤ hi) (h2 : hi ≤ 20) (w : World) : Calls Tryz.prog 113 #[.int .i64 (lo : Int), .int .i64 hi] w fun e w' => e = .returned (.string (bs (ivT lo hi))) ∧ w' = w := by
 have hd : (bs (dec lo)).size ≤ 2 := by rw [bs_size]; exact dec_len lo (by omega)
 obtain ⟨A, hA⟩ : ∃ A, bs (dec lo) = A := ⟨_, rfl⟩
 have IT : Hid (∀ w, Calls Tryz.prog 51 #[.int .i64 (lo : Int)] w fun e w' => e = .returned (.string A) ∧ w' = w) := fun w => by rw [← hA]; exact itoa_any lo (by omega) w
 have HA := hid hA
 rw [hA] at hd
 clear hA
 by_cases e1 : hi = lo
 ·
  subst e1
  have E : Hid (bs (ivT lo (lo : Int)) = A) := by show _ = _; unfold ivT; rw [if_pos rfl, HA.out]
  go_enter Tryz.func113, Tryz.ntmps113
  go_wp2_with fail
  refine (IT.out _).mono ?_
  rintro e w1 ⟨rfl, rfl⟩
  go_wp2_with fail
  go_ret
  exact ⟨by rw [E.out]; rfl, rfl⟩
 have g1 : (hi == (lo : Int)) = false := by simp [e1]
 by_cases e2 : hi = -1
 ·
  subst e2
  have E : Hid (bs (ivT lo (-1)) = A ++ bs [44]) := by show _ = _; unfold ivT; rw [if_neg e1, if_pos rfl, ← HA.out, bs_app]
  go_enter Tryz.func113, Tryz.ntmps113
  go_wp2_with fail
  refine (IT.out _).mono ?_
  rintro e w1 ⟨rfl, rfl⟩
  go_wp2_with fail
  go_ret
  exact ⟨by rw [E.out]; rfl, rfl⟩
 have g2 : (hi == -1) = false := by simp [e2]
 obtain ⟨h, rfl⟩ : ∃ h : Nat, hi = h := ⟨hi.toNat, by omega⟩
 have hd2 : (bs (dec h)).size ≤ 2 := by rw [bs_size]; exact dec_len h (by omega)
 obtain ⟨B, hB⟩ : ∃ B, bs (dec h) = B := ⟨_, rfl⟩
 have IT2 : Hid (∀ w, Calls Tryz.prog 51 #[.int .i64 (h : Int)] w fun e w' => e = .returned (.string B) ∧ w' = w) := fun w => by rw [← hB]; exact itoa_any h (by omega) w
 have E : Hid (bs (ivT lo (h : Int)) = A ++ bs [44] ++ B) := by show _ = _; unfold ivT; rw [if_neg e1, if_neg e2, ← HA.out, ← hB, bs_app, bs_app]; simp
 rw [hB] at hd2
 clear hB
 go_enter Tryz.func113, Tryz.ntmps113
 go_wp2_with fail
 refine (IT.out _).mono ?_
 rintro e w1 ⟨rfl, rfl⟩
 go_wp2_with fail
 refine (IT2.out _).mono ?_
 rintro e w2 ⟨rfl, rfl⟩
 go_wp2_with fail
 go_ret
 exact ⟨by rw [E.out]; rfl, rfl⟩

def timesT (lo : Nat) (hi : Int) (ere : Bool) : List UInt8 :=
 if lo = 0 ∧ hi = -1 then [42] else if ere = true ∧ lo = 1 ∧ hi = -1 then [43] else if ere = true ∧ lo = 0 ∧ hi = 1 then [63] else framedT [123] (ivT lo hi) [125] ere
theorem ivT_len (lo : Nat) (hi : Int) (hlo : lo ≤ 20) (h1 : -1 ≤ hi) (h2 : hi ≤ 20) : (ivT lo hi).length ≤ 5 := by
 have a := dec_len lo (by omega)
 have b := dec_len hi.toNat (by omega)
 unfold ivT
 split
 ·
  omega
 ·
  split
  ·
   simp; omega
  ·
   simp; omega

set_option maxHeartbeats 2000000 in
set_option maxRecDepth 100000 in
theorem timesText_any (lo : Nat) (hi : Int) (ere : Bool) (hlo : lo ≤ 20) (h1 : -1 ≤ hi) (h2 : hi ≤ 20) (w : World) : Calls Tryz.prog 82 #[.int .i64 (lo : Int), .int .i64 hi, .bool ere] w fun e w' => e = .returned (.string (bs (timesT lo hi ere))) ∧ w' = w := by
 have FR := hid (framed_any [123] (ivT lo hi) [125] ere (by simp) (by have := ivT_len lo hi hlo h1 h2; omega) (by simp))
 have IV := hid (ivText_any lo hi hlo h1 h2)
 by_cases l0 : lo = 0
 ·
  subst l0
  by_cases m1 : hi = -1
  ·
   subst m1
   have E : Hid (timesT 0 (-1) ere = [42]) := by show _ = _; unfold timesT; rw [if_pos ⟨rfl, rfl⟩]
   go_enter Tryz.func82, Tryz.ntmps82
   go_wp2
   go_ret
   exact ⟨by rw [E.out]; rfl, rfl⟩
  have n1 : (hi == -1) = false := by simp [m1]
  cases ere with
  | false =>
   have E : Hid (timesT 0 hi false = framedT [123] (ivT 0 hi) [125] false) := by show _ = _; unfold timesT; simp [m1]
   go_enter Tryz.func82, Tryz.ntmps82
   go_wp2_with fail
   refine (IV.out _).mono ?_
   rintro e w1 ⟨rfl, rfl⟩
   go_wp2_with fail
   refine (FR.out _).mono ?_
   rintro e w2 ⟨rfl, rfl⟩
   go_wp2_with fail
   go_ret
   exact ⟨by rw [E.out]; rfl, rfl⟩
  | true =>
   by_cases p1 : hi = 1
   ·
    subst p1
    have E : Hid (timesT 0 1 true = [63]) := rfl
    go_enter Tryz.func82, Tryz.ntmps82
    go_wp2
    go_ret
    exact ⟨by rw [E.out]; rfl, rfl⟩
   have n2 : (hi == 1) = false := by simp [p1]
   have E : Hid (timesT 0 hi true = framedT [123] (ivT 0 hi) [125] true) := by show _ = _; unfold timesT; simp [m1, p1]
   go_enter Tryz.func82, Tryz.ntmps82
   go_wp2_with fail
   refine (IV.out _).mono ?_
   rintro e w1 ⟨rfl, rfl⟩
   go_wp2_with fail
   refine (FR.out _).mono ?_
   rintro e w2 ⟨rfl, rfl⟩
   go_wp2_with fail
   go_ret
   exact ⟨by rw [E.out]; rfl, rfl⟩
 have n0 : ((lo : Int) == 0) = false := by simp; omega
 cases ere with
 | false =>
  have E : Hid (timesT lo hi false = framedT [123] (ivT lo hi) [125] false) := by show _ = _; unfold timesT; simp [l0]
  go_enter Tryz.func82, Tryz.ntmps82
  go_wp2_with fail
  refine (IV.out _).mono ?_
  rintro e w1 ⟨rfl, rfl⟩
  go_wp2_with fail
  refine (FR.out _).mono ?_
  rintro e w2 ⟨rfl, rfl⟩
  go_wp2_with fail
  go_ret
  exact ⟨by rw [E.out]; rfl, rfl⟩
 | true =>
  by_cases l1 : lo = 1
  ·
   subst l1
   by_cases m1 : hi = -1
   ·
    subst m1
    have E : Hid (timesT 1 (-1) true = [43]) := rfl
    go_enter Tryz.func82, Tryz.ntmps82
    go_wp2
    go_ret
    exact ⟨by rw [E.out]; rfl, rfl⟩
   have n1 : (hi == -1) = false := by simp [m1]
   have E : Hid (timesT 1 hi true = framedT [123] (ivT 1 hi) [125] true) := by show _ = _; unfold timesT; simp [m1]
   go_enter Tryz.func82, Tryz.ntmps82
   go_wp2_with fail
   refine (IV.out _).mono ?_
   rintro e w1 ⟨rfl, rfl⟩
   go_wp2_with fail
   refine (FR.out _).mono ?_
   rintro e w2 ⟨rfl, rfl⟩
   go_wp2_with fail
   go_ret
   exact ⟨by rw [E.out]; rfl, rfl⟩
  have n3 : ((lo : Int) == 1) = false := by simp; omega
  have E : Hid (timesT lo hi true = framedT [123] (ivT lo hi) [125] true) := by show _ = _; unfold timesT; simp [l0, l1]
  go_enter Tryz.func82, Tryz.ntmps82
  go_wp2_with fail
  refine (IV.out _).mono ?_
  rintro e w1 ⟨rfl, rfl⟩
  go_wp2_with fail
  refine (FR.out _).mono ?_
  rintro e w2 ⟨rfl, rfl⟩
  go_wp2_with fail
  go_ret
  exact ⟨by rw [E.out]; rfl, rfl⟩

def byteT (b : Nat) (ere : Bool) : List UInt8 := if b = 10 then [92, 110] else if spec ere b then [92, UInt8.ofNat b] else [UInt8.ofNat b]
theorem conv_one (W : World) (b : Nat) (hb : b < 256) : (convert 59 9 (.slice (some ⟨W.heap.size, 0, none⟩) 1 1)).run Tryz.prog (W.alloc (.cells #[.int .u8 (b : Int)] 5)) = .ok (.string (bs [UInt8.ofNat b])) (W.alloc (.cells #[.int .u8 (b : Int)] 5)) := by
 refine run_convert_bytes_back (W.alloc (.cells #[.int .u8 (b : Int)] 5)) 59 9 5 ⟨W.heap.size, 0, none⟩ 1 [UInt8.ofNat b] Tryz.underlying59 Tryz.underlying5 Tryz.underlying9 ?_
 intro j hj
 have h0 : j = 0 := by simp at hj; exact hj
 subst h0
 refine bl_cell (last_of _ _) 0 _ ?_
 show some _ = some _
 simp
 omega

set_option maxHeartbeats 2000000 in
set_option maxRecDepth 100000 in
theorem byteText_any (b : Nat) (hb : b < 256) (ere : Bool) (w : World) : Calls Tryz.prog 109 #[.int .u8 (b : Int), .bool ere] w fun e w' => e = .returned (.string (bs (byteT b ere))) ∧ Kp w w' := by
 by_cases h10 : b = 10
 ·
  subst h10
  have E : Hid (byteT 10 ere = [92, 110]) := rfl
  go_enter Tryz.func109, Tryz.ntmps109
  go_wp2
  go_ret
  exact ⟨by rw [E.out]; rfl, Kp.refl _⟩
 have g : ((b : Int) == 10) = false := by simp; omega
 obtain ⟨sp, hsp⟩ : ∃ sp, spec ere b = sp := ⟨_, rfl⟩
 have HSP := hid hsp
 have E0 : Hid (byteT b ere = if sp then [92, UInt8.ofNat b] else [UInt8.ofNat b]) := by show _ = _; unfold byteT; rw [if_neg h10, hsp]
 clear hsp
 go_enter Tryz.func109, Tryz.ntmps109
 go_wp2_with fail
 refine (special_any ere _).mono ?_
 rintro e W1 ⟨rfl, k1⟩
 have K1 := hid k1
 clear k1
 go_wp2_with fail
 refine (has_any (spec ere) b _ hb).mono ?_
 rintro e W2 ⟨rfl, k2⟩
 rw [HSP.out]
 have K2 := hid (K1.out.trans k2)
 have cv := conv_one W2 b hb
 have hz : (bs [UInt8.ofNat b]).size ≤ 10 := by rw [bs_size]; simp
 obtain ⟨T, hT⟩ : ∃ T, bs [UInt8.ofNat b] = T := ⟨_, rfl⟩
 rw [hT] at cv hz
 have HT := hid hT
 clear k2 hT K1
 cases sp with
 | true =>
  have E : Hid (bs (byteT b ere) = bs [92] ++ T) := by show _ = _; rw [E0.out, ← HT.out, bs_app]; rfl
  go_wp2_with fail
  go_ret
  exact ⟨by rw [E.out]; rfl, K2.out.alloc _⟩
 | false =>
  have E : Hid (bs (byteT b ere) = T) := by show _ = _; rw [E0.out, ← HT.out]; rfl
  go_wp2_with fail
  go_ret
  exact ⟨by rw [E.out]; rfl, K2.out.alloc _⟩
end Go.Proofs.YtommgdgilcemdaaGreatDoor

/-! ### Row2 -/

namespace Go.Proofs.YtommgdgilcemdaaGreatDoor
open Go.RowKit

def u8s (l : List Nat) : List UInt8 := l.map UInt8.ofNat
def mid (b : Nat) : Bool := !(b == 93) && !(b == 94) && !(b == 45)
def rowT (p : Nat → Bool) : List UInt8 := u8s ((lst p 256).filter (· == 93)) ++ u8s ((lst p 256).filter mid) ++ u8s ((lst p 256).filter (· == 94)) ++ u8s ((lst p 256).filter (· == 45))
theorem lst_lt (p : Nat → Bool) (k : Nat) : ∀ x ∈ lst p k, x < k := by
 intro x hx
 unfold lst at hx
 simp at hx
 exact hx.1
theorem lst_len (p : Nat → Bool) (k : Nat) : (lst p k).length ≤ k := by rw [lst_length]; exact cnt_le p k

/-- A row of bytes that the call owns. -/
def Ow (base : Nat) (w : World) (v : Value) (l : List Nat) : Prop := w.ownsRow base 5 1 v l.length (l.map u8v)
theorem Ow.kp {base : Nat} {w w' : World} {v : Value} {l : List Nat} (h : Ow base w v l) (k : Kp w w') : Ow base w' v l := owns_kp h k
theorem Ow.conv {base : Nat} {w : World} {v : Value} {l : List Nat} (h : Ow base w v l) (hl : ∀ x ∈ l, x < 256) : (convert 59 9 v).run Tryz.prog w = .ok (.string (bs (u8s l))) w := by
 obtain ⟨h1, h2⟩ := h
 rcases h2 with ⟨rfl, h0⟩ | ⟨g, cap, cur, rfl, hb, hg, hc, hm, hs, ht⟩
 ·
  have : l = [] := List.eq_nil_of_length_eq_zero h0
  subst this
  exact Lib.run_convert_nil_bytes w 59 9 5 0 Tryz.underlying59 Tryz.underlying5 Tryz.underlying9
 ·
  have hlen : (u8s l).length = l.length := by simp [u8s]
  rw [← hlen]
  refine run_convert_bytes_back w 59 9 5 ⟨g, 0, none⟩ cap (u8s l) Tryz.underlying59 Tryz.underlying5 Tryz.underlying9 ?_
  intro j hj
  have hj' : j < l.length := by rw [← hlen]; exact hj
  have hx : (u8s l)[j] = UInt8.ofNat l[j] := by simp [u8s]
  rw [hx]
  have hlt := hl l[j] (List.getElem_mem hj')
  rw [show (⟨g, 0, none⟩ : Addr).add j = ⟨g, j, none⟩ by simp [Addr.add]; exact Eq.symm]
  refine bl_cell hg j _ ?_
  have e1 : (cur.toList.take (l.length * 1))[j]? = (l.map u8v)[j]? := by rw [ht]
  rw [List.getElem?_take, if_pos (by omega), Array.getElem?_toList] at e1
  rw [e1, List.getElem?_map, List.getElem?_eq_getElem hj']
  show some _ = some _
  congr 1
  show Value.int .u8 _ = Value.int .u8 _
  congr 1
  rw [UInt8.toNat_ofNat_of_lt' (by simpa using hlt)]
theorem Ow.at {base : Nat} {w : World} {v : Value} {l : List Nat} (h : Ow base w v l) (j x : Nat) (hj : l[j]? = some x) : ∃ g cap, v = .slice (some ⟨g, 0, none⟩) l.length cap ∧ w.cell? ⟨g, j, none⟩ = some (.int .u8 (x : Int)) := by
 obtain ⟨h1, h2⟩ := h
 rcases h2 with ⟨rfl, h0⟩ | ⟨g, cap, cur, rfl, hb, hg, hc, hm, hs, ht⟩
 ·
  rw [List.eq_nil_of_length_eq_zero h0] at hj; simp at hj
 ·
  have hj' : j < l.length := (List.getElem?_eq_some_iff.1 hj).1
  refine ⟨g, cap, rfl, bl_cell hg j _ ?_⟩
  have e1 : (cur.toList.take (l.length * 1))[j]? = (l.map u8v)[j]? := by rw [ht]
  rw [List.getElem?_take, if_pos (by omega), Array.getElem?_toList] at e1
  rw [e1, List.getElem?_map, hj]
  rfl
theorem Ow.turn {base : Nat} {w w' : World} {row : Option Nat} {v : Value} {l : List Nat} (h : Ow base w v l) (g : w.grownBy w' row) (hne : ∀ b, v.ownBlock = some b → row ≠ some b) : Ow base w' v l := by
 obtain ⟨h1, h2⟩ := h
 refine ⟨h1, ?_⟩
 rcases h2 with h2 | ⟨gb, cap, cur, hv, hb, hg, hr⟩
 ·
  exact .inl h2
 ·
  exact .inr ⟨gb, cap, cur, hv, hb, (g.block gb (Array.getElem?_eq_some_iff.1 hg).1 (Ne.symm (hne gb (by rw [hv]; rfl)))).trans hg, hr⟩

/-- Two rows don't lie in one block. -/
def Off (u v : Value) : Prop := ∀ b, u.ownBlock = some b → v.ownBlock ≠ some b
/-- A byte put behind: where the new row lies is told too. -/
theorem wpList_append_b {ops : Array Oper} {rest : List Oper} {o : Oper} {a : Act} {Q : Exit → Act → World → Prop} (W : World) (hgd : o.guard = none) (s x : Operand)
  (ho : o.op = .call { callee := .builtin .append, args := #[s, x], argTypes := #[59, 59] })
  (base : Nat) (v : Value) (b : Nat) (l : List Nat) (hs : a.eval s = v) (hown : Hid (Ow base W v l)) (B : Nat) (hB : B = W.heap.size)
  (hx : a.eval x = .slice (some ⟨B, 0, none⟩) 1 1) (h63 : l.length ≤ 900) (hbase : base ≤ W.heap.size)
  (h : ∀ v' w', Ow base w' v' (l ++ [b]) → W.grownBy w' v.ownBlock → (v'.ownBlock = v.ownBlock ∨ v'.ownBlock = some (W.heap.size + 1)) → wpList Tryz.prog ops Q rest (a.put o.dst v') w') :
  wpList Tryz.prog ops Q (o :: rest) a (W.alloc (.cells #[.int .u8 (b : Int)] 5)) := by
 obtain ⟨i, hi, hz, hsz, hby⟩ := info5
 have kal : Kp W (W.alloc (.cells #[.int .u8 (b : Int)] 5)) := (Kp.refl _).alloc _
 subst hB
 refine wpList_append_own_at (W.alloc (.cells #[.int .u8 (b : Int)] 5)) hgd s x 59 ho base 5 i (.int .u8 0) 1 1 Tryz.underlying59 hi hz hsz hby rfl (by omega) v l.length (l.map u8v) hs (hown.out.alloc _) ⟨W.heap.size, 0, none⟩ 1 1 [u8v b] hx rfl ?_ ?_ (by unfold maxLen; omega) (by omega) (by simp; omega) ?_
 ·
  intro j y hj
  match j, hj with
  | 0, hj => simp at hj; subst hj; simp [Addr.add]
 ·
  intro y hy; simp at hy; subst hy; rfl
 ·
  intro v' w' a1 a2 _ a4
  refine h v' w' ?_ ⟨a2.os.trans rfl, a2.tape.trans rfl, a2.output.trans rfl, Nat.le_trans kal.size a2.size, fun k hk hne => (a2.block k (Nat.lt_of_lt_of_le hk kal.size) hne).trans (kal.block k hk)⟩ ?_
  ·
   unfold Ow
   rw [List.length_append, List.map_append]
   exact a1
  ·
   rcases a4 with a4 | a4
   ·
    exact Or.inl a4
   ·
    refine Or.inr (a4.trans ?_)
    simp

end Go.Proofs.YtommgdgilcemdaaGreatDoor
