/-
  back: the number of a group that has begun.
-/
import Derived.Test.YtikmgckefbjbkaaGreatDoorRet
namespace Go.Proofs.YtikmgckefbjbkaaGreatDoor
open Go.RowKit
attribute [local go_sem] field91

set_option maxRecDepth 100000 in
theorem back_any (x b z : Nat) (s : ByteArray) (ere : Bool) (i n g d P : Nat) (w : World) (h : Rd w P s ere i n g d) (hi : i ≤ 1000000000) (hz : z ≤ 100) (hn : n ≤ 1000000000) (hb : 48 ≤ b) (hb' : b ≤ 57) :
    Calls Tryz.prog 93 #[.pointer (some ⟨P, 0, none⟩), .agg #[.int .i64 (x : Int), .int .u8 (b : Int), .int .i64 (z : Int)]] w fun e w' => ∃ v, e = .returned (.tuple #[v, .int .i64 ((pBack b z ⟨i, n, g, d⟩).e : Nat)]) ∧ Ret w P s ere (pBack b z ⟨i, n, g, d⟩) v w' := by
  have R : Hid (Rd w P s ere i n g d) := h
  have hP : P < w.heap.size := h.lt
  clear h
  have gw : IntKind.u8.wrap ((b : Int) - 48) = (b : Int) - 48 := by rw [IntKind.wrap_u8']; omega
  have gw' : IntKind.i64.wrap ((b : Int) - 48) = (b : Int) - 48 := by rw [IntKind.wrap_i64]; omega
  by_cases hc : b < 49 ∨ g + 48 < b
  · have E : Hid (pBack b z ⟨i, n, g, d⟩ = ⟨rx0, 1, ⟨i, n, g, d⟩⟩) := by show _ = _; unfold pBack; rw [if_pos hc]
    have fin : ∀ (W0 w2 : World), Rd W0 P s ere i n g d → Ks P w W0 → Ks (w.heap.size + 1) W0 w2 → ∃ v, Ending.returned (.tuple #[rz, .int .i64 1]) = .returned (.tuple #[v, .int .i64 ((pBack b z ⟨i, n, g, d⟩).e : Nat)]) ∧ Ret w P s ere (pBack b z ⟨i, n, g, d⟩) v w2 := by
      intro W0 w2 r k k'
      rw [E.out]
      exact ⟨_, rfl, Ret.fail r k k' hP (by omega)⟩
    have FIN := hid fin
    clear fin
    by_cases h1 : b < 49
    · have c1 : (b : Int) - 48 < 1 := by omega
      go_enter Tryz.func93, Tryz.ntmps93
      go_upto_region 1 with fail
      refine opq (fun W0 => Rd W0 P s ere i n g d ∧ W0.heap[w.heap.size]? = some (sgo x b z) ∧ W0.heap[(w.heap.size + 1)]? = some rzo ∧ Kp w W0) ⟨by exact R.out.kp (by repeat (first | exact Kp.refl _ | refine Kp.alloc ?_ _ | refine Kp.drew ?_ | refine Kp.drewN _ ?_)), by (first | exact last_at _ _ _ (by simp) | (refine bl_alloc ?_ _; first | exact last_at _ _ _ (by simp) | (refine bl_alloc ?_ _; first | exact last_at _ _ _ (by simp) | (refine bl_alloc ?_ _; exact last_at _ _ _ (by simp))))), by (first | exact last_at _ _ _ (by simp) | (refine bl_alloc ?_ _; first | exact last_at _ _ _ (by simp) | (refine bl_alloc ?_ _; first | exact last_at _ _ _ (by simp) | (refine bl_alloc ?_ _; exact last_at _ _ _ (by simp))))), by exact (by repeat (first | exact Kp.refl _ | refine Kp.alloc ?_ _ | refine Kp.drew ?_ | refine Kp.drewN _ ?_))⟩ ?_
      rintro W0 ⟨xR0, xG0, xB0, xK0⟩
      have R0 : Hid (Rd W0 P s ere i n g d) := xR0
      have G0 : Hid (W0.heap[w.heap.size]? = some (sgo x b z)) := xG0
      have B0 : Hid (W0.heap[(w.heap.size + 1)]? = some rzo) := xB0
      have K0 : Hid (Kp w W0) := xK0
      clear xR0 xG0 xB0 xK0
      have ks0 : Hid (Ks P w W0) := K0.out.ks (Nat.le_of_lt hP)
      have hs0 : w.heap.size + 1 < W0.heap.size := bl_lt B0.out
      have p4 := R0.out.cells.2.2.2.2.1
      have q0 := bl_cell G0.out 0 _ rfl
      have q1 := bl_cell G0.out 1 _ rfl
      have q2 := bl_cell G0.out 2 _ rfl
      clear K0
      have b0 := bl_cell (B0.out) 0 _ rfl
      have fb0 := bl_frozen (B0.out) 0
      have b1 := bl_cell (B0.out) 1 _ rfl
      have fb1 := bl_frozen (B0.out) 1
      have b2 := bl_cell (B0.out) 2 _ rfl
      have fb2 := bl_frozen (B0.out) 2
      have b3 := bl_cell (B0.out) 3 _ rfl
      have fb3 := bl_frozen (B0.out) 3
      have b4 := bl_cell (B0.out) 4 _ rfl
      have fb4 := bl_frozen (B0.out) 4
      have b5 := bl_cell (B0.out) 5 _ rfl
      have fb5 := bl_frozen (B0.out) 5
      have b6 := bl_cell (B0.out) 6 _ rfl
      have fb6 := bl_frozen (B0.out) 6
      have b7 := bl_cell (B0.out) 7 _ rfl
      have fb7 := bl_frozen (B0.out) 7
      have b8 := bl_cell (B0.out) 8 _ rfl
      have fb8 := bl_frozen (B0.out) 8
      go_wp2_with fail
      refine bodyPost_ret (v := .tuple #[rz, .int .i64 1]) (rx_ret2 rfl _ _ _ _ _ rfl rfl (bl_set9 B0.out _ _ _ _ _ _ _ _ _) rfl) rfl ?_
      exact FIN.out _ _ R0.out ks0.out (ks_set9 _ _ _ _ _ _ _ _ _)
    · have c1 : ¬ (b : Int) - 48 < 1 := by omega
      have c2 : (g : Int) < (b : Int) - 48 := by omega
      go_enter Tryz.func93, Tryz.ntmps93
      go_upto_region 1 with fail
      refine opq (fun W0 => Rd W0 P s ere i n g d ∧ W0.heap[w.heap.size]? = some (sgo x b z) ∧ W0.heap[(w.heap.size + 1)]? = some rzo ∧ Kp w W0) ⟨by exact R.out.kp (by repeat (first | exact Kp.refl _ | refine Kp.alloc ?_ _ | refine Kp.drew ?_ | refine Kp.drewN _ ?_)), by (first | exact last_at _ _ _ (by simp) | (refine bl_alloc ?_ _; first | exact last_at _ _ _ (by simp) | (refine bl_alloc ?_ _; first | exact last_at _ _ _ (by simp) | (refine bl_alloc ?_ _; exact last_at _ _ _ (by simp))))), by (first | exact last_at _ _ _ (by simp) | (refine bl_alloc ?_ _; first | exact last_at _ _ _ (by simp) | (refine bl_alloc ?_ _; first | exact last_at _ _ _ (by simp) | (refine bl_alloc ?_ _; exact last_at _ _ _ (by simp))))), by exact (by repeat (first | exact Kp.refl _ | refine Kp.alloc ?_ _ | refine Kp.drew ?_ | refine Kp.drewN _ ?_))⟩ ?_
      rintro W0 ⟨xR0, xG0, xB0, xK0⟩
      have R0 : Hid (Rd W0 P s ere i n g d) := xR0
      have G0 : Hid (W0.heap[w.heap.size]? = some (sgo x b z)) := xG0
      have B0 : Hid (W0.heap[(w.heap.size + 1)]? = some rzo) := xB0
      have K0 : Hid (Kp w W0) := xK0
      clear xR0 xG0 xB0 xK0
      have ks0 : Hid (Ks P w W0) := K0.out.ks (Nat.le_of_lt hP)
      have hs0 : w.heap.size + 1 < W0.heap.size := bl_lt B0.out
      have p4 := R0.out.cells.2.2.2.2.1
      have q0 := bl_cell G0.out 0 _ rfl
      have q1 := bl_cell G0.out 1 _ rfl
      have q2 := bl_cell G0.out 2 _ rfl
      clear K0
      have b0 := bl_cell (B0.out) 0 _ rfl
      have fb0 := bl_frozen (B0.out) 0
      have b1 := bl_cell (B0.out) 1 _ rfl
      have fb1 := bl_frozen (B0.out) 1
      have b2 := bl_cell (B0.out) 2 _ rfl
      have fb2 := bl_frozen (B0.out) 2
      have b3 := bl_cell (B0.out) 3 _ rfl
      have fb3 := bl_frozen (B0.out) 3
      have b4 := bl_cell (B0.out) 4 _ rfl
      have fb4 := bl_frozen (B0.out) 4
      have b5 := bl_cell (B0.out) 5 _ rfl
      have fb5 := bl_frozen (B0.out) 5
      have b6 := bl_cell (B0.out) 6 _ rfl
      have fb6 := bl_frozen (B0.out) 6
      have b7 := bl_cell (B0.out) 7 _ rfl
      have fb7 := bl_frozen (B0.out) 7
      have b8 := bl_cell (B0.out) 8 _ rfl
      have fb8 := bl_frozen (B0.out) 8
      go_wp2_with fail
      refine bodyPost_ret (v := .tuple #[rz, .int .i64 1]) (rx_ret2 rfl _ _ _ _ _ rfl rfl (bl_set9 B0.out _ _ _ _ _ _ _ _ _) rfl) rfl ?_
      exact FIN.out _ _ R0.out ks0.out (ks_set9 _ _ _ _ _ _ _ _ _)
  · have E : Hid (pBack b z ⟨i, n, g, d⟩ = pTake z (.mk 6 0 0 ((b : Int) - 48) W4.z []) ⟨i, n, g, d⟩) := by show _ = _; unfold pBack; rw [if_neg hc]
    have c1 : ¬ (b : Int) - 48 < 1 := by omega
    have c2 : ¬ (g : Int) < (b : Int) - 48 := by omega
    have fin : ∀ (W0 w2 w3 : World), Ret W0 P s ere (pTake z (.mk 6 0 0 ((b : Int) - 48) W4.z []) ⟨i, n, g, d⟩) (rxv 6 0 0 ((b : Int) - 48) W4.z (.slice none 0 0)) w2 → Ks P w W0 → w.heap.size + 1 < W0.heap.size → Ks (w.heap.size + 1) w2 w3 → ∃ v, Ending.returned (.tuple #[rxv 6 0 0 ((b : Int) - 48) W4.z (.slice none 0 0), .int .i64 0]) = .returned (.tuple #[v, .int .i64 ((pBack b z ⟨i, n, g, d⟩).e : Nat)]) ∧ Ret w P s ere (pBack b z ⟨i, n, g, d⟩) v w3 := by
      intro W0 w2 w3 r k hl k'
      rw [E.out]
      exact ⟨_, rfl, r.upset k k' hP (by omega) hl⟩
    have FIN := hid fin
    clear fin hc
    go_enter Tryz.func93, Tryz.ntmps93
    go_upto_region 1 with fail
    refine opq (fun W0 => Rd W0 P s ere i n g d ∧ W0.heap[w.heap.size]? = some (sgo x b z) ∧ W0.heap[(w.heap.size + 1)]? = some rzo ∧ Kp w W0) ⟨by exact R.out.kp (by repeat (first | exact Kp.refl _ | refine Kp.alloc ?_ _ | refine Kp.drew ?_ | refine Kp.drewN _ ?_)), by (first | exact last_at _ _ _ (by simp) | (refine bl_alloc ?_ _; first | exact last_at _ _ _ (by simp) | (refine bl_alloc ?_ _; first | exact last_at _ _ _ (by simp) | (refine bl_alloc ?_ _; exact last_at _ _ _ (by simp))))), by (first | exact last_at _ _ _ (by simp) | (refine bl_alloc ?_ _; first | exact last_at _ _ _ (by simp) | (refine bl_alloc ?_ _; first | exact last_at _ _ _ (by simp) | (refine bl_alloc ?_ _; exact last_at _ _ _ (by simp))))), by exact (by repeat (first | exact Kp.refl _ | refine Kp.alloc ?_ _ | refine Kp.drew ?_ | refine Kp.drewN _ ?_))⟩ ?_
    rintro W0 ⟨xR0, xG0, xB0, xK0⟩
    have R0 : Hid (Rd W0 P s ere i n g d) := xR0
    have G0 : Hid (W0.heap[w.heap.size]? = some (sgo x b z)) := xG0
    have B0 : Hid (W0.heap[(w.heap.size + 1)]? = some rzo) := xB0
    have K0 : Hid (Kp w W0) := xK0
    clear xR0 xG0 xB0 xK0
    have ks0 : Hid (Ks P w W0) := K0.out.ks (Nat.le_of_lt hP)
    have hs0 : w.heap.size + 1 < W0.heap.size := bl_lt B0.out
    have p4 := R0.out.cells.2.2.2.2.1
    have q0 := bl_cell G0.out 0 _ rfl
    have q1 := bl_cell G0.out 1 _ rfl
    have q2 := bl_cell G0.out 2 _ rfl
    clear K0
    go_wp2_with fail
    refine (take_ret0 x b z 6 0 0 ((b : Int) - 48) none 0 0 s ere i n g d P (.mk 6 0 0 ((b : Int) - 48) W4.z []) W0 _ R0.out hi hz hn (Is.leaf _ _ _ _ _ _ _) (Ks.refl _ _) (by omega)).mono ?_
    rintro e w2 ⟨rfl, r2, k2⟩
    have R2 : Hid (Ret W0 P s ere (pTake z (.mk 6 0 0 ((b : Int) - 48) W4.z []) ⟨i, n, g, d⟩) (rxv 6 0 0 ((b : Int) - 48) W4.z (.slice none 0 0)) w2) := r2
    have B2 : Hid (w2.heap[w.heap.size + 1]? = some rzo) := bl_ks B0.out (by omega) k2
    clear r2 k2 p4 q0 q1 q2
    have b0 := bl_cell (B2.out) 0 _ rfl
    have fb0 := bl_frozen (B2.out) 0
    have b1 := bl_cell (B2.out) 1 _ rfl
    have fb1 := bl_frozen (B2.out) 1
    have b2 := bl_cell (B2.out) 2 _ rfl
    have fb2 := bl_frozen (B2.out) 2
    have b3 := bl_cell (B2.out) 3 _ rfl
    have fb3 := bl_frozen (B2.out) 3
    have b4 := bl_cell (B2.out) 4 _ rfl
    have fb4 := bl_frozen (B2.out) 4
    have b5 := bl_cell (B2.out) 5 _ rfl
    have fb5 := bl_frozen (B2.out) 5
    have b6 := bl_cell (B2.out) 6 _ rfl
    have fb6 := bl_frozen (B2.out) 6
    have b7 := bl_cell (B2.out) 7 _ rfl
    have fb7 := bl_frozen (B2.out) 7
    have b8 := bl_cell (B2.out) 8 _ rfl
    have fb8 := bl_frozen (B2.out) 8
    go_wp2_with fail
    refine bodyPost_ret (v := .tuple #[rxv 6 0 0 ((b : Int) - 48) W4.z (.slice none 0 0), .int .i64 0]) (rx_ret2 rfl _ _ _ _ _ rfl rfl (bl_set9 B2.out _ _ _ _ _ _ _ _ _) rfl) rfl ?_
    exact FIN.out _ _ _ R2.out ks0.out hs0 (ks_set9 _ _ _ _ _ _ _ _ _)
end Go.Proofs.YtikmgckefbjbkaaGreatDoor
