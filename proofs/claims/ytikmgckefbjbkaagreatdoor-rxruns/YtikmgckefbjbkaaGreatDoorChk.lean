/-
  The checker as a plain function; its memory.
-/
import Derived.Test.YtikmgckefbjbkaaGreatDoorSame
import Derived.Test.YtikmgckefbjbkaaGreatDoorPf
namespace Go.Proofs.YtikmgckefbjbkaaGreatDoor
open Go.RowKit

def kidsFit (k : Int) (n : Nat) : Bool := if k = 2 then n != 1 else if k = 3 then decide (2 ≤ n) else if k = 4 ∨ k = 5 then n == 1 else n == 0
def leanB : Rx → Bool
  | .mk k mn mx n s kids => (if k = 4 then true else mn == 0 && mx == 0) && (if k = 5 ∨ k = 6 then true else n == 0) && (if k = 1 then true else s == W4.z) && kidsFit k kids.length
def W4.bit (s : W4) : Nat → Bool := bitOf s.a s.b s.c s.d

structure Ck where
  n : Nat
  g : Nat
  d : Nat
mutual
/-- May it be? Then how far the counts are. -/
def chk (ere : Bool) : Rx → Bool → Bool → Ck → Option Ck
  | .mk k mn mx n s kids, b, e, c =>
    if c.n + 1 > 40 ∨ leanB (.mk k mn mx n s kids) = false then none
    else if k = 1 then (if cnt (W4.bit s) 256 > 0 then some ⟨c.n + 1, c.g, c.d⟩ else none)
    else if k = 2 then chkCat ere kids true ⟨c.n + 1, c.g, c.d⟩
    else if k = 3 then (if ere then chkAlt ere kids ⟨c.n + 1, c.g, c.d⟩ else none)
    else if k = 4 then (if timesFit mn mx then chkRep ere kids ⟨c.n + 1, c.g, c.d⟩ else none)
    else if k = 5 then (if n ≠ (c.g + 1 : Nat) ∨ c.g + 1 > 3 ∨ c.d = 6 then none else chkGroup ere kids ⟨c.n + 1, c.g + 1, c.d + 1⟩)
    else if k = 6 then (if 1 ≤ n ∧ n ≤ (c.g : Int) then some ⟨c.n + 1, c.g, c.d⟩ else none)
    else if k = 7 then (if ere || b then some ⟨c.n + 1, c.g, c.d⟩ else none)
    else if k = 8 then (if ere || e then some ⟨c.n + 1, c.g, c.d⟩ else none)
    else none
def chkCat (ere : Bool) : List Rx → Bool → Ck → Option Ck
  | [], _, c => some c
  | r :: rs, first, c => if r.k = 2 ∨ r.k = 3 then none else match chk ere r first rs.isEmpty c with
    | none => none
    | some c' => chkCat ere rs false c'
def chkAlt (ere : Bool) : List Rx → Ck → Option Ck
  | [], c => some c
  | r :: rs, c => if r.k = 3 then none else match chk ere r false false c with
    | none => none
    | some c' => chkAlt ere rs c'
def chkRep (ere : Bool) : List Rx → Ck → Option Ck
  | r :: _, c => if mayRep r.k then chk ere r false false c else none
  | [], _ => none
def chkGroup (ere : Bool) : List Rx → Ck → Option Ck
  | r :: _, c => match chk ere r true true c with
    | none => none
    | some c' => some ⟨c'.n, c'.g, c'.d - 1⟩
  | [], _ => none
end
def right (ere : Bool) (r : Rx) : Bool := (chk ere r true true ⟨0, 0, 0⟩).isSome

/-- The checker's block. -/
abbrev cko (ere : Bool) (n g d : Nat) : Obj := .cells #[.bool ere, .int .i64 (n : Int), .int .i64 (g : Int), .int .i64 (d : Int)] 70
def Cb (w : World) (C : Nat) (ere : Bool) (n g d : Nat) : Prop := w.heap[C]? = some (cko ere n g d)
theorem Cb.kp {w w' : World} {C : Nat} {ere : Bool} {n g d : Nat} (h : Cb w C ere n g d) (k : Kp w w') : Cb w' C ere n g d := bl_kp h k
theorem Cb.cells {w : World} {C : Nat} {ere : Bool} {n g d : Nat} (h : Cb w C ere n g d) : w.cell? ⟨C, 0, none⟩ = some (.bool ere) ∧ w.cell? ⟨C, 1, none⟩ = some (.int .i64 (n : Int)) ∧ w.cell? ⟨C, 2, none⟩ = some (.int .i64 (g : Int)) ∧ w.cell? ⟨C, 3, none⟩ = some (.int .i64 (d : Int)) := ⟨bl_cell h 0 _ rfl, bl_cell h 1 _ rfl, bl_cell h 2 _ rfl, bl_cell h 3 _ rfl⟩
/-- What a check leaves: the answer, and the counts where it is yes. -/
structure Ckd (C : Nat) (ere : Bool) (d0 : Nat) (o : Option Ck) (w : World) (e : Ending) (w' : World) : Prop where
  ex : ∃ ok, e = .returned (.bool ok) ∧ ok = o.isSome ∧ (∃ n g d, Cb w' C ere n g d ∧ n ≤ 41 ∧ g ≤ 41 ∧ d ≤ 7 ∧ d0 ≤ d ∧ ∀ c, o = some c → n = c.n ∧ g = c.g ∧ d = c.d) ∧ Ks C w w'
/-- What is asked of the check of a tree. -/
structure RightSaid (ere : Bool) (r : Rx) : Prop where
  all : ∀ (C : Nat) (ok : Nat → Prop) (v : Value) (b e : Bool) (n g d : Nat) (w : World), Is w ok r v → (∀ x, ok x → x ≠ C) → Cb w C ere n g d → n ≤ 40 → g ≤ n → d ≤ 6 → Calls Tryz.prog 32 #[.pointer (some ⟨C, 0, none⟩), v, .agg #[.bool b, .bool e]] w fun e' w' => Ckd C ere d (chk ere r b e ⟨n, g, d⟩) w e' w'

set_option maxHeartbeats 2000000 in
set_option maxRecDepth 100000 in
theorem kidsFit_any (k : Int) (n : Nat) (w : World) : Calls Tryz.prog 63 #[.int .i64 k, .int .i64 (n : Int)] w fun e w' => e = .returned (.bool (kidsFit k n)) ∧ w' = w := by
  have fin : ∀ (a b : Bool), a = b → Ending.returned (.bool a) = .returned (.bool b) := fun a b h => by rw [h]
  have FIN := hid fin
  clear fin
  by_cases k2 : k = 2
  · subst k2
    have E : Hid (((n : Int) != 1) = kidsFit 2 n) := by
      show _ = _
      rw [show kidsFit 2 n = (n != 1) from rfl]
      rw [Bool.eq_iff_iff]; simp; omega
    go_enter Tryz.func63, Tryz.ntmps63
    go_wp2
    go_ret
    exact ⟨FIN.out _ _ E.out, rfl⟩
  by_cases k3 : k = 3
  · subst k3
    have E : Hid ((decide (2 ≤ (n : Int))) = kidsFit 3 n) := by
      show _ = _
      rw [show kidsFit 3 n = (decide (2 ≤ n)) from rfl]
      rw [Bool.eq_iff_iff]; simp; omega
    go_enter Tryz.func63, Tryz.ntmps63
    go_wp2
    go_ret
    exact ⟨FIN.out _ _ E.out, rfl⟩
  by_cases k4 : k = 4
  · subst k4
    have E : Hid (((n : Int) == 1) = kidsFit 4 n) := by
      show _ = _
      rw [show kidsFit 4 n = (n == 1) from rfl]
      rw [Bool.eq_iff_iff]; simp; omega
    go_enter Tryz.func63, Tryz.ntmps63
    go_wp2
    go_ret
    exact ⟨FIN.out _ _ E.out, rfl⟩
  by_cases k5 : k = 5
  · subst k5
    have E : Hid (((n : Int) == 1) = kidsFit 5 n) := by
      show _ = _
      rw [show kidsFit 5 n = (n == 1) from rfl]
      rw [Bool.eq_iff_iff]; simp; omega
    go_enter Tryz.func63, Tryz.ntmps63
    go_wp2
    go_ret
    exact ⟨FIN.out _ _ E.out, rfl⟩
  have g2 : (k == 2) = false := by simp [k2]
  have g3 : (k == 3) = false := by simp [k3]
  have g4 : (k == 4) = false := by simp [k4]
  have g5 : (k == 5) = false := by simp [k5]
  have E : Hid (((n : Int) == 0) = kidsFit k n) := by
    show _ = _
    unfold kidsFit
    rw [if_neg k2, if_neg k3, if_neg (by omega)]
    rw [Bool.eq_iff_iff]; simp
  go_enter Tryz.func63, Tryz.ntmps63
  go_wp2
  go_ret
  exact ⟨FIN.out _ _ E.out, rfl⟩
end Go.Proofs.YtikmgckefbjbkaaGreatDoor
