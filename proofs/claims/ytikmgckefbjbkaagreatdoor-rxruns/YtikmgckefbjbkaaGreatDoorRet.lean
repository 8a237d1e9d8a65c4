/-
  What a reader's call leaves: an expression and a number, and where the reader stands.
-/
import Derived.Test.YtikmgckefbjbkaaGreatDoorTake
import Derived.Test.YtikmgckefbjbkaaGreatDoorPf
namespace Go.Proofs.YtikmgckefbjbkaaGreatDoor
open Go.RowKit

structure Ret (w0 : World) (P : Nat) (s : ByteArray) (ere : Bool) (o : Out) (v : Value) (w' : World) : Prop where
  is : Is w' (fun b => w0.heap.size ≤ b) o.r v
  rd : Rd w' P s ere o.st.i o.st.n o.st.g o.st.d
  ks : Ks P w0 w'
/-- What was handed back by a call within. -/
theorem Ret.up {w0 w1 w2 : World} {P : Nat} {s : ByteArray} {ere : Bool} {o : Out} {v : Value} (h : Ret w1 P s ere o v w2) (k : Ks P w0 w1) : Ret w0 P s ere o v w2 :=
  ⟨h.is.weak (fun _ hb _ => Nat.le_trans k.size hb), h.rd, k.trans h.ks⟩
/-- As the last: then a block that was there before the call within is written. -/
theorem Ret.upset {w0 w1 w2 w3 : World} {P S : Nat} {s : ByteArray} {ere : Bool} {o : Out} {v : Value} (h : Ret w1 P s ere o v w2) (k : Ks P w0 w1) (k' : Ks S w2 w3) (hP : P < w0.heap.size) (hS : w0.heap.size ≤ S) (hS' : S < w1.heap.size) : Ret w0 P s ere o v w3 :=
  ⟨(h.is.ks k' (fun _ hb _ => by omega)).weak (fun _ hb _ => Nat.le_trans k.size hb), h.rd.ks k' (by omega) (by omega), (k.trans h.ks).off k' hS hP⟩
theorem Kp.grown {w w' : World} (k : Kp w w') (row : Option Nat) : w.grownBy w' row := ⟨k.os, k.tape, k.output, k.size, fun b hb _ => k.block b hb⟩
theorem wd_ff (i : Nat) : wd (fun _ => false) i = 0 := wd_none i
theorem W4.of_none : W4.of (fun _ => false) = W4.z := by unfold W4.of W4.z; simp only [wd_none]
abbrev rzv : Value := rz
theorem is_zero (w : World) (ok : Nat → Prop) : Is w ok rx0 rz := Is.leaf w ok 0 0 0 0 W4.z

theorem hid {p : Prop} (h : p) : Hid p := h
theorem field91 (a b c : Value) (w : World) : (Instr.field 91 (.agg #[a, b, c]) 0).run Tryz.prog w = .ok a w := by kernel_rfl
/-- take, of a tree. -/
theorem take_ret (x y z : Nat) (k mn mx m : Int) (t : W4) (ad : Option Addr) (l c : Nat) (s : ByteArray) (ere : Bool) (i n g d P : Nat) (r : Rx) (w0 w : World) (h : Rd w P s ere i n g d) (hi : i ≤ 1000000000) (hz : z ≤ 100) (hn : n ≤ 1000000000)
    (hI : Is w (fun b => w0.heap.size ≤ b) r (rxv k mn mx m t (.slice ad l c))) (hk : Ks P w0 w) (hP : P < w0.heap.size) :
    Calls Tryz.prog 91 #[.pointer (some ⟨P, 0, none⟩), .agg #[.int .i64 (x : Int), .int .u8 (y : Int), .int .i64 (z : Int)], rxv k mn mx m t (.slice ad l c)] w fun e w' => e = .returned (.tuple #[rxv k mn mx m t (.slice ad l c), .int .i64 0]) ∧ Ret w0 P s ere (pTake z r ⟨i, n, g, d⟩) (rxv k mn mx m t (.slice ad l c)) w' ∧ Ks P w w' := by
  refine (take_any x y z k mn mx m t ad l c s ere i n g d P w h hi hz hn).mono ?_
  rintro e w' ⟨rfl, r', k'⟩
  exact ⟨rfl, ⟨hI.ks k' (fun _ hb _ => by omega), r', hk.trans k'⟩, k'⟩
theorem take_ret0 (x y z : Nat) (k mn mx m : Int) (ad : Option Addr) (l c : Nat) (s : ByteArray) (ere : Bool) (i n g d P : Nat) (r : Rx) (w0 w : World) (h : Rd w P s ere i n g d) (hi : i ≤ 1000000000) (hz : z ≤ 100) (hn : n ≤ 1000000000)
    (hI : Is w (fun b => w0.heap.size ≤ b) r (rxv k mn mx m W4.z (.slice ad l c))) (hk : Ks P w0 w) (hP : P < w0.heap.size) :
    Calls Tryz.prog 91 #[.pointer (some ⟨P, 0, none⟩), .agg #[.int .i64 (x : Int), .int .u8 (y : Int), .int .i64 (z : Int)], .agg #[.int .i64 k, .int .i64 mn, .int .i64 mx, .int .i64 m, .int .u64 0, .int .u64 0, .int .u64 0, .int .u64 0, .slice ad l c]] w fun e w' => e = .returned (.tuple #[.agg #[.int .i64 k, .int .i64 mn, .int .i64 mx, .int .i64 m, .int .u64 0, .int .u64 0, .int .u64 0, .int .u64 0, .slice ad l c], .int .i64 0]) ∧ Ret w0 P s ere (pTake z r ⟨i, n, g, d⟩) (rxv k mn mx m W4.z (.slice ad l c)) w' ∧ Ks P w w' :=
  take_ret x y z k mn mx m W4.z ad l c s ere i n g d P r w0 w h hi hz hn hI hk hP
/-- Nothing was read: the answer is zero. -/
theorem Ret.fail {w0 w1 w2 : World} {P S : Nat} {s : ByteArray} {ere : Bool} {e i n g d : Nat} (R : Rd w1 P s ere i n g d) (k : Ks P w0 w1) (k' : Ks S w1 w2) (hP : P < w0.heap.size) (hS : w0.heap.size ≤ S) : Ret w0 P s ere ⟨rx0, e, ⟨i, n, g, d⟩⟩ rz w2 :=
  ⟨is_zero _ _, R.ks k' (by omega) (by omega), k.off k' hS hP⟩
end Go.Proofs.YtikmgckefbjbkaaGreatDoor
