/-
  Texts of this claim: And1.
-/
import Derived.Test.YtigdmebijbaofaaGreatDoorCmdAM1

/-! ### And1 -/

namespace Go.Proofs.YtigdmebijbaofaaGreatDoor
open Go.RowKit

theorem i64_and1 (n : Int) : bits .and .i64 n 1 = n % 2 := by
 have h1 : (BitVec.ofInt 64 1).toNat = 2 ^ 1 - 1 := by decide
 have key : (BitVec.ofInt 64 n &&& BitVec.ofInt 64 1).toNat = (n % ((2 ^ 64 : Nat) : Int)).toNat % 2 ^ 1 := by
  rw [BitVec.toNat_and, BitVec.toNat_ofInt, h1, Nat.and_two_pow_sub_one_eq_mod]
 show IntKind.i64.wrap ((BitVec.ofInt 64 n &&& BitVec.ofInt 64 1).toNat : Nat) = n % 2
 rw [key, IntKind.wrap_i64]
 omega
/-- One, and one more where a number is odd. -/
theorem one_or_two (n : Int) : ∃ m : Nat, 1 + bits .and .i64 n 1 = (m : Int) ∧ 1 ≤ m ∧ m ≤ 2 := by
 rw [i64_and1]
 exact ⟨(1 + n % 2).toNat, by omega, by omega, by omega⟩
end Go.Proofs.YtigdmebijbaofaaGreatDoor
