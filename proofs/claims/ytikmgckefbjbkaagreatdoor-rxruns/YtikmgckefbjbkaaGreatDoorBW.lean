/-
  What the small functions of package bset, and of the reference, do on sets of bytes told as predicates.
-/
import Derived.Test.YtikmgckefbjbkaaGreatDoorChecked
import Derived.Test.YtikmgckefbjbkaaGreatDoorBits
import Derived.WalkKit
import Derived.WalkSpells
import Derived.WalkLawsBesides
import Derived.Deep.QuietTactic
import Derived.BigQuiet
import Derived.Laws.Bits128
namespace Go.Proofs.YtikmgckefbjbkaaGreatDoor
open Go.RowKit

/-- Nothing that was there has turned. -/
def Kp (w w' : World) : Prop := Below w.heap.size w w'

theorem Kp.refl (w : World) : Kp w w := Below.refl _ _
theorem Kp.trans {a b c : World} (h : Kp a b) (g : Kp b c) : Kp a c := Below.trans h (Below.mono g h.size)
theorem Kp.alloc {a b : World} (h : Kp a b) (o : Obj) : Kp a (b.alloc o) := Below.alloc h h.size o
theorem Kp.drew {a b : World} (h : Kp a b) : Kp a b.drew := Below.drew h
theorem Kp.drewN {a b : World} (n : Nat) (h : Kp a b) : Kp a (b.drewN n) := ⟨h.os, h.tape, h.output, h.size, h.block⟩
theorem Kp.setCell {a b : World} (h : Kp a b) {p : Addr} (hp : a.heap.size ≤ p.block) (u : Value) : Kp a (b.setCell p u) := Below.setCell h hp u
theorem Kp.cell {a b : World} (h : Kp a b) {p : Addr} (hp : p.block < a.heap.size) : b.cell? p = a.cell? p := Below.cell h hp

theorem wrap_nat {n : Nat} (h : n < 18446744073709551616) : IntKind.u64.wrap (n : Int) = (n : Int) := by
  rw [IntKind.wrap_u64]; omega

theorem wrap_pow (b : Nat) : IntKind.u64.wrap (2 ^ (b % 64)) = ((2 ^ (b % 64) : Nat) : Int) := by
  have h := wrap_nat (n := 2 ^ (b % 64)) (Nat.pow_lt_pow_right (n := 64) (a := 2) (by omega) (by omega))
  rw [Int.natCast_pow] at h
  exact h.trans (Int.natCast_pow _ _).symm

theorem ret_u64 {a b : Int} (h : a = b) : Ending.returned (.int .u64 a) = .returned (.int .u64 b) := by rw [h]
theorem ret_i64 {a b : Int} (h : a = b) : Ending.returned (.int .i64 a) = .returned (.int .i64 b) := by rw [h]
theorem ret_bool {a b : Bool} (h : a = b) : Ending.returned (.bool a) = .returned (.bool b) := by rw [h]

theorem bit_any (b : Nat) (w : World) :
    Calls Tryz.prog 34 #[.int .u8 b] w fun e w' => e = .returned (.int .u64 ((2 ^ (b % 64) : Nat) : Int)) ∧ w' = w := by
  go_enter Tryz.func34, Tryz.ntmps34
  go_wp2
  go_ret
  exact ⟨ret_u64 (wrap_pow b), rfl⟩

theorem ones_any (x : Nat) (w : World) (hx : x < 18446744073709551616) :
    Calls Tryz.prog 27 #[.int .u64 x] w fun e w' => e = .returned (.int .i64 (pop x : Nat)) ∧ w' = w := by
  obtain ⟨a, ea⟩ : ∃ a, a = (x / 2 &&& 6148914691236517205) + (x &&& 6148914691236517205) := ⟨_, rfl⟩
  obtain ⟨b, eb⟩ : ∃ b, b = (a / 4 &&& 3689348814741910323) + (a &&& 3689348814741910323) := ⟨_, rfl⟩
  obtain ⟨c, ec⟩ : ∃ c, c = (b / 16 + b) &&& 1085102592571150095 := ⟨_, rfl⟩
  obtain ⟨d, ed⟩ : ∃ d, d = c + c / 256 := ⟨_, rfl⟩
  obtain ⟨f, ef⟩ : ∃ f, f = d + d / 65536 := ⟨_, rfl⟩
  obtain ⟨g, eg⟩ : ∃ g, g = f + f / 4294967296 := ⟨_, rfl⟩
  have ep : pop x = g % 128 := by subst eg ef ed ec eb ea; rfl
  have a1 : (x / 2 &&& 6148914691236517205) ≤ 6148914691236517205 := Nat.and_le_right
  have a2 : (x &&& 6148914691236517205) ≤ 6148914691236517205 := Nat.and_le_right
  have b1 : (a / 4 &&& 3689348814741910323) ≤ 3689348814741910323 := Nat.and_le_right
  have b2 : (a &&& 3689348814741910323) ≤ 3689348814741910323 := Nat.and_le_right
  have c1 : ((b / 16 + b) &&& 1085102592571150095) ≤ 1085102592571150095 := Nat.and_le_right
  have r1 : IntKind.u64.wrap (bits .and .u64 ((x : Int) / 2) 6148914691236517205 + bits .and .u64 (x : Int) 6148914691236517205) = (a : Int) := by
    rw [show (x : Int) / 2 = ((x / 2 : Nat) : Int) by omega, show (6148914691236517205 : Int) = ((6148914691236517205 : Nat) : Int) from rfl, u64_and_nat _ _ (by omega) (by omega), u64_and_nat _ _ (by omega) (by omega), ← Int.natCast_add, ← ea]
    exact wrap_nat (by omega)
  have r2 : IntKind.u64.wrap (bits .and .u64 ((a : Int) / 4) 3689348814741910323 + bits .and .u64 (a : Int) 3689348814741910323) = (b : Int) := by
    rw [show (a : Int) / 4 = ((a / 4 : Nat) : Int) by omega, show (3689348814741910323 : Int) = ((3689348814741910323 : Nat) : Int) from rfl, u64_and_nat _ _ (by omega) (by omega), u64_and_nat _ _ (by omega) (by omega), ← Int.natCast_add, ← eb]
    exact wrap_nat (by omega)
  have r3 : bits .and .u64 (IntKind.u64.wrap ((b : Int) / 16 + (b : Int))) 1085102592571150095 = (c : Int) := by
    rw [show (b : Int) / 16 + (b : Int) = ((b / 16 + b : Nat) : Int) by omega, wrap_nat (by omega), show (1085102592571150095 : Int) = ((1085102592571150095 : Nat) : Int) from rfl, u64_and_nat _ _ (by omega) (by omega), ← ec]
  have r4 : IntKind.u64.wrap ((c : Int) + (c : Int) / 256) = (d : Int) := by
    rw [show (c : Int) + (c : Int) / 256 = (d : Int) by omega]; exact wrap_nat (by omega)
  have r5 : IntKind.u64.wrap ((d : Int) + (d : Int) / 65536) = (f : Int) := by
    rw [show (d : Int) + (d : Int) / 65536 = (f : Int) by omega]; exact wrap_nat (by omega)
  have r6 : IntKind.u64.wrap ((f : Int) + (f : Int) / 4294967296) = (g : Int) := by
    rw [show (f : Int) + (f : Int) / 4294967296 = (g : Int) by omega]; exact wrap_nat (by omega)
  have hg : g < 4611686018427387904 := by omega
  have r7 : Hid (bits .and .i64 (g : Int) 127 = ((g % 128 : Nat) : Int)) := by
    show _ = _
    rw [i64_and127]; omega
  rw [ep]
  clear ep ea eb ec ed ef eg a1 a2 b1 b2 c1 hx
  go_enter Tryz.func27, Tryz.ntmps27
  go_wp2
  go_ret
  exact ⟨ret_i64 r7.out, rfl⟩

theorem ix0 (a b c d : Value) (w : World) : (Instr.index 24 (.agg #[a, b, c, d]) (.int .i64 0)).run Tryz.prog w = .ok a w := by kernel_rfl
theorem ix1 (a b c d : Value) (w : World) : (Instr.index 24 (.agg #[a, b, c, d]) (.int .i64 1)).run Tryz.prog w = .ok b w := by kernel_rfl
theorem ix2 (a b c d : Value) (w : World) : (Instr.index 24 (.agg #[a, b, c, d]) (.int .i64 2)).run Tryz.prog w = .ok c w := by kernel_rfl
theorem ix3 (a b c d : Value) (w : World) : (Instr.index 24 (.agg #[a, b, c, d]) (.int .i64 3)).run Tryz.prog w = .ok d w := by kernel_rfl

/-- A set as the program has it. -/
abbrev vv (a b c d : Nat) : Value := .agg #[.int .u64 (a : Int), .int .u64 (b : Int), .int .u64 (c : Int), .int .u64 (d : Int)]
abbrev sv (p : Nat → Bool) : Value := vv (wd p 0) (wd p 1) (wd p 2) (wd p 3)

theorem ret_vv {a b c d a' b' c' d' : Int} (h0 : a = a') (h1 : b = b') (h2 : c = c') (h3 : d = d') :
    Ending.returned (.agg #[.int .u64 a, .int .u64 b, .int .u64 c, .int .u64 d]) = .returned (.agg #[.int .u64 a', .int .u64 b', .int .u64 c', .int .u64 d']) := by rw [h0, h1, h2, h3]

theorem sv_congr {p q : Nat → Bool} (h : ∀ i, i < 256 → p i = q i) : sv p = sv q := by
  have e : ∀ i, i < 4 → wd p i = wd q i := fun i hi => wd_congr p q i (fun j hj => h _ (by omega))
  show vv _ _ _ _ = vv _ _ _ _
  rw [e 0 (by omega), e 1 (by omega), e 2 (by omega), e 3 (by omega)]

/-- What bit of which word a byte is. -/
def bitOf (a b c d : Nat) (i : Nat) : Bool := (if i / 64 = 0 then a else if i / 64 = 1 then b else if i / 64 = 2 then c else d).testBit (i % 64)

theorem vv_sv (a b c d : Nat) (ha : a < 18446744073709551616) (hb : b < 18446744073709551616) (hc : c < 18446744073709551616) (hd : d < 18446744073709551616) : vv a b c d = sv (bitOf a b c d) := by
  have e0 : wd (bitOf a b c d) 0 = a := wd_back a ha _ 0 (fun j hj => by unfold bitOf; rw [if_pos (by omega), show (64 * 0 + j) % 64 = j by omega])
  have e1 : wd (bitOf a b c d) 1 = b := wd_back b hb _ 1 (fun j hj => by unfold bitOf; rw [if_neg (by omega), if_pos (by omega), show (64 * 1 + j) % 64 = j by omega])
  have e2 : wd (bitOf a b c d) 2 = c := wd_back c hc _ 2 (fun j hj => by unfold bitOf; rw [if_neg (by omega), if_neg (by omega), if_pos (by omega), show (64 * 2 + j) % 64 = j by omega])
  have e3 : wd (bitOf a b c d) 3 = d := wd_back d hd _ 3 (fun j hj => by unfold bitOf; rw [if_neg (by omega), if_neg (by omega), if_neg (by omega), show (64 * 3 + j) % 64 = j by omega])
  show vv _ _ _ _ = vv _ _ _ _
  rw [e0, e1, e2, e3]

/-- What is in one of two sets; what is not in a set. -/
def orB (p q : Nat → Bool) : Nat → Bool := fun k => p k || q k
def notB (p : Nat → Bool) : Nat → Bool := fun k => !p k

theorem xor_wd (p : Nat → Bool) (i : Nat) : bits .xor .u64 IntKind.u64.max (wd p i : Nat) = ((wd (notB p) i : Nat) : Int) := by
  show _ = ((wd (fun k => !p k) i : Nat) : Int)
  have h := wd_not p i
  have hl := wd_lt p i
  rw [show IntKind.u64.max = ((18446744073709551615 : Nat) : Int) from rfl, u64_xor_nat _ _ (by omega) hl]
  have e : 18446744073709551615 ^^^ wd p i = wd (fun k => !p k) i := by
    apply Nat.eq_of_testBit_eq
    intro j
    rw [Nat.testBit_xor, wd_testBit, wd_testBit, show (18446744073709551615 : Nat) = 2 ^ 64 - 1 from rfl, Nat.testBit_two_pow_sub_one]
    cases decide (j < 64) <;> simp
  rw [e]

theorem or_wd (p q : Nat → Bool) (i : Nat) : bits .or .u64 (wd p i : Nat) (wd q i : Nat) = ((wd (orB p q) i : Nat) : Int) := by
  rw [u64_or_nat _ _ (wd_lt p i) (wd_lt q i), wd_or]
  rfl

theorem not_any (p : Nat → Bool) (w : World) :
    Calls Tryz.prog 55 #[sv p] w fun e w' => e = .returned (sv (notB p)) ∧ Kp w w' := by
  have E : Hid (∀ i, bits .xor .u64 IntKind.u64.max (wd p i : Nat) = ((wd (notB p) i : Nat) : Int)) := fun i => xor_wd p i
  have i0 := ix0; have i1 := ix1; have i2 := ix2; have i3 := ix3
  go_enter Tryz.func55, Tryz.ntmps55
  go_wp2
  refine wp_loop_rounds 5 ?_
  rw [rounds_succ]
  go_wp2
  rw [rounds_succ]
  go_wp2
  rw [rounds_succ]
  go_wp2
  rw [rounds_succ]
  go_wp2
  rw [rounds_succ]
  go_wp2
  refine bodyPost_ret (v := .agg #[.int .u64 (bits .xor .u64 IntKind.u64.max (wd p 0 : Nat)), .int .u64 (bits .xor .u64 IntKind.u64.max (wd p 1 : Nat)), .int .u64 (bits .xor .u64 IntKind.u64.max (wd p 2 : Nat)), .int .u64 (bits .xor .u64 IntKind.u64.max (wd p 3 : Nat))]) (by simp [results, Tryz.results55, go_sem]) rfl ⟨?_, ?_⟩
  · exact ret_vv (E.out 0) (E.out 1) (E.out 2) (E.out 3)
  · exact ((Kp.refl _).alloc _).alloc _

theorem and_bit (p : Nat → Bool) (b : Nat) : (bits .and .u64 (wd p (b / 64) : Nat) (2 ^ (b % 64)) != 0) = p b := by
  rw [show (2 : Int) ^ (b % 64) = ((2 ^ (b % 64) : Nat) : Int) from (Int.natCast_pow _ _).symm, u64_and_nat _ _ (wd_lt _ _) (Nat.pow_lt_pow_right (n := 64) (a := 2) (by omega) (by omega))]
  have e : wd p (b / 64) &&& 2 ^ (b % 64) = (p b).toNat * 2 ^ (b % 64) := by
    have ht := wd_testBit p (b / 64) (b % 64)
    rw [show 64 * (b / 64) + b % 64 = b by omega, decide_eq_true (show b % 64 < 64 by omega), Bool.true_and] at ht
    rw [nat_bit, ← Nat.toNat_testBit, ht]
  rw [e]
  have := Nat.two_pow_pos (b % 64)
  cases p b
  · simp
  · have h : ((2 ^ (b % 64) : Nat) : Int) ≠ 0 := by omega
    simpa using h

theorem has_any (p : Nat → Bool) (b : Nat) (w : World) (hb : b < 256) :
    Calls Tryz.prog 72 #[sv p, .int .u8 b] w fun e w' => e = .returned (.bool (p b)) ∧ Kp w w' := by
  have E : Hid ((bits .and .u64 (wd p (b / 64) : Nat) (2 ^ (b % 64)) != 0) = p b) := and_bit p b
  have hk : b / 64 = 0 ∨ b / 64 = 1 ∨ b / 64 = 2 ∨ b / 64 = 3 := by omega
  rcases hk with hk | hk | hk | hk
  · rw [hk] at E
    have hq : (b : Int) / 64 = 0 := by omega
    clear hk
    go_enter Tryz.func72, Tryz.ntmps72
    go_wp2
    go_quiet ((go_at_call 34; exact Calls.quiet_of_same (bit_any _ _)))
    go_wp2
    go_ret
    exact ⟨ret_bool E.out, ((Kp.refl _).alloc _).drewN _⟩
  · rw [hk] at E
    have hq : (b : Int) / 64 = 1 := by omega
    clear hk
    go_enter Tryz.func72, Tryz.ntmps72
    go_wp2
    go_quiet ((go_at_call 34; exact Calls.quiet_of_same (bit_any _ _)))
    go_wp2
    go_ret
    exact ⟨ret_bool E.out, ((Kp.refl _).alloc _).drewN _⟩
  · rw [hk] at E
    have hq : (b : Int) / 64 = 2 := by omega
    clear hk
    go_enter Tryz.func72, Tryz.ntmps72
    go_wp2
    go_quiet ((go_at_call 34; exact Calls.quiet_of_same (bit_any _ _)))
    go_wp2
    go_ret
    exact ⟨ret_bool E.out, ((Kp.refl _).alloc _).drewN _⟩
  · rw [hk] at E
    have hq : (b : Int) / 64 = 3 := by omega
    clear hk
    go_enter Tryz.func72, Tryz.ntmps72
    go_wp2
    go_quiet ((go_at_call 34; exact Calls.quiet_of_same (bit_any _ _)))
    go_wp2
    go_ret
    exact ⟨ret_bool E.out, ((Kp.refl _).alloc _).drewN _⟩

theorem shr_bit (p : Nat → Bool) (b : Nat) : (bits .and .u64 ((wd p (b / 64) : Nat) / (2 ^ (b % 64))) 1 == 1) = p b := by
  have ht := wd_testBit p (b / 64) (b % 64)
  rw [show 64 * (b / 64) + b % 64 = b by omega, decide_eq_true (show b % 64 < 64 by omega), Bool.true_and] at ht
  have hl := wd_lt p (b / 64)
  rw [show (2 : Int) ^ (b % 64) = ((2 ^ (b % 64) : Nat) : Int) from (Int.natCast_pow _ _).symm, ← Int.natCast_ediv, show (1 : Int) = ((1 : Nat) : Int) from rfl, u64_and_nat _ _ (Nat.lt_of_le_of_lt (Nat.div_le_self _ _) hl) (by omega), nat_mask1, ← Nat.toNat_testBit, ht]
  cases p b <;> rfl

theorem count_any (p : Nat → Bool) (w : World) :
    Calls Tryz.prog 11 #[sv p] w fun e w' => e = .returned (.int .i64 (cnt p 256 : Nat)) ∧ Kp w w' := by
  have C : Hid (pop (wd p 0) + pop (wd p 1) + pop (wd p 2) + pop (wd p 3) = cnt p 256) := cnt_words p
  have l0 := pop_le p 0; have l1 := pop_le p 1; have l2 := pop_le p 2; have l3 := pop_le p 3
  have i0 := ix0; have i1 := ix1; have i2 := ix2; have i3 := ix3
  go_enter Tryz.func11, Tryz.ntmps11
  go_wp2
  refine wp_loop_rounds 5 ?_
  rw [rounds_succ]
  go_wp2_with (go_at_call 27; refine (ones_any _ _ (wd_lt _ _)).mono ?_; rintro e w' ⟨rfl, rfl⟩)
  rw [rounds_succ]
  go_wp2_with (go_at_call 27; refine (ones_any _ _ (wd_lt _ _)).mono ?_; rintro e w' ⟨rfl, rfl⟩)
  rw [rounds_succ]
  go_wp2_with (go_at_call 27; refine (ones_any _ _ (wd_lt _ _)).mono ?_; rintro e w' ⟨rfl, rfl⟩)
  rw [rounds_succ]
  go_wp2_with (go_at_call 27; refine (ones_any _ _ (wd_lt _ _)).mono ?_; rintro e w' ⟨rfl, rfl⟩)
  rw [rounds_succ]
  go_wp2
  go_ret
  exact ⟨ret_i64 (by have := C.out; omega), (Kp.refl _).alloc _⟩

theorem join_nil (w : World) :
    Calls Tryz.prog 23 #[.slice none 0 0] w fun e w' => e = .returned (vv 0 0 0 0) ∧ Kp w w' := by
  go_enter Tryz.func23, Tryz.ntmps23
  go_wp2
  refine wp_loop_rounds 1 ?_
  rw [rounds_succ]
  go_wp2
  refine bodyPost_ret (v := vv 0 0 0 0) (by simp [results, Tryz.results23, go_sem]) rfl ⟨rfl, ?_⟩
  exact ((Kp.refl _).alloc _).alloc _

theorem or_zero (p : Nat → Bool) (i : Nat) : bits .or .u64 0 (wd p i : Nat) = ((wd p i : Nat) : Int) := by
  rw [show (0 : Int) = ((0 : Nat) : Int) from rfl, u64_or_nat _ _ (by omega) (wd_lt p i), Nat.zero_or]

set_option maxHeartbeats 1000000 in
theorem join_two (p q : Nat → Bool) (w : World) (B : Nat) (hB : B = w.heap.size) :
    Calls Tryz.prog 23 #[.slice (some ⟨B, 0, none⟩) 2 2] (w.alloc (.cells #[.int .u64 (wd p 0 : Nat), .int .u64 (wd p 1 : Nat), .int .u64 (wd p 2 : Nat), .int .u64 (wd p 3 : Nat), .int .u64 (wd q 0 : Nat), .int .u64 (wd q 1 : Nat), .int .u64 (wd q 2 : Nat), .int .u64 (wd q 3 : Nat)] 24)) fun e w' => e = .returned (sv (orB p q)) ∧ Kp (w.alloc (.cells #[.int .u64 (wd p 0 : Nat), .int .u64 (wd p 1 : Nat), .int .u64 (wd p 2 : Nat), .int .u64 (wd p 3 : Nat), .int .u64 (wd q 0 : Nat), .int .u64 (wd q 1 : Nat), .int .u64 (wd q 2 : Nat), .int .u64 (wd q 3 : Nat)] 24)) w' := by
  subst hB
  have i0 := ix0; have i1 := ix1; have i2 := ix2; have i3 := ix3
  have o0 := or_zero p
  have o1 := or_wd p q
  go_enter Tryz.func23, Tryz.ntmps23
  go_wp2
  refine wp_loop_rounds 3 ?_
  rw [rounds_succ]
  go_wp2
  refine wp_loop_rounds 5 ?_
  iterate 5 (rw [rounds_succ]; go_wp2)
  rw [rounds_succ]
  go_wp2
  refine wp_loop_rounds 5 ?_
  iterate 5 (rw [rounds_succ]; go_wp2)
  rw [rounds_succ]
  go_wp2
  refine bodyPost_ret (v := sv (orB p q)) (by simp [results, Tryz.results23, go_sem]) rfl ⟨rfl, ?_⟩
  exact ((((Kp.refl _).alloc _).alloc _).alloc _).alloc _

set_option maxHeartbeats 1000000 in
theorem join_three (p q r : Nat → Bool) (w : World) (B : Nat) (hB : B = w.heap.size) :
    Calls Tryz.prog 23 #[.slice (some ⟨B, 0, none⟩) 3 3] (w.alloc (.cells #[.int .u64 (wd p 0 : Nat), .int .u64 (wd p 1 : Nat), .int .u64 (wd p 2 : Nat), .int .u64 (wd p 3 : Nat), .int .u64 (wd q 0 : Nat), .int .u64 (wd q 1 : Nat), .int .u64 (wd q 2 : Nat), .int .u64 (wd q 3 : Nat), .int .u64 (wd r 0 : Nat), .int .u64 (wd r 1 : Nat), .int .u64 (wd r 2 : Nat), .int .u64 (wd r 3 : Nat)] 24)) fun e w' => e = .returned (sv (orB (orB p q) r)) ∧ Kp (w.alloc (.cells #[.int .u64 (wd p 0 : Nat), .int .u64 (wd p 1 : Nat), .int .u64 (wd p 2 : Nat), .int .u64 (wd p 3 : Nat), .int .u64 (wd q 0 : Nat), .int .u64 (wd q 1 : Nat), .int .u64 (wd q 2 : Nat), .int .u64 (wd q 3 : Nat), .int .u64 (wd r 0 : Nat), .int .u64 (wd r 1 : Nat), .int .u64 (wd r 2 : Nat), .int .u64 (wd r 3 : Nat)] 24)) w' := by
  subst hB
  have i0 := ix0; have i1 := ix1; have i2 := ix2; have i3 := ix3
  have o0 := or_zero p
  have o1 := or_wd p q
  have o2 := or_wd (orB p q) r
  go_enter Tryz.func23, Tryz.ntmps23
  go_wp2
  refine wp_loop_rounds 4 ?_
  iterate 3 (rw [rounds_succ]; go_wp2; refine wp_loop_rounds 5 ?_; iterate 5 (rw [rounds_succ]; go_wp2))
  rw [rounds_succ]
  go_wp2
  refine bodyPost_ret (v := sv (orB (orB p q) r)) (by simp [results, Tryz.results23, go_sem]) rfl ⟨rfl, ?_⟩
  exact (((((Kp.refl _).alloc _).alloc _).alloc _).alloc _).alloc _

/-- The set p, and b besides. -/
def addB (p : Nat → Bool) (b : Nat) : Nat → Bool := fun k => p k || k == b

theorem or_bit (p : Nat → Bool) (b : Nat) : bits .or .u64 (wd p (b / 64) : Nat) ((2 ^ (b % 64) : Nat) : Int) = ((wd (addB p b) (b / 64) : Nat) : Int) := by
  rw [u64_or_nat _ _ (wd_lt _ _) (Nat.pow_lt_pow_right (n := 64) (a := 2) (by omega) (by omega))]
  refine congrArg (fun n : Nat => (n : Int)) ?_
  apply Nat.eq_of_testBit_eq
  intro j
  rw [Nat.testBit_or, wd_testBit, wd_testBit, Nat.testBit_two_pow]
  unfold addB
  by_cases hj : j < 64
  · have : (64 * (b / 64) + j == b) = decide (b % 64 = j) := by
      rw [Bool.eq_iff_iff]; simp; omega
    rw [this]
    simp [hj]
  · have : ¬ b % 64 = j := by omega
    simp [hj, this]

theorem wd_other (p : Nat → Bool) (b i : Nat) (h : i ≠ b / 64) : wd (addB p b) i = wd p i := by
  refine wd_congr _ _ i (fun j hj => ?_)
  unfold addB
  have : (64 * i + j == b) = false := by
    rw [beq_eq_false_iff_ne]; omega
  rw [this, Bool.or_false]

/-- A world whose last block is known is one to which that block was laid. -/
theorem last_alloc (w : World) (B : Nat) (o : Obj) (hs : w.heap.size = B + 1) (hX : w.heap[B]? = some o) : ∃ w0 : World, w = w0.alloc o ∧ w0.heap.size = B := by
  refine ⟨{ w with heap := w.heap.pop }, ?_, by simp [hs]⟩
  have e : w.heap = w.heap.pop.push o := by
    apply Array.ext_getElem?
    intro i
    rw [Array.getElem?_push, Array.getElem?_pop]
    by_cases hi : i = B
    · subst hi
      rw [if_pos (by simp [hs]), hX]
    · rw [if_neg (by simp [hs]; omega)]
      by_cases hi2 : i < B
      · rw [if_pos (by omega)]
      · rw [if_neg (by omega)]; exact Array.getElem?_eq_none (by omega)
  unfold World.alloc
  rw [← e]

abbrev two (p q : Nat → Bool) : Obj := .cells #[.int .u64 (wd p 0 : Nat), .int .u64 (wd p 1 : Nat), .int .u64 (wd p 2 : Nat), .int .u64 (wd p 3 : Nat), .int .u64 (wd q 0 : Nat), .int .u64 (wd q 1 : Nat), .int .u64 (wd q 2 : Nat), .int .u64 (wd q 3 : Nat)] 24

abbrev three (p q r : Nat → Bool) : Obj := .cells #[.int .u64 (wd p 0 : Nat), .int .u64 (wd p 1 : Nat), .int .u64 (wd p 2 : Nat), .int .u64 (wd p 3 : Nat), .int .u64 (wd q 0 : Nat), .int .u64 (wd q 1 : Nat), .int .u64 (wd q 2 : Nat), .int .u64 (wd q 3 : Nat), .int .u64 (wd r 0 : Nat), .int .u64 (wd r 1 : Nat), .int .u64 (wd r 2 : Nat), .int .u64 (wd r 3 : Nat)] 24

theorem join2 (p q : Nat → Bool) (w : World) (B : Nat) (hs : w.heap.size = B + 1) (hX : w.heap[B]? = some (two p q)) :
    Calls Tryz.prog 23 #[.slice (some ⟨B, 0, none⟩) 2 2] w fun e w' => e = .returned (sv (orB p q)) ∧ Kp w w' := by
  obtain ⟨w0, rfl, h0⟩ := last_alloc w B _ hs hX
  exact join_two p q w0 B h0.symm

theorem join3 (p q r : Nat → Bool) (w : World) (B : Nat) (hs : w.heap.size = B + 1) (hX : w.heap[B]? = some (three p q r)) :
    Calls Tryz.prog 23 #[.slice (some ⟨B, 0, none⟩) 3 3] w fun e w' => e = .returned (sv (orB (orB p q) r)) ∧ Kp w w' := by
  obtain ⟨w0, rfl, h0⟩ := last_alloc w B _ hs hX
  exact join_three p q r w0 B h0.symm

theorem last_of (w : World) (o : Obj) : (w.alloc o).heap[w.heap.size]? = some o := by
  show (w.heap.push o)[w.heap.size]? = some o
  simp

/-- A block that holds the set q. -/
abbrev blk (q : Nat → Bool) : Obj := .cells #[.int .u64 (wd q 0 : Nat), .int .u64 (wd q 1 : Nat), .int .u64 (wd q 2 : Nat), .int .u64 (wd q 3 : Nat)] 24

/-- Block S holds the set q. -/
def At (w : World) (S : Nat) (q : Nat → Bool) : Prop := w.heap[S]? = some (blk q)

theorem At.lt {w : World} {S : Nat} {q : Nat → Bool} (h : At w S q) : S < w.heap.size := (Array.getElem?_eq_some_iff.1 h).1
theorem At.kp {w w' : World} {S : Nat} {q : Nat → Bool} (h : At w S q) (hk : Kp w w') : At w' S q := (hk.block S h.lt).trans h
theorem At.alloc {w : World} {S : Nat} {q : Nat → Bool} (h : At w S q) (o : Obj) : At (w.alloc o) S q := h.kp ((Kp.refl _).alloc _)
theorem At.drew {w : World} {S : Nat} {q : Nat → Bool} (h : At w S q) : At w.drew S q := h
theorem At.drewN {w : World} {S : Nat} {q : Nat → Bool} (n : Nat) (h : At w S q) : At (w.drewN n) S q := h
theorem At.new (w : World) (q : Nat → Bool) : At (w.alloc (blk q)) w.heap.size q := last_of w _
theorem At.cells {w : World} {S : Nat} {q : Nat → Bool} (h : At w S q) : w.cell? ⟨S, 0, none⟩ = some (.int .u64 (wd q 0 : Nat)) ∧ w.cell? ⟨S, 1, none⟩ = some (.int .u64 (wd q 1 : Nat)) ∧ w.cell? ⟨S, 2, none⟩ = some (.int .u64 (wd q 2 : Nat)) ∧ w.cell? ⟨S, 3, none⟩ = some (.int .u64 (wd q 3 : Nat)) :=
  ⟨cell_of_row w S 0 _ 24 (0, 0) h, cell_of_row w S 1 _ 24 (0, 0) h, cell_of_row w S 2 _ 24 (0, 0) h, cell_of_row w S 3 _ 24 (0, 0) h⟩
theorem At.set4 {w : World} {S : Nat} {q : Nat → Bool} (h : At w S q) (q' : Nat → Bool) : At ((((w.setCell ⟨S, 0, none⟩ (.int .u64 (wd q' 0 : Nat))).setCell ⟨S, 1, none⟩ (.int .u64 (wd q' 1 : Nat))).setCell ⟨S, 2, none⟩ (.int .u64 (wd q' 2 : Nat))).setCell ⟨S, 3, none⟩ (.int .u64 (wd q' 3 : Nat))) S q' := by
  unfold At at *
  simp only [World.setCell, Array.getElem?_modify, if_true, h, Option.map_some]
  rfl

theorem wd_none (i : Nat) : wd (fun _ => false) i = 0 := by
  apply Nat.eq_of_testBit_eq
  intro j
  rw [wd_testBit]; simp
end Go.Proofs.YtikmgckefbjbkaaGreatDoor
