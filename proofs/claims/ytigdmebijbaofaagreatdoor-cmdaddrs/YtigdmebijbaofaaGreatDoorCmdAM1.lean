/-
  Texts of this claim: Bits, BW, Of, Range.
-/
import Derived.Laws.BitsAllLaws
import Derived.Laws.Bits64
import Derived.Test.YtigdmebijbaofaaGreatDoorChecked
import Derived.WalkKit
import Derived.WalkSpells
import Derived.WalkLawsBesides
import Derived.Deep.QuietTactic
import Derived.BigQuiet
import Derived.Laws.Bits128
import Derived.Deep.RegionWith

/-! ### Bits -/

namespace Go.Proofs.YtigdmebijbaofaaGreatDoor

/-- The number whose digits in base B are f 0, f 1, .. (n of them). -/
def hn (B : Nat) : (Nat → Nat) → Nat → Nat
 | _, 0 => 0
 | f, n + 1 => f 0 + B * hn B (fun i => f (i + 1)) n

theorem hn_add (B : Nat) (n : Nat) : ∀ f g : Nat → Nat, hn B f n + hn B g n = hn B (fun i => f i + g i) n := by
 induction n with
 | zero => intro f g; rfl
 | succ n ih => intro f g; simp only [hn]; rw [← ih]; rw [Nat.mul_add]; omega

theorem hn_congr (B : Nat) (n : Nat) : ∀ f g : Nat → Nat, (∀ i, i < n → f i = g i) → hn B f n = hn B g n := by
 induction n with
 | zero => intro f g _; rfl
 | succ n ih =>
  intro f g h
  simp only [hn]
  rw [h 0 (by omega), ih _ (fun i => g (i + 1)) (fun i hi => h (i + 1) (by omega))]

theorem hn_lt (B : Nat) (n : Nat) : ∀ f : Nat → Nat, (∀ i, i < n → f i < B) → hn B f n < B ^ n := by
 induction n with
 | zero => intro f _; simp [hn]
 | succ n ih =>
  intro f h
  have h1 := ih (fun i => f (i + 1)) (fun i hi => h (i + 1) (by omega))
  have h0 := h 0 (by omega)
  simp only [hn]
  rw [Nat.pow_succ, Nat.mul_comm (B ^ n) B]
  have : B * (hn B (fun i => f (i + 1)) n + 1) ≤ B * B ^ n := Nat.mul_le_mul_left _ h1
  rw [Nat.mul_add] at this; omega

theorem hn_last (B : Nat) (n : Nat) : ∀ f : Nat → Nat, f n = 0 → hn B f (n + 1) = hn B f n := by
 induction n with
 | zero => intro f h; simp [hn, h]
 | succ n ih => intro f h; rw [hn, ih (fun i => f (i + 1)) h]; rfl

theorem hn_div (B : Nat) (hB : 0 < B) (n : Nat) (f : Nat → Nat) (hf : ∀ i, f i < B) (h0 : ∀ i, n ≤ i → f i = 0) : hn B f n / B = hn B (fun i => f (i + 1)) n := by
 rw [← hn_last B n f (h0 n (Nat.le_refl _))]
 rw [hn, Nat.add_mul_div_left _ _ hB, Nat.div_eq_of_lt (hf 0), Nat.zero_add]

/-- Two rows of bits, parted at k. -/
theorem and_parts (k a b c d : Nat) (ha : a < 2 ^ k) (hc : c < 2 ^ k) : (a + 2 ^ k * b) &&& (c + 2 ^ k * d) = (a &&& c) + 2 ^ k * (b &&& d) := by
 have hac : a &&& c < 2 ^ k := Nat.and_lt_two_pow _ hc
 apply Nat.eq_of_testBit_eq
 intro i
 rw [Nat.testBit_and, Nat.add_comm a, Nat.add_comm c, Nat.add_comm (a &&& c)]
 rw [Nat.testBit_two_pow_mul_add _ ha, Nat.testBit_two_pow_mul_add _ hc, Nat.testBit_two_pow_mul_add _ hac]
 split
 ·
  rw [Nat.testBit_and]
 ·
  rw [Nat.testBit_and]

/-- Every other digit, by the mask of all ones there. -/
theorem hn_even (k : Nat) (n : Nat) : ∀ f : Nat → Nat, (∀ i, f i < 2 ^ k) →
  hn (2 ^ k) f (2 * n) &&& hn (2 ^ (k + k)) (fun _ => 2 ^ k - 1) n = hn (2 ^ (k + k)) (fun i => f (2 * i)) n := by
 induction n with
 | zero => intro f _; simp [hn]
 | succ n ih =>
  intro f hf
  have e : hn (2 ^ k) f (2 * (n + 1)) = (f 0 + 2 ^ k * f 1) + 2 ^ (k + k) * hn (2 ^ k) (fun i => f (i + 2)) (2 * n) := by
   rw [show 2 * (n + 1) = 2 * n + 1 + 1 from rfl, hn, hn, Nat.mul_add, Nat.pow_add, Nat.mul_assoc, Nat.add_assoc]
  have p : 0 < 2 ^ k := Nat.two_pow_pos k
  have l1 : f 0 + 2 ^ k * f 1 < 2 ^ (k + k) := by
   have := hf 0
   have : 2 ^ k * (f 1 + 1) ≤ 2 ^ k * 2 ^ k := Nat.mul_le_mul_left _ (hf 1)
   rw [Nat.pow_add]; rw [Nat.mul_add] at this; omega
  have l2 : 2 ^ k - 1 < 2 ^ (k + k) := by
   have : 2 ^ k * 1 ≤ 2 ^ k * 2 ^ k := Nat.mul_le_mul_left _ p
   rw [Nat.pow_add]; omega
  have m1 : (f 0 + 2 ^ k * f 1) &&& (2 ^ k - 1) = f 0 := by
   rw [Nat.and_two_pow_sub_one_eq_mod, Nat.add_mul_mod_self_left, Nat.mod_eq_of_lt (hf 0)]
  have := ih (fun i => f (i + 2)) (fun i => hf (i + 2))
  rw [e, hn, and_parts _ _ _ _ _ l1 l2, m1, this, hn]
  rfl

/-- The sum of the first n. -/
def sm (f : Nat → Nat) : Nat → Nat
 | 0 => 0
 | n + 1 => sm f n + f n

/-- math/bits' OnesCount64 on the words of numbers. -/
def pop (x : Nat) : Nat :=
 let a := (x / 2 &&& 6148914691236517205) + (x &&& 6148914691236517205)
 let b := (a / 4 &&& 3689348814741910323) + (a &&& 3689348814741910323)
 let c := (b / 16 + b) &&& 1085102592571150095
 let d := c + c / 256
 let e := d + d / 65536
 let g := e + e / 4294967296
 g % 128

theorem pop_eq (f : Nat → Nat) (hf : ∀ i, f i < 2) (h0 : ∀ i, 64 ≤ i → f i = 0) : pop (hn 2 f 64) = sm f 64 := by
 have ha : (hn 2 f 64 / 2 &&& 6148914691236517205) + (hn 2 f 64 &&& 6148914691236517205) = hn 4 (fun i => f (2 * i + 1) + f (2 * i)) 32 := by
  have e1 := hn_even 1 32 f hf
  have e2 := hn_even 1 32 (fun i => f (i + 1)) (fun i => hf (i + 1))
  have d1 := hn_div 2 (by omega) 64 f hf h0
  rw [d1, show (6148914691236517205 : Nat) = hn (2 ^ (1 + 1)) (fun _ => 2 ^ 1 - 1) 32 by decide +kernel, e1, e2, hn_add]
 have hb : ∀ g : Nat → Nat, (∀ i, g i < 3) → (∀ i, 32 ≤ i → g i = 0) → (hn 4 g 32 / 4 &&& 3689348814741910323) + (hn 4 g 32 &&& 3689348814741910323) = hn 16 (fun i => g (2 * i + 1) + g (2 * i)) 16 := by
  intro g hg g0
  have hg' : ∀ i, g i < 2 ^ 2 := fun i => Nat.lt_trans (hg i) (by decide)
  have e1 := hn_even 2 16 g hg'
  have e2 := hn_even 2 16 (fun i => g (i + 1)) (fun i => hg' (i + 1))
  have d1 := hn_div 4 (by omega) 32 g hg' g0
  rw [d1, show (3689348814741910323 : Nat) = hn (2 ^ (2 + 2)) (fun _ => 2 ^ 2 - 1) 16 by decide +kernel, e1, e2, hn_add]
 have hc : ∀ g : Nat → Nat, (∀ i, g i < 5) → (∀ i, 16 ≤ i → g i = 0) → (hn 16 g 16 / 16 + hn 16 g 16) &&& 1085102592571150095 = hn 256 (fun i => g (2 * i + 1) + g (2 * i)) 8 := by
  intro g hg g0
  have d1 := hn_div 16 (by omega) 16 g (fun i => Nat.lt_trans (hg i) (by decide)) g0
  have e1 := hn_even 4 8 (fun i => g (i + 1) + g i) (fun i => by have := hg i; have := hg (i + 1); show g (i + 1) + g i < 16; omega)
  rw [d1, hn_add, show (1085102592571150095 : Nat) = hn (2 ^ (4 + 4)) (fun _ => 2 ^ 4 - 1) 8 by decide +kernel]
  exact e1
 have hd : ∀ g : Nat → Nat, (∀ i, g i < 9) → (∀ i, 8 ≤ i → g i = 0) → (let d := hn 256 g 8 + hn 256 g 8 / 256
   let e := d + d / 65536
   let q := e + e / 4294967296
   q % 128) = g 0 + g 1 + g 2 + g 3 + g 4 + g 5 + g 6 + g 7 := by
  intro g hg g0
  have d1 := hn_div 256 (by omega) 8 g (fun i => Nat.lt_trans (hg i) (by decide)) g0
  have hg1 : ∀ i, g i + g (i + 1) < 256 := fun i => by have := hg i; have := hg (i + 1); omega
  have g1 : ∀ i, 8 ≤ i → g i + g (i + 1) = 0 := fun i hi => by rw [g0 i hi, g0 (i + 1) (by omega)]
  have d2 : hn 256 (fun i => g i + g (i + 1)) 8 / 65536 = hn 256 (fun i => g (i + 2) + g (i + 3)) 8 := by
   rw [show 65536 = 256 * 256 from rfl, ← Nat.div_div_eq_div_mul, hn_div 256 (by omega) 8 _ hg1 g1, hn_div 256 (by omega) 8 _ (fun i => hg1 (i + 1)) (fun i hi => g1 (i + 1) (by omega))]
  have hg2 : ∀ i, g i + g (i + 1) + (g (i + 2) + g (i + 3)) < 256 := fun i => by have := hg i; have := hg (i + 1); have := hg (i + 2); have := hg (i + 3); omega
  have g2 : ∀ i, 8 ≤ i → g i + g (i + 1) + (g (i + 2) + g (i + 3)) = 0 := fun i hi => by rw [g0 i hi, g0 (i + 1) (by omega), g0 (i + 2) (by omega), g0 (i + 3) (by omega)]
  have d3 : hn 256 (fun i => g i + g (i + 1) + (g (i + 2) + g (i + 3))) 8 / 4294967296 = hn 256 (fun i => g (i + 4) + g (i + 5) + (g (i + 6) + g (i + 7))) 8 := by
   rw [show 4294967296 = 256 * 256 * 256 * 256 from rfl, ← Nat.div_div_eq_div_mul, ← Nat.div_div_eq_div_mul, ← Nat.div_div_eq_div_mul, hn_div 256 (by omega) 8 _ hg2 g2,
    hn_div 256 (by omega) 8 _ (fun i => hg2 (i + 1)) (fun i hi => g2 (i + 1) (by omega)), hn_div 256 (by omega) 8 _ (fun i => hg2 (i + 2)) (fun i hi => g2 (i + 2) (by omega)), hn_div 256 (by omega) 8 _ (fun i => hg2 (i + 3)) (fun i hi => g2 (i + 3) (by omega))]
  show (hn 256 g 8 + hn 256 g 8 / 256 + (hn 256 g 8 + hn 256 g 8 / 256) / 65536 + (hn 256 g 8 + hn 256 g 8 / 256 + (hn 256 g 8 + hn 256 g 8 / 256) / 65536) / 4294967296) % 128 = _
  rw [d1, hn_add, d2, hn_add, d3, hn_add, hn]
  have q0 := hg 0; have q1 := hg 1; have q2 := hg 2; have q3 := hg 3; have q4 := hg 4; have q5 := hg 5; have q6 := hg 6; have q7 := hg 7
  simp only [Nat.zero_add]
  omega
 simp only [pop]
 rw [ha, hb _ (fun i => by have := hf (2 * i); have := hf (2 * i + 1); omega) (fun i hi => by rw [h0 _ (by omega), h0 _ (by omega)]),
  hc _ (fun i => by have := hf (2 * (2 * i)); have := hf (2 * (2 * i) + 1); have := hf (2 * (2 * i + 1)); have := hf (2 * (2 * i + 1) + 1); omega)
   (fun i hi => by rw [h0 _ (by omega), h0 _ (by omega), h0 _ (by omega), h0 _ (by omega)])]
 have b4 : ∀ i, f (2 * (2 * i + 1) + 1) + f (2 * (2 * i + 1)) + (f (2 * (2 * i) + 1) + f (2 * (2 * i))) < 5 := fun i => by
  have := hf (2 * (2 * i)); have := hf (2 * (2 * i) + 1); have := hf (2 * (2 * i + 1)); have := hf (2 * (2 * i + 1) + 1); omega
 refine (hd _ (fun i => by have := b4 (2 * i); have := b4 (2 * i + 1); omega)
   (fun i hi => by simp only [h0 (2 * (2 * (2 * i + 1) + 1) + 1) (by omega), h0 (2 * (2 * (2 * i + 1) + 1)) (by omega), h0 (2 * (2 * (2 * i + 1)) + 1) (by omega), h0 (2 * (2 * (2 * i + 1))) (by omega), h0 (2 * (2 * (2 * i) + 1) + 1) (by omega), h0 (2 * (2 * (2 * i) + 1)) (by omega), h0 (2 * (2 * (2 * i)) + 1) (by omega), h0 (2 * (2 * (2 * i))) (by omega)])).trans ?_
 simp only [sm, Nat.reduceMul, Nat.reduceAdd, Nat.zero_add, Nat.mul_zero]
 omega

/-- Word i of the set of the bytes that p holds of. -/
def wd (p : Nat → Bool) (i : Nat) : Nat := hn 2 (fun j => if j < 64 then (p (64 * i + j)).toNat else 0) 64

theorem bit_lt (p : Nat → Bool) (i : Nat) : ∀ j, (fun j => if j < 64 then (p (64 * i + j)).toNat else 0) j < 2 := by
 intro j
 show (if j < 64 then (p (64 * i + j)).toNat else 0) < 2
 split
 ·
  exact Bool.toNat_lt _
 ·
  omega

theorem wd_lt (p : Nat → Bool) (i : Nat) : wd p i < 18446744073709551616 := by
 have := hn_lt 2 64 _ (fun j _ => bit_lt p i j)
 exact this

theorem hn_testBit (n : Nat) : ∀ (q : Nat → Bool) (j : Nat), (hn 2 (fun j => (q j).toNat) n).testBit j = (decide (j < n) && q j) := by
 induction n with
 | zero => intro q j; simp [hn]
 | succ n ih =>
  intro q j
  rw [hn]
  cases j with
  | zero =>
   rw [Nat.testBit_zero, Nat.add_mul_mod_self_left]
   cases q 0 <;> simp
  | succ j =>
   rw [Nat.testBit_succ, Nat.add_mul_div_left _ _ (by omega), Nat.div_eq_of_lt (Bool.toNat_lt _), Nat.zero_add, ih (fun i => q (i + 1)) j]
   simp

theorem wd_eq (p : Nat → Bool) (i : Nat) : wd p i = hn 2 (fun j => (p (64 * i + j)).toNat) 64 :=
 hn_congr 2 64 _ _ (fun j hj => by simp [hj])

theorem wd_testBit (p : Nat → Bool) (i j : Nat) : (wd p i).testBit j = (decide (j < 64) && p (64 * i + j)) := by
 rw [wd_eq, hn_testBit 64 (fun j => p (64 * i + j))]

theorem wd_congr (p q : Nat → Bool) (i : Nat) (h : ∀ j, j < 64 → p (64 * i + j) = q (64 * i + j)) : wd p i = wd q i := by
 rw [wd_eq, wd_eq]
 exact hn_congr 2 64 _ _ (fun j hj => by rw [h j hj])

theorem wd_or (p q : Nat → Bool) (i : Nat) : wd p i ||| wd q i = wd (fun k => p k || q k) i := by
 apply Nat.eq_of_testBit_eq
 intro j
 rw [Nat.testBit_or, wd_testBit, wd_testBit, wd_testBit]
 cases decide (j < 64) <;> rfl

theorem wd_not (p : Nat → Bool) (i : Nat) : wd p i + wd (fun k => !p k) i = 18446744073709551615 := by
 rw [wd_eq, wd_eq, hn_add]
 rw [hn_congr 2 64 _ (fun _ => 1) (fun j _ => by cases p (64 * i + j) <;> rfl)]
 decide +kernel

theorem wd_back (x : Nat) (hx : x < 18446744073709551616) (p : Nat → Bool) (i : Nat) (h : ∀ j, j < 64 → p (64 * i + j) = x.testBit j) : wd p i = x := by
 apply Nat.eq_of_testBit_eq
 intro j
 rw [wd_testBit]
 by_cases hj : j < 64
 ·
  simp [hj, h j hj]
 ·
  rw [Nat.testBit_lt_two_pow (Nat.lt_of_lt_of_le hx (Nat.pow_le_pow_right (n := 2) (i := 64) (by omega) (by omega)))]
  simp [hj]

/-- How many of the first n numbers p holds of. -/
def cnt (p : Nat → Bool) (n : Nat) : Nat := sm (fun j => (p j).toNat) n

theorem sm_add (f : Nat → Nat) (m n : Nat) : sm f (m + n) = sm f m + sm (fun j => f (m + j)) n := by
 induction n with
 | zero => rfl
 | succ n ih => rw [← Nat.add_assoc, sm, ih, sm, Nat.add_assoc]

theorem sm_congr (f g : Nat → Nat) (n : Nat) (h : ∀ j, j < n → f j = g j) : sm f n = sm g n := by
 induction n with
 | zero => rfl
 | succ n ih => rw [sm, sm, ih (fun j hj => h j (by omega)), h n (by omega)]

theorem pop_wd (p : Nat → Bool) (i : Nat) : pop (wd p i) = sm (fun j => (p (64 * i + j)).toNat) 64 := by
 unfold wd
 rw [pop_eq _ (bit_lt p i) (fun j hj => by simp; omega)]
 exact sm_congr _ _ 64 (fun j hj => by simp [hj])

theorem cnt_words (p : Nat → Bool) : pop (wd p 0) + pop (wd p 1) + pop (wd p 2) + pop (wd p 3) = cnt p 256 := by
 simp only [pop_wd, cnt]
 rw [show 256 = 64 * 0 + 64 + 64 + 64 + 64 from rfl, sm_add, sm_add, sm_add]
 simp

theorem pop_le (p : Nat → Bool) (i : Nat) : pop (wd p i) ≤ 64 := by
 rw [pop_wd]
 have : ∀ (q : Nat → Bool) n, sm (fun j => (q j).toNat) n ≤ n := by
  intro q n
  induction n with
  | zero => exact Nat.le_refl _
  | succ n ih => have := Bool.toNat_lt (q n); rw [sm]; omega
 exact this _ 64

end Go.Proofs.YtigdmebijbaofaaGreatDoor

/-! ### BW -/

namespace Go.Proofs.YtigdmebijbaofaaGreatDoor
open Go.RowKit

/-- Nothing that was there has turned. -/
def Kp (w w' : World) : Prop := Below w.heap.size w w'

theorem Kp.refl (w : World) : Kp w w := Below.refl _ _
theorem Kp.trans {a b c : World} (h : Kp a b) (g : Kp b c) : Kp a c := Below.trans h (Below.mono g h.size)
theorem Kp.alloc {a b : World} (h : Kp a b) (o : Obj) : Kp a (b.alloc o) := Below.alloc h h.size o
theorem Kp.drew {a b : World} (h : Kp a b) : Kp a b.drew := Below.drew h
theorem Kp.drewN {a b : World} (n : Nat) (h : Kp a b) : Kp a (b.drewN n) := ⟨h.os, h.tape, h.output, h.size, h.block⟩
theorem Kp.setCell {a b : World} (h : Kp a b) {p : Addr} (hp : a.heap.size ≤ p.block) (u : Value) : Kp a (b.setCell p u) := Below.setCell h hp u
theorem Kp.cell {a b : World} (h : Kp a b) {p : Addr} (hp : p.block < a.heap.size) : b.cell? p = a.cell? p := Below.cell h hp

theorem wrap_nat {n : Nat} (h : n < 18446744073709551616) : IntKind.u64.wrap (n : Int) = (n : Int) := by
 rw [IntKind.wrap_u64]; omega

theorem wrap_pow (b : Nat) : IntKind.u64.wrap (2 ^ (b % 64)) = ((2 ^ (b % 64) : Nat) : Int) := by
 have h := wrap_nat (n := 2 ^ (b % 64)) (Nat.pow_lt_pow_right (n := 64) (a := 2) (by omega) (by omega))
 rw [Int.natCast_pow] at h
 exact h.trans (Int.natCast_pow _ _).symm

theorem ret_u64 {a b : Int} (h : a = b) : Ending.returned (.int .u64 a) = .returned (.int .u64 b) := by rw [h]
theorem ret_i64 {a b : Int} (h : a = b) : Ending.returned (.int .i64 a) = .returned (.int .i64 b) := by rw [h]
theorem ret_bool {a b : Bool} (h : a = b) : Ending.returned (.bool a) = .returned (.bool b) := by rw [h]

theorem bit_any (b : Nat) (w : World) :
  Calls Tryz.prog 219 #[.int .u8 b] w fun e w' => e = .returned (.int .u64 ((2 ^ (b % 64) : Nat) : Int)) ∧ w' = w := by
 go_enter Tryz.func219, Tryz.ntmps219
 go_wp2
 go_ret
 exact ⟨ret_u64 (wrap_pow b), rfl⟩

theorem ones_any (x : Nat) (w : World) (hx : x < 18446744073709551616) :
  Calls Tryz.prog 185 #[.int .u64 x] w fun e w' => e = .returned (.int .i64 (pop x : Nat)) ∧ w' = w := by
 obtain ⟨a, ea⟩ : ∃ a, a = (x / 2 &&& 6148914691236517205) + (x &&& 6148914691236517205) := ⟨_, rfl⟩
 obtain ⟨b, eb⟩ : ∃ b, b = (a / 4 &&& 3689348814741910323) + (a &&& 3689348814741910323) := ⟨_, rfl⟩
 obtain ⟨c, ec⟩ : ∃ c, c = (b / 16 + b) &&& 1085102592571150095 := ⟨_, rfl⟩
 obtain ⟨d, ed⟩ : ∃ d, d = c + c / 256 := ⟨_, rfl⟩
 obtain ⟨f, ef⟩ : ∃ f, f = d + d / 65536 := ⟨_, rfl⟩
 obtain ⟨g, eg⟩ : ∃ g, g = f + f / 4294967296 := ⟨_, rfl⟩
 have ep : pop x = g % 128 := by subst eg ef ed ec eb ea; rfl
 have a1 : (x / 2 &&& 6148914691236517205) ≤ 6148914691236517205 := Nat.and_le_right
 have a2 : (x &&& 6148914691236517205) ≤ 6148914691236517205 := Nat.and_le_right
 have b1 : (a / 4 &&& 3689348814741910323) ≤ 3689348814741910323 := Nat.and_le_right
 have b2 : (a &&& 3689348814741910323) ≤ 3689348814741910323 := Nat.and_le_right
 have c1 : ((b / 16 + b) &&& 1085102592571150095) ≤ 1085102592571150095 := Nat.and_le_right
 have r1 : IntKind.u64.wrap (bits .and .u64 ((x : Int) / 2) 6148914691236517205 + bits .and .u64 (x : Int) 6148914691236517205) = (a : Int) := by
  rw [show (x : Int) / 2 = ((x / 2 : Nat) : Int) by omega, show (6148914691236517205 : Int) = ((6148914691236517205 : Nat) : Int) from rfl, u64_and_nat _ _ (by omega) (by omega), u64_and_nat _ _ (by omega) (by omega), ← Int.natCast_add, ← ea]
  exact wrap_nat (by omega)
 have r2 : IntKind.u64.wrap (bits .and .u64 ((a : Int) / 4) 3689348814741910323 + bits .and .u64 (a : Int) 3689348814741910323) = (b : Int) := by
  rw [show (a : Int) / 4 = ((a / 4 : Nat) : Int) by omega, show (3689348814741910323 : Int) = ((3689348814741910323 : Nat) : Int) from rfl, u64_and_nat _ _ (by omega) (by omega), u64_and_nat _ _ (by omega) (by omega), ← Int.natCast_add, ← eb]
  exact wrap_nat (by omega)
 have r3 : bits .and .u64 (IntKind.u64.wrap ((b : Int) / 16 + (b : Int))) 1085102592571150095 = (c : Int) := by
  rw [show (b : Int) / 16 + (b : Int) = ((b / 16 + b : Nat) : Int) by omega, wrap_nat (by omega), show (1085102592571150095 : Int) = ((1085102592571150095 : Nat) : Int) from rfl, u64_and_nat _ _ (by omega) (by omega), ← ec]
 have r4 : IntKind.u64.wrap ((c : Int) + (c : Int) / 256) = (d : Int) := by
  rw [show (c : Int) + (c : Int) / 256 = (d : Int) by omega]; exact wrap_nat (by omega)
 have r5 : IntKind.u64.wrap ((d : Int) + (d : Int) / 65536) = (f : Int) := by
  rw [show (d : Int) + (d : Int) / 65536 = (f : Int) by omega]; exact wrap_nat (by omega)
 have r6 : IntKind.u64.wrap ((f : Int) + (f : Int) / 4294967296) = (g : Int) := by
  rw [show (f : Int) + (f : Int) / 4294967296 = (g : Int) by omega]; exact wrap_nat (by omega)
 have hg : g < 4611686018427387904 := by omega
 have r7 : Hid (bits .and .i64 (g : Int) 127 = ((g % 128 : Nat) : Int)) := by
  show _ = _
  rw [i64_and127]; omega
 rw [ep]
 clear ep ea eb ec ed ef eg a1 a2 b1 b2 c1 hx
 go_enter Tryz.func185, Tryz.ntmps185
 go_wp2
 go_ret
 exact ⟨ret_i64 r7.out, rfl⟩

theorem ix0 (a b c d : Value) (w : World) : (Instr.index 24 (.agg #[a, b, c, d]) (.int .i64 0)).run Tryz.prog w = .ok a w := by kernel_rfl
theorem ix1 (a b c d : Value) (w : World) : (Instr.index 24 (.agg #[a, b, c, d]) (.int .i64 1)).run Tryz.prog w = .ok b w := by kernel_rfl
theorem ix2 (a b c d : Value) (w : World) : (Instr.index 24 (.agg #[a, b, c, d]) (.int .i64 2)).run Tryz.prog w = .ok c w := by kernel_rfl
theorem ix3 (a b c d : Value) (w : World) : (Instr.index 24 (.agg #[a, b, c, d]) (.int .i64 3)).run Tryz.prog w = .ok d w := by kernel_rfl

/-- A set as the program has it. -/
abbrev vv (a b c d : Nat) : Value := .agg #[.int .u64 (a : Int), .int .u64 (b : Int), .int .u64 (c : Int), .int .u64 (d : Int)]
abbrev sv (p : Nat → Bool) : Value := vv (wd p 0) (wd p 1) (wd p 2) (wd p 3)

theorem ret_vv {a b c d a' b' c' d' : Int} (h0 : a = a') (h1 : b = b') (h2 : c = c') (h3 : d = d') :
  Ending.returned (.agg #[.int .u64 a, .int .u64 b, .int .u64 c, .int .u64 d]) = .returned (.agg #[.int .u64 a', .int .u64 b', .int .u64 c', .int .u64 d']) := by rw [h0, h1, h2, h3]

/-- What bit of which word a byte is. -/
def bitOf (a b c d : Nat) (i : Nat) : Bool := (if i / 64 = 0 then a else if i / 64 = 1 then b else if i / 64 = 2 then c else d).testBit (i % 64)

theorem vv_sv (a b c d : Nat) (ha : a < 18446744073709551616) (hb : b < 18446744073709551616) (hc : c < 18446744073709551616) (hd : d < 18446744073709551616) : vv a b c d = sv (bitOf a b c d) := by
 have e0 : wd (bitOf a b c d) 0 = a := wd_back a ha _ 0 (fun j hj => by unfold bitOf; rw [if_pos (by omega), show (64 * 0 + j) % 64 = j by omega])
 have e1 : wd (bitOf a b c d) 1 = b := wd_back b hb _ 1 (fun j hj => by unfold bitOf; rw [if_neg (by omega), if_pos (by omega), show (64 * 1 + j) % 64 = j by omega])
 have e2 : wd (bitOf a b c d) 2 = c := wd_back c hc _ 2 (fun j hj => by unfold bitOf; rw [if_neg (by omega), if_neg (by omega), if_pos (by omega), show (64 * 2 + j) % 64 = j by omega])
 have e3 : wd (bitOf a b c d) 3 = d := wd_back d hd _ 3 (fun j hj => by unfold bitOf; rw [if_neg (by omega), if_neg (by omega), if_neg (by omega), show (64 * 3 + j) % 64 = j by omega])
 show vv _ _ _ _ = vv _ _ _ _
 rw [e0, e1, e2, e3]

/-- What is in one of two sets; what is not in a set. -/
def orB (p q : Nat → Bool) : Nat → Bool := fun k => p k || q k
def notB (p : Nat → Bool) : Nat → Bool := fun k => !p k

theorem xor_wd (p : Nat → Bool) (i : Nat) : bits .xor .u64 IntKind.u64.max (wd p i : Nat) = ((wd (notB p) i : Nat) : Int) := by
 show _ = ((wd (fun k => !p k) i : Nat) : Int)
 have h := wd_not p i
 have hl := wd_lt p i
 rw [show IntKind.u64.max = ((18446744073709551615 : Nat) : Int) from rfl, u64_xor_nat _ _ (by omega) hl]
 have e : 18446744073709551615 ^^^ wd p i = wd (fun k => !p k) i := by
  apply Nat.eq_of_testBit_eq
  intro j
  rw [Nat.testBit_xor, wd_testBit, wd_testBit, show (18446744073709551615 : Nat) = 2 ^ 64 - 1 from rfl, Nat.testBit_two_pow_sub_one]
  cases decide (j < 64) <;> simp
 rw [e]

theorem or_wd (p q : Nat → Bool) (i : Nat) : bits .or .u64 (wd p i : Nat) (wd q i : Nat) = ((wd (orB p q) i : Nat) : Int) := by
 rw [u64_or_nat _ _ (wd_lt p i) (wd_lt q i), wd_or]
 rfl

theorem not_any (p : Nat → Bool) (w : World) :
  Calls Tryz.prog 157 #[sv p] w fun e w' => e = .returned (sv (notB p)) ∧ Kp w w' := by
 have E : Hid (∀ i, bits .xor .u64 IntKind.u64.max (wd p i : Nat) = ((wd (notB p) i : Nat) : Int)) := fun i => xor_wd p i
 have i0 := ix0; have i1 := ix1; have i2 := ix2; have i3 := ix3
 go_enter Tryz.func157, Tryz.ntmps157
 go_wp2
 refine wp_loop_rounds 5 ?_
 rw [rounds_succ]
 go_wp2
 rw [rounds_succ]
 go_wp2
 rw [rounds_succ]
 go_wp2
 rw [rounds_succ]
 go_wp2
 rw [rounds_succ]
 go_wp2
 refine bodyPost_ret (v := .agg #[.int .u64 (bits .xor .u64 IntKind.u64.max (wd p 0 : Nat)), .int .u64 (bits .xor .u64 IntKind.u64.max (wd p 1 : Nat)), .int .u64 (bits .xor .u64 IntKind.u64.max (wd p 2 : Nat)), .int .u64 (bits .xor .u64 IntKind.u64.max (wd p 3 : Nat))]) (by simp [results, Tryz.results157, go_sem]) rfl ⟨?_, ?_⟩
 ·
  exact ret_vv (E.out 0) (E.out 1) (E.out 2) (E.out 3)
 ·
  exact ((Kp.refl _).alloc _).alloc _

theorem and_bit (p : Nat → Bool) (b : Nat) : (bits .and .u64 (wd p (b / 64) : Nat) (2 ^ (b % 64)) != 0) = p b := by
 rw [show (2 : Int) ^ (b % 64) = ((2 ^ (b % 64) : Nat) : Int) from (Int.natCast_pow _ _).symm, u64_and_nat _ _ (wd_lt _ _) (Nat.pow_lt_pow_right (n := 64) (a := 2) (by omega) (by omega))]
 have e : wd p (b / 64) &&& 2 ^ (b % 64) = (p b).toNat * 2 ^ (b % 64) := by
  have ht := wd_testBit p (b / 64) (b % 64)
  rw [show 64 * (b / 64) + b % 64 = b by omega, decide_eq_true (show b % 64 < 64 by omega), Bool.true_and] at ht
  rw [nat_bit, ← Nat.toNat_testBit, ht]
 rw [e]
 have := Nat.two_pow_pos (b % 64)
 cases p b
 ·
  simp
 ·
  have h : ((2 ^ (b % 64) : Nat) : Int) ≠ 0 := by omega
  simpa using h

theorem has_any (p : Nat → Bool) (b : Nat) (w : World) (hb : b < 256) :
  Calls Tryz.prog 191 #[sv p, .int .u8 b] w fun e w' => e = .returned (.bool (p b)) ∧ Kp w w' := by
 have E : Hid ((bits .and .u64 (wd p (b / 64) : Nat) (2 ^ (b % 64)) != 0) = p b) := and_bit p b
 have hk : b / 64 = 0 ∨ b / 64 = 1 ∨ b / 64 = 2 ∨ b / 64 = 3 := by omega
 rcases hk with hk | hk | hk | hk
 ·
  rw [hk] at E
  have hq : (b : Int) / 64 = 0 := by omega
  clear hk
  go_enter Tryz.func191, Tryz.ntmps191
  go_wp2
  go_quiet ((go_at_call 219; exact Calls.quiet_of_same (bit_any _ _)))
  go_wp2
  go_ret
  exact ⟨ret_bool E.out, ((Kp.refl _).alloc _).drewN _⟩
 ·
  rw [hk] at E
  have hq : (b : Int) / 64 = 1 := by omega
  clear hk
  go_enter Tryz.func191, Tryz.ntmps191
  go_wp2
  go_quiet ((go_at_call 219; exact Calls.quiet_of_same (bit_any _ _)))
  go_wp2
  go_ret
  exact ⟨ret_bool E.out, ((Kp.refl _).alloc _).drewN _⟩
 ·
  rw [hk] at E
  have hq : (b : Int) / 64 = 2 := by omega
  clear hk
  go_enter Tryz.func191, Tryz.ntmps191
  go_wp2
  go_quiet ((go_at_call 219; exact Calls.quiet_of_same (bit_any _ _)))
  go_wp2
  go_ret
  exact ⟨ret_bool E.out, ((Kp.refl _).alloc _).drewN _⟩
 ·
  rw [hk] at E
  have hq : (b : Int) / 64 = 3 := by omega
  clear hk
  go_enter Tryz.func191, Tryz.ntmps191
  go_wp2
  go_quiet ((go_at_call 219; exact Calls.quiet_of_same (bit_any _ _)))
  go_wp2
  go_ret
  exact ⟨ret_bool E.out, ((Kp.refl _).alloc _).drewN _⟩

theorem count_any (p : Nat → Bool) (w : World) :
  Calls Tryz.prog 150 #[sv p] w fun e w' => e = .returned (.int .i64 (cnt p 256 : Nat)) ∧ Kp w w' := by
 have C : Hid (pop (wd p 0) + pop (wd p 1) + pop (wd p 2) + pop (wd p 3) = cnt p 256) := cnt_words p
 have l0 := pop_le p 0; have l1 := pop_le p 1; have l2 := pop_le p 2; have l3 := pop_le p 3
 have i0 := ix0; have i1 := ix1; have i2 := ix2; have i3 := ix3
 go_enter Tryz.func150, Tryz.ntmps150
 go_wp2
 refine wp_loop_rounds 5 ?_
 rw [rounds_succ]
 go_wp2_with (go_at_call 185; refine (ones_any _ _ (wd_lt _ _)).mono ?_; rintro e w' ⟨rfl, rfl⟩)
 rw [rounds_succ]
 go_wp2_with (go_at_call 185; refine (ones_any _ _ (wd_lt _ _)).mono ?_; rintro e w' ⟨rfl, rfl⟩)
 rw [rounds_succ]
 go_wp2_with (go_at_call 185; refine (ones_any _ _ (wd_lt _ _)).mono ?_; rintro e w' ⟨rfl, rfl⟩)
 rw [rounds_succ]
 go_wp2_with (go_at_call 185; refine (ones_any _ _ (wd_lt _ _)).mono ?_; rintro e w' ⟨rfl, rfl⟩)
 rw [rounds_succ]
 go_wp2
 go_ret
 exact ⟨ret_i64 (by have := C.out; omega), (Kp.refl _).alloc _⟩

theorem join_nil (w : World) :
  Calls Tryz.prog 221 #[.slice none 0 0] w fun e w' => e = .returned (vv 0 0 0 0) ∧ Kp w w' := by
 go_enter Tryz.func221, Tryz.ntmps221
 go_wp2
 refine wp_loop_rounds 1 ?_
 rw [rounds_succ]
 go_wp2
 refine bodyPost_ret (v := vv 0 0 0 0) (by simp [results, Tryz.results221, go_sem]) rfl ⟨rfl, ?_⟩
 exact ((Kp.refl _).alloc _).alloc _

theorem or_zero (p : Nat → Bool) (i : Nat) : bits .or .u64 0 (wd p i : Nat) = ((wd p i : Nat) : Int) := by
 rw [show (0 : Int) = ((0 : Nat) : Int) from rfl, u64_or_nat _ _ (by omega) (wd_lt p i), Nat.zero_or]

set_option maxHeartbeats 1000000 in
theorem join_two (p q : Nat → Bool) (w : World) (B : Nat) (hB : B = w.heap.size) :
  Calls Tryz.prog 221 #[.slice (some ⟨B, 0, none⟩) 2 2] (w.alloc (.cells #[.int .u64 (wd p 0 : Nat), .int .u64 (wd p 1 : Nat), .int .u64 (wd p 2 : Nat), .int .u64 (wd p 3 : Nat), .int .u64 (wd q 0 : Nat), .int .u64 (wd q 1 : Nat), .int .u64 (wd q 2 : Nat), .int .u64 (wd q 3 : Nat)] 24)) fun e w' => e = .returned (sv (orB p q)) ∧ Kp (w.alloc (.cells #[.int .u64 (wd p 0 : Nat), .int .u64 (wd p 1 : Nat), .int .u64 (wd p 2 : Nat), .int .u64 (wd p 3 : Nat), .int .u64 (wd q 0 : Nat), .int .u64 (wd q 1 : Nat), .int .u64 (wd q 2 : Nat), .int .u64 (wd q 3 : Nat)] 24)) w' := by
 subst hB
 have i0 := ix0; have i1 := ix1; have i2 := ix2; have i3 := ix3
 have o0 := or_zero p
 have o1 := or_wd p q
 go_enter Tryz.func221, Tryz.ntmps221
 go_wp2
 refine wp_loop_rounds 3 ?_
 rw [rounds_succ]
 go_wp2
 refine wp_loop_rounds 5 ?_
 iterate 5 (rw [rounds_succ]; go_wp2)
 rw [rounds_succ]
 go_wp2
 refine wp_loop_rounds 5 ?_
 iterate 5 (rw [rounds_succ]; go_wp2)
 rw [rounds_succ]
 go_wp2
 refine bodyPost_ret (v := sv (orB p q)) (by simp [results, Tryz.results221, go_sem]) rfl ⟨rfl, ?_⟩
 exact ((((Kp.refl _).alloc _).alloc _).alloc _).alloc _

set_option maxHeartbeats 1000000 in
theorem join_three (p q r : Nat → Bool) (w : World) (B : Nat) (hB : B = w.heap.size) :
  Calls Tryz.prog 221 #[.slice (some ⟨B, 0, none⟩) 3 3] (w.alloc (.cells #[.int .u64 (wd p 0 : Nat), .int .u64 (wd p 1 : Nat), .int .u64 (wd p 2 : Nat), .int .u64 (wd p 3 : Nat), .int .u64 (wd q 0 : Nat), .int .u64 (wd q 1 : Nat), .int .u64 (wd q 2 : Nat), .int .u64 (wd q 3 : Nat), .int .u64 (wd r 0 : Nat), .int .u64 (wd r 1 : Nat), .int .u64 (wd r 2 : Nat), .int .u64 (wd r 3 : Nat)] 24)) fun e w' => e = .returned (sv (orB (orB p q) r)) ∧ Kp (w.alloc (.cells #[.int .u64 (wd p 0 : Nat), .int .u64 (wd p 1 : Nat), .int .u64 (wd p 2 : Nat), .int .u64 (wd p 3 : Nat), .int .u64 (wd q 0 : Nat), .int .u64 (wd q 1 : Nat), .int .u64 (wd q 2 : Nat), .int .u64 (wd q 3 : Nat), .int .u64 (wd r 0 : Nat), .int .u64 (wd r 1 : Nat), .int .u64 (wd r 2 : Nat), .int .u64 (wd r 3 : Nat)] 24)) w' := by
 subst hB
 have i0 := ix0; have i1 := ix1; have i2 := ix2; have i3 := ix3
 have o0 := or_zero p
 have o1 := or_wd p q
 have o2 := or_wd (orB p q) r
 go_enter Tryz.func221, Tryz.ntmps221
 go_wp2
 refine wp_loop_rounds 4 ?_
 iterate 3 (rw [rounds_succ]; go_wp2; refine wp_loop_rounds 5 ?_; iterate 5 (rw [rounds_succ]; go_wp2))
 rw [rounds_succ]
 go_wp2
 refine bodyPost_ret (v := sv (orB (orB p q) r)) (by simp [results, Tryz.results221, go_sem]) rfl ⟨rfl, ?_⟩
 exact (((((Kp.refl _).alloc _).alloc _).alloc _).alloc _).alloc _

/-- The set p, and b besides. -/
def addB (p : Nat → Bool) (b : Nat) : Nat → Bool := fun k => p k || k == b

theorem or_bit (p : Nat → Bool) (b : Nat) : bits .or .u64 (wd p (b / 64) : Nat) ((2 ^ (b % 64) : Nat) : Int) = ((wd (addB p b) (b / 64) : Nat) : Int) := by
 rw [u64_or_nat _ _ (wd_lt _ _) (Nat.pow_lt_pow_right (n := 64) (a := 2) (by omega) (by omega))]
 refine congrArg (fun n : Nat => (n : Int)) ?_
 apply Nat.eq_of_testBit_eq
 intro j
 rw [Nat.testBit_or, wd_testBit, wd_testBit, Nat.testBit_two_pow]
 unfold addB
 by_cases hj : j < 64
 ·
  have : (64 * (b / 64) + j == b) = decide (b % 64 = j) := by
   rw [Bool.eq_iff_iff]; simp; omega
  rw [this]
  simp [hj]
 ·
  have : ¬ b % 64 = j := by omega
  simp [hj, this]

theorem wd_other (p : Nat → Bool) (b i : Nat) (h : i ≠ b / 64) : wd (addB p b) i = wd p i := by
 refine wd_congr _ _ i (fun j hj => ?_)
 unfold addB
 have : (64 * i + j == b) = false := by
  rw [beq_eq_false_iff_ne]; omega
 rw [this, Bool.or_false]

/-- A world whose last block is known is one to which that block was laid. -/
theorem last_alloc (w : World) (B : Nat) (o : Obj) (hs : w.heap.size = B + 1) (hX : w.heap[B]? = some o) : ∃ w0 : World, w = w0.alloc o ∧ w0.heap.size = B := by
 refine ⟨{ w with heap := w.heap.pop }, ?_, by simp [hs]⟩
 have e : w.heap = w.heap.pop.push o := by
  apply Array.ext_getElem?
  intro i
  rw [Array.getElem?_push, Array.getElem?_pop]
  by_cases hi : i = B
  ·
   subst hi
   rw [if_pos (by simp [hs]), hX]
  ·
   rw [if_neg (by simp [hs]; omega)]
   by_cases hi2 : i < B
   ·
    rw [if_pos (by omega)]
   ·
    rw [if_neg (by omega)]; exact Array.getElem?_eq_none (by omega)
 unfold World.alloc
 rw [← e]

abbrev two (p q : Nat → Bool) : Obj := .cells #[.int .u64 (wd p 0 : Nat), .int .u64 (wd p 1 : Nat), .int .u64 (wd p 2 : Nat), .int .u64 (wd p 3 : Nat), .int .u64 (wd q 0 : Nat), .int .u64 (wd q 1 : Nat), .int .u64 (wd q 2 : Nat), .int .u64 (wd q 3 : Nat)] 24

abbrev three (p q r : Nat → Bool) : Obj := .cells #[.int .u64 (wd p 0 : Nat), .int .u64 (wd p 1 : Nat), .int .u64 (wd p 2 : Nat), .int .u64 (wd p 3 : Nat), .int .u64 (wd q 0 : Nat), .int .u64 (wd q 1 : Nat), .int .u64 (wd q 2 : Nat), .int .u64 (wd q 3 : Nat), .int .u64 (wd r 0 : Nat), .int .u64 (wd r 1 : Nat), .int .u64 (wd r 2 : Nat), .int .u64 (wd r 3 : Nat)] 24

theorem join2 (p q : Nat → Bool) (w : World) (B : Nat) (hs : w.heap.size = B + 1) (hX : w.heap[B]? = some (two p q)) :
  Calls Tryz.prog 221 #[.slice (some ⟨B, 0, none⟩) 2 2] w fun e w' => e = .returned (sv (orB p q)) ∧ Kp w w' := by
 obtain ⟨w0, rfl, h0⟩ := last_alloc w B _ hs hX
 exact join_two p q w0 B h0.symm

theorem join3 (p q r : Nat → Bool) (w : World) (B : Nat) (hs : w.heap.size = B + 1) (hX : w.heap[B]? = some (three p q r)) :
  Calls Tryz.prog 221 #[.slice (some ⟨B, 0, none⟩) 3 3] w fun e w' => e = .returned (sv (orB (orB p q) r)) ∧ Kp w w' := by
 obtain ⟨w0, rfl, h0⟩ := last_alloc w B _ hs hX
 exact join_three p q r w0 B h0.symm

theorem last_of (w : World) (o : Obj) : (w.alloc o).heap[w.heap.size]? = some o := by
 show (w.heap.push o)[w.heap.size]? = some o
 simp

/-- A block that holds the set q. -/
abbrev blk (q : Nat → Bool) : Obj := .cells #[.int .u64 (wd q 0 : Nat), .int .u64 (wd q 1 : Nat), .int .u64 (wd q 2 : Nat), .int .u64 (wd q 3 : Nat)] 24

/-- Block S holds the set q. -/
def At (w : World) (S : Nat) (q : Nat → Bool) : Prop := w.heap[S]? = some (blk q)

theorem At.lt {w : World} {S : Nat} {q : Nat → Bool} (h : At w S q) : S < w.heap.size := (Array.getElem?_eq_some_iff.1 h).1
theorem At.kp {w w' : World} {S : Nat} {q : Nat → Bool} (h : At w S q) (hk : Kp w w') : At w' S q := (hk.block S h.lt).trans h
theorem At.alloc {w : World} {S : Nat} {q : Nat → Bool} (h : At w S q) (o : Obj) : At (w.alloc o) S q := h.kp ((Kp.refl _).alloc _)
theorem At.drew {w : World} {S : Nat} {q : Nat → Bool} (h : At w S q) : At w.drew S q := h
theorem At.drewN {w : World} {S : Nat} {q : Nat → Bool} (n : Nat) (h : At w S q) : At (w.drewN n) S q := h
theorem At.new (w : World) (q : Nat → Bool) : At (w.alloc (blk q)) w.heap.size q := last_of w _
theorem At.cells {w : World} {S : Nat} {q : Nat → Bool} (h : At w S q) : w.cell? ⟨S, 0, none⟩ = some (.int .u64 (wd q 0 : Nat)) ∧ w.cell? ⟨S, 1, none⟩ = some (.int .u64 (wd q 1 : Nat)) ∧ w.cell? ⟨S, 2, none⟩ = some (.int .u64 (wd q 2 : Nat)) ∧ w.cell? ⟨S, 3, none⟩ = some (.int .u64 (wd q 3 : Nat)) :=
 ⟨cell_of_row w S 0 _ 24 (0, 0) h, cell_of_row w S 1 _ 24 (0, 0) h, cell_of_row w S 2 _ 24 (0, 0) h, cell_of_row w S 3 _ 24 (0, 0) h⟩
theorem At.set4 {w : World} {S : Nat} {q : Nat → Bool} (h : At w S q) (q' : Nat → Bool) : At ((((w.setCell ⟨S, 0, none⟩ (.int .u64 (wd q' 0 : Nat))).setCell ⟨S, 1, none⟩ (.int .u64 (wd q' 1 : Nat))).setCell ⟨S, 2, none⟩ (.int .u64 (wd q' 2 : Nat))).setCell ⟨S, 3, none⟩ (.int .u64 (wd q' 3 : Nat))) S q' := by
 unfold At at *
 simp only [World.setCell, Array.getElem?_modify, if_true, h, Option.map_some]
 rfl

theorem wd_none (i : Nat) : wd (fun _ => false) i = 0 := by
 apply Nat.eq_of_testBit_eq
 intro j
 rw [wd_testBit]; simp
end Go.Proofs.YtigdmebijbaofaaGreatDoor

/-! ### Of -/

namespace Go.Proofs.YtigdmebijbaofaaGreatDoor
open Go.RowKit

/-- The set of f 0, .., f (k - 1). -/
def memb (f : Nat → Nat) : Nat → Nat → Bool
 | 0 => fun _ => false
 | k + 1 => addB (memb f k) (f k)

theorem or_bit' (p : Nat → Bool) (b : Nat) : bits .or .u64 (wd p (b / 64) : Nat) (2 ^ (b % 64)) = ((wd (addB p b) (b / 64) : Nat) : Int) :=
 (congrArg (bits .or .u64 (wd p (b / 64) : Nat)) (Int.natCast_pow 2 (b % 64)).symm).trans (or_bit p b)

theorem set_blk (W : World) (q : Nat → Bool) (x d j B : Nat) (hB : B = W.heap.size) (hj : x / 64 = j) (hx : x < 256) :
  (((W.alloc (blk q)).drewN d).setCell ⟨B, j, none⟩ (.int .u64 (bits .or .u64 (wd q j : Nat) (2 ^ (x % 64))))) = (W.alloc (blk (addB q x))).drewN d := by
 subst hB hj
 rw [or_bit', show (((W.alloc (blk q)).drewN d).setCell ⟨W.heap.size, x / 64, none⟩ (.int .u64 (wd (addB q x) (x / 64) : Nat))) = ((W.alloc (blk q)).setCell ⟨W.heap.size, x / 64, none⟩ (.int .u64 (wd (addB q x) (x / 64) : Nat))).drewN d from rfl]
 rw [World.setCell_alloc_at _ _ _ _ _ rfl]
 have hk : x / 64 = 0 ∨ x / 64 = 1 ∨ x / 64 = 2 ∨ x / 64 = 3 := by omega
 rcases hk with hk | hk | hk | hk <;> rw [hk]
 ·
  rw [← wd_other q x 1 (by omega), ← wd_other q x 2 (by omega), ← wd_other q x 3 (by omega)]; rfl
 ·
  rw [← wd_other q x 0 (by omega), ← wd_other q x 2 (by omega), ← wd_other q x 3 (by omega)]; rfl
 ·
  rw [← wd_other q x 0 (by omega), ← wd_other q x 1 (by omega), ← wd_other q x 3 (by omega)]; rfl
 ·
  rw [← wd_other q x 0 (by omega), ← wd_other q x 1 (by omega), ← wd_other q x 2 (by omega)]; rfl

set_option maxHeartbeats 1000000 in
theorem of_core (f : Nat → Nat) (b o n cap : Nat) (w : World) (hn : n ≤ 4000) (hb : b < w.heap.size)
  (hcell : ∀ j, j < n → w.cell? ⟨b, o + j, none⟩ = some (.int .u8 (f j : Nat))) (hf : ∀ j, f j < 256) :
  Calls Tryz.prog 220 #[.slice (some ⟨b, o, none⟩) n cap] w fun e w' => e = .returned (sv (memb f n)) ∧ Kp w w' := by
 have HF : Hid (∀ j, f j < 256) := hf
 have HC : Hid (∀ j, j < n → w.cell? ⟨b, o + j, none⟩ = some (.int .u8 (f j : Nat))) := hcell
 clear hf hcell
 go_enter Tryz.func220, Tryz.ntmps220
 go_wp2
 go_loopw [8] (fun i wr => ∃ (k d : Nat), k ≤ n ∧ i = .int .i64 k ∧ wr = ((w.alloc (.cells #[.int .u64 0, .int .u64 0, .int .u64 0, .int .u64 0] 24)).alloc (.cells #[.int .u64 (wd (memb f k) 0 : Nat), .int .u64 (wd (memb f k) 1 : Nat), .int .u64 (wd (memb f k) 2 : Nat), .int .u64 (wd (memb f k) 3 : Nat)] 24)).drewN d) (fun i _ => n - (intOf i).toNat)
 case atStart => exact ⟨0, 0, Nat.zero_le _, rfl, by simp only [memb, wd_none]; rfl⟩
 case round =>
  obtain ⟨k, d, hk, rfl, rfl⟩ := hrel
  by_cases hlt : k < n
  ·
   have hc : (((w.alloc (.cells #[.int .u64 0, .int .u64 0, .int .u64 0, .int .u64 0] 24)).alloc (.cells #[.int .u64 (wd (memb f k) 0 : Nat), .int .u64 (wd (memb f k) 1 : Nat), .int .u64 (wd (memb f k) 2 : Nat), .int .u64 (wd (memb f k) 3 : Nat)] 24)).drewN d).cell? ⟨b, o + k, none⟩ = some (.int .u8 (f k : Nat)) :=
    (((((Kp.refl _).alloc _).alloc _).drewN _).cell (p := ⟨b, o + k, none⟩) hb).trans (HC.out k hlt)
   have hfk := HF.out k
   obtain ⟨x, hx⟩ : ∃ x, f k = x := ⟨_, rfl⟩
   rw [hx] at hc hfk
   have HX : Hid (f k = x) := hx
   clear hx HC HF
   have hk4 : x / 64 = 0 ∨ x / 64 = 1 ∨ x / 64 = 2 ∨ x / 64 = 3 := by omega
   rcases hk4 with hk4 | hk4 | hk4 | hk4
   ·
    have hq : (x : Int) / 64 = 0 := by omega
    go_wp2
    go_region_with (go_at_call 219; refine (bit_any _ _).mono ?_; rintro e w' ⟨rfl, rfl⟩)
    all_goals
     go_wp2_with fail
     go_round
     case rel => exact ⟨k + 1, _, hlt, by go_num, by rw [memb, HX.out]; exact set_blk _ _ _ _ _ _ (by simp) hk4 hfk⟩
     case measure => simp [intOf]; omega
   ·
    have hq : (x : Int) / 64 = 1 := by omega
    go_wp2
    go_region_with (go_at_call 219; refine (bit_any _ _).mono ?_; rintro e w' ⟨rfl, rfl⟩)
    all_goals
     go_wp2_with fail
     go_round
     case rel => exact ⟨k + 1, _, hlt, by go_num, by rw [memb, HX.out]; exact set_blk _ _ _ _ _ _ (by simp) hk4 hfk⟩
     case measure => simp [intOf]; omega
   ·
    have hq : (x : Int) / 64 = 2 := by omega
    go_wp2
    go_region_with (go_at_call 219; refine (bit_any _ _).mono ?_; rintro e w' ⟨rfl, rfl⟩)
    all_goals
     go_wp2_with fail
     go_round
     case rel => exact ⟨k + 1, _, hlt, by go_num, by rw [memb, HX.out]; exact set_blk _ _ _ _ _ _ (by simp) hk4 hfk⟩
     case measure => simp [intOf]; omega
   ·
    have hq : (x : Int) / 64 = 3 := by omega
    go_wp2
    go_region_with (go_at_call 219; refine (bit_any _ _).mono ?_; rintro e w' ⟨rfl, rfl⟩)
    all_goals
     go_wp2_with fail
     go_round
     case rel => exact ⟨k + 1, _, hlt, by go_num, by rw [memb, HX.out]; exact set_blk _ _ _ _ _ _ (by simp) hk4 hfk⟩
     case measure => simp [intOf]; omega
  ·
   have hkn : k = n := by omega
   subst hkn
   clear HC HF
   go_wp2
   refine bodyPost_ret (v := sv (memb f k)) (by simp [results, Tryz.results220, go_sem]) rfl ⟨rfl, ?_⟩
   exact (((((((Kp.refl _).alloc _).alloc _).drewN _).setCell (Nat.le_refl _) _).setCell (Nat.le_refl _) _).setCell (Nat.le_refl _) _).setCell (Nat.le_refl _) _

theorem of_one (x : Nat) (w : World) (B : Nat) (hB : B = w.heap.size) (hx : x < 256) :
  Calls Tryz.prog 220 #[.slice (some ⟨B, 0, none⟩) 1 1] (w.alloc (.cells #[.int .u8 (x : Nat)] 5)) fun e w' => e = .returned (sv (addB (fun _ => false) x)) ∧ Kp w w' := by
 subst hB
 refine (of_core (fun _ => x) w.heap.size 0 1 1 _ (by omega) (by simp) ?_ (fun _ => hx)).mono ?_
 ·
  intro j hj
  obtain rfl : j = 0 := by omega
  exact World.cell?_alloc_new w _ _ 0
 ·
  rintro e w' ⟨rfl, hk⟩
  exact ⟨rfl, ((Kp.refl _).alloc _).trans hk⟩

theorem of_two (x y : Nat) (w : World) (B : Nat) (hB : B = w.heap.size) (hx : x < 256) (hy : y < 256) :
  Calls Tryz.prog 220 #[.slice (some ⟨B, 0, none⟩) 2 2] (w.alloc (.cells #[.int .u8 (x : Nat), .int .u8 (y : Nat)] 5)) fun e w' => e = .returned (sv (addB (addB (fun _ => false) x) y)) ∧ Kp w w' := by
 subst hB
 refine (of_core (fun j => if j = 0 then x else y) w.heap.size 0 2 2 _ (by omega) (by simp) ?_ (fun j => by show ite _ _ _ < _; split <;> assumption)).mono ?_
 ·
  intro j hj
  have : j = 0 ∨ j = 1 := by omega
  rcases this with rfl | rfl
  ·
   exact World.cell?_alloc_new w _ _ 0
  ·
   exact World.cell?_alloc_new w _ _ 1
 ·
  rintro e w' ⟨rfl, hk⟩
  exact ⟨rfl, ((Kp.refl _).alloc _).trans hk⟩

theorem of1 (x : Nat) (w : World) (B : Nat) (hB : B < w.heap.size) (hc : w.cell? ⟨B, 0, none⟩ = some (.int .u8 (x : Nat))) (hx : x < 256) :
  Calls Tryz.prog 220 #[.slice (some ⟨B, 0, none⟩) 1 1] w fun e w' => e = .returned (sv (addB (fun _ => false) x)) ∧ Kp w w' := by
 refine (of_core (fun _ => x) B 0 1 1 w (by omega) hB ?_ (fun _ => hx)).mono ?_
 ·
  intro j hj
  obtain rfl : j = 0 := by omega
  exact hc
 ·
  rintro e w' ⟨rfl, hk⟩
  exact ⟨rfl, hk⟩
end Go.Proofs.YtigdmebijbaofaaGreatDoor

/-! ### Range -/

namespace Go.Proofs.YtigdmebijbaofaaGreatDoor
open Go.RowKit

/-- The bytes from a on, below k. -/
def span (a k : Nat) : Nat → Bool := fun i => decide (a ≤ i) && decide (i < k)

theorem span_next (a k : Nat) (h : a ≤ k) (i : Nat) : orB (span a k) (addB (fun _ => false) k) i = span a (k + 1) i := by
 unfold orB span addB
 rw [Bool.eq_iff_iff]
 simp
 omega

theorem Kp.at {w w' : World} {S : Nat} {q : Nat → Bool} (hk : Kp w w') (h : At w S q) : At w' S q := h.kp hk

theorem At.frozen {w : World} {S : Nat} {q : Nat → Bool} (h : At w S q) (j : Nat) : w.frozen? ⟨S, j, none⟩ = false := by
 unfold At at h
 simp [World.frozen?, h]

abbrev zero4 : Obj := .cells #[.int .u64 0, .int .u64 0, .int .u64 0, .int .u64 0] 24

theorem At.zero (w : World) : At (w.alloc zero4) w.heap.size (fun _ => false) := by
 have := At.new w (fun _ => false)
 rw [show blk (fun _ => false) = zero4 by simp only [blk, wd_none]; rfl] at this
 exact this

theorem sv_none : sv (fun _ => false) = vv 0 0 0 0 := by
 show vv _ _ _ _ = _
 rw [wd_none, wd_none, wd_none, wd_none]

theorem ret_at {fn : Func} {p : Tmp} (h : fn.results = #[.cell p 24]) (tmps : Array Value) (w : World) (S : Nat) (q : Nat → Bool)
  (hp : tmps.getD p undef = .pointer (some ⟨S, 0, none⟩)) (hA : At w S q) : (results fn tmps).run Tryz.prog w = .ok (sv q) w :=
 results_cell_row h tmps w S 24 _ (0, 0) _ hp hA Tryz.underlying24 rfl (by kernel_rfl)

set_option maxRecDepth 100000 in
set_option maxHeartbeats 2000000 in
theorem range_core (a b : Nat) (w : World) (ha : a < 256) (hb : b < 256) :
  Calls Tryz.prog 235 #[.int .u8 (a : Nat), .int .u8 (b : Nat)] w fun e w' => e = .returned (sv (span a (max a (b + 1)))) ∧ Kp w w' := by
 go_enter Tryz.func235, Tryz.ntmps235
 go_wp2
 go_loopw [6] (fun i wr => ∃ k : Nat, a ≤ k ∧ (k ≤ b + 1 ∨ k = a) ∧ i = .int .i64 k ∧ Kp (w.alloc (.cells #[.int .u64 0, .int .u64 0, .int .u64 0, .int .u64 0] 24)) wr ∧ At wr (w.heap.size + 1) (span a k)) (fun i _ => b + 1 - (intOf i).toNat)
 case atStart =>
  refine ⟨a, Nat.le_refl _, .inr rfl, rfl, (Kp.refl _).alloc _, ?_⟩
  have h := At.zero (w.alloc zero4)
  rw [show (w.alloc zero4).heap.size = w.heap.size + 1 by simp] at h
  rw [show span a a = fun _ => false by funext i; unfold span; simp]
  exact h
 case round =>
  obtain ⟨k, h1, h2, rfl, hK, hA⟩ := hrel
  by_cases hlt : k ≤ b
  ·
   obtain ⟨c0, c1, c2, c3⟩ := hA.cells
   have HK : Hid (Kp (w.alloc (.cells #[.int .u64 0, .int .u64 0, .int .u64 0, .int .u64 0] 24)) wr) := hK
   have HA : Hid (At wr (w.heap.size + 1) (span a k)) := hA
   clear hK hA
   have hk8 : k < 256 := by omega
   have hlt0 : w.heap.size + 1 < wr.heap.size := HA.out.lt
   have hw8 : IntKind.u8.wrap (k : Int) = (k : Int) := by rw [IntKind.wrap_u8']; omega
   go_wp2
   go_region_with (first
    | (go_at_call 220; refine (of1 k _ _ ?hb ?hc hk8).mono ?_; (case hb => simp); (case hc => exact World.cell?_alloc_new wr _ _ 0); rintro e w1 ⟨rfl, hk1⟩; have HA1 : Hid (At w1 (w.heap.size + 1) (span a k)) := (by refine hk1.at ?_; first | exact HA.out.alloc _ | exact (HA.out.alloc _).drew | exact (HA.out.alloc _).drewN _); have HK1 : Hid (Kp wr w1) := (by refine Kp.trans ?_ hk1; first | exact (Kp.refl _).alloc _ | exact ((Kp.refl _).alloc _).drew | exact ((Kp.refl _).alloc _).drewN _); clear hk1; obtain ⟨d0, d1, d2, d3⟩ := HA1.out.cells; have hlt1 : w.heap.size + 1 < w1.heap.size := HA1.out.lt)
    | (go_at_call 221; refine (join2 (span a k) (addB (fun _ => false) k) _ _ ?hs ?hX).mono ?_; (case hs => simp); (case hX => exact last_of _ _); rintro e w2 ⟨rfl, hk2⟩; have HA2 : Hid (At w2 (w.heap.size + 1) (span a k)) := (by refine hk2.at ?_; first | exact HA1.out.alloc _ | exact (HA1.out.alloc _).drew | exact (HA1.out.alloc _).drewN _); have HK2 : Hid (Kp w1 w2) := (by refine Kp.trans ?_ hk2; first | exact (Kp.refl _).alloc _ | exact ((Kp.refl _).alloc _).drew | exact ((Kp.refl _).alloc _).drewN _); clear hk2; obtain ⟨e0, e1, e2, e3⟩ := HA2.out.cells; have f0 := HA2.out.frozen 0; have f1 := HA2.out.frozen 1; have f2 := HA2.out.frozen 2; have f3 := HA2.out.frozen 3))
   all_goals
    go_wp2_with fail
    refine ⟨⟨k + 1, by omega, .inl (by omega), by go_num, ?_, ?_⟩, by simp [intOf]; omega⟩
    ·
     exact ((((HK.out.trans (HK1.out.trans HK2.out)).setCell (by simp) _).setCell (by simp) _).setCell (by simp) _).setCell (by simp) _
    ·
     rw [show span a (k + 1) = orB (span a k) (addB (fun _ => false) k) from funext (fun i => (span_next a k h1 i).symm)]
     exact HA2.out.set4 _
  ·
   have hz : At wr w.heap.size (fun _ => false) := hK.at (At.zero w)
   have hs : w.heap.size < wr.heap.size := hz.lt
   obtain ⟨c0, c1, c2, c3⟩ := hA.cells
   obtain ⟨d0, d1, d2, d3⟩ := hz.cells
   have f0 := hz.frozen 0; have f1 := hz.frozen 1; have f2 := hz.frozen 2; have f3 := hz.frozen 3
   have hke : k = max a (b + 1) := by omega
   subst hke
   have HK : Hid (Kp (w.alloc (.cells #[.int .u64 0, .int .u64 0, .int .u64 0, .int .u64 0] 24)) wr) := hK
   have HZ : Hid (At wr w.heap.size (fun _ => false)) := hz
   clear hK hA hz
   go_wp2
   refine bodyPost_ret (v := sv (span a (max a (b + 1)))) (ret_at Tryz.results235 _ _ w.heap.size _ rfl (HZ.out.set4 _)) rfl ⟨rfl, ?_⟩
   exact (((((((Kp.refl _).alloc _).trans HK.out).setCell (Nat.le_refl _) _).setCell (Nat.le_refl _) _).setCell (Nat.le_refl _) _).setCell (Nat.le_refl _) _)

/-- The bytes from a to b. -/
def rng (a b : Nat) : Nat → Bool := fun i => decide (a ≤ i) && decide (i ≤ b)

theorem range_any (a b : Nat) (w : World) (ha : a < 256) (hb : b < 256) :
  Calls Tryz.prog 235 #[.int .u8 (a : Nat), .int .u8 (b : Nat)] w fun e w' => e = .returned (sv (rng a b)) ∧ Kp w w' := by
 refine (range_core a b w ha hb).mono ?_
 rintro e w' ⟨rfl, hk⟩
 refine ⟨?_, hk⟩
 rw [show span a (max a (b + 1)) = rng a b by funext i; unfold span rng; rw [Bool.eq_iff_iff]; simp; omega]
end Go.Proofs.YtigdmebijbaofaaGreatDoor
