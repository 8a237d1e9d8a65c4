/-
  Texts of this claim: Bits, BW, Of, Range, Blk, Signs, Steps, Sign2, Sign3, Rxs, Mem, Fn.
-/
import Derived.Laws.BitsAllLaws
import Derived.Laws.Bits64
import Derived.Test.YtnajcnhgeggngaaGreatChecked
import Derived.WalkKit
import Derived.WalkSpells
import Derived.WalkLawsBesides
import Derived.Deep.QuietTactic
import Derived.BigQuiet
import Derived.Laws.Bits128
import Derived.Deep.RegionWith
import Derived.Deep.RegionHeld3
import Derived.Deep.DeepCutAuto
import Derived.Deep.LoopGhost
import Derived.Below
import Derived.Lib.SlBytesConst
import Derived.Maps.AppendAt
import Derived.Laws.ResultCell

/-! ### Bits -/

namespace Go.Proofs.YtnajcnhgeggngaaGreat

def hn (B : Nat) : (Nat → Nat) → Nat → Nat
 | _, 0 => 0
 | f, n + 1 => f 0 + B * hn B (fun i => f (i + 1)) n

theorem hn_add (B : Nat) (n : Nat) : ∀ f g : Nat → Nat, hn B f n + hn B g n = hn B (fun i => f i + g i) n := by
 induction n with
 | zero => intro f g; rfl
 | succ n ih => intro f g; simp only [hn]; rw [← ih]; rw [Nat.mul_add]; omega

theorem hn_congr (B : Nat) (n : Nat) : ∀ f g : Nat → Nat, (∀ i, i < n → f i = g i) → hn B f n = hn B g n := by
 induction n with
 | zero => intro f g _; rfl
 | succ n ih =>
  intro f g h
  simp only [hn]
  rw [h 0 (by omega), ih _ (fun i => g (i + 1)) (fun i hi => h (i + 1) (by omega))]

theorem hn_lt (B : Nat) (n : Nat) : ∀ f : Nat → Nat, (∀ i, i < n → f i < B) → hn B f n < B ^ n := by
 induction n with
 | zero => intro f _; simp [hn]
 | succ n ih =>
  intro f h
  have h1 := ih (fun i => f (i + 1)) (fun i hi => h (i + 1) (by omega))
  have h0 := h 0 (by omega)
  simp only [hn]
  rw [Nat.pow_succ, Nat.mul_comm (B ^ n) B]
  have : B * (hn B (fun i => f (i + 1)) n + 1) ≤ B * B ^ n := Nat.mul_le_mul_left _ h1
  rw [Nat.mul_add] at this; omega

theorem hn_last (B : Nat) (n : Nat) : ∀ f : Nat → Nat, f n = 0 → hn B f (n + 1) = hn B f n := by
 induction n with
 | zero => intro f h; simp [hn, h]
 | succ n ih => intro f h; rw [hn, ih (fun i => f (i + 1)) h]; rfl

theorem hn_div (B : Nat) (hB : 0 < B) (n : Nat) (f : Nat → Nat) (hf : ∀ i, f i < B) (h0 : ∀ i, n ≤ i → f i = 0) : hn B f n / B = hn B (fun i => f (i + 1)) n := by
 rw [← hn_last B n f (h0 n (Nat.le_refl _))]
 rw [hn, Nat.add_mul_div_left _ _ hB, Nat.div_eq_of_lt (hf 0), Nat.zero_add]

theorem and_parts (k a b c d : Nat) (ha : a < 2 ^ k) (hc : c < 2 ^ k) : (a + 2 ^ k * b) &&& (c + 2 ^ k * d) = (a &&& c) + 2 ^ k * (b &&& d) := by
 have hac : a &&& c < 2 ^ k := Nat.and_lt_two_pow _ hc
 apply Nat.eq_of_testBit_eq
 intro i
 rw [Nat.testBit_and, Nat.add_comm a, Nat.add_comm c, Nat.add_comm (a &&& c)]
 rw [Nat.testBit_two_pow_mul_add _ ha, Nat.testBit_two_pow_mul_add _ hc, Nat.testBit_two_pow_mul_add _ hac]
 split
 ·
  rw [Nat.testBit_and]
 ·
  rw [Nat.testBit_and]

theorem hn_even (k : Nat) (n : Nat) : ∀ f : Nat → Nat, (∀ i, f i < 2 ^ k) →
  hn (2 ^ k) f (2 * n) &&& hn (2 ^ (k + k)) (fun _ => 2 ^ k - 1) n = hn (2 ^ (k + k)) (fun i => f (2 * i)) n := by
 induction n with
 | zero => intro f _; simp [hn]
 | succ n ih =>
  intro f hf
  have e : hn (2 ^ k) f (2 * (n + 1)) = (f 0 + 2 ^ k * f 1) + 2 ^ (k + k) * hn (2 ^ k) (fun i => f (i + 2)) (2 * n) := by
   rw [show 2 * (n + 1) = 2 * n + 1 + 1 from rfl, hn, hn, Nat.mul_add, Nat.pow_add, Nat.mul_assoc, Nat.add_assoc]
  have p : 0 < 2 ^ k := Nat.two_pow_pos k
  have l1 : f 0 + 2 ^ k * f 1 < 2 ^ (k + k) := by
   have := hf 0
   have : 2 ^ k * (f 1 + 1) ≤ 2 ^ k * 2 ^ k := Nat.mul_le_mul_left _ (hf 1)
   rw [Nat.pow_add]; rw [Nat.mul_add] at this; omega
  have l2 : 2 ^ k - 1 < 2 ^ (k + k) := by
   have : 2 ^ k * 1 ≤ 2 ^ k * 2 ^ k := Nat.mul_le_mul_left _ p
   rw [Nat.pow_add]; omega
  have m1 : (f 0 + 2 ^ k * f 1) &&& (2 ^ k - 1) = f 0 := by
   rw [Nat.and_two_pow_sub_one_eq_mod, Nat.add_mul_mod_self_left, Nat.mod_eq_of_lt (hf 0)]
  have := ih (fun i => f (i + 2)) (fun i => hf (i + 2))
  rw [e, hn, and_parts _ _ _ _ _ l1 l2, m1, this, hn]
  rfl

def sm (f : Nat → Nat) : Nat → Nat
 | 0 => 0
 | n + 1 => sm f n + f n

def pop (x : Nat) : Nat :=
 let a := (x / 2 &&& 6148914691236517205) + (x &&& 6148914691236517205)
 let b := (a / 4 &&& 3689348814741910323) + (a &&& 3689348814741910323)
 let c := (b / 16 + b) &&& 1085102592571150095
 let d := c + c / 256
 let e := d + d / 65536
 let g := e + e / 4294967296
 g % 128

theorem pop_eq (f : Nat → Nat) (hf : ∀ i, f i < 2) (h0 : ∀ i, 64 ≤ i → f i = 0) : pop (hn 2 f 64) = sm f 64 := by
 have ha : (hn 2 f 64 / 2 &&& 6148914691236517205) + (hn 2 f 64 &&& 6148914691236517205) = hn 4 (fun i => f (2 * i + 1) + f (2 * i)) 32 := by
  have e1 := hn_even 1 32 f hf
  have e2 := hn_even 1 32 (fun i => f (i + 1)) (fun i => hf (i + 1))
  have d1 := hn_div 2 (by omega) 64 f hf h0
  rw [d1, show (6148914691236517205 : Nat) = hn (2 ^ (1 + 1)) (fun _ => 2 ^ 1 - 1) 32 by decide +kernel, e1, e2, hn_add]
 have hb : ∀ g : Nat → Nat, (∀ i, g i < 3) → (∀ i, 32 ≤ i → g i = 0) → (hn 4 g 32 / 4 &&& 3689348814741910323) + (hn 4 g 32 &&& 3689348814741910323) = hn 16 (fun i => g (2 * i + 1) + g (2 * i)) 16 := by
  intro g hg g0
  have hg' : ∀ i, g i < 2 ^ 2 := fun i => Nat.lt_trans (hg i) (by decide)
  have e1 := hn_even 2 16 g hg'
  have e2 := hn_even 2 16 (fun i => g (i + 1)) (fun i => hg' (i + 1))
  have d1 := hn_div 4 (by omega) 32 g hg' g0
  rw [d1, show (3689348814741910323 : Nat) = hn (2 ^ (2 + 2)) (fun _ => 2 ^ 2 - 1) 16 by decide +kernel, e1, e2, hn_add]
 have hc : ∀ g : Nat → Nat, (∀ i, g i < 5) → (∀ i, 16 ≤ i → g i = 0) → (hn 16 g 16 / 16 + hn 16 g 16) &&& 1085102592571150095 = hn 256 (fun i => g (2 * i + 1) + g (2 * i)) 8 := by
  intro g hg g0
  have d1 := hn_div 16 (by omega) 16 g (fun i => Nat.lt_trans (hg i) (by decide)) g0
  have e1 := hn_even 4 8 (fun i => g (i + 1) + g i) (fun i => by have := hg i; have := hg (i + 1); show g (i + 1) + g i < 16; omega)
  rw [d1, hn_add, show (1085102592571150095 : Nat) = hn (2 ^ (4 + 4)) (fun _ => 2 ^ 4 - 1) 8 by decide +kernel]
  exact e1
 have hd : ∀ g : Nat → Nat, (∀ i, g i < 9) → (∀ i, 8 ≤ i → g i = 0) → (let d := hn 256 g 8 + hn 256 g 8 / 256
   let e := d + d / 65536
   let q := e + e / 4294967296
   q % 128) = g 0 + g 1 + g 2 + g 3 + g 4 + g 5 + g 6 + g 7 := by
  intro g hg g0
  have d1 := hn_div 256 (by omega) 8 g (fun i => Nat.lt_trans (hg i) (by decide)) g0
  have hg1 : ∀ i, g i + g (i + 1) < 256 := fun i => by have := hg i; have := hg (i + 1); omega
  have g1 : ∀ i, 8 ≤ i → g i + g (i + 1) = 0 := fun i hi => by rw [g0 i hi, g0 (i + 1) (by omega)]
  have d2 : hn 256 (fun i => g i + g (i + 1)) 8 / 65536 = hn 256 (fun i => g (i + 2) + g (i + 3)) 8 := by
   rw [show 65536 = 256 * 256 from rfl, ← Nat.div_div_eq_div_mul, hn_div 256 (by omega) 8 _ hg1 g1, hn_div 256 (by omega) 8 _ (fun i => hg1 (i + 1)) (fun i hi => g1 (i + 1) (by omega))]
  have hg2 : ∀ i, g i + g (i + 1) + (g (i + 2) + g (i + 3)) < 256 := fun i => by have := hg i; have := hg (i + 1); have := hg (i + 2); have := hg (i + 3); omega
  have g2 : ∀ i, 8 ≤ i → g i + g (i + 1) + (g (i + 2) + g (i + 3)) = 0 := fun i hi => by rw [g0 i hi, g0 (i + 1) (by omega), g0 (i + 2) (by omega), g0 (i + 3) (by omega)]
  have d3 : hn 256 (fun i => g i + g (i + 1) + (g (i + 2) + g (i + 3))) 8 / 4294967296 = hn 256 (fun i => g (i + 4) + g (i + 5) + (g (i + 6) + g (i + 7))) 8 := by
   rw [show 4294967296 = 256 * 256 * 256 * 256 from rfl, ← Nat.div_div_eq_div_mul, ← Nat.div_div_eq_div_mul, ← Nat.div_div_eq_div_mul, hn_div 256 (by omega) 8 _ hg2 g2,
    hn_div 256 (by omega) 8 _ (fun i => hg2 (i + 1)) (fun i hi => g2 (i + 1) (by omega)), hn_div 256 (by omega) 8 _ (fun i => hg2 (i + 2)) (fun i hi => g2 (i + 2) (by omega)), hn_div 256 (by omega) 8 _ (fun i => hg2 (i + 3)) (fun i hi => g2 (i + 3) (by omega))]
  show (hn 256 g 8 + hn 256 g 8 / 256 + (hn 256 g 8 + hn 256 g 8 / 256) / 65536 + (hn 256 g 8 + hn 256 g 8 / 256 + (hn 256 g 8 + hn 256 g 8 / 256) / 65536) / 4294967296) % 128 = _
  rw [d1, hn_add, d2, hn_add, d3, hn_add, hn]
  have q0 := hg 0; have q1 := hg 1; have q2 := hg 2; have q3 := hg 3; have q4 := hg 4; have q5 := hg 5; have q6 := hg 6; have q7 := hg 7
  simp only [Nat.zero_add]
  omega
 simp only [pop]
 rw [ha, hb _ (fun i => by have := hf (2 * i); have := hf (2 * i + 1); omega) (fun i hi => by rw [h0 _ (by omega), h0 _ (by omega)]),
  hc _ (fun i => by have := hf (2 * (2 * i)); have := hf (2 * (2 * i) + 1); have := hf (2 * (2 * i + 1)); have := hf (2 * (2 * i + 1) + 1); omega)
   (fun i hi => by rw [h0 _ (by omega), h0 _ (by omega), h0 _ (by omega), h0 _ (by omega)])]
 have b4 : ∀ i, f (2 * (2 * i + 1) + 1) + f (2 * (2 * i + 1)) + (f (2 * (2 * i) + 1) + f (2 * (2 * i))) < 5 := fun i => by
  have := hf (2 * (2 * i)); have := hf (2 * (2 * i) + 1); have := hf (2 * (2 * i + 1)); have := hf (2 * (2 * i + 1) + 1); omega
 refine (hd _ (fun i => by have := b4 (2 * i); have := b4 (2 * i + 1); omega)
   (fun i hi => by simp only [h0 (2 * (2 * (2 * i + 1) + 1) + 1) (by omega), h0 (2 * (2 * (2 * i + 1) + 1)) (by omega), h0 (2 * (2 * (2 * i + 1)) + 1) (by omega), h0 (2 * (2 * (2 * i + 1))) (by omega), h0 (2 * (2 * (2 * i) + 1) + 1) (by omega), h0 (2 * (2 * (2 * i) + 1)) (by omega), h0 (2 * (2 * (2 * i)) + 1) (by omega), h0 (2 * (2 * (2 * i))) (by omega)])).trans ?_
 simp only [sm, Nat.reduceMul, Nat.reduceAdd, Nat.zero_add, Nat.mul_zero]
 omega

def wd (p : Nat → Bool) (i : Nat) : Nat := hn 2 (fun j => if j < 64 then (p (64 * i + j)).toNat else 0) 64

theorem bit_lt (p : Nat → Bool) (i : Nat) : ∀ j, (fun j => if j < 64 then (p (64 * i + j)).toNat else 0) j < 2 := by
 intro j
 show (if j < 64 then (p (64 * i + j)).toNat else 0) < 2
 split
 ·
  exact Bool.toNat_lt _
 ·
  omega

theorem wd_lt (p : Nat → Bool) (i : Nat) : wd p i < 18446744073709551616 := by
 have := hn_lt 2 64 _ (fun j _ => bit_lt p i j)
 exact this

theorem hn_testBit (n : Nat) : ∀ (q : Nat → Bool) (j : Nat), (hn 2 (fun j => (q j).toNat) n).testBit j = (decide (j < n) && q j) := by
 induction n with
 | zero => intro q j; simp [hn]
 | succ n ih =>
  intro q j
  rw [hn]
  cases j with
  | zero =>
   rw [Nat.testBit_zero, Nat.add_mul_mod_self_left]
   cases q 0 <;> simp
  | succ j =>
   rw [Nat.testBit_succ, Nat.add_mul_div_left _ _ (by omega), Nat.div_eq_of_lt (Bool.toNat_lt _), Nat.zero_add, ih (fun i => q (i + 1)) j]
   simp

theorem wd_eq (p : Nat → Bool) (i : Nat) : wd p i = hn 2 (fun j => (p (64 * i + j)).toNat) 64 :=
 hn_congr 2 64 _ _ (fun j hj => by simp [hj])

theorem wd_testBit (p : Nat → Bool) (i j : Nat) : (wd p i).testBit j = (decide (j < 64) && p (64 * i + j)) := by
 rw [wd_eq, hn_testBit 64 (fun j => p (64 * i + j))]

theorem wd_congr (p q : Nat → Bool) (i : Nat) (h : ∀ j, j < 64 → p (64 * i + j) = q (64 * i + j)) : wd p i = wd q i := by
 rw [wd_eq, wd_eq]
 exact hn_congr 2 64 _ _ (fun j hj => by rw [h j hj])

theorem wd_or (p q : Nat → Bool) (i : Nat) : wd p i ||| wd q i = wd (fun k => p k || q k) i := by
 apply Nat.eq_of_testBit_eq
 intro j
 rw [Nat.testBit_or, wd_testBit, wd_testBit, wd_testBit]
 cases decide (j < 64) <;> rfl

theorem wd_not (p : Nat → Bool) (i : Nat) : wd p i + wd (fun k => !p k) i = 18446744073709551615 := by
 rw [wd_eq, wd_eq, hn_add]
 rw [hn_congr 2 64 _ (fun _ => 1) (fun j _ => by cases p (64 * i + j) <;> rfl)]
 decide +kernel

theorem wd_back (x : Nat) (hx : x < 18446744073709551616) (p : Nat → Bool) (i : Nat) (h : ∀ j, j < 64 → p (64 * i + j) = x.testBit j) : wd p i = x := by
 apply Nat.eq_of_testBit_eq
 intro j
 rw [wd_testBit]
 by_cases hj : j < 64
 ·
  simp [hj, h j hj]
 ·
  rw [Nat.testBit_lt_two_pow (Nat.lt_of_lt_of_le hx (Nat.pow_le_pow_right (n := 2) (i := 64) (by omega) (by omega)))]
  simp [hj]

def cnt (p : Nat → Bool) (n : Nat) : Nat := sm (fun j => (p j).toNat) n

theorem sm_add (f : Nat → Nat) (m n : Nat) : sm f (m + n) = sm f m + sm (fun j => f (m + j)) n := by
 induction n with
 | zero => rfl
 | succ n ih => rw [← Nat.add_assoc, sm, ih, sm, Nat.add_assoc]

theorem sm_congr (f g : Nat → Nat) (n : Nat) (h : ∀ j, j < n → f j = g j) : sm f n = sm g n := by
 induction n with
 | zero => rfl
 | succ n ih => rw [sm, sm, ih (fun j hj => h j (by omega)), h n (by omega)]

theorem sm_plus (f g : Nat → Nat) (n : Nat) : sm (fun j => f j + g j) n = sm f n + sm g n := by
 induction n with
 | zero => rfl
 | succ n ih => rw [sm, sm, sm, ih]; omega

theorem pop_wd (p : Nat → Bool) (i : Nat) : pop (wd p i) = sm (fun j => (p (64 * i + j)).toNat) 64 := by
 unfold wd
 rw [pop_eq _ (bit_lt p i) (fun j hj => by simp; omega)]
 exact sm_congr _ _ 64 (fun j hj => by simp [hj])

theorem cnt_words (p : Nat → Bool) : pop (wd p 0) + pop (wd p 1) + pop (wd p 2) + pop (wd p 3) = cnt p 256 := by
 simp only [pop_wd, cnt]
 rw [show 256 = 64 * 0 + 64 + 64 + 64 + 64 from rfl, sm_add, sm_add, sm_add]
 simp

theorem pop_le (p : Nat → Bool) (i : Nat) : pop (wd p i) ≤ 64 := by
 rw [pop_wd]
 have : ∀ (q : Nat → Bool) n, sm (fun j => (q j).toNat) n ≤ n := by
  intro q n
  induction n with
  | zero => exact Nat.le_refl _
  | succ n ih => have := Bool.toNat_lt (q n); rw [sm]; omega
 exact this _ 64

end Go.Proofs.YtnajcnhgeggngaaGreat

/-! ### BW -/

namespace Go.Proofs.YtnajcnhgeggngaaGreat
open Go.RowKit

def Kp (w w' : World) : Prop := Below w.heap.size w w'

theorem Kp.refl (w : World) : Kp w w := Below.refl _ _
theorem Kp.trans {a b c : World} (h : Kp a b) (g : Kp b c) : Kp a c := Below.trans h (Below.mono g h.size)
theorem Kp.alloc {a b : World} (h : Kp a b) (o : Obj) : Kp a (b.alloc o) := Below.alloc h h.size o
theorem Kp.drew {a b : World} (h : Kp a b) : Kp a b.drew := Below.drew h
theorem Kp.drewN {a b : World} (n : Nat) (h : Kp a b) : Kp a (b.drewN n) := ⟨h.os, h.tape, h.output, h.size, h.block⟩
theorem Kp.setCell {a b : World} (h : Kp a b) {p : Addr} (hp : a.heap.size ≤ p.block) (u : Value) : Kp a (b.setCell p u) := Below.setCell h hp u
theorem Kp.cell {a b : World} (h : Kp a b) {p : Addr} (hp : p.block < a.heap.size) : b.cell? p = a.cell? p := Below.cell h hp

theorem wrap_nat {n : Nat} (h : n < 18446744073709551616) : IntKind.u64.wrap (n : Int) = (n : Int) := by
 rw [IntKind.wrap_u64]; omega

theorem wrap_pow (b : Nat) : IntKind.u64.wrap (2 ^ (b % 64)) = ((2 ^ (b % 64) : Nat) : Int) := by
 have h := wrap_nat (n := 2 ^ (b % 64)) (Nat.pow_lt_pow_right (n := 64) (a := 2) (by omega) (by omega))
 rw [Int.natCast_pow] at h
 exact h.trans (Int.natCast_pow _ _).symm

theorem ret_u64 {a b : Int} (h : a = b) : Ending.returned (.int .u64 a) = .returned (.int .u64 b) := by rw [h]
theorem ret_i64 {a b : Int} (h : a = b) : Ending.returned (.int .i64 a) = .returned (.int .i64 b) := by rw [h]
theorem ret_bool {a b : Bool} (h : a = b) : Ending.returned (.bool a) = .returned (.bool b) := by rw [h]

theorem bit_any (b : Nat) (w : World) :
  Calls Tryz.prog 29 #[.int .u8 b] w fun e w' => e = .returned (.int .u64 ((2 ^ (b % 64) : Nat) : Int)) ∧ w' = w := by
 go_enter Tryz.func29, Tryz.ntmps29
 go_wp2
 go_ret
 exact ⟨ret_u64 (wrap_pow b), rfl⟩

theorem ones_any (x : Nat) (w : World) (hx : x < 18446744073709551616) :
  Calls Tryz.prog 102 #[.int .u64 x] w fun e w' => e = .returned (.int .i64 (pop x : Nat)) ∧ w' = w := by
 obtain ⟨a, ea⟩ : ∃ a, a = (x / 2 &&& 6148914691236517205) + (x &&& 6148914691236517205) := ⟨_, rfl⟩
 obtain ⟨b, eb⟩ : ∃ b, b = (a / 4 &&& 3689348814741910323) + (a &&& 3689348814741910323) := ⟨_, rfl⟩
 obtain ⟨c, ec⟩ : ∃ c, c = (b / 16 + b) &&& 1085102592571150095 := ⟨_, rfl⟩
 obtain ⟨d, ed⟩ : ∃ d, d = c + c / 256 := ⟨_, rfl⟩
 obtain ⟨f, ef⟩ : ∃ f, f = d + d / 65536 := ⟨_, rfl⟩
 obtain ⟨g, eg⟩ : ∃ g, g = f + f / 4294967296 := ⟨_, rfl⟩
 have ep : pop x = g % 128 := by subst eg ef ed ec eb ea; rfl
 have a1 : (x / 2 &&& 6148914691236517205) ≤ 6148914691236517205 := Nat.and_le_right
 have a2 : (x &&& 6148914691236517205) ≤ 6148914691236517205 := Nat.and_le_right
 have b1 : (a / 4 &&& 3689348814741910323) ≤ 3689348814741910323 := Nat.and_le_right
 have b2 : (a &&& 3689348814741910323) ≤ 3689348814741910323 := Nat.and_le_right
 have c1 : ((b / 16 + b) &&& 1085102592571150095) ≤ 1085102592571150095 := Nat.and_le_right
 have r1 : IntKind.u64.wrap (bits .and .u64 ((x : Int) / 2) 6148914691236517205 + bits .and .u64 (x : Int) 6148914691236517205) = (a : Int) := by
  rw [show (x : Int) / 2 = ((x / 2 : Nat) : Int) by omega, show (6148914691236517205 : Int) = ((6148914691236517205 : Nat) : Int) from rfl, u64_and_nat _ _ (by omega) (by omega), u64_and_nat _ _ (by omega) (by omega), ← Int.natCast_add, ← ea]
  exact wrap_nat (by omega)
 have r2 : IntKind.u64.wrap (bits .and .u64 ((a : Int) / 4) 3689348814741910323 + bits .and .u64 (a : Int) 3689348814741910323) = (b : Int) := by
  rw [show (a : Int) / 4 = ((a / 4 : Nat) : Int) by omega, show (3689348814741910323 : Int) = ((3689348814741910323 : Nat) : Int) from rfl, u64_and_nat _ _ (by omega) (by omega), u64_and_nat _ _ (by omega) (by omega), ← Int.natCast_add, ← eb]
  exact wrap_nat (by omega)
 have r3 : bits .and .u64 (IntKind.u64.wrap ((b : Int) / 16 + (b : Int))) 1085102592571150095 = (c : Int) := by
  rw [show (b : Int) / 16 + (b : Int) = ((b / 16 + b : Nat) : Int) by omega, wrap_nat (by omega), show (1085102592571150095 : Int) = ((1085102592571150095 : Nat) : Int) from rfl, u64_and_nat _ _ (by omega) (by omega), ← ec]
 have r4 : IntKind.u64.wrap ((c : Int) + (c : Int) / 256) = (d : Int) := by
  rw [show (c : Int) + (c : Int) / 256 = (d : Int) by omega]; exact wrap_nat (by omega)
 have r5 : IntKind.u64.wrap ((d : Int) + (d : Int) / 65536) = (f : Int) := by
  rw [show (d : Int) + (d : Int) / 65536 = (f : Int) by omega]; exact wrap_nat (by omega)
 have r6 : IntKind.u64.wrap ((f : Int) + (f : Int) / 4294967296) = (g : Int) := by
  rw [show (f : Int) + (f : Int) / 4294967296 = (g : Int) by omega]; exact wrap_nat (by omega)
 have hg : g < 4611686018427387904 := by omega
 have r7 : Hid (bits .and .i64 (g : Int) 127 = ((g % 128 : Nat) : Int)) := by
  show _ = _
  rw [i64_and127]; omega
 rw [ep]
 clear ep ea eb ec ed ef eg a1 a2 b1 b2 c1 hx
 go_enter Tryz.func102, Tryz.ntmps102
 go_wp2
 go_ret
 exact ⟨ret_i64 r7.out, rfl⟩

theorem ix0 (a b c d : Value) (w : World) : (Instr.index 24 (.agg #[a, b, c, d]) (.int .i64 0)).run Tryz.prog w = .ok a w := by kernel_rfl
theorem ix1 (a b c d : Value) (w : World) : (Instr.index 24 (.agg #[a, b, c, d]) (.int .i64 1)).run Tryz.prog w = .ok b w := by kernel_rfl
theorem ix2 (a b c d : Value) (w : World) : (Instr.index 24 (.agg #[a, b, c, d]) (.int .i64 2)).run Tryz.prog w = .ok c w := by kernel_rfl
theorem ix3 (a b c d : Value) (w : World) : (Instr.index 24 (.agg #[a, b, c, d]) (.int .i64 3)).run Tryz.prog w = .ok d w := by kernel_rfl

abbrev vv (a b c d : Nat) : Value := .agg #[.int .u64 (a : Int), .int .u64 (b : Int), .int .u64 (c : Int), .int .u64 (d : Int)]
abbrev sv (p : Nat → Bool) : Value := vv (wd p 0) (wd p 1) (wd p 2) (wd p 3)

theorem ret_vv {a b c d a' b' c' d' : Int} (h0 : a = a') (h1 : b = b') (h2 : c = c') (h3 : d = d') :
  Ending.returned (.agg #[.int .u64 a, .int .u64 b, .int .u64 c, .int .u64 d]) = .returned (.agg #[.int .u64 a', .int .u64 b', .int .u64 c', .int .u64 d']) := by rw [h0, h1, h2, h3]

theorem sv_congr {p q : Nat → Bool} (h : ∀ i, i < 256 → p i = q i) : sv p = sv q := by
 have e : ∀ i, i < 4 → wd p i = wd q i := fun i hi => wd_congr p q i (fun j hj => h _ (by omega))
 show vv _ _ _ _ = vv _ _ _ _
 rw [e 0 (by omega), e 1 (by omega), e 2 (by omega), e 3 (by omega)]

def bitOf (a b c d : Nat) (i : Nat) : Bool := (if i / 64 = 0 then a else if i / 64 = 1 then b else if i / 64 = 2 then c else d).testBit (i % 64)

theorem vv_sv (a b c d : Nat) (ha : a < 18446744073709551616) (hb : b < 18446744073709551616) (hc : c < 18446744073709551616) (hd : d < 18446744073709551616) : vv a b c d = sv (bitOf a b c d) := by
 have e0 : wd (bitOf a b c d) 0 = a := wd_back a ha _ 0 (fun j hj => by unfold bitOf; rw [if_pos (by omega), show (64 * 0 + j) % 64 = j by omega])
 have e1 : wd (bitOf a b c d) 1 = b := wd_back b hb _ 1 (fun j hj => by unfold bitOf; rw [if_neg (by omega), if_pos (by omega), show (64 * 1 + j) % 64 = j by omega])
 have e2 : wd (bitOf a b c d) 2 = c := wd_back c hc _ 2 (fun j hj => by unfold bitOf; rw [if_neg (by omega), if_neg (by omega), if_pos (by omega), show (64 * 2 + j) % 64 = j by omega])
 have e3 : wd (bitOf a b c d) 3 = d := wd_back d hd _ 3 (fun j hj => by unfold bitOf; rw [if_neg (by omega), if_neg (by omega), if_neg (by omega), show (64 * 3 + j) % 64 = j by omega])
 show vv _ _ _ _ = vv _ _ _ _
 rw [e0, e1, e2, e3]

def orB (p q : Nat → Bool) : Nat → Bool := fun k => p k || q k
def notB (p : Nat → Bool) : Nat → Bool := fun k => !p k

theorem xor_wd (p : Nat → Bool) (i : Nat) : bits .xor .u64 IntKind.u64.max (wd p i : Nat) = ((wd (notB p) i : Nat) : Int) := by
 show _ = ((wd (fun k => !p k) i : Nat) : Int)
 have h := wd_not p i
 have hl := wd_lt p i
 rw [show IntKind.u64.max = ((18446744073709551615 : Nat) : Int) from rfl, u64_xor_nat _ _ (by omega) hl]
 have e : 18446744073709551615 ^^^ wd p i = wd (fun k => !p k) i := by
  apply Nat.eq_of_testBit_eq
  intro j
  rw [Nat.testBit_xor, wd_testBit, wd_testBit, show (18446744073709551615 : Nat) = 2 ^ 64 - 1 from rfl, Nat.testBit_two_pow_sub_one]
  cases decide (j < 64) <;> simp
 rw [e]

theorem or_wd (p q : Nat → Bool) (i : Nat) : bits .or .u64 (wd p i : Nat) (wd q i : Nat) = ((wd (orB p q) i : Nat) : Int) := by
 rw [u64_or_nat _ _ (wd_lt p i) (wd_lt q i), wd_or]
 rfl

theorem not_any (p : Nat → Bool) (w : World) :
  Calls Tryz.prog 20 #[sv p] w fun e w' => e = .returned (sv (notB p)) ∧ Kp w w' := by
 have E : Hid (∀ i, bits .xor .u64 IntKind.u64.max (wd p i : Nat) = ((wd (notB p) i : Nat) : Int)) := fun i => xor_wd p i
 have i0 := ix0; have i1 := ix1; have i2 := ix2; have i3 := ix3
 go_enter Tryz.func20, Tryz.ntmps20
 go_wp2
 refine wp_loop_rounds 5 ?_
 rw [rounds_succ]
 go_wp2
 rw [rounds_succ]
 go_wp2
 rw [rounds_succ]
 go_wp2
 rw [rounds_succ]
 go_wp2
 rw [rounds_succ]
 go_wp2
 refine bodyPost_ret (v := .agg #[.int .u64 (bits .xor .u64 IntKind.u64.max (wd p 0 : Nat)), .int .u64 (bits .xor .u64 IntKind.u64.max (wd p 1 : Nat)), .int .u64 (bits .xor .u64 IntKind.u64.max (wd p 2 : Nat)), .int .u64 (bits .xor .u64 IntKind.u64.max (wd p 3 : Nat))]) (by simp [results, Tryz.results20, go_sem]) rfl ⟨?_, ?_⟩
 ·
  exact ret_vv (E.out 0) (E.out 1) (E.out 2) (E.out 3)
 ·
  exact ((Kp.refl _).alloc _).alloc _

theorem and_bit (p : Nat → Bool) (b : Nat) : (bits .and .u64 (wd p (b / 64) : Nat) (2 ^ (b % 64)) != 0) = p b := by
 rw [show (2 : Int) ^ (b % 64) = ((2 ^ (b % 64) : Nat) : Int) from (Int.natCast_pow _ _).symm, u64_and_nat _ _ (wd_lt _ _) (Nat.pow_lt_pow_right (n := 64) (a := 2) (by omega) (by omega))]
 have e : wd p (b / 64) &&& 2 ^ (b % 64) = (p b).toNat * 2 ^ (b % 64) := by
  have ht := wd_testBit p (b / 64) (b % 64)
  rw [show 64 * (b / 64) + b % 64 = b by omega, decide_eq_true (show b % 64 < 64 by omega), Bool.true_and] at ht
  rw [nat_bit, ← Nat.toNat_testBit, ht]
 rw [e]
 have := Nat.two_pow_pos (b % 64)
 cases p b
 ·
  simp
 ·
  have h : ((2 ^ (b % 64) : Nat) : Int) ≠ 0 := by omega
  simpa using h

theorem has_any (p : Nat → Bool) (b : Nat) (w : World) (hb : b < 256) :
  Calls Tryz.prog 106 #[sv p, .int .u8 b] w fun e w' => e = .returned (.bool (p b)) ∧ Kp w w' := by
 have E : Hid ((bits .and .u64 (wd p (b / 64) : Nat) (2 ^ (b % 64)) != 0) = p b) := and_bit p b
 have hk : b / 64 = 0 ∨ b / 64 = 1 ∨ b / 64 = 2 ∨ b / 64 = 3 := by omega
 rcases hk with hk | hk | hk | hk
 ·
  rw [hk] at E
  have hq : (b : Int) / 64 = 0 := by omega
  clear hk
  go_enter Tryz.func106, Tryz.ntmps106
  go_wp2
  go_quiet ((go_at_call 29; exact Calls.quiet_of_same (bit_any _ _)))
  go_wp2
  go_ret
  exact ⟨ret_bool E.out, ((Kp.refl _).alloc _).drewN _⟩
 ·
  rw [hk] at E
  have hq : (b : Int) / 64 = 1 := by omega
  clear hk
  go_enter Tryz.func106, Tryz.ntmps106
  go_wp2
  go_quiet ((go_at_call 29; exact Calls.quiet_of_same (bit_any _ _)))
  go_wp2
  go_ret
  exact ⟨ret_bool E.out, ((Kp.refl _).alloc _).drewN _⟩
 ·
  rw [hk] at E
  have hq : (b : Int) / 64 = 2 := by omega
  clear hk
  go_enter Tryz.func106, Tryz.ntmps106
  go_wp2
  go_quiet ((go_at_call 29; exact Calls.quiet_of_same (bit_any _ _)))
  go_wp2
  go_ret
  exact ⟨ret_bool E.out, ((Kp.refl _).alloc _).drewN _⟩
 ·
  rw [hk] at E
  have hq : (b : Int) / 64 = 3 := by omega
  clear hk
  go_enter Tryz.func106, Tryz.ntmps106
  go_wp2
  go_quiet ((go_at_call 29; exact Calls.quiet_of_same (bit_any _ _)))
  go_wp2
  go_ret
  exact ⟨ret_bool E.out, ((Kp.refl _).alloc _).drewN _⟩

theorem shr_bit (p : Nat → Bool) (b : Nat) : (bits .and .u64 ((wd p (b / 64) : Nat) / (2 ^ (b % 64))) 1 == 1) = p b := by
 have ht := wd_testBit p (b / 64) (b % 64)
 rw [show 64 * (b / 64) + b % 64 = b by omega, decide_eq_true (show b % 64 < 64 by omega), Bool.true_and] at ht
 have hl := wd_lt p (b / 64)
 rw [show (2 : Int) ^ (b % 64) = ((2 ^ (b % 64) : Nat) : Int) from (Int.natCast_pow _ _).symm, ← Int.natCast_ediv, show (1 : Int) = ((1 : Nat) : Int) from rfl, u64_and_nat _ _ (Nat.lt_of_le_of_lt (Nat.div_le_self _ _) hl) (by omega), nat_mask1, ← Nat.toNat_testBit, ht]
 cases p b <;> rfl

theorem count_any (p : Nat → Bool) (w : World) :
  Calls Tryz.prog 72 #[sv p] w fun e w' => e = .returned (.int .i64 (cnt p 256 : Nat)) ∧ Kp w w' := by
 have C : Hid (pop (wd p 0) + pop (wd p 1) + pop (wd p 2) + pop (wd p 3) = cnt p 256) := cnt_words p
 have l0 := pop_le p 0; have l1 := pop_le p 1; have l2 := pop_le p 2; have l3 := pop_le p 3
 have i0 := ix0; have i1 := ix1; have i2 := ix2; have i3 := ix3
 go_enter Tryz.func72, Tryz.ntmps72
 go_wp2
 refine wp_loop_rounds 5 ?_
 rw [rounds_succ]
 go_wp2_with (go_at_call 102; refine (ones_any _ _ (wd_lt _ _)).mono ?_; rintro e w' ⟨rfl, rfl⟩)
 rw [rounds_succ]
 go_wp2_with (go_at_call 102; refine (ones_any _ _ (wd_lt _ _)).mono ?_; rintro e w' ⟨rfl, rfl⟩)
 rw [rounds_succ]
 go_wp2_with (go_at_call 102; refine (ones_any _ _ (wd_lt _ _)).mono ?_; rintro e w' ⟨rfl, rfl⟩)
 rw [rounds_succ]
 go_wp2_with (go_at_call 102; refine (ones_any _ _ (wd_lt _ _)).mono ?_; rintro e w' ⟨rfl, rfl⟩)
 rw [rounds_succ]
 go_wp2
 go_ret
 exact ⟨ret_i64 (by have := C.out; omega), (Kp.refl _).alloc _⟩

theorem join_nil (w : World) :
  Calls Tryz.prog 131 #[.slice none 0 0] w fun e w' => e = .returned (vv 0 0 0 0) ∧ Kp w w' := by
 go_enter Tryz.func131, Tryz.ntmps131
 go_wp2
 refine wp_loop_rounds 1 ?_
 rw [rounds_succ]
 go_wp2
 refine bodyPost_ret (v := vv 0 0 0 0) (by simp [results, Tryz.results131, go_sem]) rfl ⟨rfl, ?_⟩
 exact ((Kp.refl _).alloc _).alloc _

theorem or_zero (p : Nat → Bool) (i : Nat) : bits .or .u64 0 (wd p i : Nat) = ((wd p i : Nat) : Int) := by
 rw [show (0 : Int) = ((0 : Nat) : Int) from rfl, u64_or_nat _ _ (by omega) (wd_lt p i), Nat.zero_or]

set_option maxHeartbeats 1000000 in
theorem join_two (p q : Nat → Bool) (w : World) (B : Nat) (hB : B = w.heap.size) :
  Calls Tryz.prog 131 #[.slice (some ⟨B, 0, none⟩) 2 2] (w.alloc (.cells #[.int .u64 (wd p 0 : Nat), .int .u64 (wd p 1 : Nat), .int .u64 (wd p 2 : Nat), .int .u64 (wd p 3 : Nat), .int .u64 (wd q 0 : Nat), .int .u64 (wd q 1 : Nat), .int .u64 (wd q 2 : Nat), .int .u64 (wd q 3 : Nat)] 24)) fun e w' => e = .returned (sv (orB p q)) ∧ Kp (w.alloc (.cells #[.int .u64 (wd p 0 : Nat), .int .u64 (wd p 1 : Nat), .int .u64 (wd p 2 : Nat), .int .u64 (wd p 3 : Nat), .int .u64 (wd q 0 : Nat), .int .u64 (wd q 1 : Nat), .int .u64 (wd q 2 : Nat), .int .u64 (wd q 3 : Nat)] 24)) w' := by
 subst hB
 have i0 := ix0; have i1 := ix1; have i2 := ix2; have i3 := ix3
 have o0 := or_zero p
 have o1 := or_wd p q
 go_enter Tryz.func131, Tryz.ntmps131
 go_wp2
 refine wp_loop_rounds 3 ?_
 rw [rounds_succ]
 go_wp2
 refine wp_loop_rounds 5 ?_
 iterate 5 (rw [rounds_succ]; go_wp2)
 rw [rounds_succ]
 go_wp2
 refine wp_loop_rounds 5 ?_
 iterate 5 (rw [rounds_succ]; go_wp2)
 rw [rounds_succ]
 go_wp2
 refine bodyPost_ret (v := sv (orB p q)) (by simp [results, Tryz.results131, go_sem]) rfl ⟨rfl, ?_⟩
 exact ((((Kp.refl _).alloc _).alloc _).alloc _).alloc _

set_option maxHeartbeats 1000000 in
theorem join_three (p q r : Nat → Bool) (w : World) (B : Nat) (hB : B = w.heap.size) :
  Calls Tryz.prog 131 #[.slice (some ⟨B, 0, none⟩) 3 3] (w.alloc (.cells #[.int .u64 (wd p 0 : Nat), .int .u64 (wd p 1 : Nat), .int .u64 (wd p 2 : Nat), .int .u64 (wd p 3 : Nat), .int .u64 (wd q 0 : Nat), .int .u64 (wd q 1 : Nat), .int .u64 (wd q 2 : Nat), .int .u64 (wd q 3 : Nat), .int .u64 (wd r 0 : Nat), .int .u64 (wd r 1 : Nat), .int .u64 (wd r 2 : Nat), .int .u64 (wd r 3 : Nat)] 24)) fun e w' => e = .returned (sv (orB (orB p q) r)) ∧ Kp (w.alloc (.cells #[.int .u64 (wd p 0 : Nat), .int .u64 (wd p 1 : Nat), .int .u64 (wd p 2 : Nat), .int .u64 (wd p 3 : Nat), .int .u64 (wd q 0 : Nat), .int .u64 (wd q 1 : Nat), .int .u64 (wd q 2 : Nat), .int .u64 (wd q 3 : Nat), .int .u64 (wd r 0 : Nat), .int .u64 (wd r 1 : Nat), .int .u64 (wd r 2 : Nat), .int .u64 (wd r 3 : Nat)] 24)) w' := by
 subst hB
 have i0 := ix0; have i1 := ix1; have i2 := ix2; have i3 := ix3
 have o0 := or_zero p
 have o1 := or_wd p q
 have o2 := or_wd (orB p q) r
 go_enter Tryz.func131, Tryz.ntmps131
 go_wp2
 refine wp_loop_rounds 4 ?_
 iterate 3 (rw [rounds_succ]; go_wp2; refine wp_loop_rounds 5 ?_; iterate 5 (rw [rounds_succ]; go_wp2))
 rw [rounds_succ]
 go_wp2
 refine bodyPost_ret (v := sv (orB (orB p q) r)) (by simp [results, Tryz.results131, go_sem]) rfl ⟨rfl, ?_⟩
 exact (((((Kp.refl _).alloc _).alloc _).alloc _).alloc _).alloc _

def addB (p : Nat → Bool) (b : Nat) : Nat → Bool := fun k => p k || k == b

theorem or_bit (p : Nat → Bool) (b : Nat) : bits .or .u64 (wd p (b / 64) : Nat) ((2 ^ (b % 64) : Nat) : Int) = ((wd (addB p b) (b / 64) : Nat) : Int) := by
 rw [u64_or_nat _ _ (wd_lt _ _) (Nat.pow_lt_pow_right (n := 64) (a := 2) (by omega) (by omega))]
 refine congrArg (fun n : Nat => (n : Int)) ?_
 apply Nat.eq_of_testBit_eq
 intro j
 rw [Nat.testBit_or, wd_testBit, wd_testBit, Nat.testBit_two_pow]
 unfold addB
 by_cases hj : j < 64
 ·
  have : (64 * (b / 64) + j == b) = decide (b % 64 = j) := by
   rw [Bool.eq_iff_iff]; simp; omega
  rw [this]
  simp [hj]
 ·
  have : ¬ b % 64 = j := by omega
  simp [hj, this]

theorem wd_other (p : Nat → Bool) (b i : Nat) (h : i ≠ b / 64) : wd (addB p b) i = wd p i := by
 refine wd_congr _ _ i (fun j hj => ?_)
 unfold addB
 have : (64 * i + j == b) = false := by
  rw [beq_eq_false_iff_ne]; omega
 rw [this, Bool.or_false]

theorem last_alloc (w : World) (B : Nat) (o : Obj) (hs : w.heap.size = B + 1) (hX : w.heap[B]? = some o) : ∃ w0 : World, w = w0.alloc o ∧ w0.heap.size = B := by
 refine ⟨{ w with heap := w.heap.pop }, ?_, by simp [hs]⟩
 have e : w.heap = w.heap.pop.push o := by
  apply Array.ext_getElem?
  intro i
  rw [Array.getElem?_push, Array.getElem?_pop]
  by_cases hi : i = B
  ·
   subst hi
   rw [if_pos (by simp [hs]), hX]
  ·
   rw [if_neg (by simp [hs]; omega)]
   by_cases hi2 : i < B
   ·
    rw [if_pos (by omega)]
   ·
    rw [if_neg (by omega)]; exact Array.getElem?_eq_none (by omega)
 unfold World.alloc
 rw [← e]

abbrev two (p q : Nat → Bool) : Obj := .cells #[.int .u64 (wd p 0 : Nat), .int .u64 (wd p 1 : Nat), .int .u64 (wd p 2 : Nat), .int .u64 (wd p 3 : Nat), .int .u64 (wd q 0 : Nat), .int .u64 (wd q 1 : Nat), .int .u64 (wd q 2 : Nat), .int .u64 (wd q 3 : Nat)] 24

abbrev three (p q r : Nat → Bool) : Obj := .cells #[.int .u64 (wd p 0 : Nat), .int .u64 (wd p 1 : Nat), .int .u64 (wd p 2 : Nat), .int .u64 (wd p 3 : Nat), .int .u64 (wd q 0 : Nat), .int .u64 (wd q 1 : Nat), .int .u64 (wd q 2 : Nat), .int .u64 (wd q 3 : Nat), .int .u64 (wd r 0 : Nat), .int .u64 (wd r 1 : Nat), .int .u64 (wd r 2 : Nat), .int .u64 (wd r 3 : Nat)] 24

theorem join2 (p q : Nat → Bool) (w : World) (B : Nat) (hs : w.heap.size = B + 1) (hX : w.heap[B]? = some (two p q)) :
  Calls Tryz.prog 131 #[.slice (some ⟨B, 0, none⟩) 2 2] w fun e w' => e = .returned (sv (orB p q)) ∧ Kp w w' := by
 obtain ⟨w0, rfl, h0⟩ := last_alloc w B _ hs hX
 exact join_two p q w0 B h0.symm

theorem join3 (p q r : Nat → Bool) (w : World) (B : Nat) (hs : w.heap.size = B + 1) (hX : w.heap[B]? = some (three p q r)) :
  Calls Tryz.prog 131 #[.slice (some ⟨B, 0, none⟩) 3 3] w fun e w' => e = .returned (sv (orB (orB p q) r)) ∧ Kp w w' := by
 obtain ⟨w0, rfl, h0⟩ := last_alloc w B _ hs hX
 exact join_three p q r w0 B h0.symm

theorem last_of (w : World) (o : Obj) : (w.alloc o).heap[w.heap.size]? = some o := by
 show (w.heap.push o)[w.heap.size]? = some o
 simp

abbrev blk (q : Nat → Bool) : Obj := .cells #[.int .u64 (wd q 0 : Nat), .int .u64 (wd q 1 : Nat), .int .u64 (wd q 2 : Nat), .int .u64 (wd q 3 : Nat)] 24

def At (w : World) (S : Nat) (q : Nat → Bool) : Prop := w.heap[S]? = some (blk q)

theorem At.lt {w : World} {S : Nat} {q : Nat → Bool} (h : At w S q) : S < w.heap.size := (Array.getElem?_eq_some_iff.1 h).1
theorem At.kp {w w' : World} {S : Nat} {q : Nat → Bool} (h : At w S q) (hk : Kp w w') : At w' S q := (hk.block S h.lt).trans h
theorem At.alloc {w : World} {S : Nat} {q : Nat → Bool} (h : At w S q) (o : Obj) : At (w.alloc o) S q := h.kp ((Kp.refl _).alloc _)
theorem At.drew {w : World} {S : Nat} {q : Nat → Bool} (h : At w S q) : At w.drew S q := h
theorem At.drewN {w : World} {S : Nat} {q : Nat → Bool} (n : Nat) (h : At w S q) : At (w.drewN n) S q := h
theorem At.new (w : World) (q : Nat → Bool) : At (w.alloc (blk q)) w.heap.size q := last_of w _
theorem At.cells {w : World} {S : Nat} {q : Nat → Bool} (h : At w S q) : w.cell? ⟨S, 0, none⟩ = some (.int .u64 (wd q 0 : Nat)) ∧ w.cell? ⟨S, 1, none⟩ = some (.int .u64 (wd q 1 : Nat)) ∧ w.cell? ⟨S, 2, none⟩ = some (.int .u64 (wd q 2 : Nat)) ∧ w.cell? ⟨S, 3, none⟩ = some (.int .u64 (wd q 3 : Nat)) :=
 ⟨cell_of_row w S 0 _ 24 (0, 0) h, cell_of_row w S 1 _ 24 (0, 0) h, cell_of_row w S 2 _ 24 (0, 0) h, cell_of_row w S 3 _ 24 (0, 0) h⟩
theorem At.set4 {w : World} {S : Nat} {q : Nat → Bool} (h : At w S q) (q' : Nat → Bool) : At ((((w.setCell ⟨S, 0, none⟩ (.int .u64 (wd q' 0 : Nat))).setCell ⟨S, 1, none⟩ (.int .u64 (wd q' 1 : Nat))).setCell ⟨S, 2, none⟩ (.int .u64 (wd q' 2 : Nat))).setCell ⟨S, 3, none⟩ (.int .u64 (wd q' 3 : Nat))) S q' := by
 unfold At at *
 simp only [World.setCell, Array.getElem?_modify, if_true, h, Option.map_some]
 rfl

theorem wd_none (i : Nat) : wd (fun _ => false) i = 0 := by
 apply Nat.eq_of_testBit_eq
 intro j
 rw [wd_testBit]; simp
end Go.Proofs.YtnajcnhgeggngaaGreat

/-! ### Of -/

namespace Go.Proofs.YtnajcnhgeggngaaGreat
open Go.RowKit

def memb (f : Nat → Nat) : Nat → Nat → Bool
 | 0 => fun _ => false
 | k + 1 => addB (memb f k) (f k)

theorem or_bit' (p : Nat → Bool) (b : Nat) : bits .or .u64 (wd p (b / 64) : Nat) (2 ^ (b % 64)) = ((wd (addB p b) (b / 64) : Nat) : Int) :=
 (congrArg (bits .or .u64 (wd p (b / 64) : Nat)) (Int.natCast_pow 2 (b % 64)).symm).trans (or_bit p b)

theorem set_blk (W : World) (q : Nat → Bool) (x d j B : Nat) (hB : B = W.heap.size) (hj : x / 64 = j) (hx : x < 256) :
  (((W.alloc (blk q)).drewN d).setCell ⟨B, j, none⟩ (.int .u64 (bits .or .u64 (wd q j : Nat) (2 ^ (x % 64))))) = (W.alloc (blk (addB q x))).drewN d := by
 subst hB hj
 rw [or_bit', show (((W.alloc (blk q)).drewN d).setCell ⟨W.heap.size, x / 64, none⟩ (.int .u64 (wd (addB q x) (x / 64) : Nat))) = ((W.alloc (blk q)).setCell ⟨W.heap.size, x / 64, none⟩ (.int .u64 (wd (addB q x) (x / 64) : Nat))).drewN d from rfl]
 rw [World.setCell_alloc_at _ _ _ _ _ rfl]
 have hk : x / 64 = 0 ∨ x / 64 = 1 ∨ x / 64 = 2 ∨ x / 64 = 3 := by omega
 rcases hk with hk | hk | hk | hk <;> rw [hk]
 ·
  rw [← wd_other q x 1 (by omega), ← wd_other q x 2 (by omega), ← wd_other q x 3 (by omega)]; rfl
 ·
  rw [← wd_other q x 0 (by omega), ← wd_other q x 2 (by omega), ← wd_other q x 3 (by omega)]; rfl
 ·
  rw [← wd_other q x 0 (by omega), ← wd_other q x 1 (by omega), ← wd_other q x 3 (by omega)]; rfl
 ·
  rw [← wd_other q x 0 (by omega), ← wd_other q x 1 (by omega), ← wd_other q x 2 (by omega)]; rfl

set_option maxHeartbeats 1000000 in
theorem of_core (f : Nat → Nat) (b o n cap : Nat) (w : World) (hn : n ≤ 4000) (hb : b < w.heap.size)
  (hcell : ∀ j, j < n → w.cell? ⟨b, o + j, none⟩ = some (.int .u8 (f j : Nat))) (hf : ∀ j, f j < 256) :
  Calls Tryz.prog 19 #[.slice (some ⟨b, o, none⟩) n cap] w fun e w' => e = .returned (sv (memb f n)) ∧ Kp w w' := by
 have HF : Hid (∀ j, f j < 256) := hf
 have HC : Hid (∀ j, j < n → w.cell? ⟨b, o + j, none⟩ = some (.int .u8 (f j : Nat))) := hcell
 clear hf hcell
 go_enter Tryz.func19, Tryz.ntmps19
 go_wp2
 go_loopw [8] (fun i wr => ∃ (k d : Nat), k ≤ n ∧ i = .int .i64 k ∧ wr = ((w.alloc (.cells #[.int .u64 0, .int .u64 0, .int .u64 0, .int .u64 0] 24)).alloc (.cells #[.int .u64 (wd (memb f k) 0 : Nat), .int .u64 (wd (memb f k) 1 : Nat), .int .u64 (wd (memb f k) 2 : Nat), .int .u64 (wd (memb f k) 3 : Nat)] 24)).drewN d) (fun i _ => n - (intOf i).toNat)
 case atStart => exact ⟨0, 0, Nat.zero_le _, rfl, by simp only [memb, wd_none]; rfl⟩
 case round =>
  obtain ⟨k, d, hk, rfl, rfl⟩ := hrel
  by_cases hlt : k < n
  ·
   have hc : (((w.alloc (.cells #[.int .u64 0, .int .u64 0, .int .u64 0, .int .u64 0] 24)).alloc (.cells #[.int .u64 (wd (memb f k) 0 : Nat), .int .u64 (wd (memb f k) 1 : Nat), .int .u64 (wd (memb f k) 2 : Nat), .int .u64 (wd (memb f k) 3 : Nat)] 24)).drewN d).cell? ⟨b, o + k, none⟩ = some (.int .u8 (f k : Nat)) :=
    (((((Kp.refl _).alloc _).alloc _).drewN _).cell (p := ⟨b, o + k, none⟩) hb).trans (HC.out k hlt)
   have hfk := HF.out k
   obtain ⟨x, hx⟩ : ∃ x, f k = x := ⟨_, rfl⟩
   rw [hx] at hc hfk
   have HX : Hid (f k = x) := hx
   clear hx HC HF
   have hk4 : x / 64 = 0 ∨ x / 64 = 1 ∨ x / 64 = 2 ∨ x / 64 = 3 := by omega
   rcases hk4 with hk4 | hk4 | hk4 | hk4
   ·
    have hq : (x : Int) / 64 = 0 := by omega
    go_wp2
    go_region_with (go_at_call 29; refine (bit_any _ _).mono ?_; rintro e w' ⟨rfl, rfl⟩)
    all_goals
     go_wp2_with fail
     go_round
     case rel => exact ⟨k + 1, _, hlt, by go_num, by rw [memb, HX.out]; exact set_blk _ _ _ _ _ _ (by simp) hk4 hfk⟩
     case measure => simp [intOf]; omega
   ·
    have hq : (x : Int) / 64 = 1 := by omega
    go_wp2
    go_region_with (go_at_call 29; refine (bit_any _ _).mono ?_; rintro e w' ⟨rfl, rfl⟩)
    all_goals
     go_wp2_with fail
     go_round
     case rel => exact ⟨k + 1, _, hlt, by go_num, by rw [memb, HX.out]; exact set_blk _ _ _ _ _ _ (by simp) hk4 hfk⟩
     case measure => simp [intOf]; omega
   ·
    have hq : (x : Int) / 64 = 2 := by omega
    go_wp2
    go_region_with (go_at_call 29; refine (bit_any _ _).mono ?_; rintro e w' ⟨rfl, rfl⟩)
    all_goals
     go_wp2_with fail
     go_round
     case rel => exact ⟨k + 1, _, hlt, by go_num, by rw [memb, HX.out]; exact set_blk _ _ _ _ _ _ (by simp) hk4 hfk⟩
     case measure => simp [intOf]; omega
   ·
    have hq : (x : Int) / 64 = 3 := by omega
    go_wp2
    go_region_with (go_at_call 29; refine (bit_any _ _).mono ?_; rintro e w' ⟨rfl, rfl⟩)
    all_goals
     go_wp2_with fail
     go_round
     case rel => exact ⟨k + 1, _, hlt, by go_num, by rw [memb, HX.out]; exact set_blk _ _ _ _ _ _ (by simp) hk4 hfk⟩
     case measure => simp [intOf]; omega
  ·
   have hkn : k = n := by omega
   subst hkn
   clear HC HF
   go_wp2
   refine bodyPost_ret (v := sv (memb f k)) (by simp [results, Tryz.results19, go_sem]) rfl ⟨rfl, ?_⟩
   exact (((((((Kp.refl _).alloc _).alloc _).drewN _).setCell (Nat.le_refl _) _).setCell (Nat.le_refl _) _).setCell (Nat.le_refl _) _).setCell (Nat.le_refl _) _

theorem of_nil (w : World) : Calls Tryz.prog 19 #[.slice none 0 0] w fun e w' => e = .returned (sv (fun _ => false)) ∧ Kp w w' := by
 go_enter Tryz.func19, Tryz.ntmps19
 go_wp2
 refine wp_loop_rounds 1 ?_
 rw [rounds_succ]
 go_wp2
 refine bodyPost_ret (v := vv 0 0 0 0) (by simp [results, Tryz.results19, go_sem]) rfl ⟨?_, ((Kp.refl _).alloc _).alloc _⟩
 show Ending.returned (vv 0 0 0 0) = .returned (vv _ _ _ _)
 rw [wd_none, wd_none, wd_none, wd_none]

theorem of_one (x : Nat) (w : World) (B : Nat) (hB : B = w.heap.size) (hx : x < 256) :
  Calls Tryz.prog 19 #[.slice (some ⟨B, 0, none⟩) 1 1] (w.alloc (.cells #[.int .u8 (x : Nat)] 5)) fun e w' => e = .returned (sv (addB (fun _ => false) x)) ∧ Kp w w' := by
 subst hB
 refine (of_core (fun _ => x) w.heap.size 0 1 1 _ (by omega) (by simp) ?_ (fun _ => hx)).mono ?_
 ·
  intro j hj
  obtain rfl : j = 0 := by omega
  exact World.cell?_alloc_new w _ _ 0
 ·
  rintro e w' ⟨rfl, hk⟩
  exact ⟨rfl, ((Kp.refl _).alloc _).trans hk⟩

theorem of_two (x y : Nat) (w : World) (B : Nat) (hB : B = w.heap.size) (hx : x < 256) (hy : y < 256) :
  Calls Tryz.prog 19 #[.slice (some ⟨B, 0, none⟩) 2 2] (w.alloc (.cells #[.int .u8 (x : Nat), .int .u8 (y : Nat)] 5)) fun e w' => e = .returned (sv (addB (addB (fun _ => false) x) y)) ∧ Kp w w' := by
 subst hB
 refine (of_core (fun j => if j = 0 then x else y) w.heap.size 0 2 2 _ (by omega) (by simp) ?_ (fun j => by show ite _ _ _ < _; split <;> assumption)).mono ?_
 ·
  intro j hj
  have : j = 0 ∨ j = 1 := by omega
  rcases this with rfl | rfl
  ·
   exact World.cell?_alloc_new w _ _ 0
  ·
   exact World.cell?_alloc_new w _ _ 1
 ·
  rintro e w' ⟨rfl, hk⟩
  exact ⟨rfl, ((Kp.refl _).alloc _).trans hk⟩

theorem of1 (x : Nat) (w : World) (B : Nat) (hB : B < w.heap.size) (hc : w.cell? ⟨B, 0, none⟩ = some (.int .u8 (x : Nat))) (hx : x < 256) :
  Calls Tryz.prog 19 #[.slice (some ⟨B, 0, none⟩) 1 1] w fun e w' => e = .returned (sv (addB (fun _ => false) x)) ∧ Kp w w' := by
 refine (of_core (fun _ => x) B 0 1 1 w (by omega) hB ?_ (fun _ => hx)).mono ?_
 ·
  intro j hj
  obtain rfl : j = 0 := by omega
  exact hc
 ·
  rintro e w' ⟨rfl, hk⟩
  exact ⟨rfl, hk⟩
end Go.Proofs.YtnajcnhgeggngaaGreat

/-! ### Range -/

namespace Go.Proofs.YtnajcnhgeggngaaGreat
open Go.RowKit

def span (a k : Nat) : Nat → Bool := fun i => decide (a ≤ i) && decide (i < k)

theorem span_next (a k : Nat) (h : a ≤ k) (i : Nat) : orB (span a k) (addB (fun _ => false) k) i = span a (k + 1) i := by
 unfold orB span addB
 rw [Bool.eq_iff_iff]
 simp
 omega

theorem Kp.at {w w' : World} {S : Nat} {q : Nat → Bool} (hk : Kp w w') (h : At w S q) : At w' S q := h.kp hk

theorem At.frozen {w : World} {S : Nat} {q : Nat → Bool} (h : At w S q) (j : Nat) : w.frozen? ⟨S, j, none⟩ = false := by
 unfold At at h
 simp [World.frozen?, h]

abbrev zero4 : Obj := .cells #[.int .u64 0, .int .u64 0, .int .u64 0, .int .u64 0] 24

theorem At.zero (w : World) : At (w.alloc zero4) w.heap.size (fun _ => false) := by
 have := At.new w (fun _ => false)
 rw [show blk (fun _ => false) = zero4 by simp only [blk, wd_none]; rfl] at this
 exact this

theorem sv_none : sv (fun _ => false) = vv 0 0 0 0 := by
 show vv _ _ _ _ = _
 rw [wd_none, wd_none, wd_none, wd_none]

theorem ret_at {fn : Func} {p : Tmp} (h : fn.results = #[.cell p 24]) (tmps : Array Value) (w : World) (S : Nat) (q : Nat → Bool)
  (hp : tmps.getD p undef = .pointer (some ⟨S, 0, none⟩)) (hA : At w S q) : (results fn tmps).run Tryz.prog w = .ok (sv q) w :=
 results_cell_row h tmps w S 24 _ (0, 0) _ hp hA Tryz.underlying24 rfl (by kernel_rfl)

set_option maxRecDepth 100000 in
set_option maxHeartbeats 2000000 in
theorem range_core (a b : Nat) (w : World) (ha : a < 256) (hb : b < 256) :
  Calls Tryz.prog 119 #[.int .u8 (a : Nat), .int .u8 (b : Nat)] w fun e w' => e = .returned (sv (span a (max a (b + 1)))) ∧ Kp w w' := by
 go_enter Tryz.func119, Tryz.ntmps119
 go_wp2
 go_loopw [6] (fun i wr => ∃ k : Nat, a ≤ k ∧ (k ≤ b + 1 ∨ k = a) ∧ i = .int .i64 k ∧ Kp (w.alloc (.cells #[.int .u64 0, .int .u64 0, .int .u64 0, .int .u64 0] 24)) wr ∧ At wr (w.heap.size + 1) (span a k)) (fun i _ => b + 1 - (intOf i).toNat)
 case atStart =>
  refine ⟨a, Nat.le_refl _, .inr rfl, rfl, (Kp.refl _).alloc _, ?_⟩
  have h := At.zero (w.alloc zero4)
  rw [show (w.alloc zero4).heap.size = w.heap.size + 1 by simp] at h
  rw [show span a a = fun _ => false by funext i; unfold span; simp]
  exact h
 case round =>
  obtain ⟨k, h1, h2, rfl, hK, hA⟩ := hrel
  by_cases hlt : k ≤ b
  ·
   obtain ⟨c0, c1, c2, c3⟩ := hA.cells
   have HK : Hid (Kp (w.alloc (.cells #[.int .u64 0, .int .u64 0, .int .u64 0, .int .u64 0] 24)) wr) := hK
   have HA : Hid (At wr (w.heap.size + 1) (span a k)) := hA
   clear hK hA
   have hk8 : k < 256 := by omega
   have hlt0 : w.heap.size + 1 < wr.heap.size := HA.out.lt
   have hw8 : IntKind.u8.wrap (k : Int) = (k : Int) := by rw [IntKind.wrap_u8']; omega
   go_wp2
   go_region_with (first
    | (go_at_call 19; refine (of1 k _ _ ?hb ?hc hk8).mono ?_; (case hb => simp); (case hc => exact World.cell?_alloc_new wr _ _ 0); rintro e w1 ⟨rfl, hk1⟩; have HA1 : Hid (At w1 (w.heap.size + 1) (span a k)) := (by refine hk1.at ?_; first | exact HA.out.alloc _ | exact (HA.out.alloc _).drew | exact (HA.out.alloc _).drewN _); have HK1 : Hid (Kp wr w1) := (by refine Kp.trans ?_ hk1; first | exact (Kp.refl _).alloc _ | exact ((Kp.refl _).alloc _).drew | exact ((Kp.refl _).alloc _).drewN _); clear hk1; obtain ⟨d0, d1, d2, d3⟩ := HA1.out.cells; have hlt1 : w.heap.size + 1 < w1.heap.size := HA1.out.lt)
    | (go_at_call 131; refine (join2 (span a k) (addB (fun _ => false) k) _ _ ?hs ?hX).mono ?_; (case hs => simp); (case hX => exact last_of _ _); rintro e w2 ⟨rfl, hk2⟩; have HA2 : Hid (At w2 (w.heap.size + 1) (span a k)) := (by refine hk2.at ?_; first | exact HA1.out.alloc _ | exact (HA1.out.alloc _).drew | exact (HA1.out.alloc _).drewN _); have HK2 : Hid (Kp w1 w2) := (by refine Kp.trans ?_ hk2; first | exact (Kp.refl _).alloc _ | exact ((Kp.refl _).alloc _).drew | exact ((Kp.refl _).alloc _).drewN _); clear hk2; obtain ⟨e0, e1, e2, e3⟩ := HA2.out.cells; have f0 := HA2.out.frozen 0; have f1 := HA2.out.frozen 1; have f2 := HA2.out.frozen 2; have f3 := HA2.out.frozen 3))
   all_goals
    go_wp2_with fail
    refine ⟨⟨k + 1, by omega, .inl (by omega), by go_num, ?_, ?_⟩, by simp [intOf]; omega⟩
    ·
     exact ((((HK.out.trans (HK1.out.trans HK2.out)).setCell (by simp) _).setCell (by simp) _).setCell (by simp) _).setCell (by simp) _
    ·
     rw [show span a (k + 1) = orB (span a k) (addB (fun _ => false) k) from funext (fun i => (span_next a k h1 i).symm)]
     exact HA2.out.set4 _
  ·
   have hz : At wr w.heap.size (fun _ => false) := hK.at (At.zero w)
   have hs : w.heap.size < wr.heap.size := hz.lt
   obtain ⟨c0, c1, c2, c3⟩ := hA.cells
   obtain ⟨d0, d1, d2, d3⟩ := hz.cells
   have f0 := hz.frozen 0; have f1 := hz.frozen 1; have f2 := hz.frozen 2; have f3 := hz.frozen 3
   have hke : k = max a (b + 1) := by omega
   subst hke
   have HK : Hid (Kp (w.alloc (.cells #[.int .u64 0, .int .u64 0, .int .u64 0, .int .u64 0] 24)) wr) := hK
   have HZ : Hid (At wr w.heap.size (fun _ => false)) := hz
   clear hK hA hz
   go_wp2
   refine bodyPost_ret (v := sv (span a (max a (b + 1)))) (ret_at Tryz.results119 _ _ w.heap.size _ rfl (HZ.out.set4 _)) rfl ⟨rfl, ?_⟩
   exact (((((((Kp.refl _).alloc _).trans HK.out).setCell (Nat.le_refl _) _).setCell (Nat.le_refl _) _).setCell (Nat.le_refl _) _).setCell (Nat.le_refl _) _)

def rng (a b : Nat) : Nat → Bool := fun i => decide (a ≤ i) && decide (i ≤ b)

theorem range_any (a b : Nat) (w : World) (ha : a < 256) (hb : b < 256) :
  Calls Tryz.prog 119 #[.int .u8 (a : Nat), .int .u8 (b : Nat)] w fun e w' => e = .returned (sv (rng a b)) ∧ Kp w w' := by
 refine (range_core a b w ha hb).mono ?_
 rintro e w' ⟨rfl, hk⟩
 refine ⟨?_, hk⟩
 rw [show span a (max a (b + 1)) = rng a b by funext i; unfold span rng; rw [Bool.eq_iff_iff]; simp; omega]
end Go.Proofs.YtnajcnhgeggngaaGreat

/-! ### Blk -/

namespace Go.Proofs.YtnajcnhgeggngaaGreat
open Go.RowKit

theorem Kp.size {a b : World} (h : Kp a b) : a.heap.size ≤ b.heap.size := Below.size h
theorem last_at (w : World) (o : Obj) (B : Nat) (h : w.heap.size = B) : (w.alloc o).heap[B]? = some o := by subst h; exact last_of w o
theorem last_drew (w : World) (o : Obj) : ((w.alloc o).drew).heap[w.heap.size]? = some o := last_of w o
theorem bl_kp {w w' : World} {B : Nat} {o : Obj} (h : w.heap[B]? = some o) (hk : Kp w w') : w'.heap[B]? = some o := (hk.block B (Array.getElem?_eq_some_iff.1 h).1).trans h
theorem bl_cell {w : World} {B : Nat} {cs : Array Value} {t : TypeId} (h : w.heap[B]? = some (.cells cs t)) (j : Nat) (v : Value) (hv : cs[j]? = some v) : w.cell? ⟨B, j, none⟩ = some v := by
 simp [World.cell?, h, hv]
theorem bl_cellf {w : World} {B : Nat} {cs : Array Value} {t : TypeId} {fr : Nat × Nat} (h : w.heap[B]? = some (.cells cs t fr)) (j : Nat) (v : Value) (hv : cs[j]? = some v) : w.cell? ⟨B, j, none⟩ = some v := by
 simp [World.cell?, h, hv]
theorem bl_lt {w : World} {B : Nat} {o : Obj} (h : w.heap[B]? = some o) : B < w.heap.size := (Array.getElem?_eq_some_iff.1 h).1
theorem bl_frozen {w : World} {B : Nat} {cs : Array Value} {t : TypeId} (h : w.heap[B]? = some (.cells cs t)) (j : Nat) : w.frozen? ⟨B, j, none⟩ = false := by
 simp [World.frozen?, h]
theorem bl_alloc {w : World} {B : Nat} {o : Obj} (h : w.heap[B]? = some o) (o' : Obj) : (w.alloc o').heap[B]? = some o := bl_kp h ((Kp.refl _).alloc _)
theorem bl_drew {w : World} {S : Nat} {o : Obj} (h : w.heap[S]? = some o) : w.drew.heap[S]? = some o := h
theorem bl_set {w : World} {B S j : Nat} {o : Obj} (h : w.heap[B]? = some o) (hne : B ≠ S) (u : Value) : (w.setCell ⟨S, j, none⟩ u).heap[B]? = some o := (Below.heap_setCell w ⟨S, j, none⟩ u B hne).trans h
theorem bl_put {w : World} {B j : Nat} {cs : Array Value} {t : TypeId} (h : w.heap[B]? = some (.cells cs t)) (u : Value) : (w.setCell ⟨B, j, none⟩ u).heap[B]? = some (.cells (cs.setIfInBounds j u) t) := by
 simp [World.setCell, Array.getElem?_modify, h]

structure Ks (P : Nat) (w w' : World) : Prop where
 lo : Below P w w'
 block : ∀ b, b < w.heap.size → b ≠ P → w'.heap[b]? = w.heap[b]?
theorem Ks.refl (P : Nat) (w : World) : Ks P w w := ⟨Below.refl _ _, fun _ _ _ => rfl⟩
theorem Ks.size {P : Nat} {a b : World} (h : Ks P a b) : a.heap.size ≤ b.heap.size := h.lo.size
theorem Ks.trans {P : Nat} {a b c : World} (h : Ks P a b) (g : Ks P b c) : Ks P a c := ⟨h.lo.trans g.lo, fun k hk hne => (g.block k (Nat.lt_of_lt_of_le hk h.size) hne).trans (h.block k hk hne)⟩
theorem Kp.ks {P : Nat} {a b : World} (h : Kp a b) (hP : P ≤ a.heap.size) : Ks P a b := ⟨Below.mono h hP, fun k hk _ => h.block k hk⟩
theorem Ks.kp {P : Nat} {a b c : World} (h : Ks P a b) (k : Kp b c) (hP : P ≤ b.heap.size) : Ks P a c := h.trans (k.ks hP)
theorem Ks.set {P : Nat} {a b : World} (h : Ks P a b) (j : Nat) (u : Value) : Ks P a (b.setCell ⟨P, j, none⟩ u) := ⟨h.lo.setCell (Nat.le_refl _) u, fun k hk hne => (Below.heap_setCell b ⟨P, j, none⟩ u k hne).trans (h.block k hk hne)⟩
theorem Ks.drew {P : Nat} {a b : World} (h : Ks P a b) : Ks P a b.drew := ⟨h.lo.drew, h.block⟩
theorem bl_ks {P : Nat} {w w' : World} {B : Nat} {o : Obj} (h : w.heap[B]? = some o) (hne : B ≠ P) (hk : Ks P w w') : w'.heap[B]? = some o := (hk.block B (bl_lt h) hne).trans h
theorem Ks.up {P : Nat} {W w w' : World} (h : Ks P w w') (k : Kp W w) (hP : W.heap.size ≤ P) : Kp W w' :=
 ⟨h.lo.os.trans k.os, h.lo.tape.trans k.tape, h.lo.output.trans k.output, Nat.le_trans k.size h.size, fun b hb => (h.block b (Nat.lt_of_lt_of_le hb k.size) (by omega)).trans (k.block b hb)⟩
theorem bl_set3 {w : World} {B : Nat} {a b c : Value} {t : TypeId} (h : w.heap[B]? = some (.cells #[a, b, c] t)) (x y z : Value) : (((w.setCell ⟨B, 0, none⟩ x).setCell ⟨B, 1, none⟩ y).setCell ⟨B, 2, none⟩ z).heap[B]? = some (.cells #[x, y, z] t) := bl_put (bl_put (bl_put h x) y) z
theorem bl_set4 {w : World} {B : Nat} {a b c d : Value} {t : TypeId} (h : w.heap[B]? = some (.cells #[a, b, c, d] t)) (x y z u : Value) : ((((w.setCell ⟨B, 0, none⟩ x).setCell ⟨B, 1, none⟩ y).setCell ⟨B, 2, none⟩ z).setCell ⟨B, 3, none⟩ u).heap[B]? = some (.cells #[x, y, z, u] t) := bl_put (bl_put (bl_put (bl_put h x) y) z) u
theorem ks_set3 {w : World} {B : Nat} (x y z : Value) : Ks B w (((w.setCell ⟨B, 0, none⟩ x).setCell ⟨B, 1, none⟩ y).setCell ⟨B, 2, none⟩ z) := (((Ks.refl B w).set 0 x).set 1 y).set 2 z
theorem ks_set4 {w : World} {B : Nat} (x y z u : Value) : Ks B w ((((w.setCell ⟨B, 0, none⟩ x).setCell ⟨B, 1, none⟩ y).setCell ⟨B, 2, none⟩ z).setCell ⟨B, 3, none⟩ u) := ((((Ks.refl B w).set 0 x).set 1 y).set 2 z).set 3 u

theorem conv_any (w : World) (B : Nat) (C : Array Value) (n c : Nat) (h : w.heap[B]? = some (.cells C 5)) :
  ∃ w', (convert 57 57 (.slice (some ⟨B, 0, none⟩) n c)).run Tryz.prog w = .ok (.slice (some ⟨B, 0, none⟩) n c) w' ∧ w'.heap[B]? = some (.cells C 5 (C.size, C.size + 1)) ∧ Ks B w w' := by
 have hsh : w.shape? B = some (5, C.size) := by unfold World.shape?; rw [h]
 refine ⟨w.freeze ⟨B, C.size, none⟩ 1, ?_, ?_, ?_⟩
 ·
  simp [convert, run_underlying Tryz.underlying57, run_underlying Tryz.underlying5, markStringish, hsh]
 ·
  simp [World.freeze, Array.getElem?_modify, h]
 ·
  refine ⟨⟨rfl, rfl, rfl, ?_, fun b hb => ?_⟩, fun b hb hne => ?_⟩
  ·
   simp [World.freeze]
  ·
   simp only [World.freeze]; rw [if_neg (by decide)]; rw [Array.getElem?_modify, if_neg (by omega)]
  ·
   simp only [World.freeze]; rw [if_neg (by decide)]; rw [Array.getElem?_modify, if_neg (by omega)]
end Go.Proofs.YtnajcnhgeggngaaGreat

/-! ### Signs -/

namespace Go.Proofs.YtnajcnhgeggngaaGreat
open Go.RowKit

def ch (s : ByteArray) (i : Nat) : Nat := (s.data[i]?.getD 0).toNat
theorem ch_lt (s : ByteArray) (i : Nat) : ch s i < 256 := UInt8.toNat_lt _
theorem run_ch (s : ByteArray) (k : Nat) (h : k < s.size) (w : World) : (Instr.index 9 (.string s) (.int .i64 (k : Int))).run Tryz.prog w = .ok (.int .u8 (ch s k : Nat)) w := by
 rw [run_index_string w 9 s .i64 (k : Int) (by kernel_rfl), dif_pos ⟨by omega, by omega⟩]
 have e : (s[((k : Int)).toNat]'(by omega)) = s.data[k]'h := rfl
 rw [e]
 unfold ch
 rw [Array.getElem?_eq_getElem (show k < s.data.size from h)]
 rfl

def framing (b : Nat) : Nat := if b = 40 then 7 else if b = 41 then 8 else if b = 123 then 13 else 0
def bareE (b : Nat) : Nat := if b = 124 then 9 else if b = 43 then 11 else if b = 63 then 12 else if framing b = 0 then 2 else framing b
def bare (b : Nat) (ere : Bool) : Nat := if b = 46 then 3 else if b = 91 then 4 else if b = 94 then 5 else if b = 36 then 6 else if b = 42 then 10 else if ere then bareE b else 2

theorem framing_any (b : Nat) (w : World) : Calls Tryz.prog 121 #[.int .u8 (b : Int)] w fun e w' => e = .returned (.int .i64 (framing b : Nat)) ∧ w' = w := by
 by_cases h1 : b = 40
 ·
  subst h1; go_enter Tryz.func121, Tryz.ntmps121; go_wp2; go_ret; exact ⟨rfl, rfl⟩
 by_cases h2 : b = 41
 ·
  subst h2; go_enter Tryz.func121, Tryz.ntmps121; go_wp2; go_ret; exact ⟨rfl, rfl⟩
 by_cases h3 : b = 123
 ·
  subst h3; go_enter Tryz.func121, Tryz.ntmps121; go_wp2; go_ret; exact ⟨rfl, rfl⟩
 have e : Hid (framing b = 0) := by show _ = _; unfold framing; rw [if_neg h1, if_neg h2, if_neg h3]
 have g1 : ((b : Int) == 40) = false := by simp; omega
 have g2 : ((b : Int) == 41) = false := by simp; omega
 have g3 : ((b : Int) == 123) = false := by simp; omega
 go_enter Tryz.func121, Tryz.ntmps121; go_wp2; go_ret
 exact ⟨by rw [e.out]; rfl, rfl⟩

theorem bareE_any (b : Nat) (w : World) : Calls Tryz.prog 122 #[.int .u8 (b : Int)] w fun e w' => e = .returned (.int .i64 (bareE b : Nat)) ∧ w' = w := by
 by_cases h1 : b = 124
 ·
  subst h1; go_enter Tryz.func122, Tryz.ntmps122; go_wp2; go_ret; exact ⟨rfl, rfl⟩
 by_cases h2 : b = 43
 ·
  subst h2; go_enter Tryz.func122, Tryz.ntmps122; go_wp2; go_ret; exact ⟨rfl, rfl⟩
 by_cases h3 : b = 63
 ·
  subst h3; go_enter Tryz.func122, Tryz.ntmps122; go_wp2; go_ret; exact ⟨rfl, rfl⟩
 have e : Hid (bareE b = if framing b = 0 then 2 else framing b) := by show _ = _; unfold bareE; rw [if_neg h1, if_neg h2, if_neg h3]
 have g1 : ((b : Int) == 124) = false := by simp; omega
 have g2 : ((b : Int) == 43) = false := by simp; omega
 have g3 : ((b : Int) == 63) = false := by simp; omega
 obtain ⟨k, hk⟩ : ∃ k, framing b = k := ⟨_, rfl⟩
 have HK : Hid (framing b = k) := hk
 rw [hk] at e
 clear hk
 by_cases h0 : k = 0
 ·
  subst h0
  go_enter Tryz.func122, Tryz.ntmps122
  go_wp2_with (go_at_call 121; refine (framing_any b _).mono ?_; rintro e w ⟨rfl, rfl⟩; rw [HK.out])
  go_ret
  exact ⟨by rw [e.out]; rfl, rfl⟩
 ·
  have g4 : ((k : Int) != 0) = true := by simp; omega
  have g5 : ¬ (k : Int) = 0 := by omega
  go_enter Tryz.func122, Tryz.ntmps122
  go_wp2_with (go_at_call 121; refine (framing_any b _).mono ?_; rintro e w ⟨rfl, rfl⟩; rw [HK.out])
  go_ret
  exact ⟨by rw [e.out, if_neg h0]; rfl, rfl⟩

theorem bare_any (b : Nat) (ere : Bool) (w : World) : Calls Tryz.prog 99 #[.int .u8 (b : Int), .bool ere] w fun e w' => e = .returned (.int .i64 (bare b ere : Nat)) ∧ w' = w := by
 by_cases h1 : b = 46
 ·
  subst h1; go_enter Tryz.func99, Tryz.ntmps99; go_wp2; go_ret; exact ⟨rfl, rfl⟩
 by_cases h2 : b = 91
 ·
  subst h2; go_enter Tryz.func99, Tryz.ntmps99; go_wp2; go_ret; exact ⟨rfl, rfl⟩
 by_cases h3 : b = 94
 ·
  subst h3; go_enter Tryz.func99, Tryz.ntmps99; go_wp2; go_ret; exact ⟨rfl, rfl⟩
 by_cases h4 : b = 36
 ·
  subst h4; go_enter Tryz.func99, Tryz.ntmps99; go_wp2; go_ret; exact ⟨rfl, rfl⟩
 by_cases h5 : b = 42
 ·
  subst h5; go_enter Tryz.func99, Tryz.ntmps99; go_wp2; go_ret; exact ⟨rfl, rfl⟩
 have e : Hid (bare b ere = if ere then bareE b else 2) := by show _ = _; unfold bare; rw [if_neg h1, if_neg h2, if_neg h3, if_neg h4, if_neg h5]
 have g1 : ((b : Int) == 46) = false := by simp; omega
 have g2 : ((b : Int) == 91) = false := by simp; omega
 have g3 : ((b : Int) == 94) = false := by simp; omega
 have g4 : ((b : Int) == 36) = false := by simp; omega
 have g5 : ((b : Int) == 42) = false := by simp; omega
 cases ere with
 | true =>
  go_enter Tryz.func99, Tryz.ntmps99
  go_wp2_with (go_at_call 122; refine (bareE_any b _).mono ?_; rintro e w ⟨rfl, rfl⟩)
  go_ret
  exact ⟨by rw [e.out]; rfl, rfl⟩
 | false =>
  go_enter Tryz.func99, Tryz.ntmps99
  go_wp2
  go_ret
  exact ⟨by rw [e.out]; rfl, rfl⟩

def spec (ere : Bool) (b : Nat) : Bool := (b == 46 || b == 91 || b == 93 || b == 42 || b == 94 || b == 36 || b == 92 || b == 47) || (ere && (b == 43 || b == 63 || b == 123 || b == 125 || b == 124 || b == 40 || b == 41))

def inL (l : List Nat) : Nat → Bool := fun k => l.elem k
theorem memb_list (l : List Nat) (n : Nat) (h : n ≤ l.length) : memb (fun j => l.getD j 0) n = inL (l.take n) := by
 induction n with
 | zero => funext k; simp [memb, inL]
 | succ n ih =>
  funext k
  have hn : n < l.length := by omega
  show (memb _ n k || k == l.getD n 0) = _
  rw [ih (by omega)]
  unfold inL
  rw [Bool.eq_iff_iff]
  simp [List.getD_eq_getElem?_getD, List.getElem?_eq_getElem hn]
  rw [List.take_succ_eq_append_getElem hn, List.mem_append, List.mem_singleton]
theorem of_list (l : List Nat) (n cap B : Nat) (w : World) (fr : Nat × Nat) (hl : l.length = n) (hn : n ≤ 4000) (hb : ∀ x ∈ l, x < 256)
  (h : w.heap[B]? = some (.cells (l.map fun x : Nat => (.int .u8 (x : Int) : Value)).toArray 5 fr)) :
  Calls Tryz.prog 19 #[.slice (some ⟨B, 0, none⟩) n cap] w fun e w' => e = .returned (sv (inL l)) ∧ Kp w w' := by
 refine (of_core (fun j => l.getD j 0) B 0 n cap w hn (Array.getElem?_eq_some_iff.1 h).1 ?_ ?_).mono ?_
 ·
  intro j hj
  refine bl_cellf h _ _ ?_
  simp [List.getElem?_eq_getElem (show j < l.length by omega), List.getD_eq_getElem?_getD]
 ·
  intro j
  by_cases hj : j < l.length
  ·
   simp only [List.getD_eq_getElem?_getD, List.getElem?_eq_getElem hj, Option.getD_some]; exact hb _ (List.getElem_mem hj)
  ·
   simp [List.getD_eq_getElem?_getD, List.getElem?_eq_none (show l.length ≤ j by omega)]
 ·
  rintro e w' ⟨rfl, hk⟩
  refine ⟨?_, hk⟩
  rw [memb_list l n (by omega), List.take_of_length_le (by omega)]
end Go.Proofs.YtnajcnhgeggngaaGreat

/-! ### Steps -/

namespace Go.Proofs.YtnajcnhgeggngaaGreat
open Go

section
variable {P : Program} {ops : Array Oper} {Q : Exit → Act → World → Prop} {md : Region.Mode} {S : World → Prop} {z : Nat}

def anyZ (P : Program) (md : Region.Mode) (ops : Array Oper) (Q : Exit → Act → World → Prop) (S : World → Prop) (z : Nat) : Nat → Array Bool → Act → World → Prop
 | 0, listed, a, w => Region.ready md ops listed = [] ∧ Q .normal a w
 | fuel + 1, listed, a, w =>
  (Region.ready md ops listed = [] → Q .normal a w) ∧
  ∀ i ∈ Region.ready md ops listed, wpOp P ops Q i (fun a' w' => (i ≠ z → listed.getD z true = false → S w') ∧ anyZ P md ops Q S z fuel (listed.setIfInBounds i true) a' w') a w

theorem any_of_Z : ∀ (fuel : Nat) (listed : Array Bool) (a : Act) (w : World), anyZ P md ops Q S z fuel listed a w → wpAny P md ops Q fuel listed a w
 | 0, _, _, _, h => h
 | fuel + 1, _, _, _, h => ⟨h.1, fun i hi => wpOp_mono (fun a' w' h' => any_of_Z fuel _ a' w' h'.2) (h.2 i hi)⟩

theorem Z_of_any : ∀ (fuel : Nat) (listed : Array Bool) (a : Act) (w : World), listed.getD z true = true → wpAny P md ops Q fuel listed a w → anyZ P md ops Q S z fuel listed a w
 | 0, _, _, _, _, h => h
 | fuel + 1, listed, _, _, hz, h => ⟨h.1, fun i hi => wpOp_mono (fun a' w' h' => ⟨fun _ hf => (by rw [hz] at hf; cases hf), Z_of_any fuel _ a' w' (by
   by_cases hiz : i = z
   ·
    subst hiz
    by_cases hlt : i < listed.size
    ·
     simp [hlt]
    ·
     simp [Array.getD, hlt]
   ·
    rw [getD_set_ne true hiz]; exact hz) h'⟩) (h.2 i hi)⟩

theorem unlisted {i : Nat} {listed : Array Bool} (h : i ∈ Region.ready md ops listed) : listed.getD i true = false := (mem_ready.1 h).1
def Shutd (md : Region.Mode) (ops : Array Oper) (listed : Array Bool) : Prop := ∀ j oj, ops[j]? = some oj → listed.getD j true = true → ∀ e ∈ oj.after, Region.binds md e = true → listed.getD e.on true = true

inductive WaitsT (md : Region.Mode) (ops : Array Oper) : Nat → Nat → Prop
 | one {z i : Nat} {oz : Oper} (hz : ops[z]? = some oz) (e : Edge) (he : e ∈ oz.after) (hb : Region.binds md e = true) (ho : e.on = i) : WaitsT md ops z i
 | more {z k i : Nat} {oz : Oper} (hz : ops[z]? = some oz) (e : Edge) (he : e ∈ oz.after) (hb : Region.binds md e = true) (ho : e.on = k) (h : WaitsT md ops k i) : WaitsT md ops z i

theorem not_listed {z i : Nat} {listed : Array Bool} (hs : Shutd md ops listed) (h : WaitsT md ops z i) (hi : listed.getD i true = false) : listed.getD z true = false := by
 induction h with
 | one hz e he hb ho =>
  cases hc : listed.getD _ true with
  | false => rfl
  | true => have := hs _ _ hz hc e he hb; rw [ho, hi] at this; cases this
 | more hz e he hb ho _ ih =>
  cases hc : listed.getD _ true with
  | false => rfl
  | true => have := hs _ _ hz hc e he hb; rw [ho, ih hi] at this; cases this

theorem on_listed {j : Nat} {oj : Oper} {listed : Array Bool} (hj : j ∈ Region.ready md ops listed) (hoj : ops[j]? = some oj) (e : Edge) (he : e ∈ oj.after) (hb : Region.binds md e = true) : listed.getD e.on true = true := by
 obtain ⟨_, oj', hoj', hall⟩ := mem_ready.1 hj
 rw [hoj] at hoj'
 obtain rfl : oj = oj' := by injection hoj'
 have h1 := hall e he hb
 rcases Nat.lt_or_ge e.on listed.size with h' | h'
 ·
  simp [h'] at h1 ⊢; exact h1
 ·
  simp [Array.getElem?_eq_none h'] at h1

theorem not_yet' {z i j : Nat} {listed : Array Bool} (hs : Shutd md ops listed) (h : WaitsT md ops z i) (hi : listed.getD i true = false) (hj : j ∈ Region.ready md ops listed) : j ≠ z := by
 intro e
 subst e
 cases h with
 | one hz e he hb ho => have := on_listed hj hz e he hb; rw [ho, hi] at this; cases this
 | more hz e he hb ho h => have := on_listed hj hz e he hb; rw [ho, not_listed hs h hi] at this; cases this

theorem getD_set_true {j k : Nat} {listed : Array Bool} (h : listed.getD k true = true) : (listed.setIfInBounds j true).getD k true = true := by
 by_cases hjk : j = k
 ·
  subst hjk
  by_cases hlt : j < listed.size
  ·
   simp [hlt]
  ·
   simp [Array.getD, hlt]
 ·
  rw [getD_set_ne true hjk]; exact h

theorem Shutd.set {j : Nat} {listed : Array Bool} (hs : Shutd md ops listed) (hj : j ∈ Region.ready md ops listed) : Shutd md ops (listed.setIfInBounds j true) := by
 intro k ok hk hkl e he hb
 by_cases hjk : j = k
 ·
  subst hjk; exact getD_set_true (on_listed hj hk e he hb)
 ·
  rw [getD_set_ne true hjk] at hkl; exact getD_set_true (hs k ok hk hkl e he hb)

theorem anyZ_first {i : Nat} {oi : Oper} {v : Value} (hi : ops[i]? = some oi) (hsel : ∀ (j : Nat) (o : Oper) cs b, ops[j]? = some o → o.op ≠ .select cs b)
  (hQ : ∀ c a w, Q (.panic c) (a.put oi.dst v) w → Q (.panic c) a w) (hw : WaitsT md ops z i) :
  ∀ (fuel : Nat) (listed : Array Bool) (a : Act) (w : World),
   (∀ j oj, ops[j]? = some oj → j ≠ i → listed.getD j true = false → (∀ e ∈ oj.after, Region.binds md e = true → e.on ≠ i) → oi.apart ops oj = true) →
   i ∈ Region.ready md ops listed → Shutd md ops listed → YieldsIf P ops S oi v a → S w →
   anyZ P md ops Q S z fuel (listed.setIfInBounds i true) (a.put oi.dst v) w → anyZ P md ops Q S z (fuel + 1) listed a w := by
 intro fuel
 induction fuel with
 | zero =>
  intro listed a w _ hr _ hy hS H
  refine ⟨fun h => (by rw [h] at hr; cases hr), fun j hj => ?_⟩
  by_cases hji : j = i
  ·
   subst hji; exact hy.wpOp hi hS ⟨fun _ _ => hS, H⟩
  ·
   have := ready_mono hj hji
   rw [H.1] at this
   cases this
 | succ fuel ih =>
  intro listed a w hfree hr hsh hy hS H
  have hil := unlisted hr
  have hzl := not_listed hsh hw hil
  refine ⟨fun h => (by rw [h] at hr; cases hr), fun j hj => ?_⟩
  by_cases hji : j = i
  ·
   subst hji; exact hy.wpOp hi hS ⟨fun _ _ => hS, H⟩
  ·
   have hjz := not_yet' hsh hw hil hj
   have hiz : i ≠ z := not_yet' hsh hw hil hr
   have h1 := H.2 j (ready_mono hj hji)
   obtain ⟨hjun, oj, hoj, hall⟩ := mem_ready.1 hj
   have hnot : ∀ e ∈ oj.after, Region.binds md e = true → e.on ≠ i := fun e he hb heq => by
    have h1 := hall e he hb
    rw [heq] at h1
    rcases Nat.lt_or_ge i listed.size with h' | h'
    ·
     simp [h'] at hil h1; rw [hil] at h1; cases h1
    ·
     simp [Array.getElem?_eq_none h'] at h1
   have h2 := wpOp_putIf hoj (hfree j oj hoj hji hjun hnot) (fun cs b => hsel i oi cs b hi) (fun cs b => hsel j oj cs b hoj) hQ hy h1
   have hfree' : ∀ k ok, ops[k]? = some ok → k ≠ i → (listed.setIfInBounds j true).getD k true = false →
     (∀ e ∈ ok.after, Region.binds md e = true → e.on ≠ i) → oi.apart ops ok = true := fun k ok hk hki hun hno => by
    refine hfree k ok hk hki ?_ hno
    by_cases hjk : j = k
    ·
     subst hjk; exact hjun
    ·
     rw [getD_set_ne true hjk] at hun; exact hun
   refine wpOp_mono (fun a' w' h3 => ?_) h2
   have hS' : S w' := h3.2.1 hjz (by rw [getD_set_ne true hiz]; exact hzl)
   refine ⟨fun _ _ => hS', ih (listed.setIfInBounds j true) a' w' hfree' (ready_mono hr (Ne.symm hji)) (hsh.set hj) h3.1 hS' ?_⟩
   rw [Array.setIfInBounds_comm _ _ hji]
   exact h3.2.2

def edgeB (md : Region.Mode) (ops : Array Oper) (z i : Nat) : Bool := match ops[z]? with
 | some oz => oz.after.any fun e => Region.binds md e && e.on == i
 | none => false
def pathB (md : Region.Mode) (ops : Array Oper) (z : Nat) : List Nat → Nat → Bool
 | [], i => edgeB md ops z i
 | k :: ks, i => edgeB md ops z k && pathB md ops k ks i
theorem edge_of {z i : Nat} (h : edgeB md ops z i = true) : ∃ oz e, ops[z]? = some oz ∧ e ∈ oz.after ∧ Region.binds md e = true ∧ e.on = i := by
 unfold edgeB at h
 cases hz : ops[z]? with
 | none => rw [hz] at h; cases h
 | some oz =>
  rw [hz] at h
  simp only [Array.any_eq_true] at h
  obtain ⟨k, hk, he⟩ := h
  simp only [Bool.and_eq_true, beq_iff_eq] at he
  exact ⟨oz, oz.after[k], rfl, Array.getElem_mem hk, he.1, he.2⟩
theorem path_of {ks : List Nat} : ∀ {z i : Nat}, pathB md ops z ks i = true → WaitsT md ops z i := by
 induction ks with
 | nil => intro z i h; obtain ⟨oz, e, h1, h2, h3, h4⟩ := edge_of h; exact .one h1 e h2 h3 h4
 | cons k ks ih =>
  intro z i h
  simp only [pathB, Bool.and_eq_true] at h
  obtain ⟨oz, e, h1, h2, h3, h4⟩ := edge_of h.1
  exact .more h1 e h2 h3 h4 (ih h.2)
def shutB (md : Region.Mode) (ops : Array Oper) (listed : Array Bool) : Bool := (List.range ops.size).all fun j => match ops[j]? with
 | some oj => !(listed.getD j true) || oj.after.all fun e => !(Region.binds md e) || listed.getD e.on true
 | none => true
theorem shut_of {listed : Array Bool} (h : shutB md ops listed = true) : Shutd md ops listed := by
 intro j oj hj hl e he hb
 unfold shutB at h
 rw [List.all_eq_true] at h
 have := h j (List.mem_range.2 (Array.getElem?_eq_some_iff.1 hj).1)
 rw [hj] at this
 simp only [hl, Bool.not_true, Bool.false_or, Array.all_eq_true_iff_forall_mem] at this
 have := this e he
 rw [hb] at this
 simpa using this

theorem anyZ_take {i : Nat} {oi : Oper} {v : Value} {fuel : Nat} {listed : Array Bool} {a : Act} {w : World} (hi : ops[i]? = some oi)
  (hs : Region.noSelect ops = true) (hf : Region.free md ops listed i = true) (hr : (Region.ready md ops listed).contains i = true) {ks : List Nat} (hw : pathB md ops z ks i = true) (hz : shutB md ops listed = true)
  (hQ : ∀ c a w, Q (.panic c) (a.put oi.dst v) w → Q (.panic c) a w) (hy : YieldsIf P ops S oi v a) (hS : S w)
  (h : anyZ P md ops Q S z fuel (listed.setIfInBounds i true) (a.put oi.dst v) w) : anyZ P md ops Q S z (fuel + 1) listed a w :=
 anyZ_first hi (Region.noSelect_spec hs) hQ (path_of hw) fuel listed a w (Region.free_spec hi hf) (by simpa using hr) (shut_of hz) hy hS h

def AllZ (P : Program) (md : Region.Mode) (ops : Array Oper) (Q : Exit → Act → World → Prop) (S : World → Prop) (z fuel : Nat) (listed : Array Bool) (a : Act) (w : World) (rs : List Nat) : Prop :=
 ∀ i ∈ rs, wpOp P ops Q i (fun a' w' => (i ≠ z → listed.getD z true = false → S w') ∧ anyZ P md ops Q S z fuel (listed.setIfInBounds i true) a' w') a w
theorem AllZ.nil {fuel : Nat} {listed : Array Bool} {a : Act} {w : World} : AllZ P md ops Q S z fuel listed a w [] := fun _ h => by cases h
theorem AllZ.cons {fuel : Nat} {listed : Array Bool} {a : Act} {w : World} {i : Nat} {o : Oper} {rs : List Nat} (ho : ops[i]? = some o)
  (h : ∀ K' : Act → World → Prop, Shut (∀ a w, S w → (S w → anyZ P md ops Q S z fuel (listed.setIfInBounds i true) a w) → K' a w) → if Region.wanted o (yielded ops a.tmps) = true then Oper.wp P o a w K' Q else K' (a.put o.dst undef) w)
  (hs : AllZ P md ops Q S z fuel listed a w rs) : AllZ P md ops Q S z fuel listed a w (i :: rs) := fun j hj => by
 rcases List.mem_cons.1 hj with rfl | hj
 ·
  exact wpOp_step ho (fun K' hK => h K' (fun a w hS hW => hK a w ⟨fun _ _ => hS, hW hS⟩))
 ·
  exact hs j hj
theorem AllZ.last {fuel : Nat} {listed : Array Bool} {a : Act} {w : World} {i : Nat} {o : Oper} {rs : List Nat} (ho : ops[i]? = some o) (hl : i = z ∨ listed.getD z true = true)
  (h : ∀ K' : Act → World → Prop, Shut (∀ a w, anyZ P md ops Q S z fuel (listed.setIfInBounds i true) a w → K' a w) → if Region.wanted o (yielded ops a.tmps) = true then Oper.wp P o a w K' Q else K' (a.put o.dst undef) w)
  (hs : AllZ P md ops Q S z fuel listed a w rs) : AllZ P md ops Q S z fuel listed a w (i :: rs) := fun j hj => by
 rcases List.mem_cons.1 hj with rfl | hj
 ·
  refine wpOp_step ho (fun K' hK => h K' (fun a w hW => hK a w ⟨fun hn hf => ?_, hW⟩))
  rcases hl with rfl | hl
  ·
   exact absurd rfl hn
  ·
   rw [hl] at hf; cases hf
 ·
  exact hs j hj
theorem anyZ_ready {rs : List Nat} {fuel : Nat} {listed : Array Bool} {a : Act} {w : World} (hr : Region.ready md ops listed = rs) (hne : rs ≠ [])
  (h : AllZ P md ops Q S z fuel listed a w rs) : anyZ P md ops Q S z (fuel + 1) listed a w := ⟨fun h0 => absurd (hr ▸ h0) hne, hr ▸ h⟩
theorem anyZ_done {listed : Array Bool} {a : Act} {w : World} (hr : Region.ready md ops listed = []) (h : Q .normal a w) : ∀ fuel, anyZ P md ops Q S z fuel listed a w
 | 0 => ⟨hr, h⟩
 | _ + 1 => ⟨fun _ => h, by rw [hr]; simp⟩
theorem region_Z {id : Nat} {a : Act} {w : World} (hm : P.follows .mixedOrders = true) (hS : S w.drew)
  (h : S w.drew → anyZ P .any ops Q S z ops.size (Array.replicate ops.size false) a w.drew) : (Code.region id ops true).wp P Q a w :=
 wp_region_any hm (any_of_Z (S := S) (z := z) _ _ _ _ (h hS))
end
open Go.RowKit
theorem hid {p : Prop} (h : p) : Hid p := h
section
variable {P : Program} {ops : Array Oper} {Q : Exit → Act → World → Prop} {md : Region.Mode} {S : World → Prop} {z : Nat}
theorem tk (i : Nat) (d : Option Tmp) (o : Op) (ty : TypeId) {p : String} {af : Array Edge} {g : Option (Nat × Bool)} {v : Value} {fuel : Nat} {listed : Array Bool} {a : Act} {w : World} (hi : ops[i]? = some { dst := d, op := o, type := ty, pos := p, after := af, guard := g })
    (hy : ∀ w, S w → (execOp a.eval { dst := d, op := o, type := ty, pos := p, after := af, guard := g }).run P w = .ok (.value v) w) (hS : S w) (h : wpAnyH P md ops Q S fuel (listed.setIfInBounds i true) (a.put d v) w)
    (hs : Region.noSelect ops = true := by kernel_rfl) (hf : Region.free md ops listed i = true := by kernel_rfl) (hr : (Region.ready md ops listed).contains i = true := by kernel_rfl)
    (hQ : ∀ c a w, Q (.panic c) (a.put d v) w → Q (.panic c) a w := by exact fun _ _ _ h => h) (hw : Region.wanted { dst := d, op := o, type := ty, pos := p, after := af, guard := g } (yielded ops a.tmps) = true := by rfl) : wpAnyH P md ops Q S (fuel + 1) listed a w :=
  wpAnyH_take hi hs hf hr hQ (Or.inl ⟨hw, hy⟩) hS h
theorem zk (z i : Nat) (ks : List Nat) (d : Option Tmp) (o : Op) (ty : TypeId) {p : String} {af : Array Edge} {g : Option (Nat × Bool)} {v : Value} {fuel : Nat} {listed : Array Bool} {a : Act} {w : World} (hi : ops[i]? = some { dst := d, op := o, type := ty, pos := p, after := af, guard := g })
    (hy : ∀ w, S w → (execOp a.eval { dst := d, op := o, type := ty, pos := p, after := af, guard := g }).run P w = .ok (.value v) w) (hS : S w) (h : anyZ P md ops Q S z fuel (listed.setIfInBounds i true) (a.put d v) w)
    (hs : Region.noSelect ops = true := by kernel_rfl) (hf : Region.free md ops listed i = true := by kernel_rfl) (hr : (Region.ready md ops listed).contains i = true := by kernel_rfl) (hp : pathB md ops z ks i = true := by kernel_rfl) (hz : shutB md ops listed = true := by kernel_rfl)
    (hQ : ∀ c a w, Q (.panic c) (a.put d v) w → Q (.panic c) a w := by exact fun _ _ _ h => h) (hw : Region.wanted { dst := d, op := o, type := ty, pos := p, after := af, guard := g } (yielded ops a.tmps) = true := by rfl) : anyZ P md ops Q S z (fuel + 1) listed a w :=
  anyZ_take hi hs hf hr hp hz hQ (Or.inl ⟨hw, hy⟩) hS h
theorem tn (i : Nat) (d : Option Tmp) (o : Op) (ty : TypeId) {p : String} {af : Array Edge} {g : Option (Nat × Bool)} {fuel : Nat} {listed : Array Bool} {a : Act} {w : World} (hi : ops[i]? = some { dst := d, op := o, type := ty, pos := p, after := af, guard := g }) (hS : S w) (h : wpAnyH P md ops Q S fuel (listed.setIfInBounds i true) (a.put d undef) w)
    (hs : Region.noSelect ops = true := by kernel_rfl) (hf : Region.free md ops listed i = true := by kernel_rfl) (hr : (Region.ready md ops listed).contains i = true := by kernel_rfl)
    (hQ : ∀ c a w, Q (.panic c) (a.put d undef) w → Q (.panic c) a w := by exact fun _ _ _ h => h) (hw : Region.wanted { dst := d, op := o, type := ty, pos := p, after := af, guard := g } (yielded ops a.tmps) = false := by rfl) : wpAnyH P md ops Q S (fuel + 1) listed a w :=
  wpAnyH_take hi hs hf hr hQ (Or.inr ⟨hw, rfl⟩) hS h
end
theorem ps : (∀ (a : Act) (d : Tmp) (v : Value), a.put (some d) v = { a with tmps := a.tmps.setIfInBounds d v }) ∧ (∀ (a : Act) (v : Value), a.put none v = a) ∧ (∀ (l : List Value) (i : Nat) (x : Value), l.toArray.setIfInBounds i x = (l.set i x).toArray) ∧ (∀ (l : List Bool) (i : Nat) (x : Bool), l.toArray.setIfInBounds i x = (l.set i x).toArray)
    ∧ (∀ (l : List Value) (y x : Value), (y :: l).set 0 x = x :: l) ∧ (∀ (l : List Value) (n : Nat) (y x : Value), (y :: l).set (n + 1) x = y :: l.set n x) ∧ (∀ (l : List Bool) (y x : Bool), (y :: l).set 0 x = x :: l) ∧ (∀ (l : List Bool) (n : Nat) (y x : Bool), (y :: l).set (n + 1) x = y :: l.set n x) :=
  ⟨fun _ _ _ => rfl, fun _ _ => rfl, fun _ _ _ => by simp, fun _ _ _ => by simp, fun _ _ _ => rfl, fun _ _ _ _ => rfl, fun _ _ _ => rfl, fun _ _ _ _ => rfl⟩
/-- A drawn region, S told by the law that pays it. -/
theorem hdrew {P : Program} {ops : Array Oper} {Q : Exit → Act → World → Prop} {R S : World → Prop} {id : Nat} {a : Act} {w : World} (mk : Hid (∀ W, R W → S W)) (q0 : R w.drew)
    (h : S w.drew → wpAnyH P .any ops Q S ops.size (Array.replicate ops.size false) a w.drew) (hm : P.follows .mixedOrders = true := by kernel_rfl) : (Code.region id ops true).wp P Q a w :=
  wp_region_held_drew hm (mk.out _ q0) h
theorem hdrewZ {P : Program} {ops : Array Oper} {Q : Exit → Act → World → Prop} {R S : World → Prop} (z : Nat) {id : Nat} {a : Act} {w : World} (mk : Hid (∀ W, R W → S W)) (q0 : R w.drew)
    (h : S w.drew → anyZ P .any ops Q S z ops.size (Array.replicate ops.size false) a w.drew) (hm : P.follows .mixedOrders = true := by kernel_rfl) : (Code.region id ops true).wp P Q a w :=
  region_Z hm (mk.out _ q0) h
theorem cellf2 {w : World} {B : Nat} {a0 a1 : Value} {l : List Value} {t : TypeId} (h : w.heap[B]? = some (.cells (a0 :: a1 :: l).toArray t)) : w.cell? ⟨B, 0, none⟩ = some a0 ∧ w.frozen? ⟨B, 0, none⟩ = false ∧ w.cell? ⟨B, 1, none⟩ = some a1 ∧ w.frozen? ⟨B, 1, none⟩ = false := ⟨bl_cell h 0 _ rfl, bl_frozen h 0, bl_cell h 1 _ rfl, bl_frozen h 1⟩
theorem cells3 {w : World} {B : Nat} {a0 a1 a2 : Value} {l : List Value} {t : TypeId} (h : w.heap[B]? = some (.cells (a0 :: a1 :: a2 :: l).toArray t)) : w.cell? ⟨B, 0, none⟩ = some a0 ∧ w.cell? ⟨B, 1, none⟩ = some a1 ∧ w.cell? ⟨B, 2, none⟩ = some a2 := ⟨bl_cell h 0 _ rfl, bl_cell h 1 _ rfl, bl_cell h 2 _ rfl⟩
theorem cellf3 {w : World} {B : Nat} {a0 a1 a2 : Value} {l : List Value} {t : TypeId} (h : w.heap[B]? = some (.cells (a0 :: a1 :: a2 :: l).toArray t)) : w.cell? ⟨B, 0, none⟩ = some a0 ∧ w.frozen? ⟨B, 0, none⟩ = false ∧ w.cell? ⟨B, 1, none⟩ = some a1 ∧ w.frozen? ⟨B, 1, none⟩ = false ∧ w.cell? ⟨B, 2, none⟩ = some a2 ∧ w.frozen? ⟨B, 2, none⟩ = false := ⟨bl_cell h 0 _ rfl, bl_frozen h 0, bl_cell h 1 _ rfl, bl_frozen h 1, bl_cell h 2 _ rfl, bl_frozen h 2⟩
theorem cells4 {w : World} {B : Nat} {a0 a1 a2 a3 : Value} {l : List Value} {t : TypeId} (h : w.heap[B]? = some (.cells (a0 :: a1 :: a2 :: a3 :: l).toArray t)) : w.cell? ⟨B, 0, none⟩ = some a0 ∧ w.cell? ⟨B, 1, none⟩ = some a1 ∧ w.cell? ⟨B, 2, none⟩ = some a2 ∧ w.cell? ⟨B, 3, none⟩ = some a3 := ⟨bl_cell h 0 _ rfl, bl_cell h 1 _ rfl, bl_cell h 2 _ rfl, bl_cell h 3 _ rfl⟩
theorem cells7 {w : World} {B : Nat} {a0 a1 a2 a3 a4 a5 a6 : Value} {l : List Value} {t : TypeId} (h : w.heap[B]? = some (.cells (a0 :: a1 :: a2 :: a3 :: a4 :: a5 :: a6 :: l).toArray t)) : w.cell? ⟨B, 0, none⟩ = some a0 ∧ w.cell? ⟨B, 1, none⟩ = some a1 ∧ w.cell? ⟨B, 2, none⟩ = some a2 ∧ w.cell? ⟨B, 3, none⟩ = some a3 ∧ w.cell? ⟨B, 4, none⟩ = some a4 ∧ w.cell? ⟨B, 5, none⟩ = some a5 ∧ w.cell? ⟨B, 6, none⟩ = some a6 := ⟨bl_cell h 0 _ rfl, bl_cell h 1 _ rfl, bl_cell h 2 _ rfl, bl_cell h 3 _ rfl, bl_cell h 4 _ rfl, bl_cell h 5 _ rfl, bl_cell h 6 _ rfl⟩
theorem cellf7 {w : World} {B : Nat} {a0 a1 a2 a3 a4 a5 a6 : Value} {l : List Value} {t : TypeId} (h : w.heap[B]? = some (.cells (a0 :: a1 :: a2 :: a3 :: a4 :: a5 :: a6 :: l).toArray t)) : w.cell? ⟨B, 0, none⟩ = some a0 ∧ w.frozen? ⟨B, 0, none⟩ = false ∧ w.cell? ⟨B, 1, none⟩ = some a1 ∧ w.frozen? ⟨B, 1, none⟩ = false ∧ w.cell? ⟨B, 2, none⟩ = some a2 ∧ w.frozen? ⟨B, 2, none⟩ = false ∧ w.cell? ⟨B, 3, none⟩ = some a3 ∧ w.frozen? ⟨B, 3, none⟩ = false ∧ w.cell? ⟨B, 4, none⟩ = some a4 ∧ w.frozen? ⟨B, 4, none⟩ = false ∧ w.cell? ⟨B, 5, none⟩ = some a5 ∧ w.frozen? ⟨B, 5, none⟩ = false ∧ w.cell? ⟨B, 6, none⟩ = some a6 ∧ w.frozen? ⟨B, 6, none⟩ = false := ⟨bl_cell h 0 _ rfl, bl_frozen h 0, bl_cell h 1 _ rfl, bl_frozen h 1, bl_cell h 2 _ rfl, bl_frozen h 2, bl_cell h 3 _ rfl, bl_frozen h 3, bl_cell h 4 _ rfl, bl_frozen h 4, bl_cell h 5 _ rfl, bl_frozen h 5, bl_cell h 6 _ rfl, bl_frozen h 6⟩
theorem cells8 {w : World} {B : Nat} {a0 a1 a2 a3 a4 a5 a6 a7 : Value} {l : List Value} {t : TypeId} (h : w.heap[B]? = some (.cells (a0 :: a1 :: a2 :: a3 :: a4 :: a5 :: a6 :: a7 :: l).toArray t)) : w.cell? ⟨B, 0, none⟩ = some a0 ∧ w.cell? ⟨B, 1, none⟩ = some a1 ∧ w.cell? ⟨B, 2, none⟩ = some a2 ∧ w.cell? ⟨B, 3, none⟩ = some a3 ∧ w.cell? ⟨B, 4, none⟩ = some a4 ∧ w.cell? ⟨B, 5, none⟩ = some a5 ∧ w.cell? ⟨B, 6, none⟩ = some a6 ∧ w.cell? ⟨B, 7, none⟩ = some a7 := ⟨bl_cell h 0 _ rfl, bl_cell h 1 _ rfl, bl_cell h 2 _ rfl, bl_cell h 3 _ rfl, bl_cell h 4 _ rfl, bl_cell h 5 _ rfl, bl_cell h 6 _ rfl, bl_cell h 7 _ rfl⟩
theorem cellf8 {w : World} {B : Nat} {a0 a1 a2 a3 a4 a5 a6 a7 : Value} {l : List Value} {t : TypeId} (h : w.heap[B]? = some (.cells (a0 :: a1 :: a2 :: a3 :: a4 :: a5 :: a6 :: a7 :: l).toArray t)) : w.cell? ⟨B, 0, none⟩ = some a0 ∧ w.frozen? ⟨B, 0, none⟩ = false ∧ w.cell? ⟨B, 1, none⟩ = some a1 ∧ w.frozen? ⟨B, 1, none⟩ = false ∧ w.cell? ⟨B, 2, none⟩ = some a2 ∧ w.frozen? ⟨B, 2, none⟩ = false ∧ w.cell? ⟨B, 3, none⟩ = some a3 ∧ w.frozen? ⟨B, 3, none⟩ = false ∧ w.cell? ⟨B, 4, none⟩ = some a4 ∧ w.frozen? ⟨B, 4, none⟩ = false ∧ w.cell? ⟨B, 5, none⟩ = some a5 ∧ w.frozen? ⟨B, 5, none⟩ = false ∧ w.cell? ⟨B, 6, none⟩ = some a6 ∧ w.frozen? ⟨B, 6, none⟩ = false ∧ w.cell? ⟨B, 7, none⟩ = some a7 ∧ w.frozen? ⟨B, 7, none⟩ = false := ⟨bl_cell h 0 _ rfl, bl_frozen h 0, bl_cell h 1 _ rfl, bl_frozen h 1, bl_cell h 2 _ rfl, bl_frozen h 2, bl_cell h 3 _ rfl, bl_frozen h 3, bl_cell h 4 _ rfl, bl_frozen h 4, bl_cell h 5 _ rfl, bl_frozen h 5, bl_cell h 6 _ rfl, bl_frozen h 6, bl_cell h 7 _ rfl, bl_frozen h 7⟩
theorem cells9 {w : World} {B : Nat} {a0 a1 a2 a3 a4 a5 a6 a7 a8 : Value} {l : List Value} {t : TypeId} (h : w.heap[B]? = some (.cells (a0 :: a1 :: a2 :: a3 :: a4 :: a5 :: a6 :: a7 :: a8 :: l).toArray t)) : w.cell? ⟨B, 0, none⟩ = some a0 ∧ w.cell? ⟨B, 1, none⟩ = some a1 ∧ w.cell? ⟨B, 2, none⟩ = some a2 ∧ w.cell? ⟨B, 3, none⟩ = some a3 ∧ w.cell? ⟨B, 4, none⟩ = some a4 ∧ w.cell? ⟨B, 5, none⟩ = some a5 ∧ w.cell? ⟨B, 6, none⟩ = some a6 ∧ w.cell? ⟨B, 7, none⟩ = some a7 ∧ w.cell? ⟨B, 8, none⟩ = some a8 := ⟨bl_cell h 0 _ rfl, bl_cell h 1 _ rfl, bl_cell h 2 _ rfl, bl_cell h 3 _ rfl, bl_cell h 4 _ rfl, bl_cell h 5 _ rfl, bl_cell h 6 _ rfl, bl_cell h 7 _ rfl, bl_cell h 8 _ rfl⟩
theorem cellf9 {w : World} {B : Nat} {a0 a1 a2 a3 a4 a5 a6 a7 a8 : Value} {l : List Value} {t : TypeId} (h : w.heap[B]? = some (.cells (a0 :: a1 :: a2 :: a3 :: a4 :: a5 :: a6 :: a7 :: a8 :: l).toArray t)) : w.cell? ⟨B, 0, none⟩ = some a0 ∧ w.frozen? ⟨B, 0, none⟩ = false ∧ w.cell? ⟨B, 1, none⟩ = some a1 ∧ w.frozen? ⟨B, 1, none⟩ = false ∧ w.cell? ⟨B, 2, none⟩ = some a2 ∧ w.frozen? ⟨B, 2, none⟩ = false ∧ w.cell? ⟨B, 3, none⟩ = some a3 ∧ w.frozen? ⟨B, 3, none⟩ = false ∧ w.cell? ⟨B, 4, none⟩ = some a4 ∧ w.frozen? ⟨B, 4, none⟩ = false ∧ w.cell? ⟨B, 5, none⟩ = some a5 ∧ w.frozen? ⟨B, 5, none⟩ = false ∧ w.cell? ⟨B, 6, none⟩ = some a6 ∧ w.frozen? ⟨B, 6, none⟩ = false ∧ w.cell? ⟨B, 7, none⟩ = some a7 ∧ w.frozen? ⟨B, 7, none⟩ = false ∧ w.cell? ⟨B, 8, none⟩ = some a8 ∧ w.frozen? ⟨B, 8, none⟩ = false := ⟨bl_cell h 0 _ rfl, bl_frozen h 0, bl_cell h 1 _ rfl, bl_frozen h 1, bl_cell h 2 _ rfl, bl_frozen h 2, bl_cell h 3 _ rfl, bl_frozen h 3, bl_cell h 4 _ rfl, bl_frozen h 4, bl_cell h 5 _ rfl, bl_frozen h 5, bl_cell h 6 _ rfl, bl_frozen h 6, bl_cell h 7 _ rfl, bl_frozen h 7, bl_cell h 8 _ rfl, bl_frozen h 8⟩
theorem cells14 {w : World} {B : Nat} {a0 a1 a2 a3 a4 a5 a6 a7 a8 a9 a10 a11 a12 a13 : Value} {l : List Value} {t : TypeId} (h : w.heap[B]? = some (.cells (a0 :: a1 :: a2 :: a3 :: a4 :: a5 :: a6 :: a7 :: a8 :: a9 :: a10 :: a11 :: a12 :: a13 :: l).toArray t)) : w.cell? ⟨B, 0, none⟩ = some a0 ∧ w.cell? ⟨B, 1, none⟩ = some a1 ∧ w.cell? ⟨B, 2, none⟩ = some a2 ∧ w.cell? ⟨B, 3, none⟩ = some a3 ∧ w.cell? ⟨B, 4, none⟩ = some a4 ∧ w.cell? ⟨B, 5, none⟩ = some a5 ∧ w.cell? ⟨B, 6, none⟩ = some a6 ∧ w.cell? ⟨B, 7, none⟩ = some a7 ∧ w.cell? ⟨B, 8, none⟩ = some a8 ∧ w.cell? ⟨B, 9, none⟩ = some a9 ∧ w.cell? ⟨B, 10, none⟩ = some a10 ∧ w.cell? ⟨B, 11, none⟩ = some a11 ∧ w.cell? ⟨B, 12, none⟩ = some a12 ∧ w.cell? ⟨B, 13, none⟩ = some a13 := ⟨bl_cell h 0 _ rfl, bl_cell h 1 _ rfl, bl_cell h 2 _ rfl, bl_cell h 3 _ rfl, bl_cell h 4 _ rfl, bl_cell h 5 _ rfl, bl_cell h 6 _ rfl, bl_cell h 7 _ rfl, bl_cell h 8 _ rfl, bl_cell h 9 _ rfl, bl_cell h 10 _ rfl, bl_cell h 11 _ rfl, bl_cell h 12 _ rfl, bl_cell h 13 _ rfl⟩
theorem kpt {w w2 : World} (h : Kp w w2 := by repeat (first | exact Kp.refl _ | refine Kp.alloc ?_ _ | refine Kp.drew ?_ | refine Kp.drewN _ ?_)) : Kp w w2 := h
end Go.Proofs.YtnajcnhgeggngaaGreat

/-! ### Sign2 -/

namespace Go.Proofs.YtnajcnhgeggngaaGreat
set_option maxHeartbeats 2000000
set_option maxRecDepth 100000
open Go.RowKit

def specL : List Nat := [46, 91, 93, 42, 94, 36, 92, 47]
def specE : List Nat := [43, 63, 123, 125, 124, 40, 41]
theorem spec_false : inL specL = spec false := by funext b; rw [Bool.eq_iff_iff]; simp [inL, specL, spec]; omega
theorem spec_true : orB (inL specL) (inL specE) = spec true := by funext b; rw [Bool.eq_iff_iff]; simp [orB, inL, specL, specE, spec]; omega
theorem At.ret {fn : Func} {p : Tmp} (h : fn.results = #[.cell p 24]) (tmps : Array Value) (w : World) (S : Nat) (q : Nat → Bool) (hp : tmps.getD p undef = .pointer (some ⟨S, 0, none⟩)) (hA : At w S q) : (results fn tmps).run Tryz.prog w = .ok (sv q) w := ret_at h tmps w S q hp hA

theorem special_any (ere : Bool) (w : World) : Calls Tryz.prog 120 #[.bool ere] w fun e w' => e = .returned (sv (spec ere)) ∧ Kp w w' := by
 have kc := fun (w : World) (C : Array Value) (n c : Nat) => Lib.run_convert_bytes_const (P := Tryz.prog) w 57 5 C n c Tryz.underlying57 Tryz.underlying5
 go_enter Tryz.func120, Tryz.ntmps120
 go_upto_region 1 with fail
 obtain ⟨W0, hW0⟩ : ∃ W, w.alloc (.cells #[.int .u64 0, .int .u64 0, .int .u64 0, .int .u64 0] 24) = W := ⟨_, rfl⟩
 rw [hW0]
 have B0 : Hid (W0.heap[w.heap.size]? = some (.cells #[.int .u64 0, .int .u64 0, .int .u64 0, .int .u64 0] 24) ∧ Kp w W0) := by subst hW0; exact ⟨last_of _ _, (Kp.refl _).alloc _⟩
 clear hW0
 go_wp2_with fail
 refine (of_list specL 8 8 _ _ _ rfl (by omega) (by decide) (last_of _ _)).mono ?_
 rintro e w1 ⟨rfl, k1⟩
 obtain ⟨W1, hW1⟩ : ∃ W, w1.alloc (blk (inL specL)) = W := ⟨_, rfl⟩
 have HW1 : Hid (w1.alloc (blk (inL specL)) = W1) := hW1
 have k2 : Kp W0 W1 := by subst hW1; exact ((((Kp.refl _).alloc _).trans k1).alloc _)
 have B1 : Hid (W1.heap[w.heap.size]? = some (.cells #[.int .u64 0, .int .u64 0, .int .u64 0, .int .u64 0] 24) ∧ Kp w W1 ∧ At W1 w1.heap.size (inL specL)) := ⟨bl_kp B0.out.1 k2, B0.out.2.trans k2, by subst hW1; exact last_of _ _⟩
 clear k1 k2 hW1 B0
 go_upto_if 7 with fail
 rw [HW1.out]
 clear HW1 kc
 obtain ⟨S3, hS3⟩ : ∃ S, w1.heap.size = S := ⟨_, rfl⟩
 rw [hS3] at B1 ⊢
 clear hS3
 obtain ⟨d0, d1, d2, d3⟩ := B1.out.2.2.cells
 have z := B1.out.1
 have f0 := bl_frozen z 0
 have f1 := bl_frozen z 1
 have f2 := bl_frozen z 2
 have f3 := bl_frozen z 3
 obtain ⟨c0, c1, c2, c3⟩ := cells4 z
 clear z
 cases ere with
 | false =>
  go_wp2_with fail
  have A4 := bl_set4 B1.out.1 (.int .u64 (wd (inL specL) 0 : Nat)) (.int .u64 (wd (inL specL) 1 : Nat)) (.int .u64 (wd (inL specL) 2 : Nat)) (.int .u64 (wd (inL specL) 3 : Nat))
  refine bodyPost_ret (v := sv (inL specL)) (ret_at rfl _ _ _ _ rfl A4) rfl ⟨by rw [spec_false], ?_⟩
  exact (ks_set4 _ _ _ _).up B1.out.2.1 (Nat.le_refl _)
 | true =>
  clear f0 f1 f2 f3 c0 c1 c2 c3
  have kc := fun (w : World) (C : Array Value) (n c : Nat) => Lib.run_convert_bytes_const (P := Tryz.prog) w 57 5 C n c Tryz.underlying57 Tryz.underlying5
  go_wp2_with fail
  have MK : Hid (∀ W, Kp W1 W → W.cell? ⟨S3, 0, none⟩ = some (.int .u64 (wd (inL specL) 0 : Nat)) ∧ W.cell? ⟨S3, 1, none⟩ = some (.int .u64 (wd (inL specL) 1 : Nat)) ∧ W.cell? ⟨S3, 2, none⟩ = some (.int .u64 (wd (inL specL) 2 : Nat)) ∧ W.cell? ⟨S3, 3, none⟩ = some (.int .u64 (wd (inL specL) 3 : Nat)) ∧ Hid (Kp W1 W)) := fun W k => ⟨(bl_cell (bl_kp B1.out.2.2 k) 0 _ rfl), (bl_cell (bl_kp B1.out.2.2 k) 1 _ rfl), (bl_cell (bl_kp B1.out.2.2 k) 2 _ rfl), (bl_cell (bl_kp B1.out.2.2 k) 3 _ rfl), k⟩
  have Q0 : Kp W1 W1.drew := (Kp.refl _).drew
  refine wp_region_noPanic ?_
  refine hdrewZ 6 MK Q0 (fun hH => ?_)
  have KQ := Q0
  refine zk 6 0 [] (some 8) (Op.load 24 (Operand.tmp 3)) 24 (v := ?v0a1) rfl ?h0a1 hH ?_
  case h0a1 => intro _ _; go_simp; try with_reducible rfl
  try simp only [ps]
  refine anyZ_ready (rs := [1]) (by kernel_rfl) (by simp) ?_
  refine AllZ.cons (o := { dst := some 9, op := Op.buildSlice 57 7 #[(0, Operand.const (Value.int IntKind.u8 43)), (1, Operand.const (Value.int IntKind.u8 63)), (2, Operand.const (Value.int IntKind.u8 123)), (3, Operand.const (Value.int IntKind.u8 125)), (4, Operand.const (Value.int IntKind.u8 124)), (5, Operand.const (Value.int IntKind.u8 40)), (6, Operand.const (Value.int IntKind.u8 41))], type := 57, pos := "print.go:24", after := #[], guard := none }) rfl (fun K hKq => ?_) AllZ.nil
  go_simp
  refine hKq.out _ _ (MK.out _ (KQ.alloc _)) (fun hN => ?_)
  clear hKq K hH KQ
  have hH := hN
  clear hN
  have KQ := hH.2.2.2.2.out
  try simp only [ps]
  refine anyZ_ready (rs := [2]) (by kernel_rfl) (by simp) ?_
  refine AllZ.cons (o := { dst := some 10, op := Op.convert 57 57 (Operand.tmp 9), type := 57, pos := "print.go:24", after := #[{ on := 1, ground := Ground.data }], guard := none }) rfl (fun K hKq => ?_) AllZ.nil
  obtain ⟨wc, hc, bc, ks⟩ := conv_any (W1.alloc (.cells #[.int .u8 43, .int .u8 63, .int .u8 123, .int .u8 125, .int .u8 124, .int .u8 40, .int .u8 41] 5)).drew W1.heap.size _ 7 7 (last_drew _ _)
  go_simp
  clear hc
  refine hKq.out _ _ (MK.out _ (ks.up KQ (Nat.le_refl _))) (fun hN => ?_)
  clear ks
  clear hKq K hH KQ
  have hH := hN
  clear hN
  have KQ := hH.2.2.2.2.out
  try simp only [ps]
  refine anyZ_ready (rs := [3]) (by kernel_rfl) (by simp) ?_
  refine AllZ.cons (o := { dst := some 11, op := Op.call { callee := Callee.value (Operand.func 19), args := #[Operand.tmp 10], argTypes := #[57] }, type := 24, pos := "print.go:24", after := #[{ on := 2, ground := Ground.data }], guard := none }) rfl (fun K hKq => ?_) AllZ.nil
  go_simp
  refine (of_list specE 7 7 _ _ _ rfl (by omega) (by decide) bc).mono ?_
  rintro e y3 ⟨rfl, kq⟩
  refine hKq.out _ _ (MK.out _ (KQ.trans kq)) (fun hN => ?_)
  clear kq
  clear hKq K hH KQ
  have hH := hN
  clear hN
  have KQ := hH.2.2.2.2.out
  try simp only [ps]
  refine anyZ_ready (rs := [4]) (by kernel_rfl) (by simp) ?_
  refine AllZ.cons (o := { dst := some 12, op := Op.buildSlice 213 2 #[(0, Operand.tmp 8), (1, Operand.tmp 11)], type := 213, pos := "print.go:24", after := #[{ on := 0, ground := Ground.data }, { on := 3, ground := Ground.data }], guard := none }) rfl (fun K hKq => ?_) AllZ.nil
  go_simp
  refine hKq.out _ _ (MK.out _ (KQ.alloc _)) (fun hN => ?_)
  clear hKq K hH KQ
  have hH := hN
  clear hN
  have KQ := hH.2.2.2.2.out
  try simp only [ps]
  refine anyZ_ready (rs := [5]) (by kernel_rfl) (by simp) ?_
  refine AllZ.cons (o := { dst := some 13, op := Op.call { callee := Callee.value (Operand.func 131), args := #[Operand.tmp 12], argTypes := #[213] }, type := 24, pos := "print.go:24", after := #[{ on := 4, ground := Ground.data }, { on := 3, ground := Ground.chain }], guard := none }) rfl (fun K hKq => ?_) AllZ.nil
  go_simp
  refine (join2 (inL specL) (inL specE) _ _ (by simp) (last_of _ _)).mono ?_
  rintro e y5 ⟨rfl, kq⟩
  have K5 : Kp W1 y5 := KQ.trans kq
  have V2 := bl_kp B1.out.1 K5
  have f0 := bl_frozen V2 0
  have f1 := bl_frozen V2 1
  have f2 := bl_frozen V2 2
  have f3 := bl_frozen V2 3
  obtain ⟨c0, c1, c2, c3⟩ := cells4 V2
  refine hKq.out _ _ (MK.out _ (KQ.trans kq)) (fun hN => ?_)
  clear kq
  clear hKq K hH KQ
  have hH := hN
  clear hN
  have KQ := hH.2.2.2.2.out
  try simp only [ps]
  refine anyZ_ready (rs := [6]) (by kernel_rfl) (by simp) ?_
  refine AllZ.last (o := { dst := none, op := Op.store 24 (Operand.tmp 2) (Operand.tmp 13), type := 0, pos := "print.go:24", after := #[{ on := 5, ground := Ground.data }, { on := 5, ground := Ground.chain }, { on := 0, ground := Ground.phase }, { on := 1, ground := Ground.phase }, { on := 2, ground := Ground.phase }, { on := 3, ground := Ground.phase }, { on := 4, ground := Ground.phase }, { on := 5, ground := Ground.phase }], guard := none }) rfl (Or.inl rfl) (fun K hKq => ?_) AllZ.nil
  go_simp
  refine hKq.out _ _ ?_
  clear hKq K
  try simp only [ps]
  refine anyZ_done (by kernel_rfl) ?_ _
  refine NoPanic.normal ?_
  go_wp2_with fail
  have A4 := bl_set4 V2 (.int .u64 (wd (orB (inL specL) (inL specE)) 0 : Nat)) (.int .u64 (wd (orB (inL specL) (inL specE)) 1 : Nat)) (.int .u64 (wd (orB (inL specL) (inL specE)) 2 : Nat)) (.int .u64 (wd (orB (inL specL) (inL specE)) 3 : Nat))
  refine bodyPost_ret (v := sv (orB (inL specL) (inL specE))) (ret_at rfl _ _ _ _ rfl A4) rfl ⟨by rw [spec_true], ?_⟩
  exact (ks_set4 _ _ _ _).up (B1.out.2.1.trans K5) (Nat.le_refl _)

def sg (g : Nat × Nat × Nat) : Value := .agg #[.int .i64 (g.1 : Int), .int .u8 (g.2.1 : Int), .int .i64 (g.2.2 : Int)]
theorem sg3 (x y z : Nat) : sg (x, y, z) = .agg #[.int .i64 (x : Int), .int .u8 (y : Int), .int .i64 (z : Int)] := rfl
theorem sg_ret {fn : Func} {p : Tmp} (h : fn.results = #[.cell p 115]) (tmps : Array Value) (w : World) (S : Nat) (x y z : Value) (hp : tmps.getD p undef = .pointer (some ⟨S, 0, none⟩)) (hA : w.heap[S]? = some (.cells #[x, y, z] 115)) : (results fn tmps).run Tryz.prog w = .ok (.agg #[x, y, z]) w :=
 results_cell_row h tmps w S 115 _ (0, 0) _ hp hA Tryz.underlying115 rfl (by kernel_rfl)
def qs (b : Nat) (ere : Bool) : Nat × Nat × Nat := if b = 110 then (2, 10, 2) else if rng 48 57 b then (14, b, 2) else if spec ere b then (2, b, 2) else if ere then (0, 0, 0) else (framing b, b, 2)
def quoted (t : ByteArray) (ere : Bool) : Nat × Nat × Nat := if t.size = 0 then (0, 0, 0) else qs (ch t 0) ere
theorem str_nil (t : ByteArray) : t.toList.isEmpty = decide (t.size = 0) := by
 rw [ByteArray.toList_eq, show t.size = t.data.toList.length from (Array.length_toList).symm]
 cases t.data.toList <;> simp

theorem quoted_any (t : ByteArray) (ere : Bool) (w : World) : Calls Tryz.prog 98 #[.string t, .bool ere] w fun e w' => e = .returned (sg (quoted t ere)) ∧ Kp w w' := by
 have ez := str_nil t
 by_cases h0 : t.size = 0
 ·
  rw [decide_eq_true h0] at ez
  have E : Hid (quoted t ere = (0, 0, 0)) := by show _ = _; unfold quoted; rw [if_pos h0]
  go_enter Tryz.func98, Tryz.ntmps98
  go_upto_region 1 with fail
  obtain ⟨W0, hW0⟩ : ∃ W, w.alloc (.cells #[.int .i64 0, .int .u8 0, .int .i64 0] 115) = W := ⟨_, rfl⟩
  rw [hW0]
  have B0 : Hid (W0.heap[w.heap.size]? = some (.cells #[.int .i64 0, .int .u8 0, .int .i64 0] 115) ∧ Kp w W0) := by subst hW0; exact ⟨last_of _ _, (Kp.refl _).alloc _⟩
  clear hW0
  have z := B0.out.1
  have f0 := bl_frozen z 0
  have f1 := bl_frozen z 1
  have f2 := bl_frozen z 2
  obtain ⟨c0, c1, c2⟩ := cells3 z
  clear z
  go_wp2_with fail
  exact bodyPost_ret (v := .agg #[_, _, _]) (sg_ret rfl _ _ _ _ _ _ rfl (bl_set3 B0.out.1 _ _ _)) rfl ⟨by rw [E.out]; rfl, (ks_set3 _ _ _).up B0.out.2 (Nat.le_refl _)⟩
 rw [decide_eq_false h0] at ez
 have ec := run_ch t 0 (by omega)
 rw [show ((0 : Nat) : Int) = 0 from rfl] at ec
 have hq : quoted t ere = qs (ch t 0) ere := by unfold quoted; rw [if_neg h0]
 obtain ⟨b, hb⟩ : ∃ b, ch t 0 = b := ⟨_, rfl⟩
 have hb256 : b < 256 := by rw [← hb]; exact ch_lt _ _
 rw [hb] at ec hq
 clear hb
 by_cases h1 : b = 110
 ·
  subst h1
  rw [show ((110 : Nat) : Int) = 110 from rfl] at ec
  have E : Hid (quoted t ere = (2, 10, 2)) := by show _ = _; rw [hq]; rfl
  clear hq
  go_enter Tryz.func98, Tryz.ntmps98
  go_upto_region 1 with fail
  obtain ⟨W0, hW0⟩ : ∃ W, w.alloc (.cells #[.int .i64 0, .int .u8 0, .int .i64 0] 115) = W := ⟨_, rfl⟩
  rw [hW0]
  have B0 : Hid (W0.heap[w.heap.size]? = some (.cells #[.int .i64 0, .int .u8 0, .int .i64 0] 115) ∧ Kp w W0) := by subst hW0; exact ⟨last_of _ _, (Kp.refl _).alloc _⟩
  clear hW0
  have z := B0.out.1
  have f0 := bl_frozen z 0
  have f1 := bl_frozen z 1
  have f2 := bl_frozen z 2
  obtain ⟨c0, c1, c2⟩ := cells3 z
  clear z
  go_wp2_with fail
  exact bodyPost_ret (v := .agg #[_, _, _]) (sg_ret rfl _ _ _ _ _ _ rfl (bl_set3 B0.out.1 _ _ _)) rfl ⟨by rw [E.out]; rfl, (ks_set3 _ _ _).up B0.out.2 (Nat.le_refl _)⟩
 have g1 : ((b : Int) == 110) = false := by simp; omega
 have g1' : ¬ (b : Int) = 110 := by omega
 by_cases h2 : rng 48 57 b = true
 ·
  have E : Hid (quoted t ere = (14, b, 2)) := by show _ = _; rw [hq]; unfold qs; rw [if_neg h1, if_pos h2]
  have H2 : Hid (rng 48 57 b = true) := h2
  clear hq h2
  go_enter Tryz.func98, Tryz.ntmps98
  go_upto_region 1 with fail
  obtain ⟨W0, hW0⟩ : ∃ W, w.alloc (.cells #[.int .i64 0, .int .u8 0, .int .i64 0] 115) = W := ⟨_, rfl⟩
  rw [hW0]
  have B0 : Hid (W0.heap[w.heap.size]? = some (.cells #[.int .i64 0, .int .u8 0, .int .i64 0] 115) ∧ Kp w W0) := by subst hW0; exact ⟨last_of _ _, (Kp.refl _).alloc _⟩
  clear hW0
  go_wp2_with fail
  refine (range_any 48 57 _ (by omega) (by omega)).mono ?_
  rintro e w1 ⟨rfl, kq⟩
  have B1 : Hid (w1.heap[w.heap.size]? = some (.cells #[.int .i64 0, .int .u8 0, .int .i64 0] 115) ∧ Kp w w1) := ⟨bl_kp B0.out.1 kq, B0.out.2.trans kq⟩
  clear kq B0
  go_wp2_with fail
  refine (has_any (rng 48 57) b _ hb256).mono ?_
  rintro e w2 ⟨rfl, kq⟩
  rw [H2.out]
  have B2 : Hid (w2.heap[w.heap.size]? = some (.cells #[.int .i64 0, .int .u8 0, .int .i64 0] 115) ∧ Kp w w2) := ⟨bl_kp B1.out.1 kq, B1.out.2.trans kq⟩
  clear kq B1
  have z := B2.out.1
  have f0 := bl_frozen z 0
  have f1 := bl_frozen z 1
  have f2 := bl_frozen z 2
  obtain ⟨c0, c1, c2⟩ := cells3 z
  clear z
  go_wp2_with fail
  exact bodyPost_ret (v := .agg #[_, _, _]) (sg_ret rfl _ _ _ _ _ _ rfl (bl_set3 B2.out.1 _ _ _)) rfl ⟨by rw [E.out]; rfl, (ks_set3 _ _ _).up B2.out.2 (Nat.le_refl _)⟩
 have h2 : rng 48 57 b = false := by cases h : rng 48 57 b <;> simp_all
 by_cases h3 : spec ere b = true
 ·
  have E : Hid (quoted t ere = (2, b, 2)) := by show _ = _; rw [hq]; unfold qs; rw [if_neg h1, h2, if_neg (by simp), if_pos h3]
  have H2 : Hid (rng 48 57 b = false) := h2
  have H3 : Hid (spec ere b = true) := h3
  clear hq h2 h3
  go_enter Tryz.func98, Tryz.ntmps98
  go_upto_region 1 with fail
  obtain ⟨W0, hW0⟩ : ∃ W, w.alloc (.cells #[.int .i64 0, .int .u8 0, .int .i64 0] 115) = W := ⟨_, rfl⟩
  rw [hW0]
  have B0 : Hid (W0.heap[w.heap.size]? = some (.cells #[.int .i64 0, .int .u8 0, .int .i64 0] 115) ∧ Kp w W0) := by subst hW0; exact ⟨last_of _ _, (Kp.refl _).alloc _⟩
  clear hW0
  go_wp2_with fail
  refine (range_any 48 57 _ (by omega) (by omega)).mono ?_
  rintro e w1 ⟨rfl, kq⟩
  have B1 : Hid (w1.heap[w.heap.size]? = some (.cells #[.int .i64 0, .int .u8 0, .int .i64 0] 115) ∧ Kp w w1) := ⟨bl_kp B0.out.1 kq, B0.out.2.trans kq⟩
  clear kq B0
  go_wp2_with fail
  refine (has_any (rng 48 57) b _ hb256).mono ?_
  rintro e w2 ⟨rfl, kq⟩
  rw [H2.out]
  have B2 : Hid (w2.heap[w.heap.size]? = some (.cells #[.int .i64 0, .int .u8 0, .int .i64 0] 115) ∧ Kp w w2) := ⟨bl_kp B1.out.1 kq, B1.out.2.trans kq⟩
  clear kq B1
  go_wp2_with fail
  refine (special_any ere _).mono ?_
  rintro e w3 ⟨rfl, kq⟩
  have B3 : Hid (w3.heap[w.heap.size]? = some (.cells #[.int .i64 0, .int .u8 0, .int .i64 0] 115) ∧ Kp w w3) := ⟨bl_kp B2.out.1 kq, B2.out.2.trans kq⟩
  clear kq B2
  go_wp2_with fail
  refine (has_any (spec ere) b _ hb256).mono ?_
  rintro e w4 ⟨rfl, kq⟩
  rw [H3.out]
  have B4 : Hid (w4.heap[w.heap.size]? = some (.cells #[.int .i64 0, .int .u8 0, .int .i64 0] 115) ∧ Kp w w4) := ⟨bl_kp B3.out.1 kq, B3.out.2.trans kq⟩
  clear kq B3
  have z := B4.out.1
  have f0 := bl_frozen z 0
  have f1 := bl_frozen z 1
  have f2 := bl_frozen z 2
  obtain ⟨c0, c1, c2⟩ := cells3 z
  clear z
  go_wp2_with fail
  exact bodyPost_ret (v := .agg #[_, _, _]) (sg_ret rfl _ _ _ _ _ _ rfl (bl_set3 B4.out.1 _ _ _)) rfl ⟨by rw [E.out]; rfl, (ks_set3 _ _ _).up B4.out.2 (Nat.le_refl _)⟩
 have h3 : spec ere b = false := by cases h : spec ere b <;> simp_all
 have H2 : Hid (rng 48 57 b = false) := h2
 have H3 : Hid (spec ere b = false) := h3
 cases ere with
 | true =>
  have E : Hid (quoted t true = (0, 0, 0)) := by show _ = _; rw [hq]; unfold qs; rw [if_neg h1, h2, if_neg (by simp), h3]; rfl
  clear hq h2 h3
  go_enter Tryz.func98, Tryz.ntmps98
  go_upto_region 1 with fail
  obtain ⟨W0, hW0⟩ : ∃ W, w.alloc (.cells #[.int .i64 0, .int .u8 0, .int .i64 0] 115) = W := ⟨_, rfl⟩
  rw [hW0]
  have B0 : Hid (W0.heap[w.heap.size]? = some (.cells #[.int .i64 0, .int .u8 0, .int .i64 0] 115) ∧ Kp w W0) := by subst hW0; exact ⟨last_of _ _, (Kp.refl _).alloc _⟩
  clear hW0
  go_wp2_with fail
  refine (range_any 48 57 _ (by omega) (by omega)).mono ?_
  rintro e w1 ⟨rfl, kq⟩
  have B1 : Hid (w1.heap[w.heap.size]? = some (.cells #[.int .i64 0, .int .u8 0, .int .i64 0] 115) ∧ Kp w w1) := ⟨bl_kp B0.out.1 kq, B0.out.2.trans kq⟩
  clear kq B0
  go_wp2_with fail
  refine (has_any (rng 48 57) b _ hb256).mono ?_
  rintro e w2 ⟨rfl, kq⟩
  rw [H2.out]
  have B2 : Hid (w2.heap[w.heap.size]? = some (.cells #[.int .i64 0, .int .u8 0, .int .i64 0] 115) ∧ Kp w w2) := ⟨bl_kp B1.out.1 kq, B1.out.2.trans kq⟩
  clear kq B1
  go_wp2_with fail
  refine (special_any true _).mono ?_
  rintro e w3 ⟨rfl, kq⟩
  have B3 : Hid (w3.heap[w.heap.size]? = some (.cells #[.int .i64 0, .int .u8 0, .int .i64 0] 115) ∧ Kp w w3) := ⟨bl_kp B2.out.1 kq, B2.out.2.trans kq⟩
  clear kq B2
  go_wp2_with fail
  refine (has_any (spec true) b _ hb256).mono ?_
  rintro e w4 ⟨rfl, kq⟩
  rw [H3.out]
  have B4 : Hid (w4.heap[w.heap.size]? = some (.cells #[.int .i64 0, .int .u8 0, .int .i64 0] 115) ∧ Kp w w4) := ⟨bl_kp B3.out.1 kq, B3.out.2.trans kq⟩
  clear kq B3
  have z := B4.out.1
  have f0 := bl_frozen z 0
  have f1 := bl_frozen z 1
  have f2 := bl_frozen z 2
  obtain ⟨c0, c1, c2⟩ := cells3 z
  clear z
  go_wp2_with fail
  exact bodyPost_ret (v := .agg #[_, _, _]) (sg_ret rfl _ _ _ _ _ _ rfl (bl_set3 B4.out.1 _ _ _)) rfl ⟨by rw [E.out]; rfl, (ks_set3 _ _ _).up B4.out.2 (Nat.le_refl _)⟩
 | false =>
  have E : Hid (quoted t false = (framing b, b, 2)) := by show _ = _; rw [hq]; unfold qs; rw [if_neg h1, h2, if_neg (by simp), h3]; rfl
  clear hq h2 h3
  go_enter Tryz.func98, Tryz.ntmps98
  go_upto_region 1 with fail
  obtain ⟨W0, hW0⟩ : ∃ W, w.alloc (.cells #[.int .i64 0, .int .u8 0, .int .i64 0] 115) = W := ⟨_, rfl⟩
  rw [hW0]
  have B0 : Hid (W0.heap[w.heap.size]? = some (.cells #[.int .i64 0, .int .u8 0, .int .i64 0] 115) ∧ Kp w W0) := by subst hW0; exact ⟨last_of _ _, (Kp.refl _).alloc _⟩
  clear hW0
  go_wp2_with fail
  refine (range_any 48 57 _ (by omega) (by omega)).mono ?_
  rintro e w1 ⟨rfl, kq⟩
  have B1 : Hid (w1.heap[w.heap.size]? = some (.cells #[.int .i64 0, .int .u8 0, .int .i64 0] 115) ∧ Kp w w1) := ⟨bl_kp B0.out.1 kq, B0.out.2.trans kq⟩
  clear kq B0
  go_wp2_with fail
  refine (has_any (rng 48 57) b _ hb256).mono ?_
  rintro e w2 ⟨rfl, kq⟩
  rw [H2.out]
  have B2 : Hid (w2.heap[w.heap.size]? = some (.cells #[.int .i64 0, .int .u8 0, .int .i64 0] 115) ∧ Kp w w2) := ⟨bl_kp B1.out.1 kq, B1.out.2.trans kq⟩
  clear kq B1
  go_wp2_with fail
  refine (special_any false _).mono ?_
  rintro e w3 ⟨rfl, kq⟩
  have B3 : Hid (w3.heap[w.heap.size]? = some (.cells #[.int .i64 0, .int .u8 0, .int .i64 0] 115) ∧ Kp w w3) := ⟨bl_kp B2.out.1 kq, B2.out.2.trans kq⟩
  clear kq B2
  go_wp2_with fail
  refine (has_any (spec false) b _ hb256).mono ?_
  rintro e w4 ⟨rfl, kq⟩
  rw [H3.out]
  have B4 : Hid (w4.heap[w.heap.size]? = some (.cells #[.int .i64 0, .int .u8 0, .int .i64 0] 115) ∧ Kp w w4) := ⟨bl_kp B3.out.1 kq, B3.out.2.trans kq⟩
  clear kq B3
  go_wp2_with fail
  refine (framing_any b _).mono ?_
  rintro e w4 ⟨rfl, rfl⟩
  have z := B4.out.1
  have f0 := bl_frozen z 0
  have f1 := bl_frozen z 1
  have f2 := bl_frozen z 2
  obtain ⟨c0, c1, c2⟩ := cells3 z
  clear z
  go_wp2_with fail
  exact bodyPost_ret (v := .agg #[_, _, _]) (sg_ret rfl _ _ _ _ _ _ rfl (bl_set3 B4.out.1 _ _ _)) rfl ⟨by rw [E.out]; rfl, (ks_set3 _ _ _).up B4.out.2 (Nat.le_refl _)⟩

end Go.Proofs.YtnajcnhgeggngaaGreat

/-! ### Sign3 -/

namespace Go.Proofs.YtnajcnhgeggngaaGreat
set_option maxHeartbeats 2000000
set_option maxRecDepth 100000
open Go.RowKit

def sgn (s : ByteArray) (ere : Bool) (i : Nat) : Nat × Nat × Nat := if i = s.size then (1, 0, 0) else if ch s i = 92 then quoted (s.extract (i + 1) s.size) ere else (bare (ch s i) ere, ch s i, 1)

theorem signAt_any (s : ByteArray) (ere : Bool) (i : Nat) (w : World) (hi : i ≤ s.size) (hs : s.size ≤ 1000000) :
  Calls Tryz.prog 70 #[.string s, .int .i64 (i : Int), .bool ere] w fun e w' => e = .returned (sg (sgn s ere i)) ∧ Kp w w' := by
 by_cases h0 : i = s.size
 ·
  have E : Hid (sgn s ere i = (1, 0, 0)) := by show _ = _; unfold sgn; rw [if_pos h0]
  have g0 : ((i : Int) == (s.size : Int)) = true := by rw [h0]; simp
  have g0' : (i : Int) = (s.size : Int) := by omega
  go_enter Tryz.func70, Tryz.ntmps70
  go_upto_region 1 with fail
  obtain ⟨W0, hW0⟩ : ∃ W, w.alloc (.cells #[.int .i64 0, .int .u8 0, .int .i64 0] 115) = W := ⟨_, rfl⟩
  rw [hW0]
  have B0 : Hid (W0.heap[w.heap.size]? = some (.cells #[.int .i64 0, .int .u8 0, .int .i64 0] 115) ∧ Kp w W0) := by subst hW0; exact ⟨last_of _ _, (Kp.refl _).alloc _⟩
  clear hW0
  have z := B0.out.1
  have f0 := bl_frozen z 0
  have f1 := bl_frozen z 1
  have f2 := bl_frozen z 2
  obtain ⟨c0, c1, c2⟩ := cells3 z
  clear z
  go_wp2_with fail
  exact bodyPost_ret (v := .agg #[_, _, _]) (sg_ret rfl _ _ _ _ _ _ rfl (bl_set3 B0.out.1 _ _ _)) rfl ⟨by rw [E.out]; rfl, (ks_set3 _ _ _).up B0.out.2 (Nat.le_refl _)⟩
 have g0 : ((i : Int) == (s.size : Int)) = false := by simp; omega
 have g0' : ¬ (i : Int) = (s.size : Int) := by omega
 have hlt : i < s.size := by omega
 have ec := run_ch s i hlt
 obtain ⟨b, hb⟩ : ∃ b, ch s i = b := ⟨_, rfl⟩
 have hb256 : b < 256 := by rw [← hb]; exact ch_lt _ _
 rw [hb] at ec
 by_cases h1 : b = 92
 ·
  subst h1
  obtain ⟨x, y, z', hg⟩ : ∃ x y z', quoted (s.extract (i + 1) s.size) ere = (x, y, z') := ⟨_, _, _, rfl⟩
  have E : Hid (sgn s ere i = (x, y, z')) := by show _ = _; unfold sgn; rw [if_neg h0, if_pos hb, hg]
  have HG : Hid (quoted (s.extract (i + 1) s.size) ere = (x, y, z')) := hg
  have es : ∀ w, (Instr.slice 9 (.string s) (some (.int .i64 ((i : Int) + 1))) none none).run Tryz.prog w = .ok (.string (s.extract (i + 1) s.size)) w := by
   intro w
   rw [run_slice_string_from_if w 9 s .i64 ((i : Int) + 1) (by kernel_rfl), if_pos ⟨by omega, by omega⟩, show ((i : Int) + 1).toNat = i + 1 by omega]
  have gl1 : (0 : Int) ≤ (i : Int) + 1 := by omega
  have gl2 : (i : Int) + 1 ≤ (s.size : Int) := by omega
  rw [show ((92 : Nat) : Int) = 92 from rfl] at ec
  clear hb hg
  go_enter Tryz.func70, Tryz.ntmps70
  go_upto_region 1 with fail
  obtain ⟨W0, hW0⟩ : ∃ W, w.alloc (.cells #[.int .i64 0, .int .u8 0, .int .i64 0] 115) = W := ⟨_, rfl⟩
  rw [hW0]
  have B0 : Hid (W0.heap[w.heap.size]? = some (.cells #[.int .i64 0, .int .u8 0, .int .i64 0] 115) ∧ Kp w W0) := by subst hW0; exact ⟨last_of _ _, (Kp.refl _).alloc _⟩
  clear hW0
  go_wp2_with fail
  refine (quoted_any (s.extract (i + 1) s.size) ere _).mono ?_
  rintro e w1 ⟨rfl, kq⟩
  rw [HG.out, sg3]
  have B1 : Hid (w1.heap[w.heap.size]? = some (.cells #[.int .i64 0, .int .u8 0, .int .i64 0] 115) ∧ Kp w w1) := ⟨bl_kp B0.out.1 kq, B0.out.2.trans kq⟩
  clear kq B0
  have z := B1.out.1
  have f0 := bl_frozen z 0
  have f1 := bl_frozen z 1
  have f2 := bl_frozen z 2
  obtain ⟨c0, c1, c2⟩ := cells3 z
  clear z
  go_wp2_with fail
  exact bodyPost_ret (v := .agg #[_, _, _]) (sg_ret rfl _ _ _ _ _ _ rfl (bl_set3 B1.out.1 _ _ _)) rfl ⟨by rw [E.out]; rfl, (ks_set3 _ _ _).up B1.out.2 (Nat.le_refl _)⟩
 have E : Hid (sgn s ere i = (bare b ere, b, 1)) := by show _ = _; unfold sgn; rw [if_neg h0, hb, if_neg h1]
 have g1 : ((b : Int) == 92) = false := by simp; omega
 have g1' : ¬ (b : Int) = 92 := by omega
 clear hb
 go_enter Tryz.func70, Tryz.ntmps70
 go_upto_region 1 with fail
 obtain ⟨W0, hW0⟩ : ∃ W, w.alloc (.cells #[.int .i64 0, .int .u8 0, .int .i64 0] 115) = W := ⟨_, rfl⟩
 rw [hW0]
 have B0 : Hid (W0.heap[w.heap.size]? = some (.cells #[.int .i64 0, .int .u8 0, .int .i64 0] 115) ∧ Kp w W0) := by subst hW0; exact ⟨last_of _ _, (Kp.refl _).alloc _⟩
 clear hW0
 go_wp2_with fail
 have Q0 : Kp W0 W0.drew := (Kp.refl _).drew
 have MK : Hid (∀ W, Kp W0 W → Hid (Kp W0 W)) := fun W k => k
 refine wp_region_noPanic ?_
 refine hdrewZ 9 MK Q0 (fun hH => ?_)
 have KQ := Q0
 refine zk 9 0 [] (some 22) (Op.move (Operand.tmp 0)) 9 (v := ?v0b1) rfl ?h0b1 hH ?_
 case h0b1 => intro _ _; go_simp; try with_reducible rfl
 try simp only [ps]
 refine zk 9 1 [] (some 23) (Op.move (Operand.tmp 1)) 3 (v := ?v1b2) rfl ?h1b2 hH ?_
 case h1b2 => intro _ _; go_simp; try with_reducible rfl
 try simp only [ps]
 refine zk 9 2 [] (some 24) (Op.index 9 (Operand.tmp 22) (Operand.tmp 23)) 5 (v := ?v2b3) rfl ?h2b3 hH ?_
 case h2b3 => intro _ _; go_simp; try with_reducible rfl
 try simp only [ps]
 refine zk 9 3 [] (some 25) (Op.move (Operand.tmp 2)) 4 (v := ?v3b4) rfl ?h3b4 hH ?_
 case h3b4 => intro _ _; go_simp; try with_reducible rfl
 try simp only [ps]
 refine zk 9 5 [] (some 27) (Op.move (Operand.tmp 0)) 9 (v := ?v5b5) rfl ?h5b5 hH ?_
 case h5b5 => intro _ _; go_simp; try with_reducible rfl
 try simp only [ps]
 refine zk 9 6 [] (some 28) (Op.move (Operand.tmp 1)) 3 (v := ?v6b6) rfl ?h6b6 hH ?_
 case h6b6 => intro _ _; go_simp; try with_reducible rfl
 try simp only [ps]
 refine zk 9 7 [] (some 29) (Op.index 9 (Operand.tmp 27) (Operand.tmp 28)) 5 (v := ?v7b7) rfl ?h7b7 hH ?_
 case h7b7 => intro _ _; go_simp; try with_reducible rfl
 try simp only [ps]
 refine anyZ_ready (rs := [4]) (by kernel_rfl) (by simp) ?_
 refine AllZ.cons (o := { dst := some 26, op := Op.call { callee := Callee.value (Operand.func 99), args := #[Operand.tmp 24, Operand.tmp 25], argTypes := #[5, 4] }, type := 3, pos := "sign.go:42", after := #[{ on := 2, ground := Ground.data }, { on := 3, ground := Ground.data }], guard := none }) rfl (fun K hKq => ?_) AllZ.nil
 go_simp
 refine (bare_any b ere _).mono ?_
 rintro e w1 ⟨rfl, hw⟩
 have kq : Kp W0 w1 := by rw [hw]; exact KQ
 have B1 : Hid (w1.heap[w.heap.size]? = some (.cells #[.int .i64 0, .int .u8 0, .int .i64 0] 115) ∧ Kp w w1) := ⟨bl_kp B0.out.1 kq, B0.out.2.trans kq⟩
 clear hw
 have z := B1.out.1
 have f0 := bl_frozen z 0
 have f1 := bl_frozen z 1
 have f2 := bl_frozen z 2
 obtain ⟨c0, c1, c2⟩ := cells3 z
 clear z
 refine hKq.out _ _ (MK.out _ kq) (fun hN => ?_)
 clear kq
 clear hKq K hH KQ
 have hH := hN
 clear hN
 have KQ := hH.out
 try simp only [ps]
 refine zk 9 8 [] (some 30) (Op.build 115 #[(0, Operand.tmp 26), (1, Operand.tmp 29), (2, Operand.const (Value.int IntKind.i64 1))]) 115 (v := ?v8b8) rfl ?h8b8 hH ?_
 case h8b8 => intro _ _; go_simp; try with_reducible rfl
 try simp only [ps]
 refine anyZ_ready (rs := [9]) (by kernel_rfl) (by simp) ?_
 refine AllZ.last (o := { dst := none, op := Op.store 115 (Operand.tmp 6) (Operand.tmp 30), type := 0, pos := "sign.go:42", after := #[{ on := 8, ground := Ground.data }, { on := 4, ground := Ground.chain }, { on := 0, ground := Ground.phase }, { on := 1, ground := Ground.phase }, { on := 2, ground := Ground.phase }, { on := 3, ground := Ground.phase }, { on := 4, ground := Ground.phase }, { on := 5, ground := Ground.phase }, { on := 6, ground := Ground.phase }, { on := 7, ground := Ground.phase }, { on := 8, ground := Ground.phase }], guard := none }) rfl (Or.inl rfl) (fun K hKq => ?_) AllZ.nil
 go_simp
 refine hKq.out _ _ ?_
 clear hKq K
 try simp only [ps]
 refine anyZ_done (by kernel_rfl) ?_ _
 refine NoPanic.normal ?_
 go_wp2_with fail
 exact bodyPost_ret (v := .agg #[_, _, _]) (sg_ret rfl _ _ _ _ _ _ rfl (bl_set3 B1.out.1 _ _ _)) rfl ⟨by rw [E.out]; rfl, (ks_set3 _ _ _).up B1.out.2 (Nat.le_refl _)⟩

abbrev rdr (s : ByteArray) (ere : Bool) (i n g d : Nat) : Obj := .cells #[.string s, .bool ere, .int .i64 (i : Int), .int .i64 (n : Int), .int .i64 (g : Int), .int .i64 (d : Int)] 65
structure Rd (w : World) (P : Nat) (s : ByteArray) (ere : Bool) (i n g d : Nat) : Prop where
 b : w.heap[P]? = some (rdr s ere i n g d)
 p : 0 < P
 v : ∃ m, w.cell? ⟨0, 0, none⟩ = some (.int .i64 m)
theorem Rd.lt {w : World} {P : Nat} {s : ByteArray} {ere : Bool} {i n g d : Nat} (h : Rd w P s ere i n g d) : P < w.heap.size := bl_lt h.b
theorem Rd.kp {w w' : World} {P : Nat} {s : ByteArray} {ere : Bool} {i n g d : Nat} (h : Rd w P s ere i n g d) (k : Kp w w') : Rd w' P s ere i n g d := ⟨bl_kp h.b k, h.p, by obtain ⟨m, hm⟩ := h.v; exact ⟨m, (k.cell (Nat.lt_trans h.p h.lt)).trans hm⟩⟩
theorem Rd.drew {w : World} {P : Nat} {s : ByteArray} {ere : Bool} {i n g d : Nat} (h : Rd w P s ere i n g d) : Rd w.drew P s ere i n g d := h.kp (Kp.refl _).drew
theorem Rd.cells {w : World} {P : Nat} {s : ByteArray} {ere : Bool} {i n g d : Nat} (h : Rd w P s ere i n g d) : w.cell? ⟨P, 0, none⟩ = some (.string s) ∧ w.cell? ⟨P, 1, none⟩ = some (.bool ere) ∧ w.cell? ⟨P, 2, none⟩ = some (.int .i64 (i : Int)) ∧ w.cell? ⟨P, 3, none⟩ = some (.int .i64 (n : Int)) ∧ w.cell? ⟨P, 4, none⟩ = some (.int .i64 (g : Int)) ∧ w.cell? ⟨P, 5, none⟩ = some (.int .i64 (d : Int)) :=
 ⟨bl_cell h.b 0 _ rfl, bl_cell h.b 1 _ rfl, bl_cell h.b 2 _ rfl, bl_cell h.b 3 _ rfl, bl_cell h.b 4 _ rfl, bl_cell h.b 5 _ rfl⟩
theorem Rd.ks {S P : Nat} {w w' : World} {s : ByteArray} {ere : Bool} {i n g d : Nat} (h : Rd w P s ere i n g d) (k : Ks S w w') (hne : P ≠ S) (h0 : S ≠ 0) : Rd w' P s ere i n g d := ⟨bl_ks h.b hne k, h.p, by
 obtain ⟨m, hm⟩ := h.v
 exact ⟨m, (World.cell?_of_block (w := w) (k.block 0 (Nat.lt_trans h.p h.lt) (Ne.symm h0))).trans hm⟩⟩
theorem Rd.put {w : World} {P : Nat} {s : ByteArray} {ere : Bool} {i n g d : Nat} (h : Rd w P s ere i n g d) (j : Nat) (u : Value) {i' n' g' d' : Nat} (hb : (w.setCell ⟨P, j, none⟩ u).heap[P]? = some (rdr s ere i' n' g' d')) : Rd (w.setCell ⟨P, j, none⟩ u) P s ere i' n' g' d' := ⟨hb, h.p, by
 obtain ⟨m, hm⟩ := h.v
 exact ⟨m, (World.cell?_of_block (w := w) (Below.heap_setCell w ⟨P, j, none⟩ u 0 (Nat.ne_of_lt h.p))).trans hm⟩⟩
theorem Rd.at {w : World} {P : Nat} {s : ByteArray} {ere : Bool} {i n g d : Nat} (h : Rd w P s ere i n g d) (j : Nat) : Rd (w.setCell ⟨P, 2, none⟩ (.int .i64 (j : Int))) P s ere j n g d := h.put 2 _ (bl_put h.b _)
theorem Rd.nodes {w : World} {P : Nat} {s : ByteArray} {ere : Bool} {i n g d : Nat} (h : Rd w P s ere i n g d) (j : Nat) : Rd (w.setCell ⟨P, 3, none⟩ (.int .i64 (j : Int))) P s ere i j g d := h.put 3 _ (bl_put h.b _)
theorem Rd.groups {w : World} {P : Nat} {s : ByteArray} {ere : Bool} {i n g d : Nat} (h : Rd w P s ere i n g d) (j : Nat) : Rd (w.setCell ⟨P, 4, none⟩ (.int .i64 (j : Int))) P s ere i n j d := h.put 4 _ (bl_put h.b _)
theorem Rd.deep {w : World} {P : Nat} {s : ByteArray} {ere : Bool} {i n g d : Nat} (h : Rd w P s ere i n g d) (j : Nat) : Rd (w.setCell ⟨P, 5, none⟩ (.int .i64 (j : Int))) P s ere i n g j := h.put 5 _ (bl_put h.b _)

theorem sign_any (s : ByteArray) (ere : Bool) (i n g d P : Nat) (w : World) (h : Rd w P s ere i n g d) (hi : i ≤ s.size) (hs : s.size ≤ 1000000) :
  Calls Tryz.prog 45 #[.pointer (some ⟨P, 0, none⟩)] w fun e w' => e = .returned (sg (sgn s ere i)) ∧ Kp w w' := by
 obtain ⟨x, y, z', hg⟩ : ∃ x y z', sgn s ere i = (x, y, z') := ⟨_, _, _, rfl⟩
 have HG : Hid (sgn s ere i = (x, y, z')) := hg
 have R : Hid (Rd w P s ere i n g d) := h
 clear h hg
 go_enter Tryz.func45, Tryz.ntmps45
 go_upto_region 1 with fail
 obtain ⟨W0, hW0⟩ : ∃ W, w.alloc (.cells #[.int .i64 0, .int .u8 0, .int .i64 0] 115) = W := ⟨_, rfl⟩
 rw [hW0]
 have B0 : Hid (W0.heap[w.heap.size]? = some (.cells #[.int .i64 0, .int .u8 0, .int .i64 0] 115) ∧ Kp w W0) := by subst hW0; exact ⟨last_of _ _, (Kp.refl _).alloc _⟩
 clear hW0
 go_wp2_with fail
 have r0 := R.out.kp B0.out.2
 have Q0 : Kp W0 W0.drew := (Kp.refl _).drew
 have MK : Hid (∀ W, Kp W0 W → W.cell? ⟨P, 0, none⟩ = some (.string s) ∧ W.cell? ⟨P, 1, none⟩ = some (.bool ere) ∧ W.cell? ⟨P, 2, none⟩ = some (.int .i64 (i : Int)) ∧ Hid (Kp W0 W)) := fun W k => ⟨(r0.kp k).cells.1, (r0.kp k).cells.2.1, (r0.kp k).cells.2.2.1, k⟩
 clear r0
 refine wp_region_noPanic ?_
 refine hdrewZ 13 MK Q0 (fun hH => ?_)
 have KQ := Q0
 refine zk 13 0 [] (some 3) (Op.move (Operand.tmp 0)) 95 (v := ?v0c1) rfl ?h0c1 hH ?_
 case h0c1 => intro _ _; go_simp; try with_reducible rfl
 try simp only [ps]
 refine zk 13 1 [] (some 4) (Op.nilCheck (Operand.tmp 3)) 0 (v := ?v1c2) rfl ?h1c2 hH ?_
 case h1c2 => intro _ _; go_simp; try with_reducible rfl
 try simp only [ps]
 refine zk 13 2 [] (some 5) (Op.fieldAddr 65 (Operand.tmp 4) 0) 0 (v := ?v2c3) rfl ?h2c3 hH ?_
 case h2c3 => intro _ _; go_simp; try with_reducible rfl
 try simp only [ps]
 refine zk 13 3 [] (some 6) (Op.load 9 (Operand.tmp 5)) 9 (v := ?v3c4) rfl ?h3c4 hH ?_
 case h3c4 => intro _ _; go_simp; try with_reducible rfl
 try simp only [ps]
 refine zk 13 4 [] (some 7) (Op.move (Operand.tmp 0)) 95 (v := ?v4c5) rfl ?h4c5 hH ?_
 case h4c5 => intro _ _; go_simp; try with_reducible rfl
 try simp only [ps]
 refine zk 13 5 [] (some 8) (Op.nilCheck (Operand.tmp 7)) 0 (v := ?v5c6) rfl ?h5c6 hH ?_
 case h5c6 => intro _ _; go_simp; try with_reducible rfl
 try simp only [ps]
 refine zk 13 6 [] (some 9) (Op.fieldAddr 65 (Operand.tmp 8) 2) 0 (v := ?v6c7) rfl ?h6c7 hH ?_
 case h6c7 => intro _ _; go_simp; try with_reducible rfl
 try simp only [ps]
 refine zk 13 7 [] (some 10) (Op.load 3 (Operand.tmp 9)) 3 (v := ?v7c8) rfl ?h7c8 hH ?_
 case h7c8 => intro _ _; go_simp; try with_reducible rfl
 try simp only [ps]
 refine zk 13 8 [] (some 11) (Op.move (Operand.tmp 0)) 95 (v := ?v8c9) rfl ?h8c9 hH ?_
 case h8c9 => intro _ _; go_simp; try with_reducible rfl
 try simp only [ps]
 refine zk 13 9 [] (some 12) (Op.nilCheck (Operand.tmp 11)) 0 (v := ?v9c10) rfl ?h9c10 hH ?_
 case h9c10 => intro _ _; go_simp; try with_reducible rfl
 try simp only [ps]
 refine zk 13 10 [] (some 13) (Op.fieldAddr 65 (Operand.tmp 12) 1) 0 (v := ?v10c11) rfl ?h10c11 hH ?_
 case h10c11 => intro _ _; go_simp; try with_reducible rfl
 try simp only [ps]
 refine zk 13 11 [] (some 14) (Op.load 4 (Operand.tmp 13)) 4 (v := ?v11c12) rfl ?h11c12 hH ?_
 case h11c12 => intro _ _; go_simp; try with_reducible rfl
 try simp only [ps]
 refine anyZ_ready (rs := [12]) (by kernel_rfl) (by simp) ?_
 refine AllZ.cons (o := { dst := some 15, op := Op.call { callee := Callee.value (Operand.func 70), args := #[Operand.tmp 6, Operand.tmp 10, Operand.tmp 14], argTypes := #[9, 3, 4] }, type := 115, pos := "parse.go:92", after := #[{ on := 3, ground := Ground.data }, { on := 7, ground := Ground.data }, { on := 11, ground := Ground.data }], guard := none }) rfl (fun K hKq => ?_) AllZ.nil
 go_simp
 refine (signAt_any s ere i _ hi hs).mono ?_
 rintro e w1 ⟨rfl, kq⟩
 rw [HG.out, sg3]
 have B1 : Hid (w1.heap[w.heap.size]? = some (.cells #[.int .i64 0, .int .u8 0, .int .i64 0] 115) ∧ Kp w w1) := ⟨bl_kp (bl_kp B0.out.1 KQ) kq, (B0.out.2.trans KQ).trans kq⟩
 have z := B1.out.1
 have f0 := bl_frozen z 0
 have f1 := bl_frozen z 1
 have f2 := bl_frozen z 2
 obtain ⟨c0, c1, c2⟩ := cells3 z
 refine hKq.out _ _ (MK.out _ (KQ.trans kq)) (fun hN => ?_)
 clear kq z
 clear hKq K hH KQ
 have hH := hN
 clear hN
 have KQ := hH.2.2.2.out
 try simp only [ps]
 refine anyZ_ready (rs := [13]) (by kernel_rfl) (by simp) ?_
 refine AllZ.last (o := { dst := none, op := Op.store 115 (Operand.tmp 2) (Operand.tmp 15), type := 0, pos := "parse.go:92", after := #[{ on := 12, ground := Ground.data }, { on := 12, ground := Ground.chain }, { on := 0, ground := Ground.phase }, { on := 1, ground := Ground.phase }, { on := 2, ground := Ground.phase }, { on := 3, ground := Ground.phase }, { on := 4, ground := Ground.phase }, { on := 5, ground := Ground.phase }, { on := 6, ground := Ground.phase }, { on := 7, ground := Ground.phase }, { on := 8, ground := Ground.phase }, { on := 9, ground := Ground.phase }, { on := 10, ground := Ground.phase }, { on := 11, ground := Ground.phase }, { on := 12, ground := Ground.phase }], guard := none }) rfl (Or.inl rfl) (fun K hKq => ?_) AllZ.nil
 go_simp
 refine hKq.out _ _ ?_
 clear hKq K
 try simp only [ps]
 refine anyZ_done (by kernel_rfl) ?_ _
 refine NoPanic.normal ?_
 go_wp2_with fail
 exact bodyPost_ret (v := .agg #[_, _, _]) (sg_ret rfl _ _ _ _ _ _ rfl (bl_set3 B1.out.1 _ _ _)) rfl ⟨by rw [HG.out]; rfl, (ks_set3 _ _ _).up B1.out.2 (Nat.le_refl _)⟩
end Go.Proofs.YtnajcnhgeggngaaGreat

/-! ### Rxs -/

namespace Go.Proofs.YtnajcnhgeggngaaGreat
open Go.RowKit

structure W4 where
 a : Nat
 b : Nat
 c : Nat
 d : Nat
deriving DecidableEq
def W4.of (p : Nat → Bool) : W4 := ⟨wd p 0, wd p 1, wd p 2, wd p 3⟩

inductive Rx where
 | mk (k mn mx n : Int) (s : W4) (kids : List Rx)

abbrev rxv (k mn mx n : Int) (s : W4) (ks : Value) : Value := .agg #[.int .i64 k, .int .i64 mn, .int .i64 mx, .int .i64 n, .int .u64 (s.a : Int), .int .u64 (s.b : Int), .int .u64 (s.c : Int), .int .u64 (s.d : Int), ks]
abbrev rxo (k mn mx n : Int) (s : W4) (ks : Value) : Obj := .cells #[.int .i64 k, .int .i64 mn, .int .i64 mx, .int .i64 n, .int .u64 (s.a : Int), .int .u64 (s.b : Int), .int .u64 (s.c : Int), .int .u64 (s.d : Int), ks] 27
abbrev rz : Value := .agg #[.int .i64 0, .int .i64 0, .int .i64 0, .int .i64 0, .int .u64 0, .int .u64 0, .int .u64 0, .int .u64 0, .slice none 0 0]
abbrev rzo : Obj := .cells #[.int .i64 0, .int .i64 0, .int .i64 0, .int .i64 0, .int .u64 0, .int .u64 0, .int .u64 0, .int .u64 0, .slice none 0 0] 27
theorem bl_set9 {w : World} {B : Nat} {a0 a1 a2 a3 a4 a5 a6 a7 a8 : Value} {t : TypeId} (h : w.heap[B]? = some (.cells #[a0, a1, a2, a3, a4, a5, a6, a7, a8] t)) (x0 x1 x2 x3 x4 x5 x6 x7 x8 : Value) :
  (((((((((w.setCell ⟨B, 0, none⟩ x0).setCell ⟨B, 1, none⟩ x1).setCell ⟨B, 2, none⟩ x2).setCell ⟨B, 3, none⟩ x3).setCell ⟨B, 4, none⟩ x4).setCell ⟨B, 5, none⟩ x5).setCell ⟨B, 6, none⟩ x6).setCell ⟨B, 7, none⟩ x7).setCell ⟨B, 8, none⟩ x8).heap[B]? = some (.cells #[x0, x1, x2, x3, x4, x5, x6, x7, x8] t) := by
 have h0 : (w.setCell ⟨B, 0, none⟩ x0).heap[B]? = some (.cells #[x0, a1, a2, a3, a4, a5, a6, a7, a8] t) := bl_put h x0
 have h1 : ((w.setCell ⟨B, 0, none⟩ x0).setCell ⟨B, 1, none⟩ x1).heap[B]? = some (.cells #[x0, x1, a2, a3, a4, a5, a6, a7, a8] t) := bl_put h0 x1
 have h2 : (((w.setCell ⟨B, 0, none⟩ x0).setCell ⟨B, 1, none⟩ x1).setCell ⟨B, 2, none⟩ x2).heap[B]? = some (.cells #[x0, x1, x2, a3, a4, a5, a6, a7, a8] t) := bl_put h1 x2
 have h3 : ((((w.setCell ⟨B, 0, none⟩ x0).setCell ⟨B, 1, none⟩ x1).setCell ⟨B, 2, none⟩ x2).setCell ⟨B, 3, none⟩ x3).heap[B]? = some (.cells #[x0, x1, x2, x3, a4, a5, a6, a7, a8] t) := bl_put h2 x3
 have h4 : (((((w.setCell ⟨B, 0, none⟩ x0).setCell ⟨B, 1, none⟩ x1).setCell ⟨B, 2, none⟩ x2).setCell ⟨B, 3, none⟩ x3).setCell ⟨B, 4, none⟩ x4).heap[B]? = some (.cells #[x0, x1, x2, x3, x4, a5, a6, a7, a8] t) := bl_put h3 x4
 have h5 : ((((((w.setCell ⟨B, 0, none⟩ x0).setCell ⟨B, 1, none⟩ x1).setCell ⟨B, 2, none⟩ x2).setCell ⟨B, 3, none⟩ x3).setCell ⟨B, 4, none⟩ x4).setCell ⟨B, 5, none⟩ x5).heap[B]? = some (.cells #[x0, x1, x2, x3, x4, x5, a6, a7, a8] t) := bl_put h4 x5
 have h6 : (((((((w.setCell ⟨B, 0, none⟩ x0).setCell ⟨B, 1, none⟩ x1).setCell ⟨B, 2, none⟩ x2).setCell ⟨B, 3, none⟩ x3).setCell ⟨B, 4, none⟩ x4).setCell ⟨B, 5, none⟩ x5).setCell ⟨B, 6, none⟩ x6).heap[B]? = some (.cells #[x0, x1, x2, x3, x4, x5, x6, a7, a8] t) := bl_put h5 x6
 have h7 : ((((((((w.setCell ⟨B, 0, none⟩ x0).setCell ⟨B, 1, none⟩ x1).setCell ⟨B, 2, none⟩ x2).setCell ⟨B, 3, none⟩ x3).setCell ⟨B, 4, none⟩ x4).setCell ⟨B, 5, none⟩ x5).setCell ⟨B, 6, none⟩ x6).setCell ⟨B, 7, none⟩ x7).heap[B]? = some (.cells #[x0, x1, x2, x3, x4, x5, x6, x7, a8] t) := bl_put h6 x7
 have h8 : (((((((((w.setCell ⟨B, 0, none⟩ x0).setCell ⟨B, 1, none⟩ x1).setCell ⟨B, 2, none⟩ x2).setCell ⟨B, 3, none⟩ x3).setCell ⟨B, 4, none⟩ x4).setCell ⟨B, 5, none⟩ x5).setCell ⟨B, 6, none⟩ x6).setCell ⟨B, 7, none⟩ x7).setCell ⟨B, 8, none⟩ x8).heap[B]? = some (.cells #[x0, x1, x2, x3, x4, x5, x6, x7, x8] t) := bl_put h7 x8
 exact h8
theorem ks_set9 {w : World} {B : Nat} (x0 x1 x2 x3 x4 x5 x6 x7 x8 : Value) :
  Ks B w (((((((((w.setCell ⟨B, 0, none⟩ x0).setCell ⟨B, 1, none⟩ x1).setCell ⟨B, 2, none⟩ x2).setCell ⟨B, 3, none⟩ x3).setCell ⟨B, 4, none⟩ x4).setCell ⟨B, 5, none⟩ x5).setCell ⟨B, 6, none⟩ x6).setCell ⟨B, 7, none⟩ x7).setCell ⟨B, 8, none⟩ x8) :=
 ((((((((((Ks.refl B w).set 0 x0).set 1 x1).set 2 x2).set 3 x3).set 4 x4).set 5 x5).set 6 x6).set 7 x7).set 8 x8)
theorem rx_ret {fn : Func} {p : Tmp} (h : fn.results = #[.cell p 27]) (tmps : Array Value) (w : World) (S : Nat) (cs : Array Value) (hp : tmps.getD p undef = .pointer (some ⟨S, 0, none⟩)) (hA : w.heap[S]? = some (.cells cs 27)) (hc : cs.size = 9) : (results fn tmps).run Tryz.prog w = .ok (.agg cs) w :=
 results_cell_row h tmps w S 27 _ (0, 0) _ hp hA Tryz.underlying27 rfl (by rw [hc]; kernel_rfl)

theorem Ks.alloc {P : Nat} {a b : World} (h : Ks P a b) (o : Obj) (hP : P ≤ b.heap.size) : Ks P a (b.alloc o) := h.kp ((Kp.refl _).alloc _) hP
theorem Ks.off {P S : Nat} {a b c : World} (h : Ks P a b) (k : Ks S b c) (hS : a.heap.size ≤ S) (hP : P < a.heap.size) : Ks P a c :=
 ⟨h.lo.trans (k.lo.mono (by omega)), fun x hx hne => (k.block x (Nat.lt_of_lt_of_le hx h.size) (by omega)).trans (h.block x hx hne)⟩

set_option maxRecDepth 100000 in
theorem node_any (k mn mx m : Int) (t : W4) (ad : Option Addr) (l c : Nat) (s : ByteArray) (ere : Bool) (i n g d P : Nat) (w : World) (h : Rd w P s ere i n g d) (hn : n ≤ 1000000000) :
  Calls Tryz.prog 47 #[.pointer (some ⟨P, 0, none⟩), rxv k mn mx m t (.slice ad l c)] w fun e w' => e = .returned (rxv k mn mx m t (.slice ad l c)) ∧ Rd w' P s ere i (n + 1) g d ∧ Ks P w w' := by
 have R : Hid (Rd w P s ere i n g d) := h
 have hP : P < w.heap.size := h.lt
 clear h
 go_enter Tryz.func47, Tryz.ntmps47
 go_upto_region 1 with fail
 obtain ⟨W0, hW0⟩ : ∃ W, (w.alloc (rxo k mn mx m t (.slice ad l c))).alloc rzo = W := ⟨_, rfl⟩
 rw [hW0]
 have R0 : Hid (Rd W0 P s ere i n g d ∧ Kp w W0) := by subst hW0; exact ⟨R.out.kp (((Kp.refl _).alloc _).alloc _), ((Kp.refl _).alloc _).alloc _⟩
 have A0 : Hid (W0.heap[w.heap.size]? = some (rxo k mn mx m t (.slice ad l c)) ∧ W0.heap[w.heap.size + 1]? = some rzo) := by subst hW0; exact ⟨bl_alloc (last_of _ _) _, last_at _ _ _ (by simp)⟩
 clear hW0
 have p3 := R0.out.1.cells.2.2.2.1
 have fp3 := bl_frozen R0.out.1.b 3
 have gw : IntKind.i64.wrap ((n : Int) + 1) = (n : Int) + 1 := by rw [IntKind.wrap_i64]; omega
 have ks0 : Hid (Ks P w W0) := R0.out.2.ks (Nat.le_of_lt hP)
 go_upto_region 2 with fail
 clear p3 fp3
 obtain ⟨W1, hW1⟩ : ∃ W, W0.setCell ⟨P, 3, none⟩ (.int .i64 ((n : Int) + 1)) = W := ⟨_, rfl⟩
 rw [hW1]
 have R1 : Hid (Rd W1 P s ere i (n + 1) g d ∧ Ks P w W1) := by subst hW1; exact ⟨R0.out.1.nodes (n + 1), ks0.out.set 3 _⟩
 have A1 : Hid (W1.heap[w.heap.size]? = some (rxo k mn mx m t (.slice ad l c)) ∧ W1.heap[w.heap.size + 1]? = some rzo) := by subst hW1; exact ⟨bl_set A0.out.1 (by omega) _, bl_set A0.out.2 (by omega) _⟩
 clear hW1
 obtain ⟨a0, a1, a2, a3, a4, a5, a6, a7, a8⟩ := cells9 (A1.out.1)
 obtain ⟨b0, fb0, b1, fb1, b2, fb2, b3, fb3, b4, fb4, b5, fb5, b6, fb6, b7, fb7, b8, fb8⟩ := cellf9 (A1.out.2)

 go_wp2_with fail
 refine bodyPost_ret (v := .agg _) (rx_ret rfl _ _ _ _ rfl (bl_set9 A1.out.2 _ _ _ _ _ _ _ _ _) rfl) rfl ⟨rfl, ?_, ?_⟩
 ·
  exact R1.out.1.ks (ks_set9 _ _ _ _ _ _ _ _ _) (by omega) (by omega)
 ·
  exact R1.out.2.off (ks_set9 _ _ _ _ _ _ _ _ _) (by omega) hP
end Go.Proofs.YtnajcnhgeggngaaGreat

/-! ### Mem -/

namespace Go.Proofs.YtnajcnhgeggngaaGreat
open Go.RowKit

def cellsOf : Value → List Value
 | .agg cs => cs.toList
 | _ => []
def CellsAt (w : World) (b o : Nat) (v : Value) : Prop := ∀ j u, (cellsOf v)[j]? = some u → w.cell? ⟨b, o + j, none⟩ = some u

mutual
def Is (w : World) (ok : Nat → Prop) : Rx → Value → Prop
 | .mk k mn mx n s kids, v => ∃ ad l c, v = rxv k mn mx n s (.slice ad l c) ∧ l = kids.length ∧ l ≤ c ∧ (kids ≠ [] → ∃ b o, ad = some ⟨b, o, none⟩ ∧ ok b ∧ b < w.heap.size ∧ IsL w ok kids b o)
def IsL (w : World) (ok : Nat → Prop) : List Rx → Nat → Nat → Prop
 | [], _, _ => True
 | t :: ts, b, o => (∃ v, Is w ok t v ∧ CellsAt w b o v) ∧ IsL w ok ts b (o + 9)
end

theorem CellsAt.turn {w w' : World} {b o : Nat} {v : Value} (h : CellsAt w b o v) (hb : w'.heap[b]? = w.heap[b]?) : CellsAt w' b o v := fun j u hj =>
 (World.cell?_of_block (w := w) (a := ⟨b, o + j, none⟩) hb).trans (h j u hj)

mutual
theorem Is.turn {w w' : World} {ok ok' : Nat → Prop} (hs : w.heap.size ≤ w'.heap.size) (hk : ∀ b, ok b → b < w.heap.size → ok' b ∧ w'.heap[b]? = w.heap[b]?) : ∀ (t : Rx) (v : Value), Is w ok t v → Is w' ok' t v
 | .mk k mn mx n s kids, v => by
  unfold Is
  rintro ⟨ad, l, c, h1, h2, h3, h4⟩
  refine ⟨ad, l, c, h1, h2, h3, fun hne => ?_⟩
  obtain ⟨b, o, h5, h6, h7, h8⟩ := h4 hne
  exact ⟨b, o, h5, (hk b h6 h7).1, Nat.lt_of_lt_of_le h7 hs, IsL.turn hs hk kids b o (hk b h6 h7).2 h8⟩
theorem IsL.turn {w w' : World} {ok ok' : Nat → Prop} (hs : w.heap.size ≤ w'.heap.size) (hk : ∀ b, ok b → b < w.heap.size → ok' b ∧ w'.heap[b]? = w.heap[b]?) : ∀ (ts : List Rx) (b o : Nat), w'.heap[b]? = w.heap[b]? → IsL w ok ts b o → IsL w' ok' ts b o
 | [], b, o => by unfold IsL; intro _ h; exact h
 | t :: ts, b, o => by
  unfold IsL
  rintro hb ⟨⟨v, h1, h2⟩, h3⟩
  exact ⟨⟨v, Is.turn hs hk t v h1, h2.turn hb⟩, IsL.turn hs hk ts b (o + 9) hb h3⟩
end

theorem Is.kp {w w' : World} {ok : Nat → Prop} {t : Rx} {v : Value} (h : Is w ok t v) (k : Kp w w') : Is w' ok t v := Is.turn k.size (fun b hb hl => ⟨hb, k.block b hl⟩) t v h
theorem Is.weak {w : World} {ok ok' : Nat → Prop} {t : Rx} {v : Value} (h : Is w ok t v) (hk : ∀ b, ok b → b < w.heap.size → ok' b) : Is w ok' t v := Is.turn (Nat.le_refl _) (fun b hb hl => ⟨hk b hb hl, rfl⟩) t v h
theorem Is.ks {P : Nat} {w w' : World} {ok : Nat → Prop} {t : Rx} {v : Value} (h : Is w ok t v) (k : Ks P w w') (hP : ∀ b, ok b → b < w.heap.size → b ≠ P) : Is w' ok t v := Is.turn k.size (fun b hb hl => ⟨hb, k.block b hl (hP b hb hl)⟩) t v h
theorem Is.grown {row : Option Nat} {w w' : World} {ok : Nat → Prop} {t : Rx} {v : Value} (h : Is w ok t v) (k : w.grownBy w' row) (hP : ∀ b, ok b → b < w.heap.size → some b ≠ row) : Is w' ok t v := Is.turn k.size (fun b hb hl => ⟨hb, k.block b hl (hP b hb hl)⟩) t v h

theorem Is.form {w : World} {ok : Nat → Prop} {t : Rx} {v : Value} (h : Is w ok t v) : ∃ k mn mx n s ad l c, v = rxv k mn mx n s (.slice ad l c) := by
 cases t with
 | mk k mn mx n s kids =>
  unfold Is at h
  obtain ⟨ad, l, c, h1, _⟩ := h
  exact ⟨k, mn, mx, n, s, ad, l, c, h1⟩
theorem Is.leaf (w : World) (ok : Nat → Prop) (k mn mx n : Int) (s : W4) : Is w ok (.mk k mn mx n s []) (rxv k mn mx n s (.slice none 0 0)) := by
 unfold Is
 exact ⟨none, 0, 0, rfl, rfl, Nat.le_refl _, fun h => absurd rfl h⟩

theorem IsL.get {w : World} {ok : Nat → Prop} : ∀ {ts : List Rx} {b o : Nat}, IsL w ok ts b o → ∀ (j : Nat) t, ts[j]? = some t → ∃ v, Is w ok t v ∧ CellsAt w b (o + 9 * j) v
 | [], b, o, _, j, t, hj => by simp at hj
 | x :: ts, b, o, h, j, t, hj => by
  unfold IsL at h
  cases j with
  | zero => simp at hj; subst hj; exact h.1
  | succ j =>
   have := IsL.get h.2 j t (by simpa using hj)
   rw [show o + 9 * (j + 1) = o + 9 + 9 * j by omega]
   exact this
theorem IsL.put {w : World} {ok : Nat → Prop} : ∀ {ts : List Rx} {b o : Nat}, (∀ (j : Nat) t, ts[j]? = some t → ∃ v, Is w ok t v ∧ CellsAt w b (o + 9 * j) v) → IsL w ok ts b o
 | [], b, o, _ => by unfold IsL; trivial
 | x :: ts, b, o, h => by
  unfold IsL
  refine ⟨h 0 x rfl, IsL.put fun j t hj => ?_⟩
  have := h (j + 1) t (by simpa using hj)
  rw [show o + 9 * (j + 1) = o + 9 + 9 * j by omega] at this
  exact this

def rowOf (vs : List Value) : List Value := vs.flatMap cellsOf
theorem rowOf_append (xs ys : List Value) : rowOf (xs ++ ys) = rowOf xs ++ rowOf ys := by simp [rowOf]
theorem rowOf_one (x : Value) : rowOf [x] = cellsOf x := by simp [rowOf]
theorem rowOf_at : ∀ (vs : List Value), (∀ v ∈ vs, (cellsOf v).length = 9) → ∀ (j : Nat) v, vs[j]? = some v → ∀ (i : Nat) u, (cellsOf v)[i]? = some u → (rowOf vs)[9 * j + i]? = some u
 | [], _, j, v, hj, _, _, _ => by simp at hj
 | x :: vs, h9, j, v, hj, i, u, hi => by
  have hx : (cellsOf x).length = 9 := h9 x (by simp)
  show (cellsOf x ++ rowOf vs)[9 * j + i]? = some u
  cases j with
  | zero =>
   simp at hj; subst hj
   rw [show 9 * 0 + i = i by omega, List.getElem?_append_left (List.getElem?_eq_some_iff.1 hi).1]
   exact hi
  | succ j =>
   rw [List.getElem?_append_right (by omega), hx, show 9 * (j + 1) + i - 9 = 9 * j + i by omega]
   exact rowOf_at vs (fun v hv => h9 v (by simp [hv])) j v (by simpa using hj) i u hi

structure RKids (base : Nat) (w : World) (v : Value) (ts : List Rx) : Prop where
 ex : ∃ vs : List Value, vs.length = ts.length ∧ w.ownsRow base 27 9 v ts.length (rowOf vs) ∧ ∀ (j : Nat) t u, ts[j]? = some t → vs[j]? = some u → Is w (fun b => base ≤ b ∧ v.ownBlock ≠ some b) t u

theorem RKids.nil (base : Nat) (w : World) : RKids base w (.slice none 0 0) [] := ⟨[], rfl, World.ownsRow_nil w base 27 9, fun j t u hj => by simp at hj⟩

theorem owns_same {w w' : World} {B e k n : Nat} {v : Value} {xs : List Value} (h : w.ownsRow B e k v n xs) (hk : ∀ b, v.ownBlock = some b → b < w.heap.size → w'.heap[b]? = w.heap[b]?) : w'.ownsRow B e k v n xs := by
 obtain ⟨h1, h2⟩ := h
 refine ⟨h1, ?_⟩
 rcases h2 with h2 | ⟨g, cap, cur, hv, hb, hg, hr⟩
 ·
  exact .inl h2
 ·
  exact .inr ⟨g, cap, cur, hv, hb, (hk g (by rw [hv]; rfl) (Array.getElem?_eq_some_iff.1 hg).1).trans hg, hr⟩

theorem RKids.turn {base : Nat} {w w' : World} {v : Value} {ts : List Rx} (h : RKids base w v ts) (hs : w.heap.size ≤ w'.heap.size) (hk : ∀ b, base ≤ b → b < w.heap.size → w'.heap[b]? = w.heap[b]?) : RKids base w' v ts := by
 obtain ⟨vs, h1, h2, h3⟩ := h.ex
 exact ⟨vs, h1, owns_same h2 (fun b hb hl => hk b (h2.lt b hb).1 hl), fun j t u hj hu => Is.turn hs (fun b hb hl => ⟨hb, hk b hb.1 hl⟩) t u (h3 j t u hj hu)⟩
theorem RKids.kp {base : Nat} {w w' : World} {v : Value} {ts : List Rx} (h : RKids base w v ts) (k : Kp w w') : RKids base w' v ts := h.turn k.size (fun b _ hl => k.block b hl)
theorem RKids.ks {P base : Nat} {w w' : World} {v : Value} {ts : List Rx} (h : RKids base w v ts) (k : Ks P w w') (hP : P < base) : RKids base w' v ts := h.turn k.size (fun b hb hl => k.block b hl (by omega))
theorem RKids.block {base : Nat} {w : World} {v : Value} {ts : List Rx} (h : RKids base w v ts) : ∀ b, v.ownBlock = some b → base ≤ b ∧ b < w.heap.size := by
 obtain ⟨vs, _, h2, _⟩ := h.ex
 exact h2.lt
theorem RKids.form {base : Nat} {w : World} {v : Value} {ts : List Rx} (h : RKids base w v ts) : ∃ ad c, v = .slice ad ts.length c ∧ ts.length ≤ c := by
 obtain ⟨vs, _, h2, _⟩ := h.ex
 rcases h2.2 with ⟨rfl, h0⟩ | ⟨g, cap, cur, hv, _, _, hc, _⟩
 ·
  exact ⟨none, 0, by rw [h0], by omega⟩
 ·
  exact ⟨_, cap, hv, hc⟩
theorem owns_cells {w : World} {B n : Nat} {v : Value} {xs : List Value} (h : w.ownsRow B 27 9 v n xs) (hn : 0 < n) : ∃ g cap, v = .slice (some ⟨g, 0, none⟩) n cap ∧ n ≤ cap ∧ B ≤ g ∧ g < w.heap.size ∧ ∀ (j : Nat) u, xs[j]? = some u → w.cell? ⟨g, j, none⟩ = some u := by
 obtain ⟨h1, h2⟩ := h
 rcases h2 with ⟨rfl, h0⟩ | ⟨g, cap, cur, hv, hb, hg, hc, _, _, ht⟩
 ·
  omega
 ·
  refine ⟨g, cap, hv, hc, hb, (Array.getElem?_eq_some_iff.1 hg).1, fun j u hj => ?_⟩
  rw [← ht, List.getElem?_take] at hj
  split at hj
  ·
   rw [Array.getElem?_toList] at hj; exact bl_cell hg j u hj
  ·
   exact absurd hj (by simp)

theorem RKids.get {base : Nat} {w : World} {v : Value} {ts : List Rx} (h : RKids base w v ts) (hn : 0 < ts.length) : ∃ g cap, v = .slice (some ⟨g, 0, none⟩) ts.length cap ∧ ts.length ≤ cap ∧ base ≤ g ∧ g < w.heap.size ∧ ∀ (j : Nat) t, ts[j]? = some t → ∃ u, Is w (fun b => base ≤ b ∧ v.ownBlock ≠ some b) t u ∧ CellsAt w g (9 * j) u := by
 obtain ⟨vs, h1, h2, h3⟩ := h.ex
 obtain ⟨g, cap, hv, hc, hb, hl, hcell⟩ := owns_cells h2 hn
 refine ⟨g, cap, hv, hc, hb, hl, fun j t hj => ?_⟩
 have hjl : j < vs.length := by rw [h1]; exact (List.getElem?_eq_some_iff.1 hj).1
 have hu : vs[j]? = some vs[j] := List.getElem?_eq_getElem hjl
 refine ⟨vs[j], h3 j t _ hj hu, fun i x hi => hcell _ _ (rowOf_at vs ?_ j _ hu i x hi)⟩
 intro y hy
 obtain ⟨q, hq⟩ := List.mem_iff_getElem?.1 hy
 have hq' : q < ts.length := by rw [← h1]; exact (List.getElem?_eq_some_iff.1 hq).1
 obtain ⟨k, mn, mx, n, s, ad, l, c, rfl⟩ := (h3 q _ y (List.getElem?_eq_getElem hq') hq).form
 rfl
theorem RKids.is {base : Nat} {w : World} {v : Value} {ts : List Rx} (h : RKids base w v ts) (k mn mx n : Int) (s : W4) : Is w (fun b => base ≤ b) (.mk k mn mx n s ts) (rxv k mn mx n s v) := by
 unfold Is
 by_cases hn : 0 < ts.length
 ·
  obtain ⟨g, cap, rfl, hc, hb, hl, hg⟩ := h.get hn
  refine ⟨_, _, cap, rfl, rfl, hc, fun _ => ⟨g, 0, rfl, hb, hl, IsL.put fun j t hj => ?_⟩⟩
  obtain ⟨u, h1, h2⟩ := hg j t hj
  refine ⟨u, h1.weak (fun b hb _ => hb.1), ?_⟩
  rw [Nat.zero_add]; exact h2
 ·
  obtain ⟨ad, c, rfl, hc⟩ := h.form
  exact ⟨ad, _, c, rfl, rfl, hc, fun hne => absurd (List.eq_nil_of_length_eq_zero (by omega)) hne⟩

theorem info27 : ∃ i, Tryz.prog.info? 27 = some i ∧ i.zero = some rz ∧ i.size = 9 ∧ i.bytes = 88 := by
 obtain ⟨i, hi, h0, h1, h2⟩ := info_parts (P := Tryz.prog) (e := 27) (z := rz) (size := 9) (bytes := 88) (by kernel_rfl)
 exact ⟨i, hi, h0, h1, h2⟩

theorem rx_one (k mn mx m : Int) (t : W4) (ad : Option Addr) (l c : Nat) : ∀ u ∈ cellsOf (rxv k mn mx m t (.slice ad l c)), u.oneCell' = true := by
 intro u hu
 simp [cellsOf] at hu
 rcases hu with rfl | rfl | rfl | rfl | rfl | rfl | rfl | rfl | rfl <;> rfl

theorem wpList_append_rx {ops : Array Oper} {rest : List Oper} {o : Oper} {a : Act} {Q : Exit → Act → World → Prop} (W : World) (hgd : o.guard = none) (s x : Operand)
  (ho : o.op = .call { callee := .builtin .append, args := #[s, x], argTypes := #[25, 25] })
  (base : Nat) (v : Value) (ts : List Rx) (r : Rx) (hs : a.eval s = v) (hK : Hid (RKids base W v ts)) (k mn mx m : Int) (t : W4) (ad : Option Addr) (l c : Nat)
  (hI : Hid (Is W (fun b => base ≤ b ∧ v.ownBlock ≠ some b) r (rxv k mn mx m t (.slice ad l c)))) (B : Nat) (hB : B = W.heap.size)
  (hx : a.eval x = .slice (some ⟨B, 0, none⟩) 1 1) (h63 : ts.length ≤ 1000000) (hbase : base ≤ W.heap.size)
  (h : ∀ v' w', RKids base w' v' (ts ++ [r]) → W.grownBy w' v.ownBlock → wpList Tryz.prog ops Q rest (a.put o.dst v') w') :
  wpList Tryz.prog ops Q (o :: rest) a (W.alloc (rxo k mn mx m t (.slice ad l c))) := by
 obtain ⟨i, hi, hz, hsz, hby⟩ := info27
 obtain ⟨vs, hv1, hv2, hv3⟩ := hK.out.ex
 have kal : Kp W (W.alloc (rxo k mn mx m t (.slice ad l c))) := (Kp.refl _).alloc _
 subst hB
 refine wpList_append_own_at (W.alloc (rxo k mn mx m t (.slice ad l c))) hgd s x 25 ho base 27 i rz 9 88 Tryz.underlying25 hi hz hsz hby rfl (by omega) v ts.length (rowOf vs) hs (owns_same hv2 fun b _ hl => kal.block b hl) ⟨W.heap.size, 0, none⟩ 1 1 (cellsOf (rxv k mn mx m t (.slice ad l c))) hx rfl ?_ (rx_one _ _ _ _ _ _ _ _) (by unfold maxLen; omega) (by omega) (by simp; omega) ?_
 ·
  intro j y hj
  have hn := last_of W (rxo k mn mx m t (.slice ad l c))
  rw [show (⟨W.heap.size, 0, none⟩ : Addr).add j = ⟨W.heap.size, j, none⟩ by simp [Addr.add]; exact Eq.symm]
  refine bl_cell hn j y ?_
  rw [← Array.getElem?_toList]; exact hj
 ·
  intro v' w' a1 a2 _ a4
  have hgr : W.grownBy w' v.ownBlock := ⟨a2.os.trans rfl, a2.tape.trans rfl, a2.output.trans rfl, Nat.le_trans kal.size a2.size, fun b hb hne => (a2.block b (Nat.lt_of_lt_of_le hb kal.size) hne).trans (kal.block b hb)⟩
  refine h v' w' ⟨vs ++ [rxv k mn mx m t (.slice ad l c)], by simp [hv1], ?_, ?_⟩ hgr
  ·
   rw [List.length_append, rowOf_append, rowOf_one]; exact a1
  ·
   have hok : ∀ b, (base ≤ b ∧ v.ownBlock ≠ some b) → b < W.heap.size → (base ≤ b ∧ v'.ownBlock ≠ some b) ∧ w'.heap[b]? = W.heap[b]? := by
    intro b hb hl
    refine ⟨⟨hb.1, ?_⟩, hgr.block b hl (Ne.symm hb.2)⟩
    rcases a4 with a4 | a4
    ·
     rw [a4]; exact hb.2
    ·
     rw [a4]; intro he; injection he with he; simp at he; omega
   intro j t' u hj hu
   by_cases hlt : j < ts.length
   ·
    rw [List.getElem?_append_left hlt] at hj
    rw [List.getElem?_append_left (by omega)] at hu
    exact Is.turn hgr.size hok t' u (hv3 j t' u hj hu)
   ·
    have hj0 : j = ts.length := by
     have := (List.getElem?_eq_some_iff.1 hj).1
     simp at this; omega
    subst hj0
    rw [List.getElem?_append_right (Nat.le_refl _)] at hj
    rw [List.getElem?_append_right (by omega), hv1] at hu
    simp at hj hu
    subst hj
    subst hu
    exact Is.turn hgr.size hok _ _ hI.out
end Go.Proofs.YtnajcnhgeggngaaGreat

/-! ### Fn -/

namespace Go.Proofs.YtnajcnhgeggngaaGreat
open Go.RowKit

theorem opq {P : Program} {c : Code} {Q : Exit → Act → World → Prop} {a : Act} {w : World} (R : World → Prop) (hr : R w) (h : ∀ W, R W → Code.wp P c Q a W) : Code.wp P c Q a w := h w hr
theorem opqC {P : Program} {f : FuncId} {xs : Array Value} {w : World} {post : Ending → World → Prop} (R : World → Prop) (hr : R w) (h : ∀ W, R W → Calls P f xs W post) : Calls P f xs w post := h w hr

theorem rx_ret2 {fn : Func} {p u : Tmp} (h : fn.results = #[.cell p 27, .tmp u]) (tmps : Array Value) (w : World) (S : Nat) (cs : Array Value) (x : Value) (hp : tmps.getD p undef = .pointer (some ⟨S, 0, none⟩)) (hu : tmps.getD u undef = x) (hA : w.heap[S]? = some (.cells cs 27)) (hc : cs.size = 9) : (results fn tmps).run Tryz.prog w = .ok (.tuple #[.agg cs, x]) w := by
 rw [results_cell_tmp h, hp, hu]
 have := run_loadVar_row (P := Tryz.prog) w S 27 27 cs (0, 0) _ hA Tryz.underlying27 rfl (by rw [hc]; kernel_rfl)
 simp [asAddr, Result.andThen, this]
theorem Ks.new {P S : Nat} {a b c : World} (h : Ks P a b) (k : Ks S b c) (hS : a.heap.size ≤ S) (hP : P < a.heap.size) : Ks P a c := h.off k hS hP
theorem Ks.kpt {P : Nat} {a b c : World} (h : Ks P a b) (k : Kp b c) (hP : P < a.heap.size) : Ks P a c := h.kp k (Nat.le_trans (Nat.le_of_lt hP) h.size)

abbrev sgo (x y z : Nat) : Obj := .cells #[.int .i64 (x : Int), .int .u8 (y : Int), .int .i64 (z : Int)] 115
abbrev sgz : Obj := .cells #[.int .i64 0, .int .u8 0, .int .i64 0] 115

set_option maxRecDepth 100000 in
theorem oneOf_any (p : Nat → Bool) (w : World) : Calls Tryz.prog 114 #[sv p] w fun e w' => e = .returned (rxv 1 0 0 0 (W4.of p) (.slice none 0 0)) ∧ Kp w w' := by
 go_enter Tryz.func114, Tryz.ntmps114
 go_wp2_with fail
 exact bodyPost_ret (v := .agg _) (rx_ret rfl _ _ _ _ rfl (last_at _ _ _ (by simp)) rfl) rfl ⟨rfl, ((Kp.refl _).alloc _).alloc _⟩

set_option maxRecDepth 100000 in
theorem repeatable_any (k : Int) (w : World) : Calls Tryz.prog 96 #[.int .i64 k] w fun e w' => e = .returned (.bool (k == 1 || k == 5 || k == 6)) ∧ w' = w := by
 go_enter Tryz.func96, Tryz.ntmps96
 cases h1 : (k == 1)
 ·
  cases h2 : (k == 5)
  ·
   go_wp2
   go_ret
   exact ⟨by simp, rfl⟩
  ·
   go_wp2
   go_ret
   exact ⟨by simp, rfl⟩
 ·
  go_wp2
  go_ret
  exact ⟨by simp, rfl⟩
end Go.Proofs.YtnajcnhgeggngaaGreat
