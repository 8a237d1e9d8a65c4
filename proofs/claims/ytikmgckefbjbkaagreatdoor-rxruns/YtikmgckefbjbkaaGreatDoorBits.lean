/-
  Sets of bytes as predicates, and the words that hold them: plain facts on numbers; nothing of the program.
-/
import Derived.Laws.BitsAllLaws
import Derived.Laws.Bits64
namespace Go.Proofs.YtikmgckefbjbkaaGreatDoor

/-- The number whose digits in base B are f 0, f 1, .. (n of them). -/
def hn (B : Nat) : (Nat → Nat) → Nat → Nat
  | _, 0 => 0
  | f, n + 1 => f 0 + B * hn B (fun i => f (i + 1)) n

theorem hn_add (B : Nat) (n : Nat) : ∀ f g : Nat → Nat, hn B f n + hn B g n = hn B (fun i => f i + g i) n := by
  induction n with
  | zero => intro f g; rfl
  | succ n ih => intro f g; simp only [hn]; rw [← ih]; rw [Nat.mul_add]; omega

theorem hn_congr (B : Nat) (n : Nat) : ∀ f g : Nat → Nat, (∀ i, i < n → f i = g i) → hn B f n = hn B g n := by
  induction n with
  | zero => intro f g _; rfl
  | succ n ih =>
    intro f g h
    simp only [hn]
    rw [h 0 (by omega), ih _ (fun i => g (i + 1)) (fun i hi => h (i + 1) (by omega))]

theorem hn_lt (B : Nat) (n : Nat) : ∀ f : Nat → Nat, (∀ i, i < n → f i < B) → hn B f n < B ^ n := by
  induction n with
  | zero => intro f _; simp [hn]
  | succ n ih =>
    intro f h
    have h1 := ih (fun i => f (i + 1)) (fun i hi => h (i + 1) (by omega))
    have h0 := h 0 (by omega)
    simp only [hn]
    rw [Nat.pow_succ, Nat.mul_comm (B ^ n) B]
    have : B * (hn B (fun i => f (i + 1)) n + 1) ≤ B * B ^ n := Nat.mul_le_mul_left _ h1
    rw [Nat.mul_add] at this; omega

theorem hn_last (B : Nat) (n : Nat) : ∀ f : Nat → Nat, f n = 0 → hn B f (n + 1) = hn B f n := by
  induction n with
  | zero => intro f h; simp [hn, h]
  | succ n ih => intro f h; rw [hn, ih (fun i => f (i + 1)) h]; rfl

theorem hn_div (B : Nat) (hB : 0 < B) (n : Nat) (f : Nat → Nat) (hf : ∀ i, f i < B) (h0 : ∀ i, n ≤ i → f i = 0) : hn B f n / B = hn B (fun i => f (i + 1)) n := by
  rw [← hn_last B n f (h0 n (Nat.le_refl _))]
  rw [hn, Nat.add_mul_div_left _ _ hB, Nat.div_eq_of_lt (hf 0), Nat.zero_add]

/-- Two rows of bits, parted at k. -/
theorem and_parts (k a b c d : Nat) (ha : a < 2 ^ k) (hc : c < 2 ^ k) : (a + 2 ^ k * b) &&& (c + 2 ^ k * d) = (a &&& c) + 2 ^ k * (b &&& d) := by
  have hac : a &&& c < 2 ^ k := Nat.and_lt_two_pow _ hc
  apply Nat.eq_of_testBit_eq
  intro i
  rw [Nat.testBit_and, Nat.add_comm a, Nat.add_comm c, Nat.add_comm (a &&& c)]
  rw [Nat.testBit_two_pow_mul_add _ ha, Nat.testBit_two_pow_mul_add _ hc, Nat.testBit_two_pow_mul_add _ hac]
  split
  · rw [Nat.testBit_and]
  · rw [Nat.testBit_and]

/-- Every other digit, by the mask of all ones there. -/
theorem hn_even (k : Nat) (n : Nat) : ∀ f : Nat → Nat, (∀ i, f i < 2 ^ k) →
    hn (2 ^ k) f (2 * n) &&& hn (2 ^ (k + k)) (fun _ => 2 ^ k - 1) n = hn (2 ^ (k + k)) (fun i => f (2 * i)) n := by
  induction n with
  | zero => intro f _; simp [hn]
  | succ n ih =>
    intro f hf
    have e : hn (2 ^ k) f (2 * (n + 1)) = (f 0 + 2 ^ k * f 1) + 2 ^ (k + k) * hn (2 ^ k) (fun i => f (i + 2)) (2 * n) := by
      rw [show 2 * (n + 1) = 2 * n + 1 + 1 from rfl, hn, hn, Nat.mul_add, Nat.pow_add, Nat.mul_assoc, Nat.add_assoc]
    have p : 0 < 2 ^ k := Nat.two_pow_pos k
    have l1 : f 0 + 2 ^ k * f 1 < 2 ^ (k + k) := by
      have := hf 0
      have : 2 ^ k * (f 1 + 1) ≤ 2 ^ k * 2 ^ k := Nat.mul_le_mul_left _ (hf 1)
      rw [Nat.pow_add]; rw [Nat.mul_add] at this; omega
    have l2 : 2 ^ k - 1 < 2 ^ (k + k) := by
      have : 2 ^ k * 1 ≤ 2 ^ k * 2 ^ k := Nat.mul_le_mul_left _ p
      rw [Nat.pow_add]; omega
    have m1 : (f 0 + 2 ^ k * f 1) &&& (2 ^ k - 1) = f 0 := by
      rw [Nat.and_two_pow_sub_one_eq_mod, Nat.add_mul_mod_self_left, Nat.mod_eq_of_lt (hf 0)]
    have := ih (fun i => f (i + 2)) (fun i => hf (i + 2))
    rw [e, hn, and_parts _ _ _ _ _ l1 l2, m1, this, hn]
    rfl

/-- The sum of the first n. -/
def sm (f : Nat → Nat) : Nat → Nat
  | 0 => 0
  | n + 1 => sm f n + f n

/-- math/bits' OnesCount64 on the words of numbers. -/
def pop (x : Nat) : Nat :=
  let a := (x / 2 &&& 6148914691236517205) + (x &&& 6148914691236517205)
  let b := (a / 4 &&& 3689348814741910323) + (a &&& 3689348814741910323)
  let c := (b / 16 + b) &&& 1085102592571150095
  let d := c + c / 256
  let e := d + d / 65536
  let g := e + e / 4294967296
  g % 128

theorem pop_eq (f : Nat → Nat) (hf : ∀ i, f i < 2) (h0 : ∀ i, 64 ≤ i → f i = 0) : pop (hn 2 f 64) = sm f 64 := by
  have ha : (hn 2 f 64 / 2 &&& 6148914691236517205) + (hn 2 f 64 &&& 6148914691236517205) = hn 4 (fun i => f (2 * i + 1) + f (2 * i)) 32 := by
    have e1 := hn_even 1 32 f hf
    have e2 := hn_even 1 32 (fun i => f (i + 1)) (fun i => hf (i + 1))
    have d1 := hn_div 2 (by omega) 64 f hf h0
    rw [d1, show (6148914691236517205 : Nat) = hn (2 ^ (1 + 1)) (fun _ => 2 ^ 1 - 1) 32 by decide +kernel, e1, e2, hn_add]
  have hb : ∀ g : Nat → Nat, (∀ i, g i < 3) → (∀ i, 32 ≤ i → g i = 0) → (hn 4 g 32 / 4 &&& 3689348814741910323) + (hn 4 g 32 &&& 3689348814741910323) = hn 16 (fun i => g (2 * i + 1) + g (2 * i)) 16 := by
    intro g hg g0
    have hg' : ∀ i, g i < 2 ^ 2 := fun i => Nat.lt_trans (hg i) (by decide)
    have e1 := hn_even 2 16 g hg'
    have e2 := hn_even 2 16 (fun i => g (i + 1)) (fun i => hg' (i + 1))
    have d1 := hn_div 4 (by omega) 32 g hg' g0
    rw [d1, show (3689348814741910323 : Nat) = hn (2 ^ (2 + 2)) (fun _ => 2 ^ 2 - 1) 16 by decide +kernel, e1, e2, hn_add]
  have hc : ∀ g : Nat → Nat, (∀ i, g i < 5) → (∀ i, 16 ≤ i → g i = 0) → (hn 16 g 16 / 16 + hn 16 g 16) &&& 1085102592571150095 = hn 256 (fun i => g (2 * i + 1) + g (2 * i)) 8 := by
    intro g hg g0
    have d1 := hn_div 16 (by omega) 16 g (fun i => Nat.lt_trans (hg i) (by decide)) g0
    have e1 := hn_even 4 8 (fun i => g (i + 1) + g i) (fun i => by have := hg i; have := hg (i + 1); show g (i + 1) + g i < 16; omega)
    rw [d1, hn_add, show (1085102592571150095 : Nat) = hn (2 ^ (4 + 4)) (fun _ => 2 ^ 4 - 1) 8 by decide +kernel]
    exact e1
  have hd : ∀ g : Nat → Nat, (∀ i, g i < 9) → (∀ i, 8 ≤ i → g i = 0) → (let d := hn 256 g 8 + hn 256 g 8 / 256
      let e := d + d / 65536
      let q := e + e / 4294967296
      q % 128) = g 0 + g 1 + g 2 + g 3 + g 4 + g 5 + g 6 + g 7 := by
    intro g hg g0
    have d1 := hn_div 256 (by omega) 8 g (fun i => Nat.lt_trans (hg i) (by decide)) g0
    have hg1 : ∀ i, g i + g (i + 1) < 256 := fun i => by have := hg i; have := hg (i + 1); omega
    have g1 : ∀ i, 8 ≤ i → g i + g (i + 1) = 0 := fun i hi => by rw [g0 i hi, g0 (i + 1) (by omega)]
    have d2 : hn 256 (fun i => g i + g (i + 1)) 8 / 65536 = hn 256 (fun i => g (i + 2) + g (i + 3)) 8 := by
      rw [show 65536 = 256 * 256 from rfl, ← Nat.div_div_eq_div_mul, hn_div 256 (by omega) 8 _ hg1 g1, hn_div 256 (by omega) 8 _ (fun i => hg1 (i + 1)) (fun i hi => g1 (i + 1) (by omega))]
    have hg2 : ∀ i, g i + g (i + 1) + (g (i + 2) + g (i + 3)) < 256 := fun i => by have := hg i; have := hg (i + 1); have := hg (i + 2); have := hg (i + 3); omega
    have g2 : ∀ i, 8 ≤ i → g i + g (i + 1) + (g (i + 2) + g (i + 3)) = 0 := fun i hi => by rw [g0 i hi, g0 (i + 1) (by omega), g0 (i + 2) (by omega), g0 (i + 3) (by omega)]
    have d3 : hn 256 (fun i => g i + g (i + 1) + (g (i + 2) + g (i + 3))) 8 / 4294967296 = hn 256 (fun i => g (i + 4) + g (i + 5) + (g (i + 6) + g (i + 7))) 8 := by
      rw [show 4294967296 = 256 * 256 * 256 * 256 from rfl, ← Nat.div_div_eq_div_mul, ← Nat.div_div_eq_div_mul, ← Nat.div_div_eq_div_mul, hn_div 256 (by omega) 8 _ hg2 g2,
        hn_div 256 (by omega) 8 _ (fun i => hg2 (i + 1)) (fun i hi => g2 (i + 1) (by omega)), hn_div 256 (by omega) 8 _ (fun i => hg2 (i + 2)) (fun i hi => g2 (i + 2) (by omega)), hn_div 256 (by omega) 8 _ (fun i => hg2 (i + 3)) (fun i hi => g2 (i + 3) (by omega))]
    show (hn 256 g 8 + hn 256 g 8 / 256 + (hn 256 g 8 + hn 256 g 8 / 256) / 65536 + (hn 256 g 8 + hn 256 g 8 / 256 + (hn 256 g 8 + hn 256 g 8 / 256) / 65536) / 4294967296) % 128 = _
    rw [d1, hn_add, d2, hn_add, d3, hn_add, hn]
    have q0 := hg 0; have q1 := hg 1; have q2 := hg 2; have q3 := hg 3; have q4 := hg 4; have q5 := hg 5; have q6 := hg 6; have q7 := hg 7
    simp only [Nat.zero_add]
    omega
  simp only [pop]
  rw [ha, hb _ (fun i => by have := hf (2 * i); have := hf (2 * i + 1); omega) (fun i hi => by rw [h0 _ (by omega), h0 _ (by omega)]),
    hc _ (fun i => by have := hf (2 * (2 * i)); have := hf (2 * (2 * i) + 1); have := hf (2 * (2 * i + 1)); have := hf (2 * (2 * i + 1) + 1); omega)
      (fun i hi => by rw [h0 _ (by omega), h0 _ (by omega), h0 _ (by omega), h0 _ (by omega)])]
  have b4 : ∀ i, f (2 * (2 * i + 1) + 1) + f (2 * (2 * i + 1)) + (f (2 * (2 * i) + 1) + f (2 * (2 * i))) < 5 := fun i => by
    have := hf (2 * (2 * i)); have := hf (2 * (2 * i) + 1); have := hf (2 * (2 * i + 1)); have := hf (2 * (2 * i + 1) + 1); omega
  refine (hd _ (fun i => by have := b4 (2 * i); have := b4 (2 * i + 1); omega)
      (fun i hi => by simp only [h0 (2 * (2 * (2 * i + 1) + 1) + 1) (by omega), h0 (2 * (2 * (2 * i + 1) + 1)) (by omega), h0 (2 * (2 * (2 * i + 1)) + 1) (by omega), h0 (2 * (2 * (2 * i + 1))) (by omega), h0 (2 * (2 * (2 * i) + 1) + 1) (by omega), h0 (2 * (2 * (2 * i) + 1)) (by omega), h0 (2 * (2 * (2 * i)) + 1) (by omega), h0 (2 * (2 * (2 * i))) (by omega)])).trans ?_
  simp only [sm, Nat.reduceMul, Nat.reduceAdd, Nat.zero_add, Nat.mul_zero]
  omega

/-- Word i of the set of the bytes that p holds of. -/
def wd (p : Nat → Bool) (i : Nat) : Nat := hn 2 (fun j => if j < 64 then (p (64 * i + j)).toNat else 0) 64

theorem bit_lt (p : Nat → Bool) (i : Nat) : ∀ j, (fun j => if j < 64 then (p (64 * i + j)).toNat else 0) j < 2 := by
  intro j
  show (if j < 64 then (p (64 * i + j)).toNat else 0) < 2
  split
  · exact Bool.toNat_lt _
  · omega

theorem wd_lt (p : Nat → Bool) (i : Nat) : wd p i < 18446744073709551616 := by
  have := hn_lt 2 64 _ (fun j _ => bit_lt p i j)
  exact this

theorem hn_testBit (n : Nat) : ∀ (q : Nat → Bool) (j : Nat), (hn 2 (fun j => (q j).toNat) n).testBit j = (decide (j < n) && q j) := by
  induction n with
  | zero => intro q j; simp [hn]
  | succ n ih =>
    intro q j
    rw [hn]
    cases j with
    | zero =>
      rw [Nat.testBit_zero, Nat.add_mul_mod_self_left]
      cases q 0 <;> simp
    | succ j =>
      rw [Nat.testBit_succ, Nat.add_mul_div_left _ _ (by omega), Nat.div_eq_of_lt (Bool.toNat_lt _), Nat.zero_add, ih (fun i => q (i + 1)) j]
      simp

theorem wd_eq (p : Nat → Bool) (i : Nat) : wd p i = hn 2 (fun j => (p (64 * i + j)).toNat) 64 :=
  hn_congr 2 64 _ _ (fun j hj => by simp [hj])

theorem wd_testBit (p : Nat → Bool) (i j : Nat) : (wd p i).testBit j = (decide (j < 64) && p (64 * i + j)) := by
  rw [wd_eq, hn_testBit 64 (fun j => p (64 * i + j))]

theorem wd_congr (p q : Nat → Bool) (i : Nat) (h : ∀ j, j < 64 → p (64 * i + j) = q (64 * i + j)) : wd p i = wd q i := by
  rw [wd_eq, wd_eq]
  exact hn_congr 2 64 _ _ (fun j hj => by rw [h j hj])

theorem wd_or (p q : Nat → Bool) (i : Nat) : wd p i ||| wd q i = wd (fun k => p k || q k) i := by
  apply Nat.eq_of_testBit_eq
  intro j
  rw [Nat.testBit_or, wd_testBit, wd_testBit, wd_testBit]
  cases decide (j < 64) <;> rfl

theorem wd_not (p : Nat → Bool) (i : Nat) : wd p i + wd (fun k => !p k) i = 18446744073709551615 := by
  rw [wd_eq, wd_eq, hn_add]
  rw [hn_congr 2 64 _ (fun _ => 1) (fun j _ => by cases p (64 * i + j) <;> rfl)]
  decide +kernel

theorem wd_back (x : Nat) (hx : x < 18446744073709551616) (p : Nat → Bool) (i : Nat) (h : ∀ j, j < 64 → p (64 * i + j) = x.testBit j) : wd p i = x := by
  apply Nat.eq_of_testBit_eq
  intro j
  rw [wd_testBit]
  by_cases hj : j < 64
  · simp [hj, h j hj]
  · rw [Nat.testBit_lt_two_pow (Nat.lt_of_lt_of_le hx (Nat.pow_le_pow_right (n := 2) (i := 64) (by omega) (by omega)))]
    simp [hj]

/-- How many of the first n numbers p holds of. -/
def cnt (p : Nat → Bool) (n : Nat) : Nat := sm (fun j => (p j).toNat) n

theorem sm_add (f : Nat → Nat) (m n : Nat) : sm f (m + n) = sm f m + sm (fun j => f (m + j)) n := by
  induction n with
  | zero => rfl
  | succ n ih => rw [← Nat.add_assoc, sm, ih, sm, Nat.add_assoc]

theorem sm_congr (f g : Nat → Nat) (n : Nat) (h : ∀ j, j < n → f j = g j) : sm f n = sm g n := by
  induction n with
  | zero => rfl
  | succ n ih => rw [sm, sm, ih (fun j hj => h j (by omega)), h n (by omega)]

theorem sm_plus (f g : Nat → Nat) (n : Nat) : sm (fun j => f j + g j) n = sm f n + sm g n := by
  induction n with
  | zero => rfl
  | succ n ih => rw [sm, sm, sm, ih]; omega

theorem pop_wd (p : Nat → Bool) (i : Nat) : pop (wd p i) = sm (fun j => (p (64 * i + j)).toNat) 64 := by
  unfold wd
  rw [pop_eq _ (bit_lt p i) (fun j hj => by simp; omega)]
  exact sm_congr _ _ 64 (fun j hj => by simp [hj])

theorem cnt_words (p : Nat → Bool) : pop (wd p 0) + pop (wd p 1) + pop (wd p 2) + pop (wd p 3) = cnt p 256 := by
  simp only [pop_wd, cnt]
  rw [show 256 = 64 * 0 + 64 + 64 + 64 + 64 from rfl, sm_add, sm_add, sm_add]
  simp

theorem pop_le (p : Nat → Bool) (i : Nat) : pop (wd p i) ≤ 64 := by
  rw [pop_wd]
  have : ∀ (q : Nat → Bool) n, sm (fun j => (q j).toNat) n ≤ n := by
    intro q n
    induction n with
    | zero => exact Nat.le_refl _
    | succ n ih => have := Bool.toNat_lt (q n); rw [sm]; omega
  exact this _ 64

end Go.Proofs.YtikmgckefbjbkaaGreatDoor
