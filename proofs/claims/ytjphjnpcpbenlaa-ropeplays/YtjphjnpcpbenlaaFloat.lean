/-
  Whole numbers below 2^53 as float64: their sums, differences, orders and conversions are exact. Plain arithmetic on the format's words; nothing of the program.
-/
import Derived.Laws.ComplexArith
namespace Go.Proofs.Ytjphjnpcpbenlaa
open Ieee

theorem cut_even_zero (neg : Bool) (n : Nat) : Toward.even.cut neg n 0 = n := by
  simp [Toward.cut, Nat.mod_one]

theorem cut_even_exact (neg : Bool) (n d : Nat) (hn : n ≠ 0) : Toward.even.cut neg (n * 2 ^ d) d = n := by
  have hp : 0 < 2 ^ d := Nat.two_pow_pos _
  have hl : d ≤ (n * 2 ^ d).log2 + 2 := by
    have : d ≤ (n * 2 ^ d).log2 := by
      rw [Nat.le_log2 (Nat.mul_ne_zero hn (by omega))]
      exact Nat.le_mul_of_pos_left _ (by omega)
    omega
  have hg : 1 <<< min d ((n * 2 ^ d).log2 + 2) = 2 ^ d := by rw [Nat.min_eq_left hl, Nat.one_shiftLeft]
  simp only [Toward.cut, hg, Nat.mul_div_cancel _ hp, Nat.mul_mod_left]
  simp

theorem cut_zero_exact (neg : Bool) (n d : Nat) : Toward.zero.cut neg (n * 2 ^ d) d = n := by
  by_cases hn : n = 0
  · subst hn; simp [Toward.cut]
  have hp : 0 < 2 ^ d := Nat.two_pow_pos _
  have hl : d ≤ (n * 2 ^ d).log2 + 2 := by
    have : d ≤ (n * 2 ^ d).log2 := by
      rw [Nat.le_log2 (Nat.mul_ne_zero hn (by omega))]
      exact Nat.le_mul_of_pos_left _ (by omega)
    omega
  have hg : 1 <<< min d ((n * 2 ^ d).log2 + 2) = 2 ^ d := by rw [Nat.min_eq_left hl, Nat.one_shiftLeft]
  simp only [Toward.cut, hg, Nat.mul_div_cancel _ hp]
  simp

theorem log2_scale (n k : Nat) (hn : n ≠ 0) : (n * 2 ^ k).log2 = n.log2 + k := by
  have hp : 0 < 2 ^ k := Nat.two_pow_pos _
  have h0 : n * 2 ^ k ≠ 0 := Nat.mul_ne_zero hn (by omega)
  have h1 : 2 ^ (n.log2) ≤ n := Nat.log2_self_le hn
  have h2 : n < 2 ^ (n.log2 + 1) := Nat.lt_log2_self
  apply Nat.le_antisymm
  · have : (n * 2 ^ k).log2 < n.log2 + k + 1 := by
      rw [Nat.log2_lt h0]
      have : n * 2 ^ k < 2 ^ (n.log2 + 1) * 2 ^ k := Nat.mul_lt_mul_of_pos_right h2 hp
      rw [← Nat.pow_add] at this
      rw [show n.log2 + k + 1 = n.log2 + 1 + k by omega]; exact this
    omega
  · rw [Nat.le_log2 h0, Nat.pow_add]
    exact Nat.mul_le_mul_right _ h1

theorem log2_53 (n : Nat) (hn : n ≠ 0) (h : n < 2 ^ 53) : n.log2 ≤ 52 := by
  have := (Nat.log2_lt (k := 53) hn).2 h; omega

/-- The word of a whole number, written out. -/
theorem nearest_whole (neg : Bool) (n k : Nat) (hn : n ≠ 0) (h : n < 2 ^ 53) (_hk : k ≤ 1074) :
    double.nearest neg (n * 2 ^ k) (-(k : Int)) = double.word neg ((n.log2 + 1022) * 2 ^ 52 + n * 2 ^ (52 - n.log2)) := by
  have hp : 0 < 2 ^ k := Nat.two_pow_pos _
  have h0 : n * 2 ^ k ≠ 0 := Nat.mul_ne_zero hn (by omega)
  have hl := log2_53 n hn h
  have hsc := log2_scale n k hn
  have hup : n * 2 ^ (52 - n.log2) < 2 ^ 53 := by
    have h2 : n < 2 ^ (n.log2 + 1) := Nat.lt_log2_self
    have : n * 2 ^ (52 - n.log2) < 2 ^ (n.log2 + 1) * 2 ^ (52 - n.log2) := Nat.mul_lt_mul_of_pos_right h2 (Nat.two_pow_pos _)
    rw [← Nat.pow_add] at this
    rw [show n.log2 + 1 + (52 - n.log2) = 53 by omega] at this; exact this
  unfold Format.nearest
  rw [if_neg h0]
  have hlp : double.leastPlace = -1074 := by decide
  have hfb : ((double.fractionBits : Nat) : Int) = 52 := rfl
  have hbin : double.binade = 2 ^ 52 := rfl
  have hinf : double.infRung = 2047 * 2 ^ 52 := by decide
  have hlast : max (-(k : Int) + ((n * 2 ^ k).log2 : Nat) - (double.fractionBits : Nat)) double.leastPlace = (n.log2 : Int) - 52 := by
    rw [hsc, hlp, hfb]; omega
  simp only [hlast, hbin, hinf]
  rw [hlp]
  have hkept : Toward.even.cut neg ((n * 2 ^ k) <<< (-(k : Int) - ((n.log2 : Int) - 52)).toNat) ((n.log2 : Int) - 52 - -(k : Int)).toNat = n * 2 ^ (52 - n.log2) := by
    by_cases hle : n.log2 + k ≤ 52
    · rw [show ((n.log2 : Int) - 52 - -(k : Int)).toNat = 0 by omega, cut_even_zero, show (-(k : Int) - ((n.log2 : Int) - 52)).toNat = 52 - n.log2 - k by omega, Nat.shiftLeft_eq, Nat.mul_assoc, ← Nat.pow_add, show k + (52 - n.log2 - k) = 52 - n.log2 by omega]
    · rw [show (-(k : Int) - ((n.log2 : Int) - 52)).toNat = 0 by omega, Nat.shiftLeft_zero, show ((n.log2 : Int) - 52 - -(k : Int)).toNat = n.log2 + k - 52 by omega]
      have hsplit : n * 2 ^ k = (n * 2 ^ (52 - n.log2)) * 2 ^ (n.log2 + k - 52) := by
        rw [Nat.mul_assoc, ← Nat.pow_add, show 52 - n.log2 + (n.log2 + k - 52) = k by omega]
      rw [hsplit]
      exact cut_even_exact neg _ _ (Nat.mul_ne_zero hn (by have := Nat.two_pow_pos (52 - n.log2); omega))
  rw [hkept, show ((n.log2 : Int) - 52 - -1074).toNat = n.log2 + 1022 by omega, Nat.min_eq_left]
  have h3 : (n.log2 + 1022) * 2 ^ 52 ≤ 1074 * 2 ^ 52 := Nat.mul_le_mul_right _ (by omega)
  have h4 : (2 : Nat) ^ 53 = 2 * 2 ^ 52 := by decide
  rw [h4] at hup
  generalize (2 : Nat) ^ 52 = B at *
  generalize (n.log2 + 1022) * B = x at *
  generalize n * 2 ^ (52 - n.log2) = y at *
  omega

theorem nearest_scaled (neg : Bool) (n k : Nat) (hn : n ≠ 0) (h : n < 2 ^ 53) (hk : k ≤ 1074) :
    double.nearest neg (n * 2 ^ k) (-(k : Int)) = double.nearest neg n 0 := by
  rw [nearest_whole neg n k hn h hk]
  have := nearest_whole neg n 0 hn h (by omega)
  simp at this
  simpa using this.symm

/-- The float64 of a whole number. -/
def F (a : Int) : Nat := floatOfInt .f64 a

theorem F_eq (a : Int) : F a = double.nearest (decide (a < 0)) a.natAbs 0 := rfl
theorem F_zero : F 0 = 0 := by decide

theorem zero_scaled (k : Nat) : 0 = (0 : Int).natAbs * 2 ^ k := by simp

theorem stands_F (a : Int) (h : a.natAbs < 2 ^ 53) : ∃ m k : Nat, double.read (F a) = .number (decide (a < 0)) m (-(k : Int)) ∧ m = a.natAbs * 2 ^ k ∧ k ≤ 1074 := by
  by_cases ha : a = 0
  · subst ha
    have hz : ∃ k : Nat, double.read (F 0) = .number (decide ((0 : Int) < 0)) 0 (-(k : Int)) ∧ k ≤ 1074 := ⟨1074, by decide, by omega⟩
    obtain ⟨k, h1, h2⟩ := hz
    exact ⟨0, k, h1, zero_scaled k, h2⟩
  have hn : a.natAbs ≠ 0 := by omega
  generalize hneg : decide (a < 0) = neg
  rw [F_eq, hneg]
  generalize a.natAbs = n at *
  have hw := nearest_whole neg n 0 hn h (by omega)
  simp only [Nat.pow_zero, Nat.mul_one] at hw
  rw [show (-((0 : Nat) : Int)) = 0 by simp] at hw
  rw [hw]
  have hl := log2_53 n hn h
  have h1 : 2 ^ (n.log2) ≤ n := Nat.log2_self_le hn
  have h2 : n < 2 ^ (n.log2 + 1) := Nat.lt_log2_self
  have hlo : 2 ^ 52 ≤ n * 2 ^ (52 - n.log2) := by
    have : 2 ^ (n.log2) * 2 ^ (52 - n.log2) ≤ n * 2 ^ (52 - n.log2) := Nat.mul_le_mul_right _ h1
    rwa [← Nat.pow_add, show n.log2 + (52 - n.log2) = 52 by omega] at this
  have hup : n * 2 ^ (52 - n.log2) < 2 ^ 53 := by
    have : n * 2 ^ (52 - n.log2) < 2 ^ (n.log2 + 1) * 2 ^ (52 - n.log2) := Nat.mul_lt_mul_of_pos_right h2 (Nat.two_pow_pos _)
    rwa [← Nat.pow_add, show n.log2 + 1 + (52 - n.log2) = 53 by omega] at this
  refine ⟨n * 2 ^ (52 - n.log2), 52 - n.log2, ?_, rfl, by omega⟩
  generalize n * 2 ^ (52 - n.log2) = m at *
  generalize n.log2 = l at *
  have hlp : double.leastPlace = -1074 := by decide
  have hbin : double.binade = 4503599627370496 := by decide
  have hinf : double.infRung = 9218868437227405312 := by decide
  have hsw : double.signWeight = 9223372036854775808 := by decide
  have e52 : (2 : Nat) ^ 52 = 4503599627370496 := by decide
  have e53 : (2 : Nat) ^ 53 = 9007199254740992 := by decide
  rw [e52] at hlo ⊢; rw [e53] at hup
  have hr : ∀ r, 4503599627370496 ≤ r → r < 9218868437227405312 → double.read (double.word neg r) = .number neg (4503599627370496 + r % 4503599627370496) (-1074 + (r / 4503599627370496 - 1 : Nat)) := by
    intro r hr1 hr2
    unfold Format.read Format.word
    simp only [hsw, hbin, hinf, hlp]
    cases neg
    · have q1 : r / 9223372036854775808 % 2 = 0 := by omega
      have q2 : r % 9223372036854775808 = r := by omega
      simp [q1, q2, Nat.not_lt.2 hr1, hr2]
    · have q1 : (9223372036854775808 + r) / 9223372036854775808 % 2 = 1 := by omega
      have q2 : (9223372036854775808 + r) % 9223372036854775808 = r := by omega
      simp only [if_true, q1, q2, if_neg (Nat.not_lt.2 hr1), if_pos hr2]; rfl
  rw [hr _ (by omega) (by omega)]
  have e1 : 4503599627370496 + ((l + 1022) * 4503599627370496 + m) % 4503599627370496 = m := by omega
  have e2 : (-1074 : Int) + ((((l + 1022) * 4503599627370496 + m) / 4503599627370496 - 1 : Nat) : Int) = -((52 - l : Nat) : Int) := by omega
  rw [e1, e2]

theorem signed_scaled (a : Int) (k d : Nat) : signed (decide (a < 0)) (a.natAbs * 2 ^ k) d = a * 2 ^ (k + d) := by
  unfold signed
  rw [Nat.shiftLeft_eq, Nat.mul_assoc, ← Nat.pow_add]
  by_cases h : a < 0
  · simp only [h, decide_true, if_true]
    push_cast
    rw [show ((a.natAbs : Nat) : Int) = -a by omega, Int.neg_mul, Int.neg_neg]
  · simp only [h, decide_false]
    push_cast
    rw [show ((a.natAbs : Nat) : Int) = a by omega]

theorem signed_opp (a : Int) (k d : Nat) : signed (!decide (a < 0)) (a.natAbs * 2 ^ k) d = -a * 2 ^ (k + d) := by
  unfold signed
  rw [Nat.shiftLeft_eq, Nat.mul_assoc, ← Nat.pow_add]
  by_cases h : a < 0
  · simp only [h, decide_true, Bool.not_true]
    push_cast
    rw [show ((a.natAbs : Nat) : Int) = -a by omega]
  · simp only [h, decide_false, Bool.not_false, if_true]
    push_cast
    rw [show ((a.natAbs : Nat) : Int) = a by omega, Int.neg_mul]

/-- Two whole numbers added at a common place, and the exact sum written. -/
theorem write_total (s t : Bool) (c : Int) (K : Nat) (hK : K ≤ 1074) (hc : c.natAbs < 2 ^ 53) (hz : c = 0 → (s && t) = false) :
    double.write (.number (if c * 2 ^ K = 0 then s && t else decide (c * 2 ^ K < 0)) (c * 2 ^ K).natAbs (-(K : Int))) = F c := by
  have hp : (0 : Int) < 2 ^ K := Int.pow_pos (by decide)
  by_cases h0 : c = 0
  · subst h0
    have := hz rfl
    rw [Int.zero_mul, if_pos rfl, this, F_zero]
    simp [Format.write, Format.nearest, Format.word]
  have hne : c * 2 ^ K ≠ 0 := Int.mul_ne_zero h0 (by omega)
  have hneg : decide (c * 2 ^ K < 0) = decide (c < 0) := by
    rw [decide_eq_decide]
    constructor
    · intro h
      by_cases hc' : c < 0
      · exact hc'
      · have := Int.mul_nonneg (Int.not_lt.1 hc') (Int.le_of_lt hp); omega
    · intro h; exact Int.mul_neg_of_neg_of_pos h hp
  rw [if_neg hne, hneg, Int.natAbs_mul, Int.natAbs_pow]
  show double.nearest _ (c.natAbs * 2 ^ K) _ = _
  rw [nearest_scaled _ _ _ (by omega) hc hK]; rfl

theorem min_place (k j : Nat) : min (-(k : Int)) (-(j : Int)) = -((max k j : Nat) : Int) := by omega

theorem F_add (a b : Int) (ha : a.natAbs < 2 ^ 53) (hb : b.natAbs < 2 ^ 53) (hc : (a + b).natAbs < 2 ^ 53) : double.add (F a) (F b) = some (F (a + b)) := by
  obtain ⟨m, k, r1, e1, k1⟩ := stands_F a ha
  obtain ⟨n, j, r2, e2, k2⟩ := stands_F b hb
  unfold Format.add
  rw [r1, r2]
  simp only [Datum.sum, Option.map_some, Option.some.injEq]
  rw [min_place]
  rw [show ((-(k : Int)) - -((max k j : Nat) : Int)).toNat = max k j - k by omega, show ((-(j : Int)) - -((max k j : Nat) : Int)).toNat = max k j - j by omega, e1, e2, signed_scaled, signed_scaled, show k + (max k j - k) = max k j by omega, show j + (max k j - j) = max k j by omega, ← Int.add_mul]
  exact write_total _ _ _ _ (by omega) hc (by intro h; simp; omega)

theorem F_sub (a b : Int) (ha : a.natAbs < 2 ^ 53) (hb : b.natAbs < 2 ^ 53) (hc : (a - b).natAbs < 2 ^ 53) : double.sub (F a) (F b) = some (F (a - b)) := by
  obtain ⟨m, k, r1, e1, k1⟩ := stands_F a ha
  obtain ⟨n, j, r2, e2, k2⟩ := stands_F b hb
  unfold Format.sub
  rw [r1, r2]
  simp only [Datum.opposite, Datum.sum, Option.map_some, Option.some.injEq]
  rw [min_place]
  rw [show ((-(k : Int)) - -((max k j : Nat) : Int)).toNat = max k j - k by omega, show ((-(j : Int)) - -((max k j : Nat) : Int)).toNat = max k j - j by omega, e1, e2, signed_scaled, signed_opp, show k + (max k j - k) = max k j by omega, show j + (max k j - j) = max k j by omega, ← Int.add_mul, ← Int.sub_eq_add_neg]
  exact write_total _ _ _ _ (by omega) hc (by intro h; simp; omega)

theorem F_order (a b : Int) (ha : a.natAbs < 2 ^ 53) (hb : b.natAbs < 2 ^ 53) : double.order (F a) (F b) = some (compare a b) := by
  obtain ⟨m, k, r1, e1, k1⟩ := stands_F a ha
  obtain ⟨n, j, r2, e2, k2⟩ := stands_F b hb
  unfold Format.order
  rw [r1, r2]
  simp only [Datum.order, Option.some.injEq]
  rw [min_place]
  rw [show ((-(k : Int)) - -((max k j : Nat) : Int)).toNat = max k j - k by omega, show ((-(j : Int)) - -((max k j : Nat) : Int)).toNat = max k j - j by omega, e1, e2, signed_scaled, signed_scaled, show k + (max k j - k) = max k j by omega, show j + (max k j - j) = max k j by omega]
  have hp : (0 : Int) < 2 ^ (max k j) := Int.pow_pos (by decide)
  generalize (2 : Int) ^ (max k j) = p at *
  simp only [compare, compareOfLessAndEq]
  have h1 : a * p < b * p ↔ a < b := Int.mul_lt_mul_right hp
  have h2 : a * p = b * p ↔ a = b := Int.mul_eq_mul_right_iff (by omega)
  simp only [h1, h2]

theorem F_int (a : Int) (ha : a.natAbs < 2 ^ 53) : floatToIntVal .f64 (F a) .i64 = some a := by
  obtain ⟨m, k, r1, e1, k1⟩ := stands_F a ha
  have hd : FloatKind.decode .f64 (F a) = .number (decide (a < 0)) m (-(k : Int)) := r1
  unfold floatToIntVal
  have ht : (FloatKind.decode .f64 (F a)).toInt .zero = some a := by
    rw [hd]
    simp only [Datum.toInt, Datum.integral]
    rw [show (-(k : Int)).toNat = 0 by omega, Nat.shiftLeft_zero, show (- -(k : Int)).toNat = k by omega, e1, cut_zero_exact]
    have := signed_scaled a 0 0
    simp at this
    rw [this]
  rw [ht]
  have e53 : (2 : Nat) ^ 53 = 9007199254740992 := by decide
  rw [e53] at ha
  have hmin : IntKind.min .i64 = -9223372036854775808 := by decide
  have hmax : IntKind.max .i64 = 9223372036854775807 := by decide
  simp only [hmin, hmax]
  rw [if_pos (by omega)]
end Go.Proofs.Ytjphjnpcpbenlaa
