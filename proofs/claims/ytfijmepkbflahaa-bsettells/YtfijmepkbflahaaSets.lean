/-
  Plain facts on sets of bytes: how many, and which are the same.
-/
import Derived.Test.YtfijmepkbflahaaRuns
namespace Go.Proofs.Ytfijmepkbflahaa
open Go.RowKit

theorem cnt_succ (p : Nat → Bool) (n : Nat) : cnt p (n + 1) = cnt p n + (p n).toNat := rfl

theorem cnt_rng (a b n : Nat) : cnt (rng a b) n = min n (b + 1) - a := by
  induction n with
  | zero => simp [cnt, sm]
  | succ n ih =>
    rw [cnt_succ, ih]
    unfold rng
    by_cases h : a ≤ n ∧ n ≤ b
    · simp [h.1, h.2]; omega
    · have : (decide (a ≤ n) && decide (n ≤ b)) = false := by
        rw [Bool.and_eq_false_iff]; simp; omega
      rw [this]; simp; omega

theorem cnt_addB (p : Nat → Bool) (b n : Nat) (h : p b = false) : cnt (addB p b) n = cnt p n + if b < n then 1 else 0 := by
  induction n with
  | zero => simp [cnt, sm]
  | succ n ih =>
    rw [cnt_succ, ih, cnt_succ]
    unfold addB
    by_cases hn : n = b
    · subst hn
      simp [h]
    · have : (n == b) = false := by simpa using hn
      rw [this, Bool.or_false]
      by_cases hb : b < n
      · rw [if_pos hb, if_pos (by omega)]; omega
      · rw [if_neg hb, if_neg (by omega)]; omega

theorem cnt_none (n : Nat) : cnt (fun _ => false) n = 0 := by
  induction n with
  | zero => rfl
  | succ n ih => rw [cnt_succ, ih]; rfl

theorem cnt_congr (p q : Nat → Bool) (n : Nat) (h : ∀ i, i < n → p i = q i) : cnt p n = cnt q n :=
  sm_congr _ _ n (fun i hi => by rw [h i hi])

theorem lst_congr (p q : Nat → Bool) (n : Nat) (h : ∀ i, i < n → p i = q i) : lst p n = lst q n := by
  induction n with
  | zero => rfl
  | succ n ih => rw [lst_succ, lst_succ, ih (fun i hi => h i (by omega)), h n (by omega)]

theorem lst_none (n : Nat) : lst (fun _ => false) n = [] := by
  induction n with
  | zero => rfl
  | succ n ih => rw [lst_succ, ih]; rfl

theorem lst_one (c n : Nat) (h : c < n) : lst (addB (fun _ => false) c) n = [c] := by
  induction n with
  | zero => omega
  | succ n ih =>
    rw [lst_succ]
    by_cases hn : n = c
    · subst hn
      rw [lst_congr _ (fun _ => false) n (fun i hi => by unfold addB; simp; omega), lst_none]
      simp [addB]
    · rw [ih (by omega)]
      have : addB (fun _ => false) c n = false := by unfold addB; simp; omega
      rw [this]; rfl

theorem orB_rng (a m b : Nat) (h1 : a ≤ m) (h2 : m ≤ b) : orB (rng a m) (rng m b) = rng a b := by
  funext i
  unfold orB rng
  rw [Bool.eq_iff_iff]
  simp
  omega

/-- The bytes below a; those below a and those above b. -/
def lowB (a : Nat) : Nat → Bool := fun i => decide (i < a)
def outB (a b : Nat) : Nat → Bool := fun i => decide (i < a) || decide (b < i)

theorem orB_low (a : Nat) (h : 0 < a) : orB (fun _ => false) (rng 0 (a - 1)) = lowB a := by
  funext i
  unfold orB rng lowB
  rw [Bool.eq_iff_iff]
  simp
  omega

theorem low_zero : lowB 0 = fun _ => false := by
  funext i
  unfold lowB
  simp

theorem orB_out (a b : Nat) : ∀ i, i < 256 → orB (lowB a) (rng (b + 1) 255) i = outB a b i := by
  intro i hi
  unfold orB rng lowB outB
  rw [Bool.eq_iff_iff]
  simp
  omega

theorem low_out (a b : Nat) (h : b = 255) : ∀ i, i < 256 → lowB a i = outB a b i := by
  intro i hi
  unfold lowB outB
  rw [Bool.eq_iff_iff]
  simp
  omega

theorem not_rng (a b : Nat) : notB (rng a b) = outB a b := by
  funext i
  unfold notB rng outB
  rw [Bool.eq_iff_iff]
  simp

/-- Sets that hold the same bytes are the same value. -/
theorem wd_same {p q : Nat → Bool} (h : ∀ i, i < 256 → p i = q i) (j : Nat) (hj : j < 4) : wd p j = wd q j :=
  wd_congr p q j (fun i hi => h _ (by omega))

theorem At.same {w : World} {S : Nat} {p q : Nat → Bool} (h : At w S p) (e : ∀ i, i < 256 → p i = q i) : At w S q := by
  have hb : blk p = blk q := by
    show Obj.cells _ _ = Obj.cells _ _
    rw [wd_same e 0 (by omega), wd_same e 1 (by omega), wd_same e 2 (by omega), wd_same e 3 (by omega)]
  unfold At at *
  rw [← hb]; exact h

theorem eq_vv (a b c d a' b' c' d' : Int) (w : World) :
    (Op.equalIn 10000 24 (.agg #[.int .u64 a, .int .u64 b, .int .u64 c, .int .u64 d]) (.agg #[.int .u64 a', .int .u64 b', .int .u64 c', .int .u64 d'])).run Try.prog w = .ok (a == a' && (b == b' && (c == c' && d == d'))) w := by
  have u3 := Try.underlying22
  have a3 := Try.isAgg22
  have z3 := Try.sizeOf22
  rw [show (10000 : Nat) = 9999 + 1 from rfl, Op.equalIn]
  simp only [Sem.run_bind, run_underlying Try.underlying24, Result.andThen_ok]
  simp only [Std.Legacy.Range.forIn_eq_forIn_range', Std.Legacy.Range.size, Nat.sub_zero, Nat.add_sub_cancel, Nat.div_one, List.range'_succ, List.range'_zero, List.forIn_cons, List.forIn_nil]
  go_simp
  by_cases h1 : a = a' <;> by_cases h2 : b = b' <;> by_cases h3 : c = c' <;> by_cases h4 : d = d' <;> simp [h1, h2, h3, h4]

/-- The same set, held against itself. -/
theorem eq_self (p : Nat → Bool) (w : World) : (Op.equalIn 10000 24 (sv p) (sv p)).run Try.prog w = .ok true w := by
  rw [eq_vv]; simp

/-- Two sets of the same bytes. -/
theorem eq_same {p q : Nat → Bool} (h : ∀ i, i < 256 → p i = q i) (w : World) : (Op.equalIn 10000 24 (sv p) (sv q)).run Try.prog w = .ok true w := by
  rw [sv_congr h, eq_self]
end Go.Proofs.Ytfijmepkbflahaa
