/-
  Plain mathematics for the laws: where a line lies, how many bits a length has.
-/
import Derived.Test.YtjphjnpcpbenlaaPlace
namespace Go.Proofs.Ytjphjnpcpbenlaa

theorem lsum_take_succ (f : It → Nat) (xs : List It) (k : Nat) (x : It) (h : xs[k]? = some x) : lsum f (xs.take (k + 1)) = lsum f (xs.take k) + f x := by
  rw [List.take_add_one, h, lsum_append]; simp [lsum]

theorem place_before (xs : List It) : ∀ (n : Int) (j : Nat), j < place n xs → (lsum It.l (xs.take (j + 1)) : Int) ≤ n := by
  induction xs with
  | nil => intro n j h; simp [place] at h
  | cons x xs ih =>
    intro n j h
    simp only [place] at h
    split at h
    · omega
    · rw [List.take_succ_cons, lsum_cons]
      cases j with
      | zero => simp [lsum]; omega
      | succ j => have := ih (n - x.l) j (by omega); omega

theorem place_at (xs : List It) : ∀ (n : Int), place n xs < xs.length → n < (lsum It.l (xs.take (place n xs + 1)) : Int) := by
  induction xs with
  | nil => intro n h; simp [place] at h
  | cons x xs ih =>
    intro n h
    simp only [place] at h ⊢
    split
    · rw [if_pos (by assumption)] at h
      simp [List.take_succ_cons, lsum]; omega
    · rename_i hc
      rw [if_neg hc] at h
      rw [show 1 + place (n - x.l) xs + 1 = (place (n - x.l) xs + 1) + 1 by omega, List.take_succ_cons, lsum_cons]
      have := ih (n - x.l) (by simp only [List.length_cons] at h; omega)
      omega

/-- What a walk along a row keeps: the place that was found, or the length. -/
def seen (n : Int) (xs : List It) (k : Nat) : Nat := if place n xs < k then place n xs else xs.length
def ahead (n : Int) (xs : List It) (k : Nat) : List It := if place n xs < k then xs.take (place n xs) else []

theorem seen_zero (n : Int) (xs : List It) : seen n xs 0 = xs.length := by simp [seen]
theorem ahead_zero (n : Int) (xs : List It) : ahead n xs 0 = [] := by simp [ahead]
/-- Found already: nothing turns. -/
theorem seen_found {n : Int} {xs : List It} {k : Nat} (h : ¬ seen n xs k = xs.length) : seen n xs (k + 1) = seen n xs k ∧ ahead n xs (k + 1) = ahead n xs k := by
  unfold seen ahead at *
  by_cases hc : place n xs < k
  · rw [if_pos hc, if_pos hc, if_pos (by omega), if_pos (by omega)]; exact ⟨rfl, rfl⟩
  · rw [if_neg hc] at h; exact absurd rfl h
theorem seen_open {n : Int} {xs : List It} {k : Nat} (hk : k < xs.length) (h : seen n xs k = xs.length) : k ≤ place n xs := by
  unfold seen at h
  by_cases hc : place n xs < k
  · rw [if_pos hc] at h; omega
  · omega
theorem seen_here {n : Int} {xs : List It} {k : Nat} (hk : k < xs.length) (h : seen n xs k = xs.length) (hn : n < (lsum It.l (xs.take (k + 1)) : Int)) : seen n xs (k + 1) = k ∧ ahead n xs (k + 1) = xs.take k := by
  have a := seen_open hk h
  have b : ¬ k < place n xs := fun hc => by have := place_before xs n k hc; omega
  have e : place n xs = k := by omega
  unfold seen ahead
  rw [if_pos (by omega), if_pos (by omega), e]; exact ⟨rfl, rfl⟩
theorem seen_not {n : Int} {xs : List It} {k : Nat} (hk : k < xs.length) (h : seen n xs k = xs.length) (hn : ¬ n < (lsum It.l (xs.take (k + 1)) : Int)) : seen n xs (k + 1) = xs.length ∧ ahead n xs (k + 1) = [] ∧ ahead n xs k = [] := by
  have a := seen_open hk h
  have b : place n xs ≠ k := fun hc => by have := place_at xs n (by omega); rw [hc] at this; exact hn this
  unfold seen ahead
  rw [if_neg (by omega), if_neg (by omega), if_neg (by omega)]; exact ⟨rfl, rfl, rfl⟩
theorem seen_end (n : Int) (xs : List It) : seen n xs xs.length = place n xs ∧ (¬ place n xs = xs.length → ahead n xs xs.length = xs.take (place n xs)) := by
  have := place_le xs n
  unfold seen ahead
  by_cases hc : place n xs < xs.length
  · rw [if_pos hc, if_pos hc]; exact ⟨rfl, fun _ => rfl⟩
  · rw [if_neg hc]; exact ⟨by omega, fun h => by omega⟩

/-- Halves: j bits were counted, m is left of n. -/
structure Half (n j m : Nat) : Prop where
  a : n < (m + 1) * 2 ^ j
  b : 0 < j → 0 < n
  c : j + m ≤ n
theorem Half.start (n : Nat) : Half n 0 n := ⟨by simp, fun h => absurd h (by omega), by omega⟩
theorem Half.step {n j m : Nat} (h : Half n j m) (hm : 0 < m) : Half n (j + 1) (m / 2) := by
  refine ⟨?_, fun _ => ?_, ?_⟩
  · have := h.a
    rw [Nat.pow_succ]
    have e : m + 1 ≤ (m / 2 + 1) * 2 := by omega
    calc n < (m + 1) * 2 ^ j := this
      _ ≤ ((m / 2 + 1) * 2) * 2 ^ j := Nat.mul_le_mul_right _ e
      _ = (m / 2 + 1) * (2 ^ j * 2) := by rw [Nat.mul_assoc, Nat.mul_comm 2]
  · have := h.c; omega
  · have := h.c; omega
theorem Half.done {n j : Nat} (h : Half n j 0) : n < 2 ^ j := by have := h.a; simpa using this
end Go.Proofs.Ytjphjnpcpbenlaa
