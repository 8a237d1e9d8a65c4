/-
  Trees of items whose branches' heights differ by one at most; plain mathematics, nothing of the program.
-/
import Derived.WalkKit
namespace Go.Proofs.Ytjphjnpcpbenlaa

/-- An item: its key, its lines, its bytes. -/
structure It where
  key : Int
  l : Nat
  y : Nat
deriving DecidableEq

/-- A tree: where its head lies, and what it is made of. -/
inductive T where
  | leaf (b : Nat) (x : It)
  | fork (b : Nat) (p q : T)

def T.items : T → List It
  | .leaf _ x => [x]
  | .fork _ p q => p.items ++ q.items
def T.ht : T → Nat
  | .leaf _ _ => 1
  | .fork _ p q => 1 + max p.ht q.ht
def T.blk : T → Nat
  | .leaf b _ => b
  | .fork b _ _ => b
def T.Bal : T → Prop
  | .leaf _ _ => True
  | .fork _ p q => p.Bal ∧ q.Bal ∧ p.ht ≤ q.ht + 1 ∧ q.ht ≤ p.ht + 1

def lsum (f : It → Nat) (xs : List It) : Nat := (xs.map f).sum
theorem lsum_nil (f : It → Nat) : lsum f [] = 0 := rfl
theorem lsum_cons (f : It → Nat) (x : It) (xs : List It) : lsum f (x :: xs) = f x + lsum f xs := by simp [lsum]
theorem lsum_append (f : It → Nat) (xs ys : List It) : lsum f (xs ++ ys) = lsum f xs + lsum f ys := by simp [lsum]
theorem lsum_le (f : It → Nat) (k : Nat) (xs : List It) (h : ∀ x, x ∈ xs → f x ≤ k) : lsum f xs ≤ k * xs.length := by
  induction xs with
  | nil => simp [lsum]
  | cons x xs ih =>
    rw [lsum_cons, List.length_cons, Nat.mul_add]
    have a := h x (by simp)
    have b := ih (fun y hy => h y (by simp [hy]))
    omega

/-- Marks of at most a hundred lines and bytes. -/
def Sm (xs : List It) : Prop := ∀ x, x ∈ xs → x.l ≤ 100 ∧ x.y ≤ 100
theorem Sm.append {xs ys : List It} (h : Sm xs) (g : Sm ys) : Sm (xs ++ ys) := by
  intro x hx; rcases List.mem_append.1 hx with hx | hx
  · exact h x hx
  · exact g x hx
theorem Sm.left {xs ys : List It} (h : Sm (xs ++ ys)) : Sm xs := fun x hx => h x (by simp [hx])
theorem Sm.right {xs ys : List It} (h : Sm (xs ++ ys)) : Sm ys := fun x hx => h x (by simp [hx])
theorem Sm.nil : Sm [] := fun x hx => by simp at hx
theorem Sm.sub {xs ys : List It} (h : Sm xs) (hs : ∀ x, x ∈ ys → x ∈ xs) : Sm ys := fun x hx => h x (hs x hx)
theorem Sm.lines {xs : List It} (h : Sm xs) : lsum It.l xs ≤ 100 * xs.length := lsum_le _ _ _ (fun x hx => (h x hx).1)
theorem Sm.bytes {xs : List It} (h : Sm xs) : lsum It.y xs ≤ 100 * xs.length := lsum_le _ _ _ (fun x hx => (h x hx).2)

theorem T.len_pos (t : T) : 1 ≤ t.items.length := by
  induction t with
  | leaf => simp [T.items]
  | fork b p q hp _ => simp [T.items]; omega
theorem T.ht_pos (t : T) : 1 ≤ t.ht := by cases t <;> simp [T.ht]
theorem T.ht_len (t : T) : t.ht ≤ t.items.length := by
  induction t with
  | leaf => simp [T.ht, T.items]
  | fork b p q hp hq =>
    have := p.len_pos; have := q.len_pos
    simp only [T.ht, T.items, List.length_append]; omega

/-- A tree that is balanced has many items. -/
theorem T.many (n : Nat) : ∀ t : T, t.Bal → t.ht ≤ n → ∀ k, 2 * k ≤ t.ht → 2 ^ k ≤ t.items.length := by
  induction n using Nat.strongRecOn with
  | ind n ih =>
    intro t hb hn k hk
    cases t with
    | leaf b x => simp only [T.ht] at hk; have hk0 : k = 0 := by omega
                  subst hk0; simp [T.items]
    | fork b p q =>
      obtain ⟨bp, bq, h1, h2⟩ := hb
      have lp := p.len_pos; have lq := q.len_pos
      have hp := p.ht_pos; have hq := q.ht_pos
      simp only [T.ht] at hn hk
      simp only [T.items, List.length_append]
      match k, hk with
      | 0, _ => simp; omega
      | k + 1, hk =>
        have a := ih (n - 1) (by omega) p bp (by omega) k (by omega)
        have c := ih (n - 1) (by omega) q bq (by omega) k (by omega)
        rw [Nat.pow_succ]; omega
theorem T.many' (t : T) (h : t.Bal) (k : Nat) (hk : 2 * k ≤ t.ht) : 2 ^ k ≤ t.items.length := T.many t.ht t h (Nat.le_refl _) k hk

/-- An odd height: as many. -/
theorem T.many1 (t : T) (h : t.Bal) (k : Nat) (hk : 2 * k + 1 ≤ t.ht) : 2 ^ k ≤ t.items.length := T.many' t h k (by omega)

/-- How high a tree of so many bits' items may be. -/
theorem T.ht_bits (t : T) (h : t.Bal) (k : Nat) (hk : t.items.length < 2 ^ k) : t.ht ≤ 2 * k := by
  by_cases hc : t.ht ≤ 2 * k
  · exact hc
  · have := T.many' t h k (by omega); omega

/-! ## Ropes: a tree or none -/
def itemsO : Option T → List It
  | none => []
  | some t => t.items
def BalO : Option T → Prop
  | none => True
  | some t => t.Bal
def htO : Option T → Nat
  | none => 0
  | some t => t.ht

theorem htO_bits (t : Option T) (h : BalO t) (k : Nat) (hk : (itemsO t).length < 2 ^ k) : htO t ≤ 2 * k := by
  cases t with
  | none => exact Nat.zero_le _
  | some t => exact T.ht_bits t h k hk

/-- The height of a tree that was grown by halves. -/
def Grew (n h : Nat) : Prop := ∃ k, h = k + 1 ∧ n ≤ 2 ^ k ∧ 2 ^ k < 2 * n
theorem Grew.one : Grew 1 1 := ⟨0, rfl, by simp, by simp⟩
theorem pow_lt_pow {a b : Nat} (h : a < b) : 2 * 2 ^ a ≤ 2 ^ b := by
  have := Nat.pow_le_pow_right (n := 2) (by omega) (show a + 1 ≤ b by omega)
  rw [Nat.pow_succ] at this; omega
theorem Grew.two {m k a b : Nat} (hm : 1 ≤ m) (hk : k = m ∨ k = m + 1) (h : Grew m a) (g : Grew k b) : a ≤ b + 1 ∧ b ≤ a + 1 ∧ Grew (m + k) (1 + max a b) := by
  obtain ⟨i, rfl, h1, h2⟩ := h
  obtain ⟨j, rfl, g1, g2⟩ := g
  have hij : i ≤ j := by
    by_cases hc : i ≤ j
    · exact hc
    · have := pow_lt_pow (show j < i by omega); omega
  have hji : j ≤ i + 1 := by
    by_cases hc : j ≤ i + 1
    · exact hc
    · have a1 := pow_lt_pow (show i < i + 1 by omega)
      have a2 := pow_lt_pow (show i + 1 < j by omega); omega
  refine ⟨by omega, by omega, j + 1, by omega, ?_, ?_⟩
  · rw [Nat.pow_succ]; omega
  · rw [Nat.pow_succ]
    cases j with
    | zero => simp at *; omega
    | succ j => rw [Nat.pow_succ] at *; omega

theorem take_cat {α : Type} (xs ys : List α) (i : Nat) : (xs ++ ys).take i = if i < xs.length then xs.take i else xs ++ ys.take (i - xs.length) := by
  split
  · rw [List.take_append_of_le_length (by omega)]
  · rw [List.take_append, List.take_of_length_le (by omega)]
theorem drop_cat {α : Type} (xs ys : List α) (i : Nat) : (xs ++ ys).drop i = if i < xs.length then xs.drop i ++ ys else ys.drop (i - xs.length) := by
  split
  · rw [List.drop_append_of_le_length (by omega)]
  · rw [List.drop_append, List.drop_eq_nil_of_le (by omega), List.nil_append]
end Go.Proofs.Ytjphjnpcpbenlaa
