/-
  The first place behind which there are more than n lines; plain mathematics.
-/
import Derived.Test.YtjphjnpcpbenlaaTree
namespace Go.Proofs.Ytjphjnpcpbenlaa

/-- The first place up to whose end there are more than n lines; the length, if there is none. -/
def place (n : Int) : List It → Nat
  | [] => 0
  | x :: xs => if n < (x.l : Int) then 0 else 1 + place (n - x.l) xs

theorem place_le (xs : List It) : ∀ n, place n xs ≤ xs.length := by
  induction xs with
  | nil => intro n; simp [place]
  | cons x xs ih => intro n; have := ih (n - x.l); simp only [place, List.length_cons]; split <;> omega

theorem place_cat (xs ys : List It) : ∀ n, place n (xs ++ ys) = if n < (lsum It.l xs : Int) then place n xs else xs.length + place (n - (lsum It.l xs : Int)) ys := by
  induction xs with
  | nil =>
    intro n
    rw [List.nil_append, lsum_nil, List.length_nil, Nat.zero_add, Int.natCast_zero, Int.sub_zero]
    split
    · rename_i h
      cases ys with
      | nil => simp [place]
      | cons y ys => simp only [place]; rw [if_pos (by omega)]
    · rfl
  | cons x xs ih =>
    intro n
    rw [List.cons_append, lsum_cons, List.length_cons]
    simp only [place]
    have := ih (n - x.l)
    by_cases hx : n < (x.l : Int)
    · rw [if_pos hx, if_pos hx, if_pos (by omega)]
    · rw [if_neg hx, if_neg hx, this]
      by_cases hc : n - (x.l : Int) < (lsum It.l xs : Int)
      · rw [if_pos hc, if_pos (by omega)]
      · rw [if_neg hc, if_neg (by omega), show n - (x.l : Int) - (lsum It.l xs : Int) = n - ((x.l + lsum It.l xs : Nat) : Int) by omega]; omega

theorem place_none (xs : List It) (n : Int) (h : (lsum It.l xs : Int) ≤ n) : place n xs = xs.length := by
  have := place_cat xs [] n
  rw [List.append_nil, if_neg (by omega)] at this
  rw [this]; simp [place]

/-- What a walk down a tree keeps: k items of A lines and B bytes lie ahead of what is still to be looked at. -/
structure Wk (n : Int) (xs : List It) (k A B : Nat) (us : List It) : Prop where
  p : place n xs = k + place (n - (A : Int)) us
  l : lsum It.l (xs.take (place n xs)) = A + lsum It.l (us.take (place (n - (A : Int)) us))
  y : lsum It.y (xs.take (place n xs)) = B + lsum It.y (us.take (place (n - (A : Int)) us))
  g : n < (A : Int) + (lsum It.l us : Int)

theorem Wk.start (n : Int) (xs : List It) (h : n < (lsum It.l xs : Int)) : Wk n xs 0 0 0 xs := by
  have e : n - ((0 : Nat) : Int) = n := by omega
  refine ⟨?_, ?_, ?_, ?_⟩
  · rw [e]; omega
  · rw [e]; omega
  · rw [e]; omega
  · omega

theorem Wk.left {n : Int} {xs : List It} {k A B : Nat} {p q : List It} (h : Wk n xs k A B (p ++ q)) (hl : n < (A : Int) + (lsum It.l p : Int)) : Wk n xs k A B p := by
  have e : place (n - (A : Int)) (p ++ q) = place (n - (A : Int)) p := by rw [place_cat, if_pos (by omega)]
  have t : (p ++ q).take (place (n - (A : Int)) p) = p.take (place (n - (A : Int)) p) := List.take_append_of_le_length (place_le p _)
  obtain ⟨h1, h2, h3, _⟩ := h
  rw [e] at h1 h2 h3
  rw [t] at h2 h3
  exact ⟨h1, h2, h3, hl⟩

theorem Wk.right {n : Int} {xs : List It} {k A B : Nat} {p q : List It} (h : Wk n xs k A B (p ++ q)) (hl : ¬ n < (A : Int) + (lsum It.l p : Int)) : Wk n xs (k + p.length) (A + lsum It.l p) (B + lsum It.y p) q := by
  have e : place (n - (A : Int)) (p ++ q) = p.length + place (n - ((A + lsum It.l p : Nat) : Int)) q := by
    rw [place_cat, if_neg (by omega), show n - (A : Int) - (lsum It.l p : Int) = n - ((A + lsum It.l p : Nat) : Int) by omega]
  obtain ⟨h1, h2, h3, h4⟩ := h
  rw [e] at h1 h2 h3
  rw [List.take_length_add_append, lsum_append] at h2 h3
  rw [lsum_append] at h4
  exact ⟨by omega, by omega, by omega, by omega⟩

theorem Wk.done {n : Int} {xs : List It} {k A B : Nat} {x : It} (h : Wk n xs k A B [x]) : k = place n xs ∧ A = lsum It.l (xs.take (place n xs)) ∧ B = lsum It.y (xs.take (place n xs)) := by
  obtain ⟨h1, h2, h3, h4⟩ := h
  have e : place (n - (A : Int)) [x] = 0 := by
    simp only [place]; rw [if_pos]; rw [lsum_cons, lsum_nil] at h4; omega
  rw [e] at h1 h2 h3
  simp only [List.take_zero, lsum_nil] at h2 h3
  omega

theorem Wk.bound {n : Int} {xs : List It} {k A B : Nat} {us : List It} (h : Wk n xs k A B us) (hs : Sm xs) : k ≤ xs.length ∧ A ≤ 100 * xs.length ∧ B ≤ 100 * xs.length := by
  have a := place_le xs n
  have s : Sm (xs.take (place n xs)) := hs.sub (fun x hx => List.mem_of_mem_take hx)
  have b := s.lines
  have c := s.bytes
  have d : (xs.take (place n xs)).length ≤ xs.length := by rw [List.length_take]; omega
  have h1 := h.p; have h2 := h.l; have h3 := h.y
  have := Nat.mul_le_mul_left 100 d
  exact ⟨by omega, by omega, by omega⟩
end Go.Proofs.Ytjphjnpcpbenlaa
