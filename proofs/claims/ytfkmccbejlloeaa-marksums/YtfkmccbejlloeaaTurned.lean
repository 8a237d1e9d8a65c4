/-
  What the law MarkSums leans on behind its loop: the marks gathered, parts of them, and a turned copy of them.
-/
import Derived.Test.YtfkmccbejlloeaaRuns
import Derived.Maps.AppendAt
import Derived.Laws.OwnMore
namespace Go.Proofs.Ytfkmccbejlloeaa
open Go.RowKit

/-- The marks of the first n pairs, as cells. -/
def marks (f g : Nat → Int) (n : Nat) : List Value := (List.range n).map fun j => .complex .f64 (F (f j)) (F (g j))

theorem marks_length (f g : Nat → Int) (n : Nat) : (marks f g n).length = n := by simp [marks]

theorem marks_succ (f g : Nat → Int) (n : Nat) : marks f g (n + 1) = marks f g n ++ [.complex .f64 (F (f n)) (F (g n))] := by
  simp [marks, List.range_succ]

theorem marks_at (f g : Nat → Int) (n j : Nat) (h : j < n) : (marks f g n)[j]? = some (.complex .f64 (F (f j)) (F (g j))) := by
  simp [marks, h]

theorem marks_one (f g : Nat → Int) (n : Nat) : ∀ u ∈ marks f g n, u.oneCell' = true := by
  intro u hu
  simp only [marks, List.mem_map] at hu
  obtain ⟨j, _, rfl⟩ := hu
  rfl

theorem psum_le (f : Nat → Int) (h : ∀ j, 0 ≤ f j ∧ f j ≤ 1073741824) : ∀ k, k ≤ 20 → 0 ≤ psum f k ∧ psum f k ≤ 21474836480 := by
  have : ∀ k, 0 ≤ psum f k ∧ psum f k ≤ k * 1073741824 := by
    intro k
    induction k with
    | zero => simp [psum]
    | succ k ih => have := h k; simp only [psum]; omega
  intro k hk
  have := this k
  omega

theorem psum_congr (f h : Nat → Int) (n : Nat) (e : ∀ j, j < n → f j = h j) : psum f n = psum h n := by
  induction n with
  | zero => rfl
  | succ n ih => simp only [psum]; rw [ih (fun j hj => e j (by omega)), e n (by omega)]

theorem psum_add (f : Nat → Int) (a b : Nat) : psum f (a + b) = psum f a + psum (fun j => f (a + j)) b := by
  induction b with
  | zero => simp [psum]
  | succ b ih => rw [show a + (b + 1) = (a + b) + 1 by omega]; simp only [psum]; rw [ih]; omega

theorem psum_tail (f : Nat → Int) (m k : Nat) (h : m ≤ k) : psum (fun j => f (m + j)) (k - m) = psum f k - psum f m := by
  have := psum_add f m (k - m)
  rw [show m + (k - m) = k by omega] at this
  omega

/-- The k values from place m on, turned round: the last k - m of them first. -/
def turn (f : Nat → Int) (m k : Nat) (j : Nat) : Int := if j < k - m then f (m + j) else f (0 + (j - (k - m)))

theorem psum_turn (f : Nat → Int) (m k : Nat) (h : m ≤ k) : psum (turn f m k) (0 + (k - m) + m) = psum f k := by
  rw [Nat.zero_add, psum_add]
  have e1 : psum (turn f m k) (k - m) = psum (fun j => f (m + j)) (k - m) := psum_congr _ _ _ (fun j hj => by unfold turn; rw [if_pos hj])
  have e2 : psum (fun j => turn f m k (k - m + j)) m = psum f m := psum_congr _ _ _ (fun j hj => by
    show turn f m k (k - m + j) = f j
    unfold turn
    rw [if_neg (by omega), show 0 + (k - m + j - (k - m)) = j by omega])
  rw [e1, e2, psum_tail f m k h]; omega

theorem marks_turn (f g : Nat → Int) (m k : Nat) :
    ([] ++ marks (fun j => f (m + j)) (fun j => g (m + j)) (k - m)) ++ marks (fun j => f (0 + j)) (fun j => g (0 + j)) m = marks (turn f m k) (turn g m k) (0 + (k - m) + m) := by
  rw [List.nil_append, Nat.zero_add]
  apply List.ext_getElem?
  intro j
  by_cases h1 : j < k - m
  · rw [List.getElem?_append_left (by rw [marks_length]; exact h1), marks_at _ _ _ _ h1, marks_at _ _ _ _ (by omega)]
    unfold turn
    rw [if_pos h1, if_pos h1]
  · rw [List.getElem?_append_right (by rw [marks_length]; omega), marks_length]
    by_cases h2 : j < k - m + m
    · rw [marks_at _ _ _ _ (by omega), marks_at _ _ _ _ h2]
      unfold turn
      rw [if_neg h1, if_neg h1]
    · rw [List.getElem?_eq_none (by rw [marks_length]; omega), List.getElem?_eq_none (by rw [marks_length]; omega)]

/-- The marks gathered lie in block g0 still, and old memory is as it was. -/
def Kept (f g : Nat → Int) (w : World) (g0 k : Nat) (W : World) : Prop :=
  (∀ j, j < k → W.cell? ⟨g0, 0 + j, none⟩ = some (.complex .f64 (F (f j)) (F (g j)))) ∧ g0 < W.heap.size ∧ Below w.heap.size w W

section
variable {f g : Nat → Int} {w W W' : World} {g0 k : Nat}

theorem kept_drew (h : Kept f g w g0 k W) : Kept f g w g0 k W.drew := ⟨h.1, h.2.1, h.2.2.drew⟩

theorem kept_alloc (h : Kept f g w g0 k W) (o : Obj) : Kept f g w g0 k (W.alloc o) :=
  ⟨fun j hj => (World.cell?_alloc_lt W o ⟨g0, 0 + j, none⟩ h.2.1).trans (h.1 j hj), by have := h.2.1; simp; omega, h.2.2.alloc h.2.2.size o⟩

theorem kept_grown {row : Option Nat} (h : Kept f g w g0 k W) (hg : W.grownBy W' row) (hne : row ≠ some g0) (hr : ∀ b, row = some b → w.heap.size ≤ b) : Kept f g w g0 k W' :=
  ⟨fun j hj => (World.cell?_of_block (a := ⟨g0, 0 + j, none⟩) (hg.block g0 h.2.1 (fun e => hne e.symm))).trans (h.1 j hj), Nat.lt_of_lt_of_le h.2.1 hg.size, h.2.2.grown hg h.2.2.size hr⟩

theorem kept_below (h : Kept f g w g0 k W) (hb : Below W.heap.size W W') : Kept f g w g0 k W' :=
  ⟨fun j hj => (hb.cell (p := ⟨g0, 0 + j, none⟩) h.2.1).trans (h.1 j hj), Nat.lt_of_lt_of_le h.2.1 hb.size, h.2.2.trans (hb.mono h.2.2.size)⟩
end

theorem info22 : ∃ i, Try.prog.info? 22 = some i ∧ i.zero = some (.complex .f64 0 0) ∧ i.size = 1 ∧ i.bytes = 16 := by
  have h : (Try.prog.info? 22).map (fun i => (i.zero, i.size, i.bytes)) = some (some (.complex .f64 0 0), 1, 16) := by kernel_rfl
  cases hi : Try.prog.info? 22 with
  | none => rw [hi] at h; cases h
  | some i =>
    rw [hi] at h
    simp only [Option.map_some, Option.some.injEq, Prod.mk.injEq] at h
    exact ⟨i, rfl, h.1, h.2.1, h.2.2⟩

/-- A row of the call's own, apart from the marks gathered. -/
def Apart (f g : Nat → Int) (w : World) (g0 k : Nat) (W : World) (v : Value) (n : Nat) (xs : List Value) : Prop :=
  Kept f g w g0 k W ∧ W.ownsRow w.heap.size 22 1 v n xs ∧ v.ownBlock ≠ some g0

theorem apart_made {f g : Nat → Int} {w W : World} {g0 k : Nat} (h : Kept f g w g0 k W) : Apart f g w g0 k (W.alloc (.cells #[] 22)).drew (.slice (some ⟨W.heap.size, 0, none⟩) 0 0) 0 [] := by
  refine ⟨kept_drew (kept_alloc h _), ?_, ?_⟩
  · exact World.ownsRow_made (base := w.heap.size) (e := 22) (size := 1) W #[] 0 h.2.2.size (by unfold maxLen; omega) rfl
  · have := h.2.1
    intro e
    simp [Value.ownBlock] at e
    omega

/-- A part of the marks gathered, put behind such a row: one step of a region that draws its order. -/
theorem step_apart {ops : Array Oper} {o : Oper} {a : Act} {K : Act → World → Prop} {Q : Exit → Act → World → Prop} {E : Prop} (f g : Nat → Int) (w : World) (g0 k : Nat) (W : World)
    (hgd : o.guard = none) (s x : Operand) (ho : o.op = .call { callee := .builtin .append, args := #[s, x], argTypes := #[33, 33] })
    (v : Value) (n : Nat) (xs : List Value) (hs : a.eval s = v) (hap : Apart f g w g0 k W v n xs) (off len c : Nat) (hx : a.eval x = .slice (some ⟨g0, off, none⟩) len c)
    (hk : off + len ≤ k) (hn : n + len ≤ 900)
    (h : ∀ v' w', Apart f g w g0 k w' v' (n + len) (xs ++ marks (fun j => f (off + j)) (fun j => g (off + j)) len) → K (a.put o.dst v') w') :
    if Region.wanted o (yielded ops a.tmps) = true then Oper.wp Try.prog o a W K Q else E := by
  have hw : Region.wanted o (yielded ops a.tmps) = true := by simp [Region.wanted, hgd]
  rw [if_pos hw]
  obtain ⟨i, hi, hz, hsz, hby⟩ := info22
  obtain ⟨hkept, hown, hne⟩ := hap
  obtain ⟨v', w', hr, h2, h3, _, h5⟩ := run_append_own_at (P := Try.prog) W w.heap.size 33 o.type 22 i (.complex .f64 0 0) 1 16 Try.underlying33 hi hz hsz hby rfl (by omega) v n xs hown ⟨g0, off, none⟩ len c
    (marks (fun j => f (off + j)) (fun j => g (off + j)) len) (by rw [marks_length]; omega)
    (by
      intro j u hj
      have hjl : j < len := by
        have := (List.getElem?_eq_some_iff.1 hj).1
        rw [marks_length] at this; exact this
      rw [marks_at _ _ _ _ hjl] at hj
      rw [Go.WideShapes.add_plain, ← hj]
      have := hkept.1 (off + j) (by omega)
      rw [Nat.zero_add] at this
      exact this)
    (marks_one _ _ _) (by unfold maxLen; omega) (by omega) hkept.2.2.size
  have hK : Kept f g w g0 k w' := kept_grown hkept h3 hne (fun b hb => (hown.lt b hb).1)
  have hne' : v'.ownBlock ≠ some g0 := by
    rcases h5 with h5 | h5
    · rw [h5]; exact hne
    · rw [h5]; have := hkept.2.1; intro e; simp at e; omega
  unfold Oper.wp execOp
  simp only [ho, resolve, invoke, builtin, Sem.run_bind, Sem.run_pure, Result.andThen_ok, List.map_toArray, List.map_cons, List.map_nil, hs, hx, hr]
  exact h v' w' ⟨hK, h2, hne'⟩

theorem cell_block {w : World} {g : Nat} {o : Obj} (h : w.heap[g]? = some o) : g < w.heap.size := (Array.getElem?_eq_some_iff.1 h).1

/-- The cells of a row of marks that the call owns. -/
theorem row_cells (f g : Nat → Int) (w : World) (g0 k : Nat) (cur : Array Value) (q2 : w.heap[g0]? = some (.cells cur 22 (0, 0))) (q6 : cur.toList.take (k * 1) = marks f g k) :
    ∀ j, j < k → w.cell? ⟨g0, 0 + j, none⟩ = some (.complex .f64 (F (f j)) (F (g j))) := by
  intro j hj
  have h1 : (cur.toList.take (k * 1))[j]? = some (.complex .f64 (F (f j)) (F (g j))) := by rw [q6]; exact marks_at f g k j hj
  rw [List.getElem?_take, if_pos (by omega)] at h1
  simp only [World.cell?, q2, Nat.zero_add]
  simpa using h1

/-- The sum of marks that the call owns. -/
theorem sum_row (f g : Nat → Int) (base n : Nat) (v : Value) (W : World) (hn : n ≤ 20) (hf : ∀ j, j < n → 0 ≤ f j) (hg : ∀ j, j < n → 0 ≤ g j) (h1 : psum f n < 9007199254740992) (h2 : psum g n < 9007199254740992)
    (h : W.ownsRow base 22 1 v n (marks f g n)) : Calls Try.prog 8 #[v] W fun e w' => e = .returned (.complex .f64 (F (psum f n)) (F (psum g n))) ∧ w' = W := by
  rcases h.2 with ⟨rfl, rfl⟩ | ⟨g0, cp, cur, rfl, _, q2, _, _, _, q6⟩
  · exact sum_nil W
  · exact sum_any f g g0 0 n cp W (by omega) (row_cells f g W g0 n cur q2 q6) hf hg h1 h2

theorem turn_bd (f : Nat → Int) (m k j : Nat) (h : ∀ j, 0 ≤ f j ∧ f j ≤ 1073741824) : 0 ≤ turn f m k j := by
  unfold turn; split
  · exact (h _).1
  · exact (h _).1

theorem sum_turned (f g : Nat → Int) (w W : World) (g0 k m : Nat) (v : Value) (hmk : m ≤ k) (hk : k ≤ 20) (hf : ∀ j, 0 ≤ f j ∧ f j ≤ 1073741824) (hg : ∀ j, 0 ≤ g j ∧ g j ≤ 1073741824)
    (h : Apart f g w g0 k W v (0 + (k - m) + m) (([] ++ marks (fun j => f (m + j)) (fun j => g (m + j)) (k - m)) ++ marks (fun j => f (0 + j)) (fun j => g (0 + j)) m)) :
    Calls Try.prog 8 #[v] W fun e w' => e = .returned (.complex .f64 (F (psum f k)) (F (psum g k))) ∧ w' = W := by
  have ho := h.2.1
  rw [marks_turn f g m k] at ho
  have p1 := psum_le f hf k hk
  have p2 := psum_le g hg k hk
  have := sum_row (turn f m k) (turn g m k) w.heap.size (0 + (k - m) + m) v W (by omega) (fun j _ => turn_bd f m k j hf) (fun j _ => turn_bd g m k j hg) (by rw [psum_turn f m k hmk]; omega) (by rw [psum_turn g m k hmk]; omega) ho
  rw [psum_turn f m k hmk, psum_turn g m k hmk] at this
  exact this

theorem psum_part (f : Nat → Int) (hf : ∀ j, 0 ≤ f j ∧ f j ≤ 1073741824) (m k : Nat) (h : m ≤ k) : psum f m ≤ psum f k := (psum_mono f k (fun j _ => (hf j).1) m h).2

theorem sum_head (f g : Nat → Int) (w W : World) (g0 k m c : Nat) (hmk : m ≤ k) (hk : k ≤ 20) (hf : ∀ j, 0 ≤ f j ∧ f j ≤ 1073741824) (hg : ∀ j, 0 ≤ g j ∧ g j ≤ 1073741824) (h : Kept f g w g0 k W) :
    Calls Try.prog 8 #[.slice (some ⟨g0, 0, none⟩) m c] W fun e w' => e = .returned (.complex .f64 (F (psum f m)) (F (psum g m))) ∧ w' = W := by
  have p1 := psum_le f hf m (by omega)
  have p2 := psum_le g hg m (by omega)
  exact sum_any f g g0 0 m c W (by omega) (fun j hj => h.1 j (by omega)) (fun j _ => (hf j).1) (fun j _ => (hg j).1) (by omega) (by omega)

theorem sum_tail (f g : Nat → Int) (w W : World) (g0 k m c : Nat) (hmk : m ≤ k) (hk : k ≤ 20) (hf : ∀ j, 0 ≤ f j ∧ f j ≤ 1073741824) (hg : ∀ j, 0 ≤ g j ∧ g j ≤ 1073741824) (h : Kept f g w g0 k W) :
    Calls Try.prog 8 #[.slice (some ⟨g0, m, none⟩) (k - m) c] W fun e w' => e = .returned (.complex .f64 (F (psum f k - psum f m)) (F (psum g k - psum g m))) ∧ w' = W := by
  have p1 := psum_le f hf k hk
  have p2 := psum_le g hg k hk
  have p3 := psum_le f hf m (by omega)
  have p4 := psum_le g hg m (by omega)
  have := sum_any (fun j => f (m + j)) (fun j => g (m + j)) g0 m (k - m) c W (by omega) (fun j hj => by have := h.1 (m + j) (by omega); rw [Nat.zero_add] at this; exact this) (fun j _ => (hf _).1) (fun j _ => (hg _).1)
    (by rw [psum_tail f m k hmk]; omega) (by rw [psum_tail g m k hmk]; omega)
  rw [psum_tail f m k hmk, psum_tail g m k hmk] at this
  exact this

theorem sum_turned0 (f g : Nat → Int) (w W : World) (g0 k : Nat) (v : Value) (hk : k ≤ 20) (hf : ∀ j, 0 ≤ f j ∧ f j ≤ 1073741824) (hg : ∀ j, 0 ≤ g j ∧ g j ≤ 1073741824)
    (h : Apart f g w g0 k W v (0 + 0 + k) (([] ++ marks (fun j => f (0 + j)) (fun j => g (0 + j)) 0) ++ marks (fun j => f (0 + j)) (fun j => g (0 + j)) k)) :
    Calls Try.prog 8 #[v] W fun e w' => e = .returned (.complex .f64 (F (psum f k)) (F (psum g k))) ∧ w' = W := by
  have ho := h.2.1
  have e0 : marks (fun j => f (0 + j)) (fun j => g (0 + j)) 0 = [] := rfl
  rw [e0, List.append_nil, List.nil_append, Nat.add_zero, Nat.zero_add] at ho
  have ef : psum (fun j => f (0 + j)) k = psum f k := psum_congr _ _ _ (fun j _ => by show f (0 + j) = f j; rw [Nat.zero_add])
  have eg : psum (fun j => g (0 + j)) k = psum g k := psum_congr _ _ _ (fun j _ => by show g (0 + j) = g j; rw [Nat.zero_add])
  have p1 := psum_le f hf k hk
  have p2 := psum_le g hg k hk
  have := sum_row (fun j => f (0 + j)) (fun j => g (0 + j)) w.heap.size k v W (by omega) (fun j _ => (hf _).1) (fun j _ => (hg _).1) (by rw [ef]; omega) (by rw [eg]; omega) ho
  rw [ef, eg] at this
  exact this

/-- No marks at all, wherever. -/
theorem sum_none (W : World) (b o c : Nat) : Calls Try.prog 8 #[.slice (some ⟨b, o, none⟩) 0 c] W fun e w' => e = .returned (.complex .f64 (F 0) (F 0)) ∧ w' = W :=
  sum_any (fun _ => 0) (fun _ => 0) b o 0 c W (by omega) (fun j hj => by omega) (fun j hj => by omega) (fun j hj => by omega) (by simp [psum]) (by simp [psum])

/-- Nothing put behind a row of the call's own: one step of a region that draws its order. -/
theorem step_none {ops : Array Oper} {o : Oper} {a : Act} {K : Act → World → Prop} {Q : Exit → Act → World → Prop} {E : Prop} (base : Nat) (W : World)
    (hgd : o.guard = none) (s x : Operand) (ho : o.op = .call { callee := .builtin .append, args := #[s, x], argTypes := #[33, 33] })
    (v : Value) (n : Nat) (xs : List Value) (hs : a.eval s = v) (hown : W.ownsRow base 22 1 v n xs) (hx : a.eval x = .slice none 0 0)
    (h : K (a.put o.dst v) W) :
    if Region.wanted o (yielded ops a.tmps) = true then Oper.wp Try.prog o a W K Q else E := by
  have hw : Region.wanted o (yielded ops a.tmps) = true := by simp [Region.wanted, hgd]
  rw [if_pos hw]
  obtain ⟨i, hi, hz, hsz, hby⟩ := info22
  have hrun := run_append_owned_none (P := Try.prog) (w := W) base 33 o.type 22 i 1 Try.underlying33 hi v n xs hown
  unfold Oper.wp execOp
  simp only [ho, resolve, invoke, builtin, Sem.run_bind, Sem.run_pure, Result.andThen_ok, List.map_toArray, List.map_cons, List.map_nil, hs, hx, hrun]
  exact h

theorem made_none (w W : World) (h : Below w.heap.size w W) : (W.alloc (.cells #[] 22)).drew.ownsRow w.heap.size 22 1 (.slice (some ⟨W.heap.size, 0, none⟩) 0 0) 0 [] :=
  World.ownsRow_made (base := w.heap.size) (e := 22) (size := 1) W #[] 0 h.size (by unfold maxLen; omega) rfl
end Go.Proofs.Ytfkmccbejlloeaa
