/-
  append of a slice of items, nil or not, behind one that the call owns.
-/
import Derived.Test.YtjphjnpcpbenlaaFrame
import Derived.Laws.OwnMore
namespace Go.Proofs.Ytjphjnpcpbenlaa
open Go.RowKit

theorem vals_get (ys : List It) : ∀ j u, (vals ys)[j]? = some u → ∃ x, ys[j / 2]? = some x ∧ u = if j % 2 = 0 then .int .i64 x.key else cx (x.l : Nat) (x.y : Nat) := by
  induction ys with
  | nil => intro j u h; simp [vals] at h
  | cons y ys ih =>
    intro j u h
    rw [vals_cons] at h
    match j, h with
    | 0, h => simp at h; exact ⟨y, rfl, h.symm⟩
    | 1, h => simp at h; exact ⟨y, rfl, h.symm⟩
    | j + 2, h =>
      obtain ⟨x, hx, hu⟩ := ih j u (by simpa using h)
      refine ⟨x, ?_, ?_⟩
      · rw [show (j + 2) / 2 = j / 2 + 1 by omega]; simpa using hx
      · rw [show (j + 2) % 2 = j % 2 by omega]; exact hu
theorem Row.news {w : World} {B o : Nat} {ys : List It} (h : Row w B o ys) : ∀ j u, (vals ys)[j]? = some u → w.cell? ((⟨B, o, none⟩ : Addr).add j) = some u := by
  intro j u hj
  obtain ⟨x, hx, rfl⟩ := vals_get ys j u hj
  obtain ⟨c0, c1⟩ := h (j / 2) x hx
  rw [Go.WideShapes.add_plain]
  by_cases hp : j % 2 = 0
  · rw [if_pos hp, show o + j = o + j / 2 * 2 by omega]; exact c0
  · rw [if_neg hp, show o + j = o + j / 2 * 2 + 1 by omega]; exact c1

/-- What append does, whatever is put behind. -/
theorem run_append_sl (W w : World) (v v' : Value) (xs ys : List It) (ty : TypeId) (hG : Ga W w v xs) (hS : Sl w v' ys) (hn : xs.length + ys.length ≤ 300000) :
    ∃ v'' w', (Builtin.append_ #[32, 32] ty #[v, v']).run Try.prog w = .ok v'' w' ∧ Ga W w' v'' (xs ++ ys) := by
  obtain ⟨i, hi, hz, hsz, hby⟩ := info29
  rcases hS with ⟨B, o, cap, rfl, hr, _, _⟩ | ⟨rfl, rfl⟩
  · obtain ⟨v'', w', hrun, h2, h3, _, _⟩ := run_append_own_at (P := Try.prog) w W.heap.size 32 ty 29 i (.agg #[.int .i64 0, .complex .f64 0 0]) 2 24 Try.underlying32 hi hz hsz hby rfl (by omega) v xs.length (vals xs) hG.o ⟨B, o, none⟩ ys.length cap (vals ys) (vals_length ys) hr.news (vals_one_cell ys) (by unfold maxLen; omega) (by omega) hG.k.size
    refine ⟨v'', w', hrun, ?_, Below.grown hG.k h3 hG.k.size (fun b hb => (hG.o.lt b hb).1)⟩
    unfold Own
    rw [List.length_append, vals_append]
    exact h2
  · have hrun := run_append_owned_none (P := Try.prog) (w := w) W.heap.size 32 ty 29 i 2 Try.underlying32 hi v xs.length (vals xs) hG.o
    refine ⟨v, w, hrun, ?_⟩
    rw [List.append_nil]
    exact hG

/-- At a plain statement. -/
theorem wpList_append_sl {ops : Array Oper} {rest : List Oper} {o : Oper} {a : Act} {Q : Exit → Act → World → Prop} (W w : World) (hgd : o.guard = none) (s x : Operand)
    (ho : o.op = .call { callee := .builtin .append, args := #[s, x], argTypes := #[32, 32] })
    (v v' : Value) (xs ys : List It) (hs : a.eval s = v) (hx : a.eval x = v') (hG : Hid (Ga W w v xs)) (hS : Hid (Sl w v' ys)) (hn : xs.length + ys.length ≤ 300000)
    (h : ∀ v'' w', Hid (Ga W w' v'' (xs ++ ys)) → wpList Try.prog ops Q rest (a.put o.dst v'') w') :
    wpList Try.prog ops Q (o :: rest) a w := by
  refine wpList_plain hgd fun K hK => ?_
  obtain ⟨v'', w', hr, hg⟩ := run_append_sl W w v v' xs ys o.type hG.out hS.out hn
  unfold Oper.wp execOp
  simp only [ho, resolve, invoke, builtin, Sem.run_bind, Sem.run_pure, Result.andThen_ok, List.map_toArray, List.map_cons, List.map_nil, hs, hx, hr]
  exact hK _ _ (h v'' w' hg)

/-- At a step of a statement that draws its order. -/
theorem step_append_sl {ops : Array Oper} {o : Oper} {a : Act} {K : Act → World → Prop} {Q : Exit → Act → World → Prop} {E : Prop} (W w : World)
    (hw : Region.wanted o (yielded ops a.tmps) = true) (s x : Operand) (ho : o.op = .call { callee := .builtin .append, args := #[s, x], argTypes := #[32, 32] })
    (v v' : Value) (xs ys : List It) (hs : a.eval s = v) (hx : a.eval x = v') (hG : Ga W w v xs) (hS : Sl w v' ys) (hn : xs.length + ys.length ≤ 300000)
    (h : ∀ v'' w', Ga W w' v'' (xs ++ ys) → K (a.put o.dst v'') w') :
    if Region.wanted o (yielded ops a.tmps) = true then Oper.wp Try.prog o a w K Q else E := by
  rw [if_pos hw]
  obtain ⟨v'', w', hr, hg⟩ := run_append_sl W w v v' xs ys o.type hG hS hn
  unfold Oper.wp execOp
  simp only [ho, resolve, invoke, builtin, Sem.run_bind, Sem.run_pure, Result.andThen_ok, List.map_toArray, List.map_cons, List.map_nil, hs, hx, hr]
  exact h v'' w' hg

/-- A new slice with nothing in it. -/
theorem Ga.made (W : World) : Ga W (W.alloc (.cells #[] 29)) (.slice (some ⟨W.heap.size, 0, none⟩) 0 0) [] :=
  ⟨World.ownsRow_made (base := W.heap.size) (e := 29) (size := 2) W #[] 0 (Nat.le_refl _) (by unfold maxLen; omega) rfl, (Kp.refl _).alloc _⟩
theorem Ga.kp {W w w' : World} {v : Value} {xs : List It} (h : Ga W w v xs) (k : Kp w w') : Ga W w' v xs := ⟨h.o.kp k, h.k.trans k⟩
/-- The item of no mark, laid as the program lays it. -/
def m1 : It := ⟨-1, 0, 0⟩
theorem m1_vals : [Value.int .i64 (-1), .complex .f64 0 0] = vals [m1] := by
  rw [vals_one, cx_zero]; rfl
theorem m1_sl {w : World} {B : Nat} (h : w.heap[B]? = some (.cells #[.int .i64 (-1), .complex .f64 0 0] 29)) : Sl w (.slice (some ⟨B, 0, none⟩) 1 1) [m1] := Sl.block h m1_vals 1 1 rfl (by omega) (by omega)
theorem m1_sm : Sm [m1] := by intro x hx; simp at hx; subst hx; decide
end Go.Proofs.Ytjphjnpcpbenlaa
