/-
  What stays as it was where a slice of items grows, or a variable of a rope is written.
-/
import Derived.Test.YtjphjnpcpbenlaaRuns
namespace Go.Proofs.Ytjphjnpcpbenlaa
open Go.RowKit

theorem Own.row {base : Nat} {w : World} {v : Value} {xs : List It} (h : Own base w v xs) (g : Nat) (hg : v.ownBlock = some g) : ∃ cur, w.heap[g]? = some (.cells cur 29) := by
  rcases h.2 with ⟨rfl, _⟩ | ⟨g', cap, cur, rfl, _, hc, _⟩
  · cases hg
  · simp [Value.ownBlock] at hg
    subst hg
    exact ⟨cur, hc⟩
theorem bl_grown {base : Nat} {w w' : World} {v : Value} {xs : List It} (h : Own base w v xs) (hg : w.grownBy w' v.ownBlock) {B : Nat} {cs : Array Value} {t : TypeId} (hB : w.heap[B]? = some (.cells cs t)) (ht : t ≠ 29) : w'.heap[B]? = some (.cells cs t) := by
  refine (hg.block B (bl_lt hB) ?_).trans hB
  intro e
  obtain ⟨cur, hc⟩ := h.row B e.symm
  exact bl_ne hB hc ht rfl
theorem In.grown {base : Nat} {w w' : World} {v : Value} {xs : List It} (h : Own base w v xs) (hg : w.grownBy w' v.ownBlock) {t : T} (ht : In w t) : In w' t := by
  induction t with
  | leaf b x => exact bl_grown h hg (B := b) ht (by decide)
  | fork b p q hp hq => exact ⟨bl_grown h hg (B := b) ht.1 (by decide), hp ht.2.1, hq ht.2.2⟩
theorem Ok.grown {base : Nat} {w w' : World} {v : Value} {xs ys : List It} (h : Own base w v xs) (hg : w.grownBy w' v.ownBlock) {t : Option T} (ht : Ok w t ys) : Ok w' t ys := by
  refine ⟨?_, ht.b, ht.e⟩
  cases t with
  | none => trivial
  | some t => exact In.grown h hg ht.i
theorem Vr.grown {base : Nat} {w w' : World} {v : Value} {xs : List It} (h : Own base w v xs) (hg : w.grownBy w' v.ownBlock) {S : Nat} {t : Option T} (ht : Vr w S t) : Vr w' S t := bl_grown h hg ht (by decide)

theorem Ok.set {w : World} {t u : Option T} {xs : List It} {S : Nat} (h : Ok w t xs) (hS : Vr w S u) (v : Value) : Ok (w.setCell ⟨S, 0, none⟩ v) t xs := ⟨h.i.set hS (by decide) v, h.b, h.e⟩
theorem Own.set {base : Nat} {w : World} {v : Value} {xs : List It} {S : Nat} {u : Option T} (h : Own base w v xs) (hS : Vr w S u) (x : Value) : Own base (w.setCell ⟨S, 0, none⟩ x) v xs := by
  obtain ⟨h1, h2⟩ := h
  refine ⟨h1, ?_⟩
  rcases h2 with h2 | ⟨g, cap, cur, hv, hb, hg, hr⟩
  · exact .inl h2
  · exact .inr ⟨g, cap, cur, hv, hb, bl_set hg (bl_ne hg hS (by decide)) x, hr⟩
theorem Vr.put {w : World} {S : Nat} {u : Option T} (h : Vr w S u) (t : Option T) : Vr (w.setCell ⟨S, 0, none⟩ (.pointer (pO t))) S t := by
  unfold Vr at *
  simp only [World.setCell, Array.getElem?_modify, if_true, h, Option.map_some]
  rfl
theorem Vr.set {w : World} {S S' : Nat} {u : Option T} (h : Vr w S u) (hne : S ≠ S') (v : Value) : Vr (w.setCell ⟨S', 0, none⟩ v) S u := bl_set h hne v
theorem Vr.frozen {w : World} {S : Nat} {u : Option T} (h : Vr w S u) : w.frozen? ⟨S, 0, none⟩ = false := bl_frozen h 0
theorem Vr.lt {w : World} {S : Nat} {u : Option T} (h : Vr w S u) : S < w.heap.size := bl_lt h
end Go.Proofs.Ytjphjnpcpbenlaa
