/-
  Blocks of memory; what stays where one block alone is written.
-/
import Derived.Test.YtikmgckefbjbkaaGreatDoorRange
import Derived.Deep.RegionHeld3
import Derived.Deep.DeepCutAuto
import Derived.Deep.LoopGhost
namespace Go.Proofs.YtikmgckefbjbkaaGreatDoor
open Go.RowKit

theorem Kp.size {a b : World} (h : Kp a b) : a.heap.size ≤ b.heap.size := Below.size h
theorem last_at (w : World) (o : Obj) (B : Nat) (h : w.heap.size = B) : (w.alloc o).heap[B]? = some o := by subst h; exact last_of w o
theorem last_drew (w : World) (o : Obj) : ((w.alloc o).drew).heap[w.heap.size]? = some o := last_of w o
theorem bl_kp {w w' : World} {B : Nat} {o : Obj} (h : w.heap[B]? = some o) (hk : Kp w w') : w'.heap[B]? = some o := (hk.block B (Array.getElem?_eq_some_iff.1 h).1).trans h
theorem bl_cell {w : World} {B : Nat} {cs : Array Value} {t : TypeId} (h : w.heap[B]? = some (.cells cs t)) (j : Nat) (v : Value) (hv : cs[j]? = some v) : w.cell? ⟨B, j, none⟩ = some v := by
  simp [World.cell?, h, hv]
theorem bl_cellf {w : World} {B : Nat} {cs : Array Value} {t : TypeId} {fr : Nat × Nat} (h : w.heap[B]? = some (.cells cs t fr)) (j : Nat) (v : Value) (hv : cs[j]? = some v) : w.cell? ⟨B, j, none⟩ = some v := by
  simp [World.cell?, h, hv]
theorem bl_lt {w : World} {B : Nat} {o : Obj} (h : w.heap[B]? = some o) : B < w.heap.size := (Array.getElem?_eq_some_iff.1 h).1
theorem bl_frozen {w : World} {B : Nat} {cs : Array Value} {t : TypeId} (h : w.heap[B]? = some (.cells cs t)) (j : Nat) : w.frozen? ⟨B, j, none⟩ = false := by
  simp [World.frozen?, h]
theorem bl_alloc {w : World} {B : Nat} {o : Obj} (h : w.heap[B]? = some o) (o' : Obj) : (w.alloc o').heap[B]? = some o := bl_kp h ((Kp.refl _).alloc _)
theorem bl_drew {w : World} {S : Nat} {o : Obj} (h : w.heap[S]? = some o) : w.drew.heap[S]? = some o := h
theorem bl_set {w : World} {B S j : Nat} {o : Obj} (h : w.heap[B]? = some o) (hne : B ≠ S) (u : Value) : (w.setCell ⟨S, j, none⟩ u).heap[B]? = some o := (Below.heap_setCell w ⟨S, j, none⟩ u B hne).trans h
theorem bl_put {w : World} {B j : Nat} {cs : Array Value} {t : TypeId} (h : w.heap[B]? = some (.cells cs t)) (u : Value) : (w.setCell ⟨B, j, none⟩ u).heap[B]? = some (.cells (cs.setIfInBounds j u) t) := by
  simp [World.setCell, Array.getElem?_modify, h]

/-- Nothing that was there has turned but block P. -/
structure Ks (P : Nat) (w w' : World) : Prop where
  lo : Below P w w'
  block : ∀ b, b < w.heap.size → b ≠ P → w'.heap[b]? = w.heap[b]?
theorem Ks.refl (P : Nat) (w : World) : Ks P w w := ⟨Below.refl _ _, fun _ _ _ => rfl⟩
theorem Ks.size {P : Nat} {a b : World} (h : Ks P a b) : a.heap.size ≤ b.heap.size := h.lo.size
theorem Ks.trans {P : Nat} {a b c : World} (h : Ks P a b) (g : Ks P b c) : Ks P a c := ⟨h.lo.trans g.lo, fun k hk hne => (g.block k (Nat.lt_of_lt_of_le hk h.size) hne).trans (h.block k hk hne)⟩
theorem Kp.ks {P : Nat} {a b : World} (h : Kp a b) (hP : P ≤ a.heap.size) : Ks P a b := ⟨Below.mono h hP, fun k hk _ => h.block k hk⟩
theorem Ks.kp {P : Nat} {a b c : World} (h : Ks P a b) (k : Kp b c) (hP : P ≤ b.heap.size) : Ks P a c := h.trans (k.ks hP)
theorem Ks.set {P : Nat} {a b : World} (h : Ks P a b) (j : Nat) (u : Value) : Ks P a (b.setCell ⟨P, j, none⟩ u) := ⟨h.lo.setCell (Nat.le_refl _) u, fun k hk hne => (Below.heap_setCell b ⟨P, j, none⟩ u k hne).trans (h.block k hk hne)⟩
theorem Ks.drew {P : Nat} {a b : World} (h : Ks P a b) : Ks P a b.drew := ⟨h.lo.drew, h.block⟩
theorem bl_ks {P : Nat} {w w' : World} {B : Nat} {o : Obj} (h : w.heap[B]? = some o) (hne : B ≠ P) (hk : Ks P w w') : w'.heap[B]? = some o := (hk.block B (bl_lt h) hne).trans h
theorem Ks.up {P : Nat} {W w w' : World} (h : Ks P w w') (k : Kp W w) (hP : W.heap.size ≤ P) : Kp W w' :=
  ⟨h.lo.os.trans k.os, h.lo.tape.trans k.tape, h.lo.output.trans k.output, Nat.le_trans k.size h.size, fun b hb => (h.block b (Nat.lt_of_lt_of_le hb k.size) (by omega)).trans (k.block b hb)⟩
theorem bl_set3 {w : World} {B : Nat} {a b c : Value} {t : TypeId} (h : w.heap[B]? = some (.cells #[a, b, c] t)) (x y z : Value) : (((w.setCell ⟨B, 0, none⟩ x).setCell ⟨B, 1, none⟩ y).setCell ⟨B, 2, none⟩ z).heap[B]? = some (.cells #[x, y, z] t) := bl_put (bl_put (bl_put h x) y) z
theorem bl_set4 {w : World} {B : Nat} {a b c d : Value} {t : TypeId} (h : w.heap[B]? = some (.cells #[a, b, c, d] t)) (x y z u : Value) : ((((w.setCell ⟨B, 0, none⟩ x).setCell ⟨B, 1, none⟩ y).setCell ⟨B, 2, none⟩ z).setCell ⟨B, 3, none⟩ u).heap[B]? = some (.cells #[x, y, z, u] t) := bl_put (bl_put (bl_put (bl_put h x) y) z) u
theorem ks_set3 {w : World} {B : Nat} (x y z : Value) : Ks B w (((w.setCell ⟨B, 0, none⟩ x).setCell ⟨B, 1, none⟩ y).setCell ⟨B, 2, none⟩ z) := (((Ks.refl B w).set 0 x).set 1 y).set 2 z
theorem ks_set4 {w : World} {B : Nat} (x y z u : Value) : Ks B w ((((w.setCell ⟨B, 0, none⟩ x).setCell ⟨B, 1, none⟩ y).setCell ⟨B, 2, none⟩ z).setCell ⟨B, 3, none⟩ u) := ((((Ks.refl B w).set 0 x).set 1 y).set 2 z).set 3 u

/-- A constant's bytes, converted to what they are: the block bears a mark. -/
theorem conv_any (w : World) (B : Nat) (C : Array Value) (n c : Nat) (h : w.heap[B]? = some (.cells C 5)) :
    ∃ w', (convert 47 47 (.slice (some ⟨B, 0, none⟩) n c)).run Tryz.prog w = .ok (.slice (some ⟨B, 0, none⟩) n c) w' ∧ w'.heap[B]? = some (.cells C 5 (C.size, C.size + 1)) ∧ Ks B w w' := by
  have hsh : w.shape? B = some (5, C.size) := by unfold World.shape?; rw [h]
  refine ⟨w.freeze ⟨B, C.size, none⟩ 1, ?_, ?_, ?_⟩
  · simp [convert, run_underlying Tryz.underlying47, run_underlying Tryz.underlying5, markStringish, hsh]
  · simp [World.freeze, Array.getElem?_modify, h]
  · refine ⟨⟨rfl, rfl, rfl, ?_, fun b hb => ?_⟩, fun b hb hne => ?_⟩
    · simp [World.freeze]
    · simp only [World.freeze]; rw [if_neg (by decide)]; rw [Array.getElem?_modify, if_neg (by omega)]
    · simp only [World.freeze]; rw [if_neg (by decide)]; rw [Array.getElem?_modify, if_neg (by omega)]
end Go.Proofs.YtikmgckefbjbkaaGreatDoor
