/-
  bset.Join of two sets that lie in some block; blocks behind a store.
-/
import Derived.Test.YtfijmepkbflahaaOwned
namespace Go.Proofs.Ytfijmepkbflahaa
open Go.RowKit

set_option maxHeartbeats 1000000 in
theorem join2g (p q : Nat → Bool) (w : World) (B : Nat) (hX : w.heap[B]? = some (two p q)) :
    Calls Try.prog 10 #[.slice (some ⟨B, 0, none⟩) 2 2] w fun e w' => e = .returned (sv (orB p q)) ∧ Kp w w' := by
  have hlt : B < w.heap.size := (Array.getElem?_eq_some_iff.1 hX).1
  have c0 : w.cell? ⟨B, 0, none⟩ = some (.int .u64 (wd p 0 : Nat)) := cell_of_row w B 0 _ 24 (0, 0) hX
  have c1 : w.cell? ⟨B, 1, none⟩ = some (.int .u64 (wd p 1 : Nat)) := cell_of_row w B 1 _ 24 (0, 0) hX
  have c2 : w.cell? ⟨B, 2, none⟩ = some (.int .u64 (wd p 2 : Nat)) := cell_of_row w B 2 _ 24 (0, 0) hX
  have c3 : w.cell? ⟨B, 3, none⟩ = some (.int .u64 (wd p 3 : Nat)) := cell_of_row w B 3 _ 24 (0, 0) hX
  have c4 : w.cell? ⟨B, 4, none⟩ = some (.int .u64 (wd q 0 : Nat)) := cell_of_row w B 4 _ 24 (0, 0) hX
  have c5 : w.cell? ⟨B, 5, none⟩ = some (.int .u64 (wd q 1 : Nat)) := cell_of_row w B 5 _ 24 (0, 0) hX
  have c6 : w.cell? ⟨B, 6, none⟩ = some (.int .u64 (wd q 2 : Nat)) := cell_of_row w B 6 _ 24 (0, 0) hX
  have c7 : w.cell? ⟨B, 7, none⟩ = some (.int .u64 (wd q 3 : Nat)) := cell_of_row w B 7 _ 24 (0, 0) hX
  clear hX
  have hl1 : B < w.heap.size + 1 := by omega
  have hl2 : B < w.heap.size + 1 + 1 := by omega
  have i0 := ix0; have i1 := ix1; have i2 := ix2; have i3 := ix3
  have o0 := or_zero p
  have o1 := or_wd p q
  go_enter Try.func10, Try.ntmps10
  go_wp2
  refine wp_loop_rounds 3 ?_
  rw [rounds_succ]
  go_wp2
  refine wp_loop_rounds 5 ?_
  iterate 5 (rw [rounds_succ]; go_wp2)
  rw [rounds_succ]
  go_wp2
  refine wp_loop_rounds 5 ?_
  iterate 5 (rw [rounds_succ]; go_wp2)
  rw [rounds_succ]
  go_wp2
  refine bodyPost_ret (v := sv (orB p q)) (by simp [results, Try.results10, go_sem]) rfl ⟨rfl, ?_⟩
  exact ((((Kp.refl _).alloc _).alloc _).alloc _).alloc _

theorem last_of' (w : World) (o o' : Obj) : ((w.alloc o).alloc o').heap[w.heap.size + 1]? = some o' := by
  have h := last_of (w.alloc o) o'
  rw [show (w.alloc o).heap.size = w.heap.size + 1 by simp] at h
  exact h

theorem last_under (w : World) (o o' : Obj) : ((w.alloc o).alloc o').heap[w.heap.size]? = some o := by
  rw [Below.heap_alloc _ _ _ (by simp)]
  exact last_of w o

theorem At.setCell {w : World} {S B j : Nat} {q : Nat → Bool} (h : At w S q) (hne : S ≠ B) (v : Value) : At (w.setCell ⟨B, j, none⟩ v) S q := by
  unfold At at *
  rw [Below.heap_setCell _ _ _ _ hne]
  exact h

theorem At.zero1 (w : World) (o : Obj) : At ((w.alloc o).alloc zero4) (w.heap.size + 1) (fun _ => false) := by
  have h := At.zero (w.alloc o)
  rw [show (w.alloc o).heap.size = w.heap.size + 1 by simp] at h
  exact h
end Go.Proofs.Ytfijmepkbflahaa
