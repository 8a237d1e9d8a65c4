/-
  Small laws for the walks: the world made a letter; results that are an expression and a number.
-/
import Derived.Test.YtikmgckefbjbkaaGreatDoorMem
import Derived.Laws.ResultCell
namespace Go.Proofs.YtikmgckefbjbkaaGreatDoor
open Go.RowKit

theorem opq {P : Program} {c : Code} {Q : Exit → Act → World → Prop} {a : Act} {w : World} (R : World → Prop) (hr : R w) (h : ∀ W, R W → Code.wp P c Q a W) : Code.wp P c Q a w := h w hr
theorem opqC {P : Program} {f : FuncId} {xs : Array Value} {w : World} {post : Ending → World → Prop} (R : World → Prop) (hr : R w) (h : ∀ W, R W → Calls P f xs W post) : Calls P f xs w post := h w hr

theorem rx_ret2 {fn : Func} {p u : Tmp} (h : fn.results = #[.cell p 27, .tmp u]) (tmps : Array Value) (w : World) (S : Nat) (cs : Array Value) (x : Value) (hp : tmps.getD p undef = .pointer (some ⟨S, 0, none⟩)) (hu : tmps.getD u undef = x) (hA : w.heap[S]? = some (.cells cs 27)) (hc : cs.size = 9) : (results fn tmps).run Tryz.prog w = .ok (.tuple #[.agg cs, x]) w := by
  rw [results_cell_tmp h, hp, hu]
  have := run_loadVar_row (P := Tryz.prog) w S 27 27 cs (0, 0) _ hA Tryz.underlying27 rfl (by rw [hc]; kernel_rfl)
  simp [asAddr, Result.andThen, this]
/-- Two expressions of memory at once: the frame of a reader's call. -/
theorem Ks.new {P S : Nat} {a b c : World} (h : Ks P a b) (k : Ks S b c) (hS : a.heap.size ≤ S) (hP : P < a.heap.size) : Ks P a c := h.off k hS hP
theorem Ks.kpt {P : Nat} {a b c : World} (h : Ks P a b) (k : Kp b c) (hP : P < a.heap.size) : Ks P a c := h.kp k (Nat.le_trans (Nat.le_of_lt hP) h.size)

abbrev sgo (x y z : Nat) : Obj := .cells #[.int .i64 (x : Int), .int .u8 (y : Int), .int .i64 (z : Int)] 91
abbrev sgz : Obj := .cells #[.int .i64 0, .int .u8 0, .int .i64 0] 91

set_option maxRecDepth 100000 in
theorem oneOf_any (p : Nat → Bool) (w : World) : Calls Tryz.prog 92 #[sv p] w fun e w' => e = .returned (rxv 1 0 0 0 (W4.of p) (.slice none 0 0)) ∧ Kp w w' := by
  go_enter Tryz.func92, Tryz.ntmps92
  go_wp2_with fail
  exact bodyPost_ret (v := .agg _) (rx_ret rfl _ _ _ _ rfl (last_at _ _ _ (by simp)) rfl) rfl ⟨rfl, ((Kp.refl _).alloc _).alloc _⟩

set_option maxRecDepth 100000 in
theorem repeatable_any (k : Int) (w : World) : Calls Tryz.prog 67 #[.int .i64 k] w fun e w' => e = .returned (.bool (k == 1 || k == 5 || k == 6)) ∧ w' = w := by
  go_enter Tryz.func67, Tryz.ntmps67
  cases h1 : (k == 1)
  · cases h2 : (k == 5)
    · go_wp2
      go_ret
      exact ⟨by simp, rfl⟩
    · go_wp2
      go_ret
      exact ⟨by simp, rfl⟩
  · go_wp2
    go_ret
    exact ⟨by simp, rfl⟩
end Go.Proofs.YtikmgckefbjbkaaGreatDoor
