/-
  Expressions: as trees, as values, as they lie in memory.
-/
import Derived.Test.YtikmgckefbjbkaaGreatDoorSign3
namespace Go.Proofs.YtikmgckefbjbkaaGreatDoor
open Go.RowKit

/-- A set of bytes, word by word. -/
structure W4 where
  a : Nat
  b : Nat
  c : Nat
  d : Nat
deriving DecidableEq
def W4.of (p : Nat → Bool) : W4 := ⟨wd p 0, wd p 1, wd p 2, wd p 3⟩

/-- An expression. -/
inductive Rx where
  | mk (k mn mx n : Int) (s : W4) (kids : List Rx)

/-- Its value. -/
abbrev rxv (k mn mx n : Int) (s : W4) (ks : Value) : Value := .agg #[.int .i64 k, .int .i64 mn, .int .i64 mx, .int .i64 n, .int .u64 (s.a : Int), .int .u64 (s.b : Int), .int .u64 (s.c : Int), .int .u64 (s.d : Int), ks]
abbrev rxo (k mn mx n : Int) (s : W4) (ks : Value) : Obj := .cells #[.int .i64 k, .int .i64 mn, .int .i64 mx, .int .i64 n, .int .u64 (s.a : Int), .int .u64 (s.b : Int), .int .u64 (s.c : Int), .int .u64 (s.d : Int), ks] 27
abbrev rz : Value := .agg #[.int .i64 0, .int .i64 0, .int .i64 0, .int .i64 0, .int .u64 0, .int .u64 0, .int .u64 0, .int .u64 0, .slice none 0 0]
abbrev rzo : Obj := .cells #[.int .i64 0, .int .i64 0, .int .i64 0, .int .i64 0, .int .u64 0, .int .u64 0, .int .u64 0, .int .u64 0, .slice none 0 0] 27
theorem bl_set9 {w : World} {B : Nat} {a0 a1 a2 a3 a4 a5 a6 a7 a8 : Value} {t : TypeId} (h : w.heap[B]? = some (.cells #[a0, a1, a2, a3, a4, a5, a6, a7, a8] t)) (x0 x1 x2 x3 x4 x5 x6 x7 x8 : Value) :
    (((((((((w.setCell ⟨B, 0, none⟩ x0).setCell ⟨B, 1, none⟩ x1).setCell ⟨B, 2, none⟩ x2).setCell ⟨B, 3, none⟩ x3).setCell ⟨B, 4, none⟩ x4).setCell ⟨B, 5, none⟩ x5).setCell ⟨B, 6, none⟩ x6).setCell ⟨B, 7, none⟩ x7).setCell ⟨B, 8, none⟩ x8).heap[B]? = some (.cells #[x0, x1, x2, x3, x4, x5, x6, x7, x8] t) := by
  have h0 : (w.setCell ⟨B, 0, none⟩ x0).heap[B]? = some (.cells #[x0, a1, a2, a3, a4, a5, a6, a7, a8] t) := bl_put h x0
  have h1 : ((w.setCell ⟨B, 0, none⟩ x0).setCell ⟨B, 1, none⟩ x1).heap[B]? = some (.cells #[x0, x1, a2, a3, a4, a5, a6, a7, a8] t) := bl_put h0 x1
  have h2 : (((w.setCell ⟨B, 0, none⟩ x0).setCell ⟨B, 1, none⟩ x1).setCell ⟨B, 2, none⟩ x2).heap[B]? = some (.cells #[x0, x1, x2, a3, a4, a5, a6, a7, a8] t) := bl_put h1 x2
  have h3 : ((((w.setCell ⟨B, 0, none⟩ x0).setCell ⟨B, 1, none⟩ x1).setCell ⟨B, 2, none⟩ x2).setCell ⟨B, 3, none⟩ x3).heap[B]? = some (.cells #[x0, x1, x2, x3, a4, a5, a6, a7, a8] t) := bl_put h2 x3
  have h4 : (((((w.setCell ⟨B, 0, none⟩ x0).setCell ⟨B, 1, none⟩ x1).setCell ⟨B, 2, none⟩ x2).setCell ⟨B, 3, none⟩ x3).setCell ⟨B, 4, none⟩ x4).heap[B]? = some (.cells #[x0, x1, x2, x3, x4, a5, a6, a7, a8] t) := bl_put h3 x4
  have h5 : ((((((w.setCell ⟨B, 0, none⟩ x0).setCell ⟨B, 1, none⟩ x1).setCell ⟨B, 2, none⟩ x2).setCell ⟨B, 3, none⟩ x3).setCell ⟨B, 4, none⟩ x4).setCell ⟨B, 5, none⟩ x5).heap[B]? = some (.cells #[x0, x1, x2, x3, x4, x5, a6, a7, a8] t) := bl_put h4 x5
  have h6 : (((((((w.setCell ⟨B, 0, none⟩ x0).setCell ⟨B, 1, none⟩ x1).setCell ⟨B, 2, none⟩ x2).setCell ⟨B, 3, none⟩ x3).setCell ⟨B, 4, none⟩ x4).setCell ⟨B, 5, none⟩ x5).setCell ⟨B, 6, none⟩ x6).heap[B]? = some (.cells #[x0, x1, x2, x3, x4, x5, x6, a7, a8] t) := bl_put h5 x6
  have h7 : ((((((((w.setCell ⟨B, 0, none⟩ x0).setCell ⟨B, 1, none⟩ x1).setCell ⟨B, 2, none⟩ x2).setCell ⟨B, 3, none⟩ x3).setCell ⟨B, 4, none⟩ x4).setCell ⟨B, 5, none⟩ x5).setCell ⟨B, 6, none⟩ x6).setCell ⟨B, 7, none⟩ x7).heap[B]? = some (.cells #[x0, x1, x2, x3, x4, x5, x6, x7, a8] t) := bl_put h6 x7
  have h8 : (((((((((w.setCell ⟨B, 0, none⟩ x0).setCell ⟨B, 1, none⟩ x1).setCell ⟨B, 2, none⟩ x2).setCell ⟨B, 3, none⟩ x3).setCell ⟨B, 4, none⟩ x4).setCell ⟨B, 5, none⟩ x5).setCell ⟨B, 6, none⟩ x6).setCell ⟨B, 7, none⟩ x7).setCell ⟨B, 8, none⟩ x8).heap[B]? = some (.cells #[x0, x1, x2, x3, x4, x5, x6, x7, x8] t) := bl_put h7 x8
  exact h8
theorem ks_set9 {w : World} {B : Nat} (x0 x1 x2 x3 x4 x5 x6 x7 x8 : Value) :
    Ks B w (((((((((w.setCell ⟨B, 0, none⟩ x0).setCell ⟨B, 1, none⟩ x1).setCell ⟨B, 2, none⟩ x2).setCell ⟨B, 3, none⟩ x3).setCell ⟨B, 4, none⟩ x4).setCell ⟨B, 5, none⟩ x5).setCell ⟨B, 6, none⟩ x6).setCell ⟨B, 7, none⟩ x7).setCell ⟨B, 8, none⟩ x8) :=
  ((((((((((Ks.refl B w).set 0 x0).set 1 x1).set 2 x2).set 3 x3).set 4 x4).set 5 x5).set 6 x6).set 7 x7).set 8 x8)
theorem rx_ret {fn : Func} {p : Tmp} (h : fn.results = #[.cell p 27]) (tmps : Array Value) (w : World) (S : Nat) (cs : Array Value) (hp : tmps.getD p undef = .pointer (some ⟨S, 0, none⟩)) (hA : w.heap[S]? = some (.cells cs 27)) (hc : cs.size = 9) : (results fn tmps).run Tryz.prog w = .ok (.agg cs) w :=
  results_cell_row h tmps w S 27 _ (0, 0) _ hp hA Tryz.underlying27 rfl (by rw [hc]; kernel_rfl)

theorem Ks.alloc {P : Nat} {a b : World} (h : Ks P a b) (o : Obj) (hP : P ≤ b.heap.size) : Ks P a (b.alloc o) := h.kp ((Kp.refl _).alloc _) hP
/-- What was written last is not the reader's. -/
theorem Ks.off {P S : Nat} {a b c : World} (h : Ks P a b) (k : Ks S b c) (hS : a.heap.size ≤ S) (hP : P < a.heap.size) : Ks P a c :=
  ⟨h.lo.trans (k.lo.mono (by omega)), fun x hx hne => (k.block x (Nat.lt_of_lt_of_le hx h.size) (by omega)).trans (h.block x hx hne)⟩

set_option maxRecDepth 100000 in
theorem node_any (k mn mx m : Int) (t : W4) (ad : Option Addr) (l c : Nat) (s : ByteArray) (ere : Bool) (i n g d P : Nat) (w : World) (h : Rd w P s ere i n g d) (hn : n ≤ 1000000000) :
    Calls Tryz.prog 52 #[.pointer (some ⟨P, 0, none⟩), rxv k mn mx m t (.slice ad l c)] w fun e w' => e = .returned (rxv k mn mx m t (.slice ad l c)) ∧ Rd w' P s ere i (n + 1) g d ∧ Ks P w w' := by
  have R : Hid (Rd w P s ere i n g d) := h
  have hP : P < w.heap.size := h.lt
  clear h
  go_enter Tryz.func52, Tryz.ntmps52
  go_upto_region 1 with fail
  obtain ⟨W0, hW0⟩ : ∃ W, (w.alloc (rxo k mn mx m t (.slice ad l c))).alloc rzo = W := ⟨_, rfl⟩
  rw [hW0]
  have R0 : Hid (Rd W0 P s ere i n g d ∧ Kp w W0) := by subst hW0; exact ⟨R.out.kp (((Kp.refl _).alloc _).alloc _), ((Kp.refl _).alloc _).alloc _⟩
  have A0 : Hid (W0.heap[w.heap.size]? = some (rxo k mn mx m t (.slice ad l c)) ∧ W0.heap[w.heap.size + 1]? = some rzo) := by subst hW0; exact ⟨bl_alloc (last_of _ _) _, last_at _ _ _ (by simp)⟩
  clear hW0
  have p3 := R0.out.1.cells.2.2.2.1
  have fp3 := bl_frozen R0.out.1.b 3
  have gw : IntKind.i64.wrap ((n : Int) + 1) = (n : Int) + 1 := by rw [IntKind.wrap_i64]; omega
  have ks0 : Hid (Ks P w W0) := R0.out.2.ks (Nat.le_of_lt hP)
  go_upto_region 2 with fail
  clear p3 fp3
  obtain ⟨W1, hW1⟩ : ∃ W, W0.setCell ⟨P, 3, none⟩ (.int .i64 ((n : Int) + 1)) = W := ⟨_, rfl⟩
  rw [hW1]
  have R1 : Hid (Rd W1 P s ere i (n + 1) g d ∧ Ks P w W1) := by subst hW1; exact ⟨R0.out.1.nodes (n + 1), ks0.out.set 3 _⟩
  have A1 : Hid (W1.heap[w.heap.size]? = some (rxo k mn mx m t (.slice ad l c)) ∧ W1.heap[w.heap.size + 1]? = some rzo) := by subst hW1; exact ⟨bl_set A0.out.1 (by omega) _, bl_set A0.out.2 (by omega) _⟩
  clear hW1
  have a0 := bl_cell (A1.out.1) 0 _ rfl
  have a1 := bl_cell (A1.out.1) 1 _ rfl
  have a2 := bl_cell (A1.out.1) 2 _ rfl
  have a3 := bl_cell (A1.out.1) 3 _ rfl
  have a4 := bl_cell (A1.out.1) 4 _ rfl
  have a5 := bl_cell (A1.out.1) 5 _ rfl
  have a6 := bl_cell (A1.out.1) 6 _ rfl
  have a7 := bl_cell (A1.out.1) 7 _ rfl
  have a8 := bl_cell (A1.out.1) 8 _ rfl
  have b0 := bl_cell (A1.out.2) 0 _ rfl
  have fb0 := bl_frozen (A1.out.2) 0
  have b1 := bl_cell (A1.out.2) 1 _ rfl
  have fb1 := bl_frozen (A1.out.2) 1
  have b2 := bl_cell (A1.out.2) 2 _ rfl
  have fb2 := bl_frozen (A1.out.2) 2
  have b3 := bl_cell (A1.out.2) 3 _ rfl
  have fb3 := bl_frozen (A1.out.2) 3
  have b4 := bl_cell (A1.out.2) 4 _ rfl
  have fb4 := bl_frozen (A1.out.2) 4
  have b5 := bl_cell (A1.out.2) 5 _ rfl
  have fb5 := bl_frozen (A1.out.2) 5
  have b6 := bl_cell (A1.out.2) 6 _ rfl
  have fb6 := bl_frozen (A1.out.2) 6
  have b7 := bl_cell (A1.out.2) 7 _ rfl
  have fb7 := bl_frozen (A1.out.2) 7
  have b8 := bl_cell (A1.out.2) 8 _ rfl
  have fb8 := bl_frozen (A1.out.2) 8

  go_wp2_with fail
  refine bodyPost_ret (v := .agg _) (rx_ret rfl _ _ _ _ rfl (bl_set9 A1.out.2 _ _ _ _ _ _ _ _ _) rfl) rfl ⟨rfl, ?_, ?_⟩
  · exact R1.out.1.ks (ks_set9 _ _ _ _ _ _ _ _ _) (by omega) (by omega)
  · exact R1.out.2.off (ks_set9 _ _ _ _ _ _ _ _ _) (by omega) hP
end Go.Proofs.YtikmgckefbjbkaaGreatDoor
