/-
  What fork does: a new node over two trees.
-/
import Derived.Test.YtjphjnpcpbenlaaNodes
namespace Go.Proofs.Ytjphjnpcpbenlaa
open Go.RowKit
attribute [local go_sem] run_store_complex

set_option maxHeartbeats 1000000 in
theorem fork_raw (p q n1 n2 h1 h2 a b c d : Nat) (l1 r1 l2 r2 : Option Addr) (k1 k2 : Int) (w : World)
    (hp : w.heap[p]? = some (nodeO l1 r1 k1 (n1 : Nat) (h1 : Nat) (a : Nat) (b : Nat))) (hq : w.heap[q]? = some (nodeO l2 r2 k2 (n2 : Nat) (h2 : Nat) (c : Nat) (d : Nat)))
    (hn1 : n1 ≤ 100000) (hn2 : n2 ≤ 100000) (hh1 : h1 ≤ 100000) (hh2 : h2 ≤ 100000) (hac : a + c ≤ 1000000000) (hbd : b + d ≤ 1000000000) :
    Calls Try.prog 34 #[pt p, pt q] w fun e w' => ∃ g, e = .returned (pt g) ∧ w'.heap[g]? = some (nodeO (some ⟨p, 0, none⟩) (some ⟨q, 0, none⟩) 0 ((n1 + n2 : Nat) : Int) ((1 + max h1 h2 : Nat) : Int) ((a + c : Nat) : Int) ((b + d : Nat) : Int)) ∧ Kp w w' := by
  have MK : Hid (∀ W, Kp w W → W.cell? ⟨p, 3, none⟩ = some (.int .i64 (n1 : Nat)) ∧ W.cell? ⟨p, 4, none⟩ = some (.int .i64 (h1 : Nat)) ∧ W.cell? ⟨p, 5, none⟩ = some (cx (a : Nat) (b : Nat)) ∧ W.cell? ⟨p, 6, none⟩ = some (.complex .f64 0 0) ∧ W.cell? ⟨q, 3, none⟩ = some (.int .i64 (n2 : Nat)) ∧ W.cell? ⟨q, 4, none⟩ = some (.int .i64 (h2 : Nat)) ∧ W.cell? ⟨q, 5, none⟩ = some (cx (c : Nat) (d : Nat)) ∧ W.cell? ⟨q, 6, none⟩ = some (.complex .f64 0 0) ∧ Hid (Kp w W)) := fun W k => ⟨bl_cell (bl_kp hp k) 3 _ rfl, bl_cell (bl_kp hp k) 4 _ rfl, bl_cell (bl_kp hp k) 5 _ rfl, bl_cell (bl_kp hp k) 6 _ rfl, bl_cell (bl_kp hq k) 3 _ rfl, bl_cell (bl_kp hq k) 4 _ rfl, bl_cell (bl_kp hq k) 5 _ rfl, bl_cell (bl_kp hq k) 6 _ rfl, k⟩
  have Q0 : Kp w w.drew := (Kp.refl _).drew
  obtain ⟨c13, c14, c15, c16, c23, c24, c25, c26, _⟩ := MK.out w (Kp.refl _)
  clear hp hq
  have hM : Hid (((max h1 h2 : Nat) : Int) = if (h2 : Int) > (h1 : Int) then (h2 : Int) else (h1 : Int)) := by show _ = _; split <;> omega
  have w1' : IntKind.i64.wrap (1 + (h1 : Int)) = 1 + (h1 : Int) := by rw [IntKind.wrap_i64]; omega
  have w2' : IntKind.i64.wrap (1 + (h2 : Int)) = 1 + (h2 : Int) := by rw [IntKind.wrap_i64]; omega
  by_cases hlt : (h2 : Int) > (h1 : Int)
  all_goals
    go_enter Try.func34, Try.ntmps34
    go_wp2_with fail
    go_region_held3 (fun W => W.cell? ⟨p, 3, none⟩ = some (.int .i64 (n1 : Nat)) ∧ W.cell? ⟨p, 4, none⟩ = some (.int .i64 (h1 : Nat)) ∧ W.cell? ⟨p, 5, none⟩ = some (cx (a : Nat) (b : Nat)) ∧ W.cell? ⟨p, 6, none⟩ = some (.complex .f64 0 0) ∧ W.cell? ⟨q, 3, none⟩ = some (.int .i64 (n2 : Nat)) ∧ W.cell? ⟨q, 4, none⟩ = some (.int .i64 (h2 : Nat)) ∧ W.cell? ⟨q, 5, none⟩ = some (cx (c : Nat) (d : Nat)) ∧ W.cell? ⟨q, 6, none⟩ = some (.complex .f64 0 0) ∧ Hid (Kp w W))
      (first | with_reducible exact MK.out _ (Q1.alloc _) | with_reducible exact MK.out _ (Q1) | with_reducible exact MK.out _ (Q0))
      (first
        | (go_at_call 30; refine (both_any (n1 : Nat) (n2 : Nat) _ (by omega) (by omega) (by omega) (by omega)).mono ?_; rintro e w' ⟨rfl, rfl⟩)
        | (go_at_call 29; refine (add_any a b c d _ hac hbd).mono ?_; rintro e w1 ⟨rfl, k⟩; have Q1 := Q0.trans k; clear k))
    all_goals
      go_wp2_with fail
      go_ret
      refine ⟨_, rfl, ?_, Q1.alloc _⟩
      try rw [show ((1 + max h1 h2 : Nat) : Int) = 1 + ((max h1 h2 : Nat) : Int) from by omega]
      rw [hM.out]
      first | rw [if_pos hlt] | rw [if_neg (by omega)]
      try simp only [Int.natCast_add]
      exact last_of _ _

theorem lsum_fork (f : It → Nat) (b : Nat) (p q : T) : lsum f (T.fork b p q).items = lsum f p.items + lsum f q.items := lsum_append f _ _

/-- A fork of two trees. -/
theorem fork_any (p q : T) (w : World) (hp : In w p) (hq : In w q) (hn : p.items.length + q.items.length ≤ 100000) (sp : Sm p.items) (sq : Sm q.items) :
    Calls Try.prog 34 #[pt p.blk, pt q.blk] w fun e w' => ∃ g, e = .returned (pt g) ∧ In w' (.fork g p q) ∧ Kp w w' := by
  have a1 := p.ht_len; have a2 := q.ht_len
  have b1 := sp.lines; have b2 := sq.lines; have b3 := sp.bytes; have b4 := sq.bytes
  refine (fork_raw p.blk q.blk p.items.length q.items.length p.ht q.ht (lsum It.l p.items) (lsum It.y p.items) (lsum It.l q.items) (lsum It.y q.items) p.lp p.rp q.lp q.rp p.ky q.ky w hp.head hq.head (by omega) (by omega) (by omega) (by omega) (by omega) (by omega)).mono ?_
  rintro e w' ⟨g, rfl, hg, k⟩
  refine ⟨g, rfl, ⟨?_, hp.kp k, hq.kp k⟩, k⟩
  show w'.heap[g]? = some (nodeO (some ⟨p.blk, 0, none⟩) (some ⟨q.blk, 0, none⟩) 0 ((p.items ++ q.items).length : Nat) ((1 + max p.ht q.ht : Nat)) (lsum It.l (p.items ++ q.items) : Nat) (lsum It.y (p.items ++ q.items) : Nat))
  rw [List.length_append, lsum_append, lsum_append]
  exact hg

/-- The cells of a fork that are read on the way. -/
theorem In.fork_cells {w : World} {b : Nat} {p q : T} (h : In w (.fork b p q)) :
    w.cell? ⟨b, 0, none⟩ = some (.pointer (some ⟨p.blk, 0, none⟩)) ∧ w.cell? ⟨b, 1, none⟩ = some (.pointer (some ⟨q.blk, 0, none⟩)) ∧ w.cell? ⟨b, 3, none⟩ = some (.int .i64 ((p.items.length + q.items.length : Nat) : Int)) ∧ w.cell? ⟨b, 4, none⟩ = some (.int .i64 ((1 + max p.ht q.ht : Nat) : Int)) := by
  obtain ⟨c0, c1, _, c3, c4, _, _⟩ := h.head.cells
  refine ⟨c0, c1, ?_, c4⟩
  have e : (T.fork b p q).n = p.items.length + q.items.length := List.length_append
  rw [e] at c3
  exact c3
theorem len_fork (g : Nat) (p q : T) : (T.fork g p q).items.length = p.items.length + q.items.length := List.length_append
theorem In.cell3 {w : World} {t : T} (h : In w t) : w.cell? ⟨t.blk, 3, none⟩ = some (.int .i64 (t.items.length : Nat)) := h.head.cells.2.2.2.1
theorem In.cell4 {w : World} {t : T} (h : In w t) : w.cell? ⟨t.blk, 4, none⟩ = some (.int .i64 (t.ht : Nat)) := h.head.cells.2.2.2.2.1
end Go.Proofs.Ytjphjnpcpbenlaa
