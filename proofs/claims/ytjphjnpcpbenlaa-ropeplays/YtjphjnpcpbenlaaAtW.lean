/-
  What At does.
-/
import Derived.Test.YtjphjnpcpbenlaaSame
import Derived.Deep.LoopGhost
namespace Go.Proofs.Ytjphjnpcpbenlaa
open Go.RowKit
attribute [local go_sem] run_store_complex

theorem at_left {p q : List It} {j : Nat} (h : j < p.length) : (p ++ q)[j]? = p[j]? := List.getElem?_append_left h
theorem at_right {p q : List It} {j : Nat} (h : p.length ≤ j) : (p ++ q)[j]? = q[j - p.length]? := List.getElem?_append_right h

set_option maxHeartbeats 1000000 in
theorem at_in (t : T) (j : Nat) (x : It) (w : World) (h : In w t) (hx : t.items[j]? = some x) (hn : t.items.length ≤ 100000) :
    Calls Try.prog 21 #[rv (some t), .int .i64 (j : Int)] w fun e w' => e = .returned (.tuple #[iv x, .bool true]) ∧ Kp w w' := by
  have hj : j < t.items.length := (List.getElem?_eq_some_iff.1 hx).1
  obtain ⟨n, eN⟩ : ∃ n, t.items.length = n := ⟨_, rfl⟩
  obtain ⟨W0, hW⟩ : ∃ W, (w.alloc (.cells #[Value.pointer (some ⟨t.blk, 0, none⟩)] 24)).alloc (.cells #[.int .i64 0, .complex .f64 0 0] 29) = W := ⟨_, rfl⟩
  have kw : Kp w W0 := by subst hW; exact ((Kp.refl _).alloc _).alloc _
  have m1 : W0.heap[w.heap.size]? = some (.cells #[Value.pointer (some ⟨t.blk, 0, none⟩)] 24) := by subst hW; exact bl_alloc (last_of _ _) _
  have m2 : W0.heap[w.heap.size + 1]? = some (.cells #[.int .i64 0, .complex .f64 0 0] 29) := by subst hW; exact last_at _ _ _ (by simp)
  have HW : Hid ((w.alloc (.cells #[Value.pointer (some ⟨t.blk, 0, none⟩)] 24)).alloc (.cells #[.int .i64 0, .complex .f64 0 0] 29) = W0) := hW
  have H : Hid (In W0 t ∧ Kp w W0 ∧ t.items[j]? = some x ∧ t.items.length = n) := ⟨h.kp kw, kw, hx, eN⟩
  have M : Hid (W0.heap[w.heap.size]? = some (.cells #[Value.pointer (some ⟨t.blk, 0, none⟩)] 24) ∧ W0.heap[w.heap.size + 1]? = some (.cells #[.int .i64 0, .complex .f64 0 0] 29)) := ⟨m1, m2⟩
  have c0 := bl_cell m1 0 _ rfl
  rw [eN] at hj hn
  have g0 : ¬ (j : Int) < 0 := by omega
  have g1 : ¬ (n : Int) ≤ (j : Int) := by omega
  have hd : decide (n ≤ j) = false := by simp; omega
  clear h hx hW kw m1 m2 eN
  show Calls Try.prog 21 #[.agg #[Value.pointer (some ⟨t.blk, 0, none⟩)], .int .i64 (j : Int)] w _
  go_enter Try.func21, Try.ntmps21
  go_wp2_with fail
  rw [HW.out]
  clear HW
  refine (len_any (some t) _ H.out.1).mono ?_
  rintro e w1 ⟨rfl, k1⟩
  simp only [itemsO]
  rw [H.out.2.2.2]
  have c1 : w1.cell? ⟨w.heap.size, 0, none⟩ = some (Value.pointer (some ⟨t.blk, 0, none⟩)) := bl_cell (bl_kp M.out.1 k1) 0 _ rfl
  have K1 : Hid (Kp W0 w1) := k1
  have I1 : Hid (In w1 t) := H.out.1.kp k1
  clear k1 c0
  go_wp2_with fail
  go_loopg [6, 1] t.ht (fun k p i wr => wr = w1 ∧ ∃ (u : T) (m : Nat), p = .pointer (some ⟨u.blk, 0, none⟩) ∧ i = .int .i64 (m : Int) ∧ In w1 u ∧ u.items[m]? = some x ∧ u.ht ≤ k ∧ u.items.length ≤ 100000)
  case atStart => exact ⟨rfl, t, j, rfl, rfl, I1.out, H.out.2.2.1, Nat.le_refl _, by rw [H.out.2.2.2]; exact hn⟩
  case round =>
    obtain ⟨rfl, u, m, rfl, rfl, iu, ux, uh, un⟩ := hrel
    have hp := u.ht_pos
    have hm : m < u.items.length := (List.getElem?_eq_some_iff.1 ux).1
    cases u with
    | leaf b y =>
      have IU : Hid (Head wr (.leaf b y)) := iu
      have UX : Hid (y = x) := by
        simp only [T.items, List.length_singleton] at hm
        have : m = 0 := by omega
        subst this
        show y = x
        simpa [T.items] using ux
      clear iu ux uh un hp hm
      rw [show (T.leaf b y).blk = b from rfl]
      go_wp2_with fail
      refine (leaf_any (.leaf b y) _ IU.out).mono ?_
      rintro e w2 ⟨rfl, rfl⟩
      simp only [T.lp, Option.isNone_none]
      go_wp2_with fail
      refine (item_any b y _ IU.out).mono ?_
      rintro e w2 ⟨rfl, k2⟩
      have b2 := bl_kp (bl_kp M.out.2 K1.out) k2
      have d0 := bl_cell b2 0 (.int .i64 0) rfl
      have d1 := bl_cell b2 1 (.complex .f64 0 0) rfl
      have f0 := bl_frozen b2 0
      have f1 := bl_frozen b2 1
      have K2 : Hid (Kp w w2) := (H.out.2.1.trans K1.out).trans k2
      clear k2 b2
      go_wp2_with fail
      refine bodyPost_ret (v := .tuple #[iv y, .bool true]) (by simp [results, Try.results21, go_sem, d0, d1]) rfl ⟨by rw [UX.out], ?_⟩
      exact (K2.out.setCell (show w.heap.size ≤ w.heap.size + 1 by omega) _).setCell (show w.heap.size ≤ w.heap.size + 1 by omega) _
    | fork b p q =>
      obtain ⟨e0, e1, _, _⟩ := iu.fork_cells
      have l3 := iu.2.1.cell3
      have IU : Hid (In wr (.fork b p q)) := iu
      have UX : Hid ((p.items ++ q.items)[m]? = some x) := ux
      have HH : Hid (1 + max p.ht q.ht ≤ gk) := uh
      rw [len_fork] at un hm
      obtain ⟨np, eP⟩ : ∃ n, p.items.length = n := ⟨_, rfl⟩
      have HP : Hid (p.items.length = np) := eP
      rw [eP] at l3 un hm
      have UN : Hid (np + q.items.length ≤ 100000) := un
      have un2 : np ≤ 100000 := by omega
      have hmb : m ≤ 100000 := by omega
      clear iu ux uh eP un hp
      rw [show (T.fork b p q).blk = b from rfl]
      go_wp2_with fail
      refine (leaf_any (.fork b p q) _ IU.out.1).mono ?_
      rintro e w2 ⟨rfl, rfl⟩
      simp only [T.lp, Option.isNone_some]
      by_cases hc : (m : Int) < (np : Int)
      · go_wp2_with fail
        go_roundg (gk - 1)
        case measure => have := HH.out; omega
        case rel => exact ⟨rfl, p, m, rfl, rfl, IU.out.2.1, by have a := UX.out; rw [at_left (by rw [HP.out]; omega)] at a; exact a, by have := HH.out; omega, by rw [HP.out]; exact un2⟩
      · have hw : Hid ((m : Int) - (np : Int) = ((m - np : Nat) : Int)) := (by omega : (m : Int) - (np : Int) = ((m - np : Nat) : Int))
        have hc' : (np : Int) ≤ (m : Int) := by omega
        go_wp2_with fail
        go_roundg (gk - 1)
        case measure => have := HH.out; omega
        case rel => exact ⟨rfl, q, m - np, rfl, by rw [hw.out], IU.out.2.2, by have a := UX.out; rw [at_right (by rw [HP.out]; omega), HP.out] at a; exact a, by have := HH.out; omega, by have := UN.out; omega⟩

theorem at_out (t : Option T) (i : Int) (w : World) (h : InO w t) (hi : i < 0 ∨ ((itemsO t).length : Int) ≤ i) :
    Calls Try.prog 21 #[rv t, .int .i64 i] w fun e w' => e = .returned (.tuple #[.agg #[.int .i64 0, .complex .f64 0 0], .bool false]) ∧ Kp w w' := by
  obtain ⟨n, eN⟩ : ∃ n, (itemsO t).length = n := ⟨_, rfl⟩
  by_cases hneg : i < 0
  · clear h hi eN
    go_enter Try.func21, Try.ntmps21
    go_wp2_with fail
    exact bodyPost_ret (v := .tuple #[.agg #[.int .i64 0, .complex .f64 0 0], .bool false]) (by simp [results, Try.results21, go_sem]) rfl ⟨rfl, ((Kp.refl _).alloc _).alloc _⟩
  · obtain ⟨W0, hW⟩ : ∃ W, (w.alloc (.cells #[.pointer (pO t)] 24)).alloc (.cells #[.int .i64 0, .complex .f64 0 0] 29) = W := ⟨_, rfl⟩
    have kw : Kp w W0 := by subst hW; exact ((Kp.refl _).alloc _).alloc _
    have m2 : W0.heap[w.heap.size + 1]? = some (.cells #[.int .i64 0, .complex .f64 0 0] 29) := by subst hW; exact last_at _ _ _ (by simp)
    have HW : Hid ((w.alloc (.cells #[.pointer (pO t)] 24)).alloc (.cells #[.int .i64 0, .complex .f64 0 0] 29) = W0) := hW
    have H : Hid (InO W0 t ∧ Kp w W0 ∧ (itemsO t).length = n) := ⟨h.kp kw, kw, eN⟩
    have M : Hid (W0.heap[w.heap.size + 1]? = some (.cells #[.int .i64 0, .complex .f64 0 0] 29)) := m2
    rw [eN] at hi
    have g1 : (n : Int) ≤ i := by omega
    clear h hW kw m2 eN hi
    go_enter Try.func21, Try.ntmps21
    go_wp2_with fail
    rw [HW.out]
    clear HW
    refine (len_any t _ H.out.1).mono ?_
    rintro e w1 ⟨rfl, k1⟩
    rw [H.out.2.2]
    have b2 := bl_kp M.out k1
    have d0 := bl_cell b2 0 (.int .i64 0) rfl
    have d1 := bl_cell b2 1 (.complex .f64 0 0) rfl
    have f0 := bl_frozen b2 0
    have f1 := bl_frozen b2 1
    have K2 : Hid (Kp w w1) := H.out.2.1.trans k1
    clear k1 b2
    go_wp2_with fail
    refine bodyPost_ret (v := .tuple #[.agg #[.int .i64 0, .complex .f64 0 0], .bool false]) (by simp [results, Try.results21, go_sem, d0, d1]) rfl ⟨rfl, ?_⟩
    exact (K2.out.setCell (show w.heap.size ≤ w.heap.size + 1 by omega) _).setCell (show w.heap.size ≤ w.heap.size + 1 by omega) _
end Go.Proofs.Ytjphjnpcpbenlaa
