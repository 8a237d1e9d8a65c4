/-
  What the methods Len, Mark, Height and Split, and Join, do.
-/
import Derived.Test.YtjphjnpcpbenlaaGrow
namespace Go.Proofs.Ytjphjnpcpbenlaa
open Go.RowKit
attribute [local go_sem] run_store_complex

abbrev nO (t : Option T) : Nat := (itemsO t).length

theorem al_cell {w : World} {a : Addr} {v : Value} (h : w.cell? a = some v) (o : Obj) : (w.alloc o).cell? a = some v := (((Kp.refl w).alloc o).cell (block_lt_of_cell h)).trans h

theorem len_any (t : Option T) (w : World) (h : InO w t) :
    Calls Try.prog 14 #[rv t] w fun e w' => e = .returned (.int .i64 ((itemsO t).length : Nat)) ∧ Kp w w' := by
  cases t with
  | none =>
    show Calls Try.prog 14 #[.agg #[.pointer none]] w _
    go_enter Try.func14, Try.ntmps14
    go_wp2
    go_ret
    exact ⟨rfl, (Kp.refl _).alloc _⟩
  | some t =>
    have c := al_cell (In.cell3 h) (.cells #[Value.pointer (some ⟨t.blk, 0, none⟩)] 24)
    clear h
    simp only [itemsO]
    generalize t.items.length = n at *
    show Calls Try.prog 14 #[.agg #[Value.pointer (some ⟨t.blk, 0, none⟩)]] w _
    generalize t.blk = b at *
    go_enter Try.func14, Try.ntmps14
    go_wp2
    go_ret
    exact ⟨rfl, (Kp.refl _).alloc _⟩

theorem height_any (t : Option T) (w : World) (h : InO w t) :
    Calls Try.prog 23 #[rv t] w fun e w' => e = .returned (.int .i64 (htO t : Nat)) ∧ Kp w w' := by
  cases t with
  | none =>
    show Calls Try.prog 23 #[.agg #[.pointer none]] w _
    go_enter Try.func23, Try.ntmps23
    go_wp2
    go_ret
    exact ⟨rfl, (Kp.refl _).alloc _⟩
  | some t =>
    have c := al_cell (In.cell4 h) (.cells #[Value.pointer (some ⟨t.blk, 0, none⟩)] 24)
    clear h
    simp only [htO]
    generalize t.ht = n at *
    show Calls Try.prog 23 #[.agg #[Value.pointer (some ⟨t.blk, 0, none⟩)]] w _
    generalize t.blk = b at *
    go_enter Try.func23, Try.ntmps23
    go_wp2
    go_ret
    exact ⟨rfl, (Kp.refl _).alloc _⟩

/-- A row's mark. -/
abbrev mk (xs : List It) : Value := cx (lsum It.l xs : Nat) (lsum It.y xs : Nat)

theorem mark_any (t : Option T) (w : World) (h : InO w t) :
    Calls Try.prog 20 #[rv t] w fun e w' => e = .returned (mk (itemsO t)) ∧ Kp w w' := by
  cases t with
  | none =>
    show Calls Try.prog 20 #[.agg #[.pointer none]] w _
    go_enter Try.func20, Try.ntmps20
    go_wp2
    go_ret
    exact ⟨by rw [cx_zero]; rfl, (Kp.refl _).alloc _⟩
  | some t =>
    have c := al_cell (In.head h).cells.2.2.2.2.2.1 (.cells #[Value.pointer (some ⟨t.blk, 0, none⟩)] 24)
    clear h
    simp only [T.ln, T.bt] at c
    show Calls Try.prog 20 #[.agg #[Value.pointer (some ⟨t.blk, 0, none⟩)]] w fun e w' => e = .returned (cx (lsum It.l t.items : Nat) (lsum It.y t.items : Nat)) ∧ Kp w w'
    generalize lsum It.l t.items = n at *
    generalize lsum It.y t.items = m at *
    generalize t.blk = b at *
    go_enter Try.func20, Try.ntmps20
    go_wp2
    go_ret
    exact ⟨rfl, (Kp.refl _).alloc _⟩

theorem split_rope (t : Option T) (i : Int) (w : World) (h : InO w t) (hb : BalO t) (hn : (itemsO t).length ≤ 100000) (hs : Sm (itemsO t)) :
    Calls Try.prog 10 #[rv t, .int .i64 i] w fun e w' => ∃ a b, e = .returned (.tuple #[rv a, rv b]) ∧ Cut (itemsO t) i w w' a b := by
  obtain ⟨W0, hW⟩ : ∃ W, ((w.alloc (.cells #[.pointer (pO t)] 24)).alloc (.cells #[.pointer none] 24)).alloc (.cells #[.pointer none] 24) = W := ⟨_, rfl⟩
  have kw : Kp w W0 := by subst hW; exact (((Kp.refl _).alloc _).alloc _).alloc _
  have m1 : W0.heap[w.heap.size + 1]? = some (.cells #[.pointer none] 24) := by subst hW; exact bl_alloc (last_at _ _ _ (by simp)) _
  have m2 : W0.heap[w.heap.size + 2]? = some (.cells #[.pointer none] 24) := by subst hW; exact last_at _ _ _ (by simp)
  have h0 := h.kp kw
  have HK : Hid (Kp w W0 ∧ W0.heap[w.heap.size + 1]? = some (.cells #[.pointer none] 24) ∧ W0.heap[w.heap.size + 2]? = some (.cells #[.pointer none] 24)) := ⟨kw, m1, m2⟩
  have H0 : Hid (InO W0 t ∧ BalO t) := ⟨h0, hb⟩
  have HW : Hid (((w.alloc (.cells #[.pointer (pO t)] 24)).alloc (.cells #[.pointer none] 24)).alloc (.cells #[.pointer none] 24) = W0) := hW
  clear h hb kw m1 m2 h0 hW
  go_enter Try.func10, Try.ntmps10
  go_wp2_with fail
  rw [HW.out]
  clear HW
  refine (split_any t i _ H0.out.1 H0.out.2 hn hs).mono ?_
  rintro e w1 ⟨a, b, rfl, j⟩
  have J : Hid (Cut (itemsO t) i W0 w1 a b) := j
  have b1 := bl_kp HK.out.2.1 j.k
  have b2 := bl_kp HK.out.2.2 j.k
  have d1 := bl_cell b1 0 (.pointer none) rfl
  have d2 := bl_cell b2 0 (.pointer none) rfl
  have f1 := bl_frozen b1 0
  have f2 := bl_frozen b2 0
  have B : Hid (w1.heap[w.heap.size + 1]? = some (.cells #[.pointer none] 24) ∧ w1.heap[w.heap.size + 2]? = some (.cells #[.pointer none] 24)) := ⟨b1, b2⟩
  clear j b1 b2
  go_wp2_with fail
  have N : w.heap.size + 2 ≠ w.heap.size + 1 := by omega
  have X := bl_set B.out.2 N (.pointer (pO a)) (j := 0)
  have KK : Kp w w1 := HK.out.1.trans J.out.k
  exact bodyPost_ret (v := .tuple #[rv a, rv b]) (by simp [results, Try.results10, go_sem, d1, d2]) rfl
    ⟨a, b, rfl, (J.out.ia.set B.out.1 (by decide) _).set X (by decide) _, (J.out.ib.set B.out.1 (by decide) _).set X (by decide) _, (KK.setCell (show w.heap.size ≤ w.heap.size + 1 by omega) _).setCell (show w.heap.size ≤ w.heap.size + 2 by omega) _, J.out.fa, J.out.fb, J.out.ba, J.out.bb⟩

/-- All items of a list of ropes. -/
def flat (ts : List (Option T)) : List It := ts.flatMap itemsO
theorem flat_take (ts : List (Option T)) (k : Nat) (t : Option T) (h : ts[k]? = some t) : flat (ts.take (k + 1)) = flat (ts.take k) ++ itemsO t := by
  unfold flat
  rw [List.take_add_one, h]; simp
theorem flat_le (ts : List (Option T)) (k : Nat) : (flat (ts.take k)).length ≤ (flat ts).length := by
  have : flat ts = flat (ts.take k) ++ flat (ts.drop k) := by
    unfold flat; rw [← List.flatMap_append, List.take_append_drop]
  rw [this, List.length_append]; omega
theorem flat_sub (ts : List (Option T)) (k : Nat) : ∀ x, x ∈ flat (ts.take k) → x ∈ flat ts := by
  intro x hx
  unfold flat at *
  rw [List.mem_flatMap] at *
  obtain ⟨t, ht, hx⟩ := hx
  exact ⟨t, List.mem_of_mem_take ht, hx⟩

/-- A list of ropes that may be joined. -/
structure Ls (w : World) (B o : Nat) (ts : List (Option T)) : Prop where
  c : ∀ j t, ts[j]? = some t → w.cell? ⟨B, o + j, none⟩ = some (.pointer (pO t))
  i : ∀ t, t ∈ ts → InO w t
  b : ∀ t, t ∈ ts → BalO t
  n : (flat ts).length ≤ 100000
  s : Sm (flat ts)
  l : ts.length ≤ 1000

set_option maxHeartbeats 1000000 in
theorem join_list (ts : List (Option T)) (B o n cap : Nat) (w : World) (hn : ts.length = n) (h : Ls w B o ts) :
    Calls Try.prog 11 #[.slice (some ⟨B, o, none⟩) n cap] w fun e w' => ∃ t, e = .returned (rv t) ∧ Rp (flat ts) w w' t := by
  have hl := h.l
  rw [hn] at hl
  have HN : Hid (ts.length = n) := hn
  have H : Hid (Ls w B o ts) := h
  obtain ⟨W0, hW⟩ : ∃ W, w.alloc (.cells #[.pointer none] 24) = W := ⟨_, rfl⟩
  have KW : Hid (Kp w W0 ∧ W0.heap[w.heap.size]? = some (.cells #[.pointer none] 24)) := by subst hW; exact ⟨(Kp.refl _).alloc _, last_of _ _⟩
  have HW : Hid (w.alloc (.cells #[.pointer none] 24) = W0) := hW
  clear h hn hW
  go_enter Try.func11, Try.ntmps11
  go_wp2_with fail
  rw [HW.out]
  clear HW
  go_loopw [3, 8] (fun r i wr => ∃ (k : Nat) (t : Option T), k ≤ n ∧ i = .int .i64 k ∧ r = .pointer (pO t) ∧ Rp (flat (ts.take k)) W0 wr t) (fun _ i _ => n - (intOf i).toNat)
  case atStart => exact ⟨0, none, Nat.zero_le _, rfl, rfl, trivial, Kp.refl _, rfl, trivial⟩
  case round =>
    obtain ⟨k, t, hk, rfl, rfl, j⟩ := hrel
    rename World => wr
    by_cases hlt : k < n
    · obtain ⟨u, hu⟩ : ∃ u, ts[k]? = some u := ⟨ts[k]'(by rw [HN.out]; exact hlt), List.getElem?_eq_getElem _⟩
      have kr : Kp w wr := KW.out.1.trans j.k
      have hc : wr.cell? ⟨B, o + k, none⟩ = some (.pointer (pO u)) := (kr.cell (block_lt_of_cell (H.out.c k u hu))).trans (H.out.c k u hu)
      have J : Hid (Rp (flat (ts.take k)) W0 wr t) := j
      have KR : Hid (Kp w wr) := kr
      have HU : Hid (ts[k]? = some u) := hu
      have MU : Hid (u ∈ ts) := List.mem_of_getElem? hu
      have FT : Hid (flat (ts.take (k + 1)) = flat (ts.take k) ++ itemsO u) := flat_take ts k u hu
      have LE : Hid ((flat (ts.take k)).length + (itemsO u).length ≤ 100000) := by
        have a := flat_le ts (k + 1)
        rw [FT.out, List.length_append] at a
        exact Nat.le_trans a H.out.n
      have SM : Hid (Sm (flat (ts.take k) ++ itemsO u)) := by
        show Sm _
        rw [← FT.out]; exact H.out.s.sub (flat_sub ts (k + 1))
      clear j kr hu
      go_wp2_with fail
      have ka : Kp wr (wr.alloc (.cells #[.pointer (pO u)] 24)) := (Kp.refl _).alloc _
      refine (join_any t u _ (J.out.i.kp ka) ((H.out.i u MU.out).kp (KR.out.trans ka)) J.out.bal (H.out.b u MU.out) (by rw [J.out.items]; exact LE.out) (by rw [J.out.items]; exact SM.out.left) SM.out.right).mono ?_
      rintro e w2 ⟨z, rfl, j2⟩
      have R : Hid (Rp (flat (ts.take (k + 1))) W0 w2 z) := (⟨j2.i, (J.out.k.trans ka).trans j2.k, by rw [j2.items, J.out.items, FT.out], j2.bal⟩ : Rp (flat (ts.take (k + 1))) W0 w2 z)
      clear j2 ka hc
      go_wp2_with fail
      go_roundw
      case rel => exact ⟨k + 1, z, hlt, by go_num, rfl, R.out⟩
      case measure => simp [intOf]; omega
    · have hkn : k = n := by omega
      subst hkn
      have b0 := bl_kp KW.out.2 j.k
      have d0 := bl_cell b0 0 (.pointer none) rfl
      have f0 := bl_frozen b0 0
      have J : Hid (Rp (flat ts) W0 wr t) := by have e := HN.out; rw [← e, List.take_length] at j; exact j
      have B0 : Hid (wr.heap[w.heap.size]? = some (.cells #[.pointer none] 24)) := b0
      have K : Hid (Kp w wr) := KW.out.1.trans j.k
      clear j b0
      go_wp2_with fail
      exact bodyPost_ret (v := rv t) (by simp [results, Try.results11, go_sem, d0]) rfl ⟨t, rfl, J.out.i.set B0.out (by decide) _, K.out.setCell (Nat.le_refl _) _, J.out.items, J.out.bal⟩

theorem join_nil (w : World) :
    Calls Try.prog 11 #[.slice none 0 0] w fun e w' => e = .returned (rv none) ∧ Kp w w' := by
  go_enter Try.func11, Try.ntmps11
  go_wp2
  refine wp_loop_rounds 1 ?_
  rw [rounds_succ]
  go_wp2
  exact bodyPost_ret (v := rv none) (by simp [results, Try.results11, go_sem, pO]) rfl ⟨rfl, (Kp.refl _).alloc _⟩
end Go.Proofs.Ytjphjnpcpbenlaa
