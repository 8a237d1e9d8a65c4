/-
  What gather and Items do: a new slice of all items, in order.
-/
import Derived.Test.YtjphjnpcpbenlaaMeth
import Derived.Maps.AppendAt
import Derived.Laws.MakeOwn
import Derived.OwnWalk
namespace Go.Proofs.Ytjphjnpcpbenlaa
open Go.RowKit
attribute [local go_sem] run_store_complex

/-- The cells of a row of items. -/
def vals (xs : List It) : List Value := xs.flatMap fun x => [.int .i64 x.key, cx (x.l : Nat) (x.y : Nat)]
theorem vals_append (xs ys : List It) : vals (xs ++ ys) = vals xs ++ vals ys := by simp [vals]
theorem vals_one (x : It) : vals [x] = [.int .i64 x.key, cx (x.l : Nat) (x.y : Nat)] := by simp [vals]
theorem vals_cons (x : It) (xs : List It) : vals (x :: xs) = .int .i64 x.key :: cx (x.l : Nat) (x.y : Nat) :: vals xs := by simp [vals]
theorem vals_length (xs : List It) : (vals xs).length = xs.length * 2 := by
  induction xs with
  | nil => rfl
  | cons x xs ih => rw [vals_cons, List.length_cons, List.length_cons, ih, List.length_cons]; omega
theorem vals_at (xs : List It) : ∀ j x, xs[j]? = some x → (vals xs)[j * 2]? = some (.int .i64 x.key) ∧ (vals xs)[j * 2 + 1]? = some (cx (x.l : Nat) (x.y : Nat)) := by
  induction xs with
  | nil => intro j x h; simp at h
  | cons y ys ih =>
    intro j x h
    rw [vals_cons]
    cases j with
    | zero => simp at h; subst h; exact ⟨rfl, rfl⟩
    | succ j =>
      have := ih j x (by simpa using h)
      rw [show (j + 1) * 2 = j * 2 + 1 + 1 by omega]
      exact this
theorem vals_one_cell (xs : List It) : ∀ u, u ∈ vals xs → u.oneCell' = true := by
  intro u hu
  unfold vals at hu
  rw [List.mem_flatMap] at hu
  obtain ⟨x, _, hu⟩ := hu
  simp at hu
  rcases hu with rfl | rfl <;> rfl

/-- A slice of the call's own: the items xs, in a block that isn't below base. -/
def Own (base : Nat) (w : World) (v : Value) (xs : List It) : Prop := w.ownsRow base 29 2 v xs.length (vals xs)

theorem info29 : ∃ i, Try.prog.info? 29 = some i ∧ i.zero = some (.agg #[.int .i64 0, .complex .f64 0 0]) ∧ i.size = 2 ∧ i.bytes = 24 := by
  obtain ⟨i, hi, h0, h1, h2⟩ := info_parts (P := Try.prog) (e := 29) (z := .agg #[.int .i64 0, .complex .f64 0 0]) (size := 2) (bytes := 24) (by kernel_rfl)
  exact ⟨i, hi, h0, h1, h2⟩

theorem Own.kp {base : Nat} {w w' : World} {v : Value} {xs : List It} (h : Own base w v xs) (hk : Kp w w') : Own base w' v xs := by
  obtain ⟨h1, h2⟩ := h
  refine ⟨h1, ?_⟩
  rcases h2 with h2 | ⟨g, cap, cur, hv, hb, hg, hr⟩
  · exact .inl h2
  · exact .inr ⟨g, cap, cur, hv, hb, (hk.block g (Array.getElem?_eq_some_iff.1 hg).1).trans hg, hr⟩
theorem Own.mono {base base' : Nat} {w : World} {v : Value} {xs : List It} (h : Own base w v xs) (hb : base' ≤ base) : Own base' w v xs := by
  obtain ⟨h1, h2⟩ := h
  refine ⟨h1, ?_⟩
  rcases h2 with h2 | ⟨g, cap, cur, hv, hb', hg, hr⟩
  · exact .inl h2
  · exact .inr ⟨g, cap, cur, hv, Nat.le_trans hb hb', hg, hr⟩
theorem Own.nil (base : Nat) (w : World) : Own base w (.slice none 0 0) [] := World.ownsRow_nil w base 29 2
/-- What the call owns may be read. -/
theorem Own.sl {base : Nat} {w : World} {v : Value} {xs : List It} (h : Own base w v xs) : Sl w v xs := by
  obtain ⟨h1, h2⟩ := h
  rcases h2 with ⟨rfl, h2⟩ | ⟨g, cap, cur, rfl, hb, hg, hnc, hcm, hcs, ht⟩
  · exact Or.inr ⟨rfl, List.eq_nil_of_length_eq_zero h2⟩
  · refine Or.inl ⟨g, 0, cap, rfl, ?_, hnc, by unfold maxLen at hcm; omega⟩
    intro j x hx
    have hv := vals_at xs j x hx
    have hj : j < xs.length := (List.getElem?_eq_some_iff.1 hx).1
    rw [← ht, List.getElem?_take, List.getElem?_take, if_pos (by omega), if_pos (by omega), Array.getElem?_toList, Array.getElem?_toList] at hv
    rw [show 0 + j * 2 = j * 2 by omega]
    exact ⟨bl_cell hg _ _ hv.1, bl_cell hg _ _ hv.2⟩

/-- An item put behind those that the call owns. -/
theorem wpList_append_item {ops : Array Oper} {rest : List Oper} {o : Oper} {a : Act} {Q : Exit → Act → World → Prop} (W : World) (hgd : o.guard = none) (s x : Operand)
    (ho : o.op = .call { callee := .builtin .append, args := #[s, x], argTypes := #[32, 32] })
    (base : Nat) (v : Value) (it : It) (xs : List It) (hs : a.eval s = v) (hown : Hid (Own base W v xs)) (B : Nat) (hB : B = W.heap.size)
    (hx : a.eval x = .slice (some ⟨B, 0, none⟩) 1 1) (h63 : xs.length ≤ 300000) (hbase : base ≤ W.heap.size)
    (h : ∀ v' w', Own base w' v' (xs ++ [it]) → (W.alloc (.cells #[.int .i64 it.key, cx (it.l : Nat) (it.y : Nat)] 29)).grownBy w' v.ownBlock → wpList Try.prog ops Q rest (a.put o.dst v') w') :
    wpList Try.prog ops Q (o :: rest) a (W.alloc (.cells #[.int .i64 it.key, cx (it.l : Nat) (it.y : Nat)] 29)) := by
  obtain ⟨i, hi, hz, hsz, hby⟩ := info29
  subst hB
  refine wpList_append_own_at (W.alloc (.cells #[.int .i64 it.key, cx (it.l : Nat) (it.y : Nat)] 29)) hgd s x 32 ho base 29 i (.agg #[.int .i64 0, .complex .f64 0 0]) 2 24 Try.underlying32 hi hz hsz hby rfl (by omega) v xs.length (vals xs) hs (hown.out.kp ((Kp.refl _).alloc _)) ⟨W.heap.size, 0, none⟩ 1 1 (vals [it]) hx (by rw [vals_length]; rfl) ?_ (vals_one_cell _) (by unfold maxLen; omega) (by omega) (by simp; omega) ?_
  · intro j y hj
    rw [vals_one] at hj
    match j, hj with
    | 0, hj => simp at hj; subst hj; simp [Addr.add]
    | 1, hj => simp at hj; subst hj; simp [Addr.add]
  · intro v' w' a1 a2 _ _
    refine h v' w' ?_ a2
    unfold Own
    rw [List.length_append, vals_append]
    exact a1

/-- More items behind those that were there. -/
structure Ga (w0 w' : World) (v' : Value) (xs : List It) : Prop where
  o : Own w0.heap.size w' v' xs
  k : Kp w0 w'

theorem gather_leaf (w0 : World) (b : Nat) (x : It) (h0 : In w0 (.leaf b x)) (xs : List It) (v : Value) (w : World) (hk : Kp w0 w) (ho : Own w0.heap.size w v xs) (hn : xs.length ≤ 200000) :
    Calls Try.prog 27 #[v, Value.pointer (some ⟨b, 0, none⟩)] w fun e w' => ∃ v', e = .returned v' ∧ Ga w0 w' v' (xs ++ [x]) := by
  have H0 : Hid (Head w0 (.leaf b x)) := h0
  have HO : Hid (Own w0.heap.size w v xs) := ho
  have HK : Hid (Kp w0 w) := hk
  clear h0 ho hk
  go_enter Try.func27, Try.ntmps27
  go_wp2_with fail
  refine (leaf_any (.leaf b x) _ (H0.out.kp HK.out)).mono ?_
  rintro e w' ⟨rfl, rfl⟩
  simp only [T.lp, Option.isNone_none]
  go_wp2_with fail
  refine (item_any b x _ (H0.out.kp HK.out)).mono ?_
  rintro e w1 ⟨rfl, k1⟩
  have HO1 : Hid (Own w0.heap.size w1 v xs) := HO.out.kp k1
  have HK1 : Hid (Kp w0 w1) := HK.out.trans k1
  have hs1 : w0.heap.size ≤ w1.heap.size := HK1.out.size
  clear k1 HO HK
  go_wp2_with (at_builtin; go_must (refine wpList_append_item _ (by rfl) _ _ (by rfl) w0.heap.size v x xs (by rfl) HO1 _ (by rfl) (by rfl) ?h1 ?h2 ?_))
  case h1 => omega
  case h2 => omega
  intro v' w2 hown' hgrow
  have G : Hid (Ga w0 w2 v' (xs ++ [x])) := (⟨hown', Below.grown (HK1.out.alloc _) hgrow (by simp; omega) (fun b hb => (HO1.out.lt b hb).1)⟩ : Ga w0 w2 v' (xs ++ [x]))
  clear hown' hgrow
  go_wp2_with fail
  go_ret
  exact ⟨_, rfl, G.out⟩

set_option maxRecDepth 100000 in
set_option maxHeartbeats 1000000 in
theorem gather_fork (w0 : World) (b : Nat) (p q : T) (h0 : In w0 (.fork b p q)) (xs : List It) (v : Value) (w : World) (hk : Kp w0 w) (ho : Own w0.heap.size w v xs)
    (IP : Hid (∀ v w, Kp w0 w → Own w0.heap.size w v xs → Calls Try.prog 27 #[v, Value.pointer (some ⟨p.blk, 0, none⟩)] w fun e w' => ∃ v', e = .returned v' ∧ Ga w0 w' v' (xs ++ p.items)))
    (IQ : Hid (∀ v w, Kp w0 w → Own w0.heap.size w v (xs ++ p.items) → Calls Try.prog 27 #[v, Value.pointer (some ⟨q.blk, 0, none⟩)] w fun e w' => ∃ v', e = .returned v' ∧ Ga w0 w' v' (xs ++ p.items ++ q.items))) :
    Calls Try.prog 27 #[v, Value.pointer (some ⟨b, 0, none⟩)] w fun e w' => ∃ v', e = .returned v' ∧ Ga w0 w' v' (xs ++ p.items ++ q.items) := by
  have H0 : Hid (Head w0 (.fork b p q)) := h0.1
  have HO : Hid (Own w0.heap.size w v xs) := ho
  have MK : Hid (∀ W, Kp w0 W → W.cell? ⟨b, 0, none⟩ = some (Value.pointer (some ⟨p.blk, 0, none⟩)) ∧ W.cell? ⟨b, 1, none⟩ = some (Value.pointer (some ⟨q.blk, 0, none⟩)) ∧ Hid (Kp w0 W)) := fun W k => ⟨(h0.kp k).fork_cells.1, (h0.kp k).fork_cells.2.1, k⟩
  have kk : Kp w0 w := hk
  clear h0 ho hk
  go_enter Try.func27, Try.ntmps27
  go_wp2_with fail
  refine (leaf_any (.fork b p q) _ (H0.out.kp kk)).mono ?_
  rintro e w ⟨rfl, rfl⟩
  simp only [T.lp, Option.isNone_some]
  go_wp2_with fail
  have Q0 : Kp w0 w.drew := kk.drew
  obtain ⟨c0, c1, _⟩ := MK.out _ kk
  go_region_held3 (fun W => W.cell? ⟨b, 0, none⟩ = some (Value.pointer (some ⟨p.blk, 0, none⟩)) ∧ W.cell? ⟨b, 1, none⟩ = some (Value.pointer (some ⟨q.blk, 0, none⟩)) ∧ Hid (Kp w0 W))
    (first | with_reducible exact MK.out _ (by assumption) | with_reducible exact MK.out _ (Kp.alloc (by assumption) _))
    (first
      | (have T0 := Q0; go_at_call 27; refine (IP.out v _ T0 (HO.out.kp (Kp.refl _).drew)).mono ?_; clear Q0 T0; rintro e w1 ⟨v1, rfl, j1⟩; have K1 : Kp w0 w1 := j1.k)
      | (have T0 := K1; go_at_call 27; refine (IQ.out v1 _ T0 j1.o).mono ?_; clear K1 T0; rintro e w2 ⟨v2, rfl, j2⟩; have K2 : Kp w0 w2 := j2.k))
  go_wp2_with fail
  go_ret
  exact ⟨_, rfl, j2⟩

theorem gather_T (w0 : World) (t : T) : ∀ (xs : List It) (v : Value) (w : World), In w0 t → Kp w0 w → Own w0.heap.size w v xs → xs.length + t.items.length ≤ 200000 →
    Calls Try.prog 27 #[v, Value.pointer (some ⟨t.blk, 0, none⟩)] w fun e w' => ∃ v', e = .returned v' ∧ Ga w0 w' v' (xs ++ t.items) := by
  induction t with
  | leaf b x => intro xs v w h0 hk ho hn; exact gather_leaf w0 b x h0 xs v w hk ho (by omega)
  | fork b p q hp hq =>
    intro xs v w h0 hk ho hn
    rw [len_fork] at hn
    show Calls _ _ _ _ fun e w' => ∃ v', e = .returned v' ∧ Ga w0 w' v' (xs ++ (p.items ++ q.items))
    rw [← List.append_assoc]
    exact gather_fork w0 b p q h0 xs v w hk ho (fun v w k o => hp xs v w h0.2.1 k o (by omega)) (fun v w k o => hq _ v w h0.2.2 k o (by rw [List.length_append]; omega))

theorem gather_any (w0 : World) (t : Option T) (v : Value) (w : World) (h0 : InO w0 t) (hk : Kp w0 w) (ho : Own w0.heap.size w v []) (hn : (itemsO t).length ≤ 200000) :
    Calls Try.prog 27 #[v, .pointer (pO t)] w fun e w' => ∃ v', e = .returned v' ∧ Ga w0 w' v' (itemsO t) := by
  cases t with
  | none =>
    have G : Hid (Ga w0 w v []) := (⟨ho, hk⟩ : Ga w0 w v [])
    clear ho hk
    show Calls Try.prog 27 #[v, .pointer none] w _
    go_enter Try.func27, Try.ntmps27
    go_wp2_with fail
    go_ret
    exact ⟨_, rfl, G.out⟩
  | some t => exact gather_T w0 t [] v w h0 hk ho (by simpa [itemsO] using hn)

theorem items_any (t : Option T) (w : World) (h : InO w t) (hn : (itemsO t).length ≤ 200000) :
    Calls Try.prog 12 #[rv t] w fun e w' => ∃ v, e = .returned v ∧ Ga w w' v (itemsO t) := by
  obtain ⟨n, eN⟩ : ∃ n, (itemsO t).length = n := ⟨_, rfl⟩
  obtain ⟨i, hi, hz, hsz, hby⟩ := info29
  have hmk : ∀ w, (Instr.makeSlice 32 (.int .i64 0) (.int .i64 (n : Int))).run Try.prog w = .ok (.slice (some ⟨w.heap.size, 0, none⟩) 0 n) (w.alloc (.cells (madeCells (Value.agg #[.int .i64 0, .complex .f64 0 0]).cells (n * 2)) 29)) := by
    intro w
    have := run_make (P := Try.prog) w 32 29 i _ Try.underlying32 hi hz .i64 .i64 0 (n : Int) (Int.le_refl _) (by omega) (by rw [hby]; omega) (by omega)
    simp only [Int.toNat_zero, Int.toNat_natCast, hsz] at this
    exact this
  have HN : Hid ((itemsO t).length = n ∧ n ≤ 200000) := ⟨eN, eN ▸ hn⟩
  obtain ⟨A, hA⟩ : ∃ A, Obj.cells (madeCells (Value.agg #[.int .i64 0, .complex .f64 0 0]).cells (n * 2)) 29 = A := ⟨_, rfl⟩
  obtain ⟨W0, hW⟩ : ∃ W, w.alloc (.cells #[.pointer (pO t)] 24) = W := ⟨_, rfl⟩
  have HW : Hid (w.alloc (.cells #[.pointer (pO t)] 24) = W0) := hW
  have H2 : Hid (Kp w W0 ∧ InO W0 t) := by subst hW; exact ⟨(Kp.refl _).alloc _, h.kp ((Kp.refl _).alloc _)⟩
  have m0 : W0.heap[w.heap.size]? = some (.cells #[.pointer (pO t)] 24) := by subst hW; exact last_of _ _
  have MK : Hid (∀ W, Kp W0 W → W.cell? ⟨w.heap.size, 0, none⟩ = some (.pointer (pO t)) ∧ Hid (Kp W0 W)) := fun W k => ⟨bl_cell (bl_kp m0 k) 0 _ rfl, k⟩
  have HA : Hid (∀ w' : World, W0.heap.size ≤ w'.heap.size → Own W0.heap.size (w'.alloc A) (.slice (some ⟨w'.heap.size, 0, none⟩) 0 n) []) := by
    intro w' hb
    rw [← hA]
    exact World.ownsRow_made w' _ n hb (by unfold maxLen; have := HN.out.2; omega) (size_madeCells _ _)
  rw [hA] at hmk
  clear h hn hW m0 eN hi hz hsz hby hA i
  go_enter Try.func12, Try.ntmps12
  go_wp2_with fail
  rw [HW.out]
  clear HW
  have Q0 : Kp W0 W0.drew := (Kp.refl _).drew
  obtain ⟨c0, _⟩ := MK.out _ (Kp.refl W0)
  go_region_held3 (fun W => W.cell? ⟨w.heap.size, 0, none⟩ = some (.pointer (pO t)) ∧ Hid (Kp W0 W))
    (first | with_reducible exact MK.out _ (by assumption) | with_reducible exact MK.out _ (Kp.alloc (by assumption) _) | with_reducible exact MK.out _ (Kp.alloc K1 _))
    (first
      | (go_at_call 14; refine (len_any t _ (InO.kp H2.out.2 (by assumption))).mono ?_; rintro e w1 ⟨rfl, k1⟩; have K1 : Kp W0 w1 := Kp.trans (by assumption) k1; clear k1; rw [HN.out.1])
      | (go_at_call 27; refine (gather_any W0 t _ _ H2.out.2 ?k ?o (by have := HN.out; omega)).mono ?_; (case k => exact K1.alloc _); (case o => exact HA.out _ K1.size); rintro e w2 ⟨v2, rfl, j2⟩; have K2 : Kp W0 w2 := j2.k))
  go_wp2_with fail
  go_ret
  exact ⟨_, rfl, j2.o.mono H2.out.1.size, H2.out.1.trans j2.k⟩
end Go.Proofs.Ytjphjnpcpbenlaa
