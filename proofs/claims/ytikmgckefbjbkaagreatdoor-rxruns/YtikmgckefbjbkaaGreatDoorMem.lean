/-
  Expressions as they lie in memory; a row of them that the call owns.
-/
import Derived.Test.YtikmgckefbjbkaaGreatDoorRxs
import Derived.Maps.AppendAt
namespace Go.Proofs.YtikmgckefbjbkaaGreatDoor
open Go.RowKit

/-- The cells of a value. -/
def cellsOf : Value → List Value
  | .agg cs => cs.toList
  | _ => []
/-- A value lies there, cell by cell. -/
def CellsAt (w : World) (b o : Nat) (v : Value) : Prop := ∀ j u, (cellsOf v)[j]? = some u → w.cell? ⟨b, o + j, none⟩ = some u

mutual
/-- The value is that tree; its rows of kids lie in blocks that are ok. -/
def Is (w : World) (ok : Nat → Prop) : Rx → Value → Prop
  | .mk k mn mx n s kids, v => ∃ ad l c, v = rxv k mn mx n s (.slice ad l c) ∧ l = kids.length ∧ l ≤ c ∧ (kids ≠ [] → ∃ b o, ad = some ⟨b, o, none⟩ ∧ ok b ∧ b < w.heap.size ∧ IsL w ok kids b o)
def IsL (w : World) (ok : Nat → Prop) : List Rx → Nat → Nat → Prop
  | [], _, _ => True
  | t :: ts, b, o => (∃ v, Is w ok t v ∧ CellsAt w b o v) ∧ IsL w ok ts b (o + 9)
end

theorem CellsAt.turn {w w' : World} {b o : Nat} {v : Value} (h : CellsAt w b o v) (hb : w'.heap[b]? = w.heap[b]?) : CellsAt w' b o v := fun j u hj =>
  (World.cell?_of_block (w := w) (a := ⟨b, o + j, none⟩) hb).trans (h j u hj)

mutual
theorem Is.turn {w w' : World} {ok ok' : Nat → Prop} (hs : w.heap.size ≤ w'.heap.size) (hk : ∀ b, ok b → b < w.heap.size → ok' b ∧ w'.heap[b]? = w.heap[b]?) : ∀ (t : Rx) (v : Value), Is w ok t v → Is w' ok' t v
  | .mk k mn mx n s kids, v => by
    unfold Is
    rintro ⟨ad, l, c, h1, h2, h3, h4⟩
    refine ⟨ad, l, c, h1, h2, h3, fun hne => ?_⟩
    obtain ⟨b, o, h5, h6, h7, h8⟩ := h4 hne
    exact ⟨b, o, h5, (hk b h6 h7).1, Nat.lt_of_lt_of_le h7 hs, IsL.turn hs hk kids b o (hk b h6 h7).2 h8⟩
theorem IsL.turn {w w' : World} {ok ok' : Nat → Prop} (hs : w.heap.size ≤ w'.heap.size) (hk : ∀ b, ok b → b < w.heap.size → ok' b ∧ w'.heap[b]? = w.heap[b]?) : ∀ (ts : List Rx) (b o : Nat), w'.heap[b]? = w.heap[b]? → IsL w ok ts b o → IsL w' ok' ts b o
  | [], b, o => by unfold IsL; intro _ h; exact h
  | t :: ts, b, o => by
    unfold IsL
    rintro hb ⟨⟨v, h1, h2⟩, h3⟩
    exact ⟨⟨v, Is.turn hs hk t v h1, h2.turn hb⟩, IsL.turn hs hk ts b (o + 9) hb h3⟩
end

theorem Is.kp {w w' : World} {ok : Nat → Prop} {t : Rx} {v : Value} (h : Is w ok t v) (k : Kp w w') : Is w' ok t v := Is.turn k.size (fun b hb hl => ⟨hb, k.block b hl⟩) t v h
theorem Is.weak {w : World} {ok ok' : Nat → Prop} {t : Rx} {v : Value} (h : Is w ok t v) (hk : ∀ b, ok b → b < w.heap.size → ok' b) : Is w ok' t v := Is.turn (Nat.le_refl _) (fun b hb hl => ⟨hk b hb hl, rfl⟩) t v h
theorem Is.ks {P : Nat} {w w' : World} {ok : Nat → Prop} {t : Rx} {v : Value} (h : Is w ok t v) (k : Ks P w w') (hP : ∀ b, ok b → b < w.heap.size → b ≠ P) : Is w' ok t v := Is.turn k.size (fun b hb hl => ⟨hb, k.block b hl (hP b hb hl)⟩) t v h
theorem Is.grown {row : Option Nat} {w w' : World} {ok : Nat → Prop} {t : Rx} {v : Value} (h : Is w ok t v) (k : w.grownBy w' row) (hP : ∀ b, ok b → b < w.heap.size → some b ≠ row) : Is w' ok t v := Is.turn k.size (fun b hb hl => ⟨hb, k.block b hl (hP b hb hl)⟩) t v h

/-- The value of a tree has its nine cells. -/
theorem Is.form {w : World} {ok : Nat → Prop} {t : Rx} {v : Value} (h : Is w ok t v) : ∃ k mn mx n s ad l c, v = rxv k mn mx n s (.slice ad l c) := by
  cases t with
  | mk k mn mx n s kids =>
    unfold Is at h
    obtain ⟨ad, l, c, h1, _⟩ := h
    exact ⟨k, mn, mx, n, s, ad, l, c, h1⟩
theorem Is.leaf (w : World) (ok : Nat → Prop) (k mn mx n : Int) (s : W4) : Is w ok (.mk k mn mx n s []) (rxv k mn mx n s (.slice none 0 0)) := by
  unfold Is
  exact ⟨none, 0, 0, rfl, rfl, Nat.le_refl _, fun h => absurd rfl h⟩

theorem IsL.get {w : World} {ok : Nat → Prop} : ∀ {ts : List Rx} {b o : Nat}, IsL w ok ts b o → ∀ (j : Nat) t, ts[j]? = some t → ∃ v, Is w ok t v ∧ CellsAt w b (o + 9 * j) v
  | [], b, o, _, j, t, hj => by simp at hj
  | x :: ts, b, o, h, j, t, hj => by
    unfold IsL at h
    cases j with
    | zero => simp at hj; subst hj; exact h.1
    | succ j =>
      have := IsL.get h.2 j t (by simpa using hj)
      rw [show o + 9 * (j + 1) = o + 9 + 9 * j by omega]
      exact this
theorem IsL.put {w : World} {ok : Nat → Prop} : ∀ {ts : List Rx} {b o : Nat}, (∀ (j : Nat) t, ts[j]? = some t → ∃ v, Is w ok t v ∧ CellsAt w b (o + 9 * j) v) → IsL w ok ts b o
  | [], b, o, _ => by unfold IsL; trivial
  | x :: ts, b, o, h => by
    unfold IsL
    refine ⟨h 0 x rfl, IsL.put fun j t hj => ?_⟩
    have := h (j + 1) t (by simpa using hj)
    rw [show o + 9 * (j + 1) = o + 9 + 9 * j by omega] at this
    exact this

/-- The cells of a row of values. -/
def rowOf (vs : List Value) : List Value := vs.flatMap cellsOf
theorem rowOf_append (xs ys : List Value) : rowOf (xs ++ ys) = rowOf xs ++ rowOf ys := by simp [rowOf]
theorem rowOf_one (x : Value) : rowOf [x] = cellsOf x := by simp [rowOf]
theorem rowOf_at : ∀ (vs : List Value), (∀ v ∈ vs, (cellsOf v).length = 9) → ∀ (j : Nat) v, vs[j]? = some v → ∀ (i : Nat) u, (cellsOf v)[i]? = some u → (rowOf vs)[9 * j + i]? = some u
  | [], _, j, v, hj, _, _, _ => by simp at hj
  | x :: vs, h9, j, v, hj, i, u, hi => by
    have hx : (cellsOf x).length = 9 := h9 x (by simp)
    show (cellsOf x ++ rowOf vs)[9 * j + i]? = some u
    cases j with
    | zero =>
      simp at hj; subst hj
      rw [show 9 * 0 + i = i by omega, List.getElem?_append_left (List.getElem?_eq_some_iff.1 hi).1]
      exact hi
    | succ j =>
      rw [List.getElem?_append_right (by omega), hx, show 9 * (j + 1) + i - 9 = 9 * j + i by omega]
      exact rowOf_at vs (fun v hv => h9 v (by simp [hv])) j v (by simpa using hj) i u hi

/-- A row of trees that the call owns: its block is not below base, and no tree lies in it. -/
structure RKids (base : Nat) (w : World) (v : Value) (ts : List Rx) : Prop where
  ex : ∃ vs : List Value, vs.length = ts.length ∧ w.ownsRow base 27 9 v ts.length (rowOf vs) ∧ ∀ (j : Nat) t u, ts[j]? = some t → vs[j]? = some u → Is w (fun b => base ≤ b ∧ v.ownBlock ≠ some b) t u

theorem RKids.nil (base : Nat) (w : World) : RKids base w (.slice none 0 0) [] := ⟨[], rfl, World.ownsRow_nil w base 27 9, fun j t u hj => by simp at hj⟩

theorem owns_same {w w' : World} {B e k n : Nat} {v : Value} {xs : List Value} (h : w.ownsRow B e k v n xs) (hk : ∀ b, v.ownBlock = some b → b < w.heap.size → w'.heap[b]? = w.heap[b]?) : w'.ownsRow B e k v n xs := by
  obtain ⟨h1, h2⟩ := h
  refine ⟨h1, ?_⟩
  rcases h2 with h2 | ⟨g, cap, cur, hv, hb, hg, hr⟩
  · exact .inl h2
  · exact .inr ⟨g, cap, cur, hv, hb, (hk g (by rw [hv]; rfl) (Array.getElem?_eq_some_iff.1 hg).1).trans hg, hr⟩

theorem RKids.turn {base : Nat} {w w' : World} {v : Value} {ts : List Rx} (h : RKids base w v ts) (hs : w.heap.size ≤ w'.heap.size) (hk : ∀ b, base ≤ b → b < w.heap.size → w'.heap[b]? = w.heap[b]?) : RKids base w' v ts := by
  obtain ⟨vs, h1, h2, h3⟩ := h.ex
  exact ⟨vs, h1, owns_same h2 (fun b hb hl => hk b (h2.lt b hb).1 hl), fun j t u hj hu => Is.turn hs (fun b hb hl => ⟨hb, hk b hb.1 hl⟩) t u (h3 j t u hj hu)⟩
theorem RKids.kp {base : Nat} {w w' : World} {v : Value} {ts : List Rx} (h : RKids base w v ts) (k : Kp w w') : RKids base w' v ts := h.turn k.size (fun b _ hl => k.block b hl)
theorem RKids.ks {P base : Nat} {w w' : World} {v : Value} {ts : List Rx} (h : RKids base w v ts) (k : Ks P w w') (hP : P < base) : RKids base w' v ts := h.turn k.size (fun b hb hl => k.block b hl (by omega))
theorem RKids.block {base : Nat} {w : World} {v : Value} {ts : List Rx} (h : RKids base w v ts) : ∀ b, v.ownBlock = some b → base ≤ b ∧ b < w.heap.size := by
  obtain ⟨vs, _, h2, _⟩ := h.ex
  exact h2.lt
theorem RKids.form {base : Nat} {w : World} {v : Value} {ts : List Rx} (h : RKids base w v ts) : ∃ ad c, v = .slice ad ts.length c ∧ ts.length ≤ c := by
  obtain ⟨vs, _, h2, _⟩ := h.ex
  rcases h2.2 with ⟨rfl, h0⟩ | ⟨g, cap, cur, hv, _, _, hc, _⟩
  · exact ⟨none, 0, by rw [h0], by omega⟩
  · exact ⟨_, cap, hv, hc⟩
theorem owns_cells {w : World} {B n : Nat} {v : Value} {xs : List Value} (h : w.ownsRow B 27 9 v n xs) (hn : 0 < n) : ∃ g cap, v = .slice (some ⟨g, 0, none⟩) n cap ∧ n ≤ cap ∧ B ≤ g ∧ g < w.heap.size ∧ ∀ (j : Nat) u, xs[j]? = some u → w.cell? ⟨g, j, none⟩ = some u := by
  obtain ⟨h1, h2⟩ := h
  rcases h2 with ⟨rfl, h0⟩ | ⟨g, cap, cur, hv, hb, hg, hc, _, _, ht⟩
  · omega
  · refine ⟨g, cap, hv, hc, hb, (Array.getElem?_eq_some_iff.1 hg).1, fun j u hj => ?_⟩
    rw [← ht, List.getElem?_take] at hj
    split at hj
    · rw [Array.getElem?_toList] at hj; exact bl_cell hg j u hj
    · exact absurd hj (by simp)

/-- Each of them lies there. -/
theorem RKids.get {base : Nat} {w : World} {v : Value} {ts : List Rx} (h : RKids base w v ts) (hn : 0 < ts.length) : ∃ g cap, v = .slice (some ⟨g, 0, none⟩) ts.length cap ∧ ts.length ≤ cap ∧ base ≤ g ∧ g < w.heap.size ∧ ∀ (j : Nat) t, ts[j]? = some t → ∃ u, Is w (fun b => base ≤ b ∧ v.ownBlock ≠ some b) t u ∧ CellsAt w g (9 * j) u := by
  obtain ⟨vs, h1, h2, h3⟩ := h.ex
  obtain ⟨g, cap, hv, hc, hb, hl, hcell⟩ := owns_cells h2 hn
  refine ⟨g, cap, hv, hc, hb, hl, fun j t hj => ?_⟩
  have hjl : j < vs.length := by rw [h1]; exact (List.getElem?_eq_some_iff.1 hj).1
  have hu : vs[j]? = some vs[j] := List.getElem?_eq_getElem hjl
  refine ⟨vs[j], h3 j t _ hj hu, fun i x hi => hcell _ _ (rowOf_at vs ?_ j _ hu i x hi)⟩
  intro y hy
  obtain ⟨q, hq⟩ := List.mem_iff_getElem?.1 hy
  have hq' : q < ts.length := by rw [← h1]; exact (List.getElem?_eq_some_iff.1 hq).1
  obtain ⟨k, mn, mx, n, s, ad, l, c, rfl⟩ := (h3 q _ y (List.getElem?_eq_getElem hq') hq).form
  rfl
/-- A tree whose kids they are. -/
theorem RKids.is {base : Nat} {w : World} {v : Value} {ts : List Rx} (h : RKids base w v ts) (k mn mx n : Int) (s : W4) : Is w (fun b => base ≤ b) (.mk k mn mx n s ts) (rxv k mn mx n s v) := by
  unfold Is
  by_cases hn : 0 < ts.length
  · obtain ⟨g, cap, rfl, hc, hb, hl, hg⟩ := h.get hn
    refine ⟨_, _, cap, rfl, rfl, hc, fun _ => ⟨g, 0, rfl, hb, hl, IsL.put fun j t hj => ?_⟩⟩
    obtain ⟨u, h1, h2⟩ := hg j t hj
    refine ⟨u, h1.weak (fun b hb _ => hb.1), ?_⟩
    rw [Nat.zero_add]; exact h2
  · obtain ⟨ad, c, rfl, hc⟩ := h.form
    exact ⟨ad, _, c, rfl, rfl, hc, fun hne => absurd (List.eq_nil_of_length_eq_zero (by omega)) hne⟩

theorem info27 : ∃ i, Tryz.prog.info? 27 = some i ∧ i.zero = some rz ∧ i.size = 9 ∧ i.bytes = 88 := by
  obtain ⟨i, hi, h0, h1, h2⟩ := info_parts (P := Tryz.prog) (e := 27) (z := rz) (size := 9) (bytes := 88) (by kernel_rfl)
  exact ⟨i, hi, h0, h1, h2⟩

theorem rx_one (k mn mx m : Int) (t : W4) (ad : Option Addr) (l c : Nat) : ∀ u ∈ cellsOf (rxv k mn mx m t (.slice ad l c)), u.oneCell' = true := by
  intro u hu
  simp [cellsOf] at hu
  rcases hu with rfl | rfl | rfl | rfl | rfl | rfl | rfl | rfl | rfl <;> rfl

/-- A tree put behind those that the call owns. -/
theorem wpList_append_rx {ops : Array Oper} {rest : List Oper} {o : Oper} {a : Act} {Q : Exit → Act → World → Prop} (W : World) (hgd : o.guard = none) (s x : Operand)
    (ho : o.op = .call { callee := .builtin .append, args := #[s, x], argTypes := #[25, 25] })
    (base : Nat) (v : Value) (ts : List Rx) (r : Rx) (hs : a.eval s = v) (hK : Hid (RKids base W v ts)) (k mn mx m : Int) (t : W4) (ad : Option Addr) (l c : Nat)
    (hI : Hid (Is W (fun b => base ≤ b ∧ v.ownBlock ≠ some b) r (rxv k mn mx m t (.slice ad l c)))) (B : Nat) (hB : B = W.heap.size)
    (hx : a.eval x = .slice (some ⟨B, 0, none⟩) 1 1) (h63 : ts.length ≤ 1000000) (hbase : base ≤ W.heap.size)
    (h : ∀ v' w', RKids base w' v' (ts ++ [r]) → W.grownBy w' v.ownBlock → wpList Tryz.prog ops Q rest (a.put o.dst v') w') :
    wpList Tryz.prog ops Q (o :: rest) a (W.alloc (rxo k mn mx m t (.slice ad l c))) := by
  obtain ⟨i, hi, hz, hsz, hby⟩ := info27
  obtain ⟨vs, hv1, hv2, hv3⟩ := hK.out.ex
  have kal : Kp W (W.alloc (rxo k mn mx m t (.slice ad l c))) := (Kp.refl _).alloc _
  subst hB
  refine wpList_append_own_at (W.alloc (rxo k mn mx m t (.slice ad l c))) hgd s x 25 ho base 27 i rz 9 88 Tryz.underlying25 hi hz hsz hby rfl (by omega) v ts.length (rowOf vs) hs (owns_same hv2 fun b _ hl => kal.block b hl) ⟨W.heap.size, 0, none⟩ 1 1 (cellsOf (rxv k mn mx m t (.slice ad l c))) hx rfl ?_ (rx_one _ _ _ _ _ _ _ _) (by unfold maxLen; omega) (by omega) (by simp; omega) ?_
  · intro j y hj
    have hn := last_of W (rxo k mn mx m t (.slice ad l c))
    rw [show (⟨W.heap.size, 0, none⟩ : Addr).add j = ⟨W.heap.size, j, none⟩ by simp [Addr.add]; exact Eq.symm]
    refine bl_cell hn j y ?_
    rw [← Array.getElem?_toList]; exact hj
  · intro v' w' a1 a2 _ a4
    have hgr : W.grownBy w' v.ownBlock := ⟨a2.os.trans rfl, a2.tape.trans rfl, a2.output.trans rfl, Nat.le_trans kal.size a2.size, fun b hb hne => (a2.block b (Nat.lt_of_lt_of_le hb kal.size) hne).trans (kal.block b hb)⟩
    refine h v' w' ⟨vs ++ [rxv k mn mx m t (.slice ad l c)], by simp [hv1], ?_, ?_⟩ hgr
    · rw [List.length_append, rowOf_append, rowOf_one]; exact a1
    · have hok : ∀ b, (base ≤ b ∧ v.ownBlock ≠ some b) → b < W.heap.size → (base ≤ b ∧ v'.ownBlock ≠ some b) ∧ w'.heap[b]? = W.heap[b]? := by
        intro b hb hl
        refine ⟨⟨hb.1, ?_⟩, hgr.block b hl (Ne.symm hb.2)⟩
        rcases a4 with a4 | a4
        · rw [a4]; exact hb.2
        · rw [a4]; intro he; injection he with he; simp at he; omega
      intro j t' u hj hu
      by_cases hlt : j < ts.length
      · rw [List.getElem?_append_left hlt] at hj
        rw [List.getElem?_append_left (by omega)] at hu
        exact Is.turn hgr.size hok t' u (hv3 j t' u hj hu)
      · have hj0 : j = ts.length := by
          have := (List.getElem?_eq_some_iff.1 hj).1
          simp at this; omega
        subst hj0
        rw [List.getElem?_append_right (Nat.le_refl _)] at hj
        rw [List.getElem?_append_right (by omega), hv1] at hu
        simp at hj hu
        subst hj
        subst hu
        exact Is.turn hgr.size hok _ _ hI.out
end Go.Proofs.YtikmgckefbjbkaaGreatDoor
