/-
  Texts of this claim: Rxs, Mem, Fn, Tkq, Take.
-/
import Derived.Test.YtigdmebijbaofaaGreatDoorReadDM3
import Derived.Maps.AppendAt
import Derived.Laws.ResultCell
import Derived.Test.YtigdmebijbaofaaGreatDoorReadDM2
import Derived.Below
/-! ### Rxs -/
namespace Go.Proofs.YtigdmebijbaofaaGreatDoor
open Go.RowKit
structure W4 where
 a : Nat
 b : Nat
 c : Nat
 d : Nat
deriving DecidableEq
def W4.of (p : Nat → Bool) : W4 := ⟨wd p 0, wd p 1, wd p 2, wd p 3⟩
/-- An expression. -/
inductive Rx where
 | mk (k mn mx n : Int) (s : W4) (kids : List Rx)
abbrev rxv (k mn mx n : Int) (s : W4) (ks : Value) : Value := .agg #[.int .i64 k, .int .i64 mn, .int .i64 mx, .int .i64 n, .int .u64 (s.a : Int), .int .u64 (s.b : Int), .int .u64 (s.c : Int), .int .u64 (s.d : Int), ks]
abbrev rxo (k mn mx n : Int) (s : W4) (ks : Value) : Obj := .cells #[.int .i64 k, .int .i64 mn, .int .i64 mx, .int .i64 n, .int .u64 (s.a : Int), .int .u64 (s.b : Int), .int .u64 (s.c : Int), .int .u64 (s.d : Int), ks] 27
abbrev rz : Value := .agg #[.int .i64 0, .int .i64 0, .int .i64 0, .int .i64 0, .int .u64 0, .int .u64 0, .int .u64 0, .int .u64 0, .slice none 0 0]
abbrev rzo : Obj := .cells #[.int .i64 0, .int .i64 0, .int .i64 0, .int .i64 0, .int .u64 0, .int .u64 0, .int .u64 0, .int .u64 0, .slice none 0 0] 27
theorem bl_set9 {w : World} {B : Nat} {a0 a1 a2 a3 a4 a5 a6 a7 a8 : Value} {t : TypeId} (h : w.heap[B]? = some (.cells #[a0, a1, a2, a3, a4, a5, a6, a7, a8] t)) (x0 x1 x2 x3 x4 x5 x6 x7 x8 : Value) :
  (((((((((w.setCell ⟨B, 0, none⟩ x0).setCell ⟨B, 1, none⟩ x1).setCell ⟨B, 2, none⟩ x2).setCell ⟨B, 3, none⟩ x3).setCell ⟨B, 4, none⟩ x4).setCell ⟨B, 5, none⟩ x5).setCell ⟨B, 6, none⟩ x6).setCell ⟨B, 7, none⟩ x7).setCell ⟨B, 8, none⟩ x8).heap[B]? = some (.cells #[x0, x1, x2, x3, x4, x5, x6, x7, x8] t) := by
 have h0 : (w.setCell ⟨B, 0, none⟩ x0).heap[B]? = some (.cells #[x0, a1, a2, a3, a4, a5, a6, a7, a8] t) := bl_put h x0
 have h1 : ((w.setCell ⟨B, 0, none⟩ x0).setCell ⟨B, 1, none⟩ x1).heap[B]? = some (.cells #[x0, x1, a2, a3, a4, a5, a6, a7, a8] t) := bl_put h0 x1
 have h2 : (((w.setCell ⟨B, 0, none⟩ x0).setCell ⟨B, 1, none⟩ x1).setCell ⟨B, 2, none⟩ x2).heap[B]? = some (.cells #[x0, x1, x2, a3, a4, a5, a6, a7, a8] t) := bl_put h1 x2
 have h3 : ((((w.setCell ⟨B, 0, none⟩ x0).setCell ⟨B, 1, none⟩ x1).setCell ⟨B, 2, none⟩ x2).setCell ⟨B, 3, none⟩ x3).heap[B]? = some (.cells #[x0, x1, x2, x3, a4, a5, a6, a7, a8] t) := bl_put h2 x3
 have h4 : (((((w.setCell ⟨B, 0, none⟩ x0).setCell ⟨B, 1, none⟩ x1).setCell ⟨B, 2, none⟩ x2).setCell ⟨B, 3, none⟩ x3).setCell ⟨B, 4, none⟩ x4).heap[B]? = some (.cells #[x0, x1, x2, x3, x4, a5, a6, a7, a8] t) := bl_put h3 x4
 have h5 : ((((((w.setCell ⟨B, 0, none⟩ x0).setCell ⟨B, 1, none⟩ x1).setCell ⟨B, 2, none⟩ x2).setCell ⟨B, 3, none⟩ x3).setCell ⟨B, 4, none⟩ x4).setCell ⟨B, 5, none⟩ x5).heap[B]? = some (.cells #[x0, x1, x2, x3, x4, x5, a6, a7, a8] t) := bl_put h4 x5
 have h6 : (((((((w.setCell ⟨B, 0, none⟩ x0).setCell ⟨B, 1, none⟩ x1).setCell ⟨B, 2, none⟩ x2).setCell ⟨B, 3, none⟩ x3).setCell ⟨B, 4, none⟩ x4).setCell ⟨B, 5, none⟩ x5).setCell ⟨B, 6, none⟩ x6).heap[B]? = some (.cells #[x0, x1, x2, x3, x4, x5, x6, a7, a8] t) := bl_put h5 x6
 have h7 : ((((((((w.setCell ⟨B, 0, none⟩ x0).setCell ⟨B, 1, none⟩ x1).setCell ⟨B, 2, none⟩ x2).setCell ⟨B, 3, none⟩ x3).setCell ⟨B, 4, none⟩ x4).setCell ⟨B, 5, none⟩ x5).setCell ⟨B, 6, none⟩ x6).setCell ⟨B, 7, none⟩ x7).heap[B]? = some (.cells #[x0, x1, x2, x3, x4, x5, x6, x7, a8] t) := bl_put h6 x7
 have h8 : (((((((((w.setCell ⟨B, 0, none⟩ x0).setCell ⟨B, 1, none⟩ x1).setCell ⟨B, 2, none⟩ x2).setCell ⟨B, 3, none⟩ x3).setCell ⟨B, 4, none⟩ x4).setCell ⟨B, 5, none⟩ x5).setCell ⟨B, 6, none⟩ x6).setCell ⟨B, 7, none⟩ x7).setCell ⟨B, 8, none⟩ x8).heap[B]? = some (.cells #[x0, x1, x2, x3, x4, x5, x6, x7, x8] t) := bl_put h7 x8
 exact h8
theorem ks_set9 {w : World} {B : Nat} (x0 x1 x2 x3 x4 x5 x6 x7 x8 : Value) :
  Ks B w (((((((((w.setCell ⟨B, 0, none⟩ x0).setCell ⟨B, 1, none⟩ x1).setCell ⟨B, 2, none⟩ x2).setCell ⟨B, 3, none⟩ x3).setCell ⟨B, 4, none⟩ x4).setCell ⟨B, 5, none⟩ x5).setCell ⟨B, 6, none⟩ x6).setCell ⟨B, 7, none⟩ x7).setCell ⟨B, 8, none⟩ x8) :=
 ((((((((((Ks.refl B w).set 0 x0).set 1 x1).set 2 x2).set 3 x3).set 4 x4).set 5 x5).set 6 x6).set 7 x7).set 8 x8)
theorem rx_ret {fn : Func} {p : Tmp} (h : fn.results = #[.cell p 27]) (tmps : Array Value) (w : World) (S : Nat) (cs : Array Value) (hp : tmps.getD p undef = .pointer (some ⟨S, 0, none⟩)) (hA : w.heap[S]? = some (.cells cs 27)) (hc : cs.size = 9) : (results fn tmps).run Tryz.prog w = .ok (.agg cs) w :=
 results_cell_row h tmps w S 27 _ (0, 0) _ hp hA Tryz.underlying27 rfl (by rw [hc]; kernel_rfl)
theorem Ks.alloc {P : Nat} {a b : World} (h : Ks P a b) (o : Obj) (hP : P ≤ b.heap.size) : Ks P a (b.alloc o) := h.kp ((Kp.refl _).alloc _) hP
theorem Ks.off {P S : Nat} {a b c : World} (h : Ks P a b) (k : Ks S b c) (hS : a.heap.size ≤ S) (hP : P < a.heap.size) : Ks P a c :=
 ⟨h.lo.trans (k.lo.mono (by omega)), fun x hx hne => (k.block x (Nat.lt_of_lt_of_le hx h.size) (by omega)).trans (h.block x hx hne)⟩
set_option maxRecDepth 100000 in
theorem node_any (k mn mx m : Int) (t : W4) (ad : Option Addr) (l c : Nat) (s : ByteArray) (ere : Bool) (i n g d P : Nat) (w : World) (h : Rd w P s ere i n g d) (hn : n ≤ 1000000000) :
  Calls Tryz.prog 137 #[.pointer (some ⟨P, 0, none⟩), rxv k mn mx m t (.slice ad l c)] w fun e w' => e = .returned (rxv k mn mx m t (.slice ad l c)) ∧ Rd w' P s ere i (n + 1) g d ∧ Ks P w w' := by
 have R : Hid (Rd w P s ere i n g d) := h
 have hP : P < w.heap.size := h.lt
 clear h
 go_enter Tryz.func137, Tryz.ntmps137
 go_upto_region 1 with fail
 obtain ⟨W0, hW0⟩ : ∃ W, (w.alloc (rxo k mn mx m t (.slice ad l c))).alloc rzo = W := ⟨_, rfl⟩
 rw [hW0]
 have R0 : Hid (Rd W0 P s ere i n g d ∧ Kp w W0) := by subst hW0; exact ⟨R.out.kp (((Kp.refl _).alloc _).alloc _), ((Kp.refl _).alloc _).alloc _⟩
 have A0 : Hid (W0.heap[w.heap.size]? = some (rxo k mn mx m t (.slice ad l c)) ∧ W0.heap[w.heap.size + 1]? = some rzo) := by subst hW0; exact ⟨bl_alloc (last_of _ _) _, last_at _ _ _ (by simp)⟩
 clear hW0
 have p3 := R0.out.1.cells.2.2.2.1
 have fp3 := bl_frozen R0.out.1.b 3
 have gw : IntKind.i64.wrap ((n : Int) + 1) = (n : Int) + 1 := by rw [IntKind.wrap_i64]; omega
 have ks0 : Hid (Ks P w W0) := R0.out.2.ks (Nat.le_of_lt hP)
 go_upto_region 2 with fail
 clear p3 fp3
 obtain ⟨W1, hW1⟩ : ∃ W, W0.setCell ⟨P, 3, none⟩ (.int .i64 ((n : Int) + 1)) = W := ⟨_, rfl⟩
 rw [hW1]
 have R1 : Hid (Rd W1 P s ere i (n + 1) g d ∧ Ks P w W1) := by subst hW1; exact ⟨R0.out.1.nodes (n + 1), ks0.out.set 3 _⟩
 have A1 : Hid (W1.heap[w.heap.size]? = some (rxo k mn mx m t (.slice ad l c)) ∧ W1.heap[w.heap.size + 1]? = some rzo) := by subst hW1; exact ⟨bl_set A0.out.1 (by omega) _, bl_set A0.out.2 (by omega) _⟩
 clear hW1
 have a0 := bl_cell (A1.out.1) 0 _ rfl
 have a1 := bl_cell (A1.out.1) 1 _ rfl
 have a2 := bl_cell (A1.out.1) 2 _ rfl
 have a3 := bl_cell (A1.out.1) 3 _ rfl
 have a4 := bl_cell (A1.out.1) 4 _ rfl
 have a5 := bl_cell (A1.out.1) 5 _ rfl
 have a6 := bl_cell (A1.out.1) 6 _ rfl
 have a7 := bl_cell (A1.out.1) 7 _ rfl
 have a8 := bl_cell (A1.out.1) 8 _ rfl
 have b0 := bl_cell (A1.out.2) 0 _ rfl
 have fb0 := bl_frozen (A1.out.2) 0
 have b1 := bl_cell (A1.out.2) 1 _ rfl
 have fb1 := bl_frozen (A1.out.2) 1
 have b2 := bl_cell (A1.out.2) 2 _ rfl
 have fb2 := bl_frozen (A1.out.2) 2
 have b3 := bl_cell (A1.out.2) 3 _ rfl
 have fb3 := bl_frozen (A1.out.2) 3
 have b4 := bl_cell (A1.out.2) 4 _ rfl
 have fb4 := bl_frozen (A1.out.2) 4
 have b5 := bl_cell (A1.out.2) 5 _ rfl
 have fb5 := bl_frozen (A1.out.2) 5
 have b6 := bl_cell (A1.out.2) 6 _ rfl
 have fb6 := bl_frozen (A1.out.2) 6
 have b7 := bl_cell (A1.out.2) 7 _ rfl
 have fb7 := bl_frozen (A1.out.2) 7
 have b8 := bl_cell (A1.out.2) 8 _ rfl
 have fb8 := bl_frozen (A1.out.2) 8
 go_wp2_with fail
 refine bodyPost_ret (v := .agg _) (rx_ret rfl _ _ _ _ rfl (bl_set9 A1.out.2 _ _ _ _ _ _ _ _ _) rfl) rfl ⟨rfl, ?_, ?_⟩
 ·
  exact R1.out.1.ks (ks_set9 _ _ _ _ _ _ _ _ _) (by omega) (by omega)
 ·
  exact R1.out.2.off (ks_set9 _ _ _ _ _ _ _ _ _) (by omega) hP
def cellsOf : Value → List Value
 | .agg cs => cs.toList
 | _ => []
def CellsAt (w : World) (b o : Nat) (v : Value) : Prop := ∀ j u, (cellsOf v)[j]? = some u → w.cell? ⟨b, o + j, none⟩ = some u
mutual
def Is (w : World) (ok : Nat → Prop) : Rx → Value → Prop
 | .mk k mn mx n s kids, v => ∃ ad l c, v = rxv k mn mx n s (.slice ad l c) ∧ l = kids.length ∧ l ≤ c ∧ (kids ≠ [] → ∃ b o, ad = some ⟨b, o, none⟩ ∧ ok b ∧ b < w.heap.size ∧ IsL w ok kids b o)
def IsL (w : World) (ok : Nat → Prop) : List Rx → Nat → Nat → Prop
 | [], _, _ => True
 | t :: ts, b, o => (∃ v, Is w ok t v ∧ CellsAt w b o v) ∧ IsL w ok ts b (o + 9)
end
theorem CellsAt.turn {w w' : World} {b o : Nat} {v : Value} (h : CellsAt w b o v) (hb : w'.heap[b]? = w.heap[b]?) : CellsAt w' b o v := fun j u hj =>
 (World.cell?_of_block (w := w) (a := ⟨b, o + j, none⟩) hb).trans (h j u hj)
mutual
theorem Is.turn {w w' : World} {ok ok' : Nat → Prop} (hs : w.heap.size ≤ w'.heap.size) (hk : ∀ b, ok b → b < w.heap.size → ok' b ∧ w'.heap[b]? = w.heap[b]?) : ∀ (t : Rx) (v : Value), Is w ok t v → Is w' ok' t v
 | .mk k mn mx n s kids, v => by
  unfold Is
  rintro ⟨ad, l, c, h1, h2, h3, h4⟩
  refine ⟨ad, l, c, h1, h2, h3, fun hne => ?_⟩
  obtain ⟨b, o, h5, h6, h7, h8⟩ := h4 hne
  exact ⟨b, o, h5, (hk b h6 h7).1, Nat.lt_of_lt_of_le h7 hs, IsL.turn hs hk kids b o (hk b h6 h7).2 h8⟩
theorem IsL.turn {w w' : World} {ok ok' : Nat → Prop} (hs : w.heap.size ≤ w'.heap.size) (hk : ∀ b, ok b → b < w.heap.size → ok' b ∧ w'.heap[b]? = w.heap[b]?) : ∀ (ts : List Rx) (b o : Nat), w'.heap[b]? = w.heap[b]? → IsL w ok ts b o → IsL w' ok' ts b o
 | [], b, o => by unfold IsL; intro _ h; exact h
 | t :: ts, b, o => by
  unfold IsL
  rintro hb ⟨⟨v, h1, h2⟩, h3⟩
  exact ⟨⟨v, Is.turn hs hk t v h1, h2.turn hb⟩, IsL.turn hs hk ts b (o + 9) hb h3⟩
end
theorem Is.kp {w w' : World} {ok : Nat → Prop} {t : Rx} {v : Value} (h : Is w ok t v) (k : Kp w w') : Is w' ok t v := Is.turn k.size (fun b hb hl => ⟨hb, k.block b hl⟩) t v h
theorem Is.weak {w : World} {ok ok' : Nat → Prop} {t : Rx} {v : Value} (h : Is w ok t v) (hk : ∀ b, ok b → b < w.heap.size → ok' b) : Is w ok' t v := Is.turn (Nat.le_refl _) (fun b hb hl => ⟨hk b hb hl, rfl⟩) t v h
theorem Is.ks {P : Nat} {w w' : World} {ok : Nat → Prop} {t : Rx} {v : Value} (h : Is w ok t v) (k : Ks P w w') (hP : ∀ b, ok b → b < w.heap.size → b ≠ P) : Is w' ok t v := Is.turn k.size (fun b hb hl => ⟨hb, k.block b hl (hP b hb hl)⟩) t v h
theorem Is.grown {row : Option Nat} {w w' : World} {ok : Nat → Prop} {t : Rx} {v : Value} (h : Is w ok t v) (k : w.grownBy w' row) (hP : ∀ b, ok b → b < w.heap.size → some b ≠ row) : Is w' ok t v := Is.turn k.size (fun b hb hl => ⟨hb, k.block b hl (hP b hb hl)⟩) t v h
theorem Is.form {w : World} {ok : Nat → Prop} {t : Rx} {v : Value} (h : Is w ok t v) : ∃ k mn mx n s ad l c, v = rxv k mn mx n s (.slice ad l c) := by
 cases t with
 | mk k mn mx n s kids =>
  unfold Is at h
  obtain ⟨ad, l, c, h1, _⟩ := h
  exact ⟨k, mn, mx, n, s, ad, l, c, h1⟩
theorem Is.leaf (w : World) (ok : Nat → Prop) (k mn mx n : Int) (s : W4) : Is w ok (.mk k mn mx n s []) (rxv k mn mx n s (.slice none 0 0)) := by
 unfold Is
 exact ⟨none, 0, 0, rfl, rfl, Nat.le_refl _, fun h => absurd rfl h⟩
theorem IsL.get {w : World} {ok : Nat → Prop} : ∀ {ts : List Rx} {b o : Nat}, IsL w ok ts b o → ∀ (j : Nat) t, ts[j]? = some t → ∃ v, Is w ok t v ∧ CellsAt w b (o + 9 * j) v
 | [], b, o, _, j, t, hj => by simp at hj
 | x :: ts, b, o, h, j, t, hj => by
  unfold IsL at h
  cases j with
  | zero => simp at hj; subst hj; exact h.1
  | succ j =>
   have := IsL.get h.2 j t (by simpa using hj)
   rw [show o + 9 * (j + 1) = o + 9 + 9 * j by omega]
   exact this
theorem IsL.put {w : World} {ok : Nat → Prop} : ∀ {ts : List Rx} {b o : Nat}, (∀ (j : Nat) t, ts[j]? = some t → ∃ v, Is w ok t v ∧ CellsAt w b (o + 9 * j) v) → IsL w ok ts b o
 | [], b, o, _ => by unfold IsL; trivial
 | x :: ts, b, o, h => by
  unfold IsL
  refine ⟨h 0 x rfl, IsL.put fun j t hj => ?_⟩
  have := h (j + 1) t (by simpa using hj)
  rw [show o + 9 * (j + 1) = o + 9 + 9 * j by omega] at this
  exact this
def rowOf (vs : List Value) : List Value := vs.flatMap cellsOf
theorem rowOf_append (xs ys : List Value) : rowOf (xs ++ ys) = rowOf xs ++ rowOf ys := by simp [rowOf]
theorem rowOf_one (x : Value) : rowOf [x] = cellsOf x := by simp [rowOf]
theorem rowOf_at : ∀ (vs : List Value), (∀ v ∈ vs, (cellsOf v).length = 9) → ∀ (j : Nat) v, vs[j]? = some v → ∀ (i : Nat) u, (cellsOf v)[i]? = some u → (rowOf vs)[9 * j + i]? = some u
 | [], _, j, v, hj, _, _, _ => by simp at hj
 | x :: vs, h9, j, v, hj, i, u, hi => by
  have hx : (cellsOf x).length = 9 := h9 x (by simp)
  show (cellsOf x ++ rowOf vs)[9 * j + i]? = some u
  cases j with
  | zero =>
   simp at hj; subst hj
   rw [show 9 * 0 + i = i by omega, List.getElem?_append_left (List.getElem?_eq_some_iff.1 hi).1]
   exact hi
  | succ j =>
   rw [List.getElem?_append_right (by omega), hx, show 9 * (j + 1) + i - 9 = 9 * j + i by omega]
   exact rowOf_at vs (fun v hv => h9 v (by simp [hv])) j v (by simpa using hj) i u hi
structure RKids (base : Nat) (w : World) (v : Value) (ts : List Rx) : Prop where
 ex : ∃ vs : List Value, vs.length = ts.length ∧ w.ownsRow base 27 9 v ts.length (rowOf vs) ∧ ∀ (j : Nat) t u, ts[j]? = some t → vs[j]? = some u → Is w (fun b => base ≤ b ∧ v.ownBlock ≠ some b) t u
theorem RKids.nil (base : Nat) (w : World) : RKids base w (.slice none 0 0) [] := ⟨[], rfl, World.ownsRow_nil w base 27 9, fun j t u hj => by simp at hj⟩
theorem owns_same {w w' : World} {B e k n : Nat} {v : Value} {xs : List Value} (h : w.ownsRow B e k v n xs) (hk : ∀ b, v.ownBlock = some b → b < w.heap.size → w'.heap[b]? = w.heap[b]?) : w'.ownsRow B e k v n xs := by
 obtain ⟨h1, h2⟩ := h
 refine ⟨h1, ?_⟩
 rcases h2 with h2 | ⟨g, cap, cur, hv, hb, hg, hr⟩
 ·
  exact .inl h2
 ·
  exact .inr ⟨g, cap, cur, hv, hb, (hk g (by rw [hv]; rfl) (Array.getElem?_eq_some_iff.1 hg).1).trans hg, hr⟩
theorem RKids.turn {base : Nat} {w w' : World} {v : Value} {ts : List Rx} (h : RKids base w v ts) (hs : w.heap.size ≤ w'.heap.size) (hk : ∀ b, base ≤ b → b < w.heap.size → w'.heap[b]? = w.heap[b]?) : RKids base w' v ts := by
 obtain ⟨vs, h1, h2, h3⟩ := h.ex
 exact ⟨vs, h1, owns_same h2 (fun b hb hl => hk b (h2.lt b hb).1 hl), fun j t u hj hu => Is.turn hs (fun b hb hl => ⟨hb, hk b hb.1 hl⟩) t u (h3 j t u hj hu)⟩
theorem RKids.kp {base : Nat} {w w' : World} {v : Value} {ts : List Rx} (h : RKids base w v ts) (k : Kp w w') : RKids base w' v ts := h.turn k.size (fun b _ hl => k.block b hl)
theorem RKids.ks {P base : Nat} {w w' : World} {v : Value} {ts : List Rx} (h : RKids base w v ts) (k : Ks P w w') (hP : P < base) : RKids base w' v ts := h.turn k.size (fun b hb hl => k.block b hl (by omega))
theorem RKids.block {base : Nat} {w : World} {v : Value} {ts : List Rx} (h : RKids base w v ts) : ∀ b, v.ownBlock = some b → base ≤ b ∧ b < w.heap.size := by
 obtain ⟨vs, _, h2, _⟩ := h.ex
 exact h2.lt
theorem RKids.form {base : Nat} {w : World} {v : Value} {ts : List Rx} (h : RKids base w v ts) : ∃ ad c, v = .slice ad ts.length c ∧ ts.length ≤ c := by
 obtain ⟨vs, _, h2, _⟩ := h.ex
 rcases h2.2 with ⟨rfl, h0⟩ | ⟨g, cap, cur, hv, _, _, hc, _⟩
 ·
  exact ⟨none, 0, by rw [h0], by omega⟩
 ·
  exact ⟨_, cap, hv, hc⟩
theorem owns_cells {w : World} {B n : Nat} {v : Value} {xs : List Value} (h : w.ownsRow B 27 9 v n xs) (hn : 0 < n) : ∃ g cap, v = .slice (some ⟨g, 0, none⟩) n cap ∧ n ≤ cap ∧ B ≤ g ∧ g < w.heap.size ∧ ∀ (j : Nat) u, xs[j]? = some u → w.cell? ⟨g, j, none⟩ = some u := by
 obtain ⟨h1, h2⟩ := h
 rcases h2 with ⟨rfl, h0⟩ | ⟨g, cap, cur, hv, hb, hg, hc, _, _, ht⟩
 ·
  omega
 ·
  refine ⟨g, cap, hv, hc, hb, (Array.getElem?_eq_some_iff.1 hg).1, fun j u hj => ?_⟩
  rw [← ht, List.getElem?_take] at hj
  split at hj
  ·
   rw [Array.getElem?_toList] at hj; exact bl_cell hg j u hj
  ·
   exact absurd hj (by simp)
theorem RKids.get {base : Nat} {w : World} {v : Value} {ts : List Rx} (h : RKids base w v ts) (hn : 0 < ts.length) : ∃ g cap, v = .slice (some ⟨g, 0, none⟩) ts.length cap ∧ ts.length ≤ cap ∧ base ≤ g ∧ g < w.heap.size ∧ ∀ (j : Nat) t, ts[j]? = some t → ∃ u, Is w (fun b => base ≤ b ∧ v.ownBlock ≠ some b) t u ∧ CellsAt w g (9 * j) u := by
 obtain ⟨vs, h1, h2, h3⟩ := h.ex
 obtain ⟨g, cap, hv, hc, hb, hl, hcell⟩ := owns_cells h2 hn
 refine ⟨g, cap, hv, hc, hb, hl, fun j t hj => ?_⟩
 have hjl : j < vs.length := by rw [h1]; exact (List.getElem?_eq_some_iff.1 hj).1
 have hu : vs[j]? = some vs[j] := List.getElem?_eq_getElem hjl
 refine ⟨vs[j], h3 j t _ hj hu, fun i x hi => hcell _ _ (rowOf_at vs ?_ j _ hu i x hi)⟩
 intro y hy
 obtain ⟨q, hq⟩ := List.mem_iff_getElem?.1 hy
 have hq' : q < ts.length := by rw [← h1]; exact (List.getElem?_eq_some_iff.1 hq).1
 obtain ⟨k, mn, mx, n, s, ad, l, c, rfl⟩ := (h3 q _ y (List.getElem?_eq_getElem hq') hq).form
 rfl
theorem RKids.is {base : Nat} {w : World} {v : Value} {ts : List Rx} (h : RKids base w v ts) (k mn mx n : Int) (s : W4) : Is w (fun b => base ≤ b) (.mk k mn mx n s ts) (rxv k mn mx n s v) := by
 unfold Is
 by_cases hn : 0 < ts.length
 ·
  obtain ⟨g, cap, rfl, hc, hb, hl, hg⟩ := h.get hn
  refine ⟨_, _, cap, rfl, rfl, hc, fun _ => ⟨g, 0, rfl, hb, hl, IsL.put fun j t hj => ?_⟩⟩
  obtain ⟨u, h1, h2⟩ := hg j t hj
  refine ⟨u, h1.weak (fun b hb _ => hb.1), ?_⟩
  rw [Nat.zero_add]; exact h2
 ·
  obtain ⟨ad, c, rfl, hc⟩ := h.form
  exact ⟨ad, _, c, rfl, rfl, hc, fun hne => absurd (List.eq_nil_of_length_eq_zero (by omega)) hne⟩
theorem info27 : ∃ i, Tryz.prog.info? 27 = some i ∧ i.zero = some rz ∧ i.size = 9 ∧ i.bytes = 88 := by
 obtain ⟨i, hi, h0, h1, h2⟩ := info_parts (P := Tryz.prog) (e := 27) (z := rz) (size := 9) (bytes := 88) (by kernel_rfl)
 exact ⟨i, hi, h0, h1, h2⟩
theorem rx_one (k mn mx m : Int) (t : W4) (ad : Option Addr) (l c : Nat) : ∀ u ∈ cellsOf (rxv k mn mx m t (.slice ad l c)), u.oneCell' = true := by
 intro u hu
 simp [cellsOf] at hu
 rcases hu with rfl | rfl | rfl | rfl | rfl | rfl | rfl | rfl | rfl <;> rfl
theorem wpList_append_rx {ops : Array Oper} {rest : List Oper} {o : Oper} {a : Act} {Q : Exit → Act → World → Prop} (W : World) (hgd : o.guard = none) (s x : Operand)
  (ho : o.op = .call { callee := .builtin .append, args := #[s, x], argTypes := #[25, 25] })
  (base : Nat) (v : Value) (ts : List Rx) (r : Rx) (hs : a.eval s = v) (hK : Hid (RKids base W v ts)) (k mn mx m : Int) (t : W4) (ad : Option Addr) (l c : Nat)
  (hI : Hid (Is W (fun b => base ≤ b ∧ v.ownBlock ≠ some b) r (rxv k mn mx m t (.slice ad l c)))) (B : Nat) (hB : B = W.heap.size)
  (hx : a.eval x = .slice (some ⟨B, 0, none⟩) 1 1) (h63 : ts.length ≤ 1000000) (hbase : base ≤ W.heap.size)
  (h : ∀ v' w', RKids base w' v' (ts ++ [r]) → W.grownBy w' v.ownBlock → wpList Tryz.prog ops Q rest (a.put o.dst v') w') :
  wpList Tryz.prog ops Q (o :: rest) a (W.alloc (rxo k mn mx m t (.slice ad l c))) := by
 obtain ⟨i, hi, hz, hsz, hby⟩ := info27
 obtain ⟨vs, hv1, hv2, hv3⟩ := hK.out.ex
 have kal : Kp W (W.alloc (rxo k mn mx m t (.slice ad l c))) := (Kp.refl _).alloc _
 subst hB
 refine wpList_append_own_at (W.alloc (rxo k mn mx m t (.slice ad l c))) hgd s x 25 ho base 27 i rz 9 88 Tryz.underlying25 hi hz hsz hby rfl (by omega) v ts.length (rowOf vs) hs (owns_same hv2 fun b _ hl => kal.block b hl) ⟨W.heap.size, 0, none⟩ 1 1 (cellsOf (rxv k mn mx m t (.slice ad l c))) hx rfl ?_ (rx_one _ _ _ _ _ _ _ _) (by unfold maxLen; omega) (by omega) (by simp; omega) ?_
 ·
  intro j y hj
  have hn := last_of W (rxo k mn mx m t (.slice ad l c))
  rw [show (⟨W.heap.size, 0, none⟩ : Addr).add j = ⟨W.heap.size, j, none⟩ by simp [Addr.add]; exact Eq.symm]
  refine bl_cell hn j y ?_
  rw [← Array.getElem?_toList]; exact hj
 ·
  intro v' w' a1 a2 _ a4
  have hgr : W.grownBy w' v.ownBlock := ⟨a2.os.trans rfl, a2.tape.trans rfl, a2.output.trans rfl, Nat.le_trans kal.size a2.size, fun b hb hne => (a2.block b (Nat.lt_of_lt_of_le hb kal.size) hne).trans (kal.block b hb)⟩
  refine h v' w' ⟨vs ++ [rxv k mn mx m t (.slice ad l c)], by simp [hv1], ?_, ?_⟩ hgr
  ·
   rw [List.length_append, rowOf_append, rowOf_one]; exact a1
  ·
   have hok : ∀ b, (base ≤ b ∧ v.ownBlock ≠ some b) → b < W.heap.size → (base ≤ b ∧ v'.ownBlock ≠ some b) ∧ w'.heap[b]? = W.heap[b]? := by
    intro b hb hl
    refine ⟨⟨hb.1, ?_⟩, hgr.block b hl (Ne.symm hb.2)⟩
    rcases a4 with a4 | a4
    ·
     rw [a4]; exact hb.2
    ·
     rw [a4]; intro he; injection he with he; simp at he; omega
   intro j t' u hj hu
   by_cases hlt : j < ts.length
   ·
    rw [List.getElem?_append_left hlt] at hj
    rw [List.getElem?_append_left (by omega)] at hu
    exact Is.turn hgr.size hok t' u (hv3 j t' u hj hu)
   ·
    have hj0 : j = ts.length := by
     have := (List.getElem?_eq_some_iff.1 hj).1
     simp at this; omega
    subst hj0
    rw [List.getElem?_append_right (Nat.le_refl _)] at hj
    rw [List.getElem?_append_right (by omega), hv1] at hu
    simp at hj hu
    subst hj
    subst hu
    exact Is.turn hgr.size hok _ _ hI.out
theorem opq {P : Program} {c : Code} {Q : Exit → Act → World → Prop} {a : Act} {w : World} (R : World → Prop) (hr : R w) (h : ∀ W, R W → Code.wp P c Q a W) : Code.wp P c Q a w := h w hr
theorem rx_ret2 {fn : Func} {p u : Tmp} (h : fn.results = #[.cell p 27, .tmp u]) (tmps : Array Value) (w : World) (S : Nat) (cs : Array Value) (x : Value) (hp : tmps.getD p undef = .pointer (some ⟨S, 0, none⟩)) (hu : tmps.getD u undef = x) (hA : w.heap[S]? = some (.cells cs 27)) (hc : cs.size = 9) : (results fn tmps).run Tryz.prog w = .ok (.tuple #[.agg cs, x]) w := by
 rw [results_cell_tmp h, hp, hu]
 have := run_loadVar_row (P := Tryz.prog) w S 27 27 cs (0, 0) _ hA Tryz.underlying27 rfl (by rw [hc]; kernel_rfl)
 simp [asAddr, Result.andThen, this]
theorem Ks.new {P S : Nat} {a b c : World} (h : Ks P a b) (k : Ks S b c) (hS : a.heap.size ≤ S) (hP : P < a.heap.size) : Ks P a c := h.off k hS hP
theorem Ks.kpt {P : Nat} {a b c : World} (h : Ks P a b) (k : Kp b c) (hP : P < a.heap.size) : Ks P a c := h.kp k (Nat.le_trans (Nat.le_of_lt hP) h.size)
abbrev sgo (x y z : Nat) : Obj := .cells #[.int .i64 (x : Int), .int .u8 (y : Int), .int .i64 (z : Int)] 173
abbrev sgz : Obj := .cells #[.int .i64 0, .int .u8 0, .int .i64 0] 173
set_option maxRecDepth 100000 in
theorem oneOf_any (p : Nat → Bool) (w : World) : Calls Tryz.prog 230 #[sv p] w fun e w' => e = .returned (rxv 1 0 0 0 (W4.of p) (.slice none 0 0)) ∧ Kp w w' := by
 go_enter Tryz.func230, Tryz.ntmps230
 go_wp2_with fail
 exact bodyPost_ret (v := .agg _) (rx_ret rfl _ _ _ _ rfl (last_at _ _ _ (by simp)) rfl) rfl ⟨rfl, ((Kp.refl _).alloc _).alloc _⟩
set_option maxRecDepth 100000 in
theorem repeatable_any (k : Int) (w : World) : Calls Tryz.prog 189 #[.int .i64 k] w fun e w' => e = .returned (.bool (k == 1 || k == 5 || k == 6)) ∧ w' = w := by
 go_enter Tryz.func189, Tryz.ntmps189
 cases h1 : (k == 1)
 ·
  cases h2 : (k == 5)
  ·
   go_wp2
   go_ret
   exact ⟨by simp, rfl⟩
  ·
   go_wp2
   go_ret
   exact ⟨by simp, rfl⟩
 ·
  go_wp2
  go_ret
  exact ⟨by simp, rfl⟩
open Go Go.RowKit
section
variable {P : Program} {ops : Array Oper} {Q : Exit → Act → World → Prop} {md : Region.Mode} {S : World → Prop} {z : Nat}
theorem tk (i : Nat) (d : Option Tmp) (o : Op) (ty : TypeId) {p : String} {af : Array Edge} {g : Option (Nat × Bool)} {v : Value} {fuel : Nat} {listed : Array Bool} {a : Act} {w : World} (hi : ops[i]? = some { dst := d, op := o, type := ty, pos := p, after := af, guard := g })
  (hy : ∀ w, S w → (execOp a.eval { dst := d, op := o, type := ty, pos := p, after := af, guard := g }).run P w = .ok (.value v) w) (hS : S w) (h : wpAnyH P md ops Q S fuel (listed.setIfInBounds i true) (a.put d v) w)
  (hs : Region.noSelect ops = true := by kernel_rfl) (hf : Region.free md ops listed i = true := by kernel_rfl) (hr : (Region.ready md ops listed).contains i = true := by kernel_rfl)
  (hQ : ∀ c a w, Q (.panic c) (a.put d v) w → Q (.panic c) a w := by exact fun _ _ _ h => h) (hw : Region.wanted { dst := d, op := o, type := ty, pos := p, after := af, guard := g } (yielded ops a.tmps) = true := by rfl) : wpAnyH P md ops Q S (fuel + 1) listed a w :=
 wpAnyH_take hi hs hf hr hQ (Or.inl ⟨hw, hy⟩) hS h
theorem zk (z i : Nat) (ks : List Nat) (d : Option Tmp) (o : Op) (ty : TypeId) {p : String} {af : Array Edge} {g : Option (Nat × Bool)} {v : Value} {fuel : Nat} {listed : Array Bool} {a : Act} {w : World} (hi : ops[i]? = some { dst := d, op := o, type := ty, pos := p, after := af, guard := g })
  (hy : ∀ w, S w → (execOp a.eval { dst := d, op := o, type := ty, pos := p, after := af, guard := g }).run P w = .ok (.value v) w) (hS : S w) (h : anyZ P md ops Q S z fuel (listed.setIfInBounds i true) (a.put d v) w)
  (hs : Region.noSelect ops = true := by kernel_rfl) (hf : Region.free md ops listed i = true := by kernel_rfl) (hr : (Region.ready md ops listed).contains i = true := by kernel_rfl) (hp : pathB md ops z ks i = true := by kernel_rfl) (hz : shutB md ops listed = true := by kernel_rfl)
  (hQ : ∀ c a w, Q (.panic c) (a.put d v) w → Q (.panic c) a w := by exact fun _ _ _ h => h) (hw : Region.wanted { dst := d, op := o, type := ty, pos := p, after := af, guard := g } (yielded ops a.tmps) = true := by rfl) : anyZ P md ops Q S z (fuel + 1) listed a w :=
 anyZ_take hi hs hf hr hp hz hQ (Or.inl ⟨hw, hy⟩) hS h
theorem tn (i : Nat) (d : Option Tmp) (o : Op) (ty : TypeId) {p : String} {af : Array Edge} {g : Option (Nat × Bool)} {fuel : Nat} {listed : Array Bool} {a : Act} {w : World} (hi : ops[i]? = some { dst := d, op := o, type := ty, pos := p, after := af, guard := g }) (hS : S w) (h : wpAnyH P md ops Q S fuel (listed.setIfInBounds i true) (a.put d undef) w)
  (hs : Region.noSelect ops = true := by kernel_rfl) (hf : Region.free md ops listed i = true := by kernel_rfl) (hr : (Region.ready md ops listed).contains i = true := by kernel_rfl)
  (hQ : ∀ c a w, Q (.panic c) (a.put d undef) w → Q (.panic c) a w := by exact fun _ _ _ h => h) (hw : Region.wanted { dst := d, op := o, type := ty, pos := p, after := af, guard := g } (yielded ops a.tmps) = false := by rfl) : wpAnyH P md ops Q S (fuel + 1) listed a w :=
 wpAnyH_take hi hs hf hr hQ (Or.inr ⟨hw, rfl⟩) hS h
end
theorem ps : (∀ (a : Act) (d : Tmp) (v : Value), a.put (some d) v = { a with tmps := a.tmps.setIfInBounds d v }) ∧ (∀ (a : Act) (v : Value), a.put none v = a) ∧ (∀ (l : List Value) (i : Nat) (x : Value), l.toArray.setIfInBounds i x = (l.set i x).toArray) ∧ (∀ (l : List Bool) (i : Nat) (x : Bool), l.toArray.setIfInBounds i x = (l.set i x).toArray)
  ∧ (∀ (l : List Value) (y x : Value), (y :: l).set 0 x = x :: l) ∧ (∀ (l : List Value) (n : Nat) (y x : Value), (y :: l).set (n + 1) x = y :: l.set n x) ∧ (∀ (l : List Bool) (y x : Bool), (y :: l).set 0 x = x :: l) ∧ (∀ (l : List Bool) (n : Nat) (y x : Bool), (y :: l).set (n + 1) x = y :: l.set n x) :=
 ⟨fun _ _ _ => rfl, fun _ _ => rfl, fun _ _ _ => by simp, fun _ _ _ => by simp, fun _ _ _ => rfl, fun _ _ _ _ => rfl, fun _ _ _ => rfl, fun _ _ _ _ => rfl⟩
theorem hdrew {P : Program} {ops : Array Oper} {Q : Exit → Act → World → Prop} {R S : World → Prop} {id : Nat} {a : Act} {w : World} (mk : Hid (∀ W, R W → S W)) (q0 : R w.drew)
  (h : S w.drew → wpAnyH P .any ops Q S ops.size (Array.replicate ops.size false) a w.drew) (hm : P.follows .mixedOrders = true := by kernel_rfl) : (Code.region id ops true).wp P Q a w :=
 wp_region_held_drew hm (mk.out _ q0) h
theorem hdrewZ {P : Program} {ops : Array Oper} {Q : Exit → Act → World → Prop} {R S : World → Prop} (z : Nat) {id : Nat} {a : Act} {w : World} (mk : Hid (∀ W, R W → S W)) (q0 : R w.drew)
  (h : S w.drew → anyZ P .any ops Q S z ops.size (Array.replicate ops.size false) a w.drew) (hm : P.follows .mixedOrders = true := by kernel_rfl) : (Code.region id ops true).wp P Q a w :=
 region_Z hm (mk.out _ q0) h
theorem hidT {p : Prop} (h : p) : Hid p := h
theorem cellf2 {w : World} {B : Nat} {a0 a1 : Value} {l : List Value} {t : TypeId} (h : w.heap[B]? = some (.cells (a0 :: a1 :: l).toArray t)) : w.cell? ⟨B, 0, none⟩ = some a0 ∧ w.frozen? ⟨B, 0, none⟩ = false ∧ w.cell? ⟨B, 1, none⟩ = some a1 ∧ w.frozen? ⟨B, 1, none⟩ = false := ⟨bl_cell h 0 _ rfl, bl_frozen h 0, bl_cell h 1 _ rfl, bl_frozen h 1⟩
theorem cells3 {w : World} {B : Nat} {a0 a1 a2 : Value} {l : List Value} {t : TypeId} (h : w.heap[B]? = some (.cells (a0 :: a1 :: a2 :: l).toArray t)) : w.cell? ⟨B, 0, none⟩ = some a0 ∧ w.cell? ⟨B, 1, none⟩ = some a1 ∧ w.cell? ⟨B, 2, none⟩ = some a2 := ⟨bl_cell h 0 _ rfl, bl_cell h 1 _ rfl, bl_cell h 2 _ rfl⟩
theorem cellf3 {w : World} {B : Nat} {a0 a1 a2 : Value} {l : List Value} {t : TypeId} (h : w.heap[B]? = some (.cells (a0 :: a1 :: a2 :: l).toArray t)) : w.cell? ⟨B, 0, none⟩ = some a0 ∧ w.frozen? ⟨B, 0, none⟩ = false ∧ w.cell? ⟨B, 1, none⟩ = some a1 ∧ w.frozen? ⟨B, 1, none⟩ = false ∧ w.cell? ⟨B, 2, none⟩ = some a2 ∧ w.frozen? ⟨B, 2, none⟩ = false := ⟨bl_cell h 0 _ rfl, bl_frozen h 0, bl_cell h 1 _ rfl, bl_frozen h 1, bl_cell h 2 _ rfl, bl_frozen h 2⟩
theorem cells9 {w : World} {B : Nat} {a0 a1 a2 a3 a4 a5 a6 a7 a8 : Value} {l : List Value} {t : TypeId} (h : w.heap[B]? = some (.cells (a0 :: a1 :: a2 :: a3 :: a4 :: a5 :: a6 :: a7 :: a8 :: l).toArray t)) : w.cell? ⟨B, 0, none⟩ = some a0 ∧ w.cell? ⟨B, 1, none⟩ = some a1 ∧ w.cell? ⟨B, 2, none⟩ = some a2 ∧ w.cell? ⟨B, 3, none⟩ = some a3 ∧ w.cell? ⟨B, 4, none⟩ = some a4 ∧ w.cell? ⟨B, 5, none⟩ = some a5 ∧ w.cell? ⟨B, 6, none⟩ = some a6 ∧ w.cell? ⟨B, 7, none⟩ = some a7 ∧ w.cell? ⟨B, 8, none⟩ = some a8 := ⟨bl_cell h 0 _ rfl, bl_cell h 1 _ rfl, bl_cell h 2 _ rfl, bl_cell h 3 _ rfl, bl_cell h 4 _ rfl, bl_cell h 5 _ rfl, bl_cell h 6 _ rfl, bl_cell h 7 _ rfl, bl_cell h 8 _ rfl⟩
theorem cellf9 {w : World} {B : Nat} {a0 a1 a2 a3 a4 a5 a6 a7 a8 : Value} {l : List Value} {t : TypeId} (h : w.heap[B]? = some (.cells (a0 :: a1 :: a2 :: a3 :: a4 :: a5 :: a6 :: a7 :: a8 :: l).toArray t)) : w.cell? ⟨B, 0, none⟩ = some a0 ∧ w.frozen? ⟨B, 0, none⟩ = false ∧ w.cell? ⟨B, 1, none⟩ = some a1 ∧ w.frozen? ⟨B, 1, none⟩ = false ∧ w.cell? ⟨B, 2, none⟩ = some a2 ∧ w.frozen? ⟨B, 2, none⟩ = false ∧ w.cell? ⟨B, 3, none⟩ = some a3 ∧ w.frozen? ⟨B, 3, none⟩ = false ∧ w.cell? ⟨B, 4, none⟩ = some a4 ∧ w.frozen? ⟨B, 4, none⟩ = false ∧ w.cell? ⟨B, 5, none⟩ = some a5 ∧ w.frozen? ⟨B, 5, none⟩ = false ∧ w.cell? ⟨B, 6, none⟩ = some a6 ∧ w.frozen? ⟨B, 6, none⟩ = false ∧ w.cell? ⟨B, 7, none⟩ = some a7 ∧ w.frozen? ⟨B, 7, none⟩ = false ∧ w.cell? ⟨B, 8, none⟩ = some a8 ∧ w.frozen? ⟨B, 8, none⟩ = false := ⟨bl_cell h 0 _ rfl, bl_frozen h 0, bl_cell h 1 _ rfl, bl_frozen h 1, bl_cell h 2 _ rfl, bl_frozen h 2, bl_cell h 3 _ rfl, bl_frozen h 3, bl_cell h 4 _ rfl, bl_frozen h 4, bl_cell h 5 _ rfl, bl_frozen h 5, bl_cell h 6 _ rfl, bl_frozen h 6, bl_cell h 7 _ rfl, bl_frozen h 7, bl_cell h 8 _ rfl, bl_frozen h 8⟩
theorem cells11 {w : World} {B : Nat} {a0 a1 a2 a3 a4 a5 a6 a7 a8 a9 a10 : Value} {l : List Value} {t : TypeId} (h : w.heap[B]? = some (.cells (a0 :: a1 :: a2 :: a3 :: a4 :: a5 :: a6 :: a7 :: a8 :: a9 :: a10 :: l).toArray t)) : w.cell? ⟨B, 0, none⟩ = some a0 ∧ w.cell? ⟨B, 1, none⟩ = some a1 ∧ w.cell? ⟨B, 2, none⟩ = some a2 ∧ w.cell? ⟨B, 3, none⟩ = some a3 ∧ w.cell? ⟨B, 4, none⟩ = some a4 ∧ w.cell? ⟨B, 5, none⟩ = some a5 ∧ w.cell? ⟨B, 6, none⟩ = some a6 ∧ w.cell? ⟨B, 7, none⟩ = some a7 ∧ w.cell? ⟨B, 8, none⟩ = some a8 ∧ w.cell? ⟨B, 9, none⟩ = some a9 ∧ w.cell? ⟨B, 10, none⟩ = some a10 := ⟨bl_cell h 0 _ rfl, bl_cell h 1 _ rfl, bl_cell h 2 _ rfl, bl_cell h 3 _ rfl, bl_cell h 4 _ rfl, bl_cell h 5 _ rfl, bl_cell h 6 _ rfl, bl_cell h 7 _ rfl, bl_cell h 8 _ rfl, bl_cell h 9 _ rfl, bl_cell h 10 _ rfl⟩
theorem cellf11 {w : World} {B : Nat} {a0 a1 a2 a3 a4 a5 a6 a7 a8 a9 a10 : Value} {l : List Value} {t : TypeId} (h : w.heap[B]? = some (.cells (a0 :: a1 :: a2 :: a3 :: a4 :: a5 :: a6 :: a7 :: a8 :: a9 :: a10 :: l).toArray t)) : w.cell? ⟨B, 0, none⟩ = some a0 ∧ w.frozen? ⟨B, 0, none⟩ = false ∧ w.cell? ⟨B, 1, none⟩ = some a1 ∧ w.frozen? ⟨B, 1, none⟩ = false ∧ w.cell? ⟨B, 2, none⟩ = some a2 ∧ w.frozen? ⟨B, 2, none⟩ = false ∧ w.cell? ⟨B, 3, none⟩ = some a3 ∧ w.frozen? ⟨B, 3, none⟩ = false ∧ w.cell? ⟨B, 4, none⟩ = some a4 ∧ w.frozen? ⟨B, 4, none⟩ = false ∧ w.cell? ⟨B, 5, none⟩ = some a5 ∧ w.frozen? ⟨B, 5, none⟩ = false ∧ w.cell? ⟨B, 6, none⟩ = some a6 ∧ w.frozen? ⟨B, 6, none⟩ = false ∧ w.cell? ⟨B, 7, none⟩ = some a7 ∧ w.frozen? ⟨B, 7, none⟩ = false ∧ w.cell? ⟨B, 8, none⟩ = some a8 ∧ w.frozen? ⟨B, 8, none⟩ = false ∧ w.cell? ⟨B, 9, none⟩ = some a9 ∧ w.frozen? ⟨B, 9, none⟩ = false ∧ w.cell? ⟨B, 10, none⟩ = some a10 ∧ w.frozen? ⟨B, 10, none⟩ = false := ⟨bl_cell h 0 _ rfl, bl_frozen h 0, bl_cell h 1 _ rfl, bl_frozen h 1, bl_cell h 2 _ rfl, bl_frozen h 2, bl_cell h 3 _ rfl, bl_frozen h 3, bl_cell h 4 _ rfl, bl_frozen h 4, bl_cell h 5 _ rfl, bl_frozen h 5, bl_cell h 6 _ rfl, bl_frozen h 6, bl_cell h 7 _ rfl, bl_frozen h 7, bl_cell h 8 _ rfl, bl_frozen h 8, bl_cell h 9 _ rfl, bl_frozen h 9, bl_cell h 10 _ rfl, bl_frozen h 10⟩
theorem kpt {w w2 : World} (h : Kp w w2 := by repeat (first | exact Kp.refl _ | refine Kp.alloc ?_ _ | refine Kp.drew ?_ | refine Kp.drewN _ ?_)) : Kp w w2 := h
set_option maxHeartbeats 2000000
set_option maxRecDepth 100000
theorem take_any (x y z : Nat) (k mn mx m : Int) (t : W4) (ad : Option Addr) (l c : Nat) (s : ByteArray) (ere : Bool) (i n g d P : Nat) (w : World) (h : Rd w P s ere i n g d) (hi : i ≤ 1000000000) (hz : z ≤ 100) (hn : n ≤ 1000000000) :
  Calls Tryz.prog 229 #[.pointer (some ⟨P, 0, none⟩), .agg #[.int .i64 (x : Int), .int .u8 (y : Int), .int .i64 (z : Int)], rxv k mn mx m t (.slice ad l c)] w fun e w' => e = .returned (.tuple #[rxv k mn mx m t (.slice ad l c), .int .i64 0]) ∧ Rd w' P s ere (i + z) (n + 1) g d ∧ Ks P w w' := by
 have R : Hid (Rd w P s ere i n g d) := h
 have hP : P < w.heap.size := h.lt
 clear h
 have gw : IntKind.i64.wrap ((i : Int) + (z : Int)) = (i : Int) + (z : Int) := by rw [IntKind.wrap_i64]; omega
 go_enter Tryz.func229, Tryz.ntmps229
 go_upto_region 1 with fail
 refine opq (fun W0 => Rd W0 P s ere i n g d ∧ W0.heap[w.heap.size]? = some (sgo x y z) ∧ W0.heap[(w.heap.size + 1)]? = some (rxo k mn mx m t (.slice ad l c)) ∧ W0.heap[(w.heap.size + 2)]? = some rzo ∧ Kp w W0) ⟨by exact R.out.kp kpt, by (first | exact last_at _ _ _ (by simp) | (refine bl_alloc ?_ _; first | exact last_at _ _ _ (by simp) | (refine bl_alloc ?_ _; first | exact last_at _ _ _ (by simp) | (refine bl_alloc ?_ _; exact last_at _ _ _ (by simp))))), by (first | exact last_at _ _ _ (by simp) | (refine bl_alloc ?_ _; first | exact last_at _ _ _ (by simp) | (refine bl_alloc ?_ _; first | exact last_at _ _ _ (by simp) | (refine bl_alloc ?_ _; exact last_at _ _ _ (by simp))))), by (first | exact last_at _ _ _ (by simp) | (refine bl_alloc ?_ _; first | exact last_at _ _ _ (by simp) | (refine bl_alloc ?_ _; first | exact last_at _ _ _ (by simp) | (refine bl_alloc ?_ _; exact last_at _ _ _ (by simp))))), by exact kpt⟩ ?_
 rintro W0 ⟨xR0, xG0, xA0, xB0, xK0⟩
 have R0 := hidT xR0
 have G0 := hidT xG0
 have A0 := hidT xA0
 have B0 := hidT xB0
 have K0 := hidT xK0
 clear xR0 xG0 xA0 xB0 xK0
 have ks0 : Hid (Ks P w W0) := K0.out.ks (Nat.le_of_lt hP)
 have fp2 := bl_frozen R0.out.b 2
 clear K0
 have Q0 : Kp W0 W0.drew := (Kp.refl _).drew
 have MK : Hid (∀ W, Kp W0 W → W.cell? ⟨P, 2, none⟩ = some (.int .i64 (i : Int)) ∧ W.cell? ⟨w.heap.size, 2, none⟩ = some (.int .i64 (z : Int)) ∧ Hid (Kp W0 W)) := fun W k => ⟨(R0.out.kp k).cells.2.2.1, bl_cell (bl_kp G0.out k) 2 _ rfl, k⟩
 refine wp_region_noPanic ?_
 refine hdrewZ 9 MK Q0 (fun hH => ?_)
 have KQ := Q0
 refine zk 9 0 [] (some 8) (.move (.tmp 0)) 142 (v := ?v0a1) rfl ?h0a1 hH ?_
 case h0a1 => intro _ _; go_simp; try with_reducible rfl
 try simp only [ps]
 refine zk 9 1 [] (some 9) (.nilCheck (.tmp 8)) 0 (v := ?v1a2) rfl ?h1a2 hH ?_
 case h1a2 => intro _ _; go_simp; try with_reducible rfl
 try simp only [ps]
 refine zk 9 2 [] (some 10) (.fieldAddr 99 (.tmp 9) 2) 0 (v := ?v2a3) rfl ?h2a3 hH ?_
 case h2a3 => intro _ _; go_simp; try with_reducible rfl
 try simp only [ps]
 refine zk 9 3 [] (some 11) (.load 3 (.tmp 10)) 3 (v := ?v3a4) rfl ?h3a4 hH ?_
 case h3a4 => intro _ _; go_simp; try with_reducible rfl
 try simp only [ps]
 refine zk 9 4 [] (some 12) (.fieldAddr 173 (.tmp 4) 2) 0 (v := ?v4a5) rfl ?h4a5 hH ?_
 case h4a5 => intro _ _; go_simp; try with_reducible rfl
 try simp only [ps]
 refine zk 9 5 [] (some 13) (.load 3 (.tmp 12)) 3 (v := ?v5a6) rfl ?h5a6 hH ?_
 case h5a6 => intro _ _; go_simp; try with_reducible rfl
 try simp only [ps]
 refine zk 9 6 [] (some 14) (.binOp .add 3 (.tmp 11) (.tmp 13) 3) 3 (v := ?v6a7) rfl ?h6a7 hH ?_
 case h6a7 => intro _ _; go_simp; try with_reducible rfl
 try simp only [ps]
 refine zk 9 7 [8] (some 15) (.nilCheck (.tmp 8)) 0 (v := ?v7a8) rfl ?h7a8 hH ?_
 case h7a8 => intro _ _; go_simp; try with_reducible rfl
 try simp only [ps]
 refine zk 9 8 [] (some 16) (.fieldAddr 99 (.tmp 15) 2) 0 (v := ?v8a9) rfl ?h8a9 hH ?_
 case h8a9 => intro _ _; go_simp; try with_reducible rfl
 try simp only [ps]
 refine anyZ_ready (rs := [9]) (by kernel_rfl) (by simp) ?_
 refine AllZ.last (o := { dst := none, op := Op.store 3 (Operand.tmp 16) (Operand.tmp 14), type := 0, pos := "parse.go:139", after := _, guard := none }) rfl (Or.inl rfl) (fun K hKq => ?_) AllZ.nil
 have fq2 := bl_frozen (R0.out.kp KQ).b 2
 have cq2 := (R0.out.kp KQ).cells.2.2.1
 go_simp
 refine hKq.out _ _ ?_
 clear fq2 cq2
 clear hKq K
 try simp only [ps]
 refine anyZ_done (by kernel_rfl) ?_ _
 refine NoPanic.normal ?_
 go_upto_region 2 with fail
 refine opq (fun W1 => Rd W1 P s ere (i + z) n g d ∧ W1.heap[(w.heap.size + 1)]? = some (rxo k mn mx m t (.slice ad l c)) ∧ W1.heap[(w.heap.size + 2)]? = some rzo ∧ Ks P w W1) ⟨by exact (R0.out.kp KQ).at (i + z), by exact bl_set (bl_kp A0.out KQ) (by omega) _, by exact bl_set (bl_kp B0.out KQ) (by omega) _, by exact (ks0.out.kpt KQ hP).set 2 _⟩ ?_
 rintro W1 ⟨xR1, xA1, xB1, xK1⟩
 have R1 := hidT xR1
 have A1 := hidT xA1
 have B1 := hidT xB1
 have K1 := hidT xK1
 clear xR1 xA1 xB1 xK1
 clear hH KQ Q0 MK R0 G0 A0 B0 ks0 fp2
 obtain ⟨a0, a1, a2, a3, a4, a5, a6, a7, a8⟩ := cells9 (A1.out)
 go_wp2_with fail
 refine (node_any k mn mx m t ad l c s ere (i + z) n g d P _ R1.out hn).mono ?_
 rintro e w2 ⟨rfl, r2, k2⟩
 have hs1 := K1.out.size
 have R2 : Hid (Rd w2 P s ere (i + z) (n + 1) g d) := r2
 have B2 : Hid (w2.heap[w.heap.size + 2]? = some rzo) := bl_ks B1.out (by omega) k2
 have K2 : Hid (Ks P w w2) := K1.out.trans k2
 clear r2 k2 K1 R1 A1 B1
 clear a0 a1 a2 a3 a4 a5 a6 a7 a8
 obtain ⟨b0, fb0, b1, fb1, b2, fb2, b3, fb3, b4, fb4, b5, fb5, b6, fb6, b7, fb7, b8, fb8⟩ := cellf9 (B2.out)
 go_wp2_with fail
 refine bodyPost_ret (v := .tuple #[.agg _, _]) (rx_ret2 rfl _ _ _ _ _ rfl rfl (bl_set9 B2.out _ _ _ _ _ _ _ _ _) rfl) rfl ⟨rfl, ?_, ?_⟩
 ·
  exact R2.out.ks (ks_set9 _ _ _ _ _ _ _ _ _) (by omega) (by omega)
 ·
  exact K2.out.off (ks_set9 _ _ _ _ _ _ _ _ _) (by omega) hP
end Go.Proofs.YtigdmebijbaofaaGreatDoor
