/-
  A row of items in memory; what grow does with it, and Of.
-/
import Derived.Test.YtjphjnpcpbenlaaSplit
namespace Go.Proofs.Ytjphjnpcpbenlaa
open Go.RowKit
attribute [local go_sem] run_store_complex

/-- From place o of block B on lie the items xs. -/
def Row (w : World) (B o : Nat) (xs : List It) : Prop := ∀ j x, xs[j]? = some x → w.cell? ⟨B, o + j * 2, none⟩ = some (.int .i64 x.key) ∧ w.cell? ⟨B, o + j * 2 + 1, none⟩ = some (cx (x.l : Nat) (x.y : Nat))
theorem Row.kp {w w' : World} {B o : Nat} {xs : List It} (h : Row w B o xs) (k : Kp w w') : Row w' B o xs := fun j x hx => ⟨(k.cell (block_lt_of_cell (h j x hx).1)).trans (h j x hx).1, (k.cell (block_lt_of_cell (h j x hx).2)).trans (h j x hx).2⟩
theorem Row.take {w : World} {B o : Nat} {xs : List It} (h : Row w B o xs) (k : Nat) : Row w B o (xs.take k) := fun j x hx => h j x (by
  rw [List.getElem?_take] at hx; split at hx
  · exact hx
  · cases hx)
theorem Row.drop {w : World} {B o : Nat} {xs : List It} (h : Row w B o xs) (k : Nat) : Row w B (o + k * 2) (xs.drop k) := fun j x hx => by
  rw [List.getElem?_drop] at hx
  have := h (k + j) x hx
  rw [show o + (k + j) * 2 = o + k * 2 + j * 2 by omega] at this
  exact this

theorem hidk {p : Prop} (h : p) : Hid p := h
theorem bl_set {w : World} {B S j : Nat} {o : Obj} (h : w.heap[B]? = some o) (hne : B ≠ S) (u : Value) : (w.setCell ⟨S, j, none⟩ u).heap[B]? = some o := by
  simp only [World.setCell, Array.getElem?_modify, if_neg (Ne.symm hne)]; exact h
theorem bl_ne {w : World} {B S : Nat} {cs cs' : Array Value} {t t' : TypeId} (h : w.heap[B]? = some (.cells cs t)) (h' : w.heap[S]? = some (.cells cs' t')) (hne : t ≠ t') : B ≠ S := by
  intro e; subst e; rw [h] at h'; injection h' with h'; injection h' with _ h2; exact hne h2
/-- A variable of another kind than a node may be written. -/
theorem Head.set {w : World} {t : T} {S j : Nat} {cs : Array Value} {ty : TypeId} (h : Head w t) (hS : w.heap[S]? = some (.cells cs ty)) (hne : (66 : TypeId) ≠ ty) (u : Value) : Head (w.setCell ⟨S, j, none⟩ u) t := bl_set h (bl_ne h hS hne) u
theorem In.set {w : World} {t : T} {S j : Nat} {cs : Array Value} {ty : TypeId} (h : In w t) (hS : w.heap[S]? = some (.cells cs ty)) (hne : (66 : TypeId) ≠ ty) (u : Value) : In (w.setCell ⟨S, j, none⟩ u) t := by
  induction t with
  | leaf b x => exact Head.set h hS hne u
  | fork b p q hp hq => exact ⟨Head.set h.1 hS hne u, hp h.2.1, hq h.2.2⟩
theorem InO.set {w : World} {t : Option T} {S j : Nat} {cs : Array Value} {ty : TypeId} (h : InO w t) (hS : w.heap[S]? = some (.cells cs ty)) (hne : (66 : TypeId) ≠ ty) (u : Value) : InO (w.setCell ⟨S, j, none⟩ u) t := by
  cases t with
  | none => trivial
  | some t => exact In.set h hS hne u

/-- A tree that was grown out of a row. -/
structure Gr (xs : List It) (w w' : World) (t : T) : Prop where
  i : In w' t
  k : Kp w w'
  items : t.items = xs
  bal : t.Bal
  g : Grew xs.length t.ht

theorem grow_one (x : It) (B o cap : Nat) (w : World) (h : Row w B o [x]) :
    Calls Try.prog 24 #[.slice (some ⟨B, o, none⟩) 1 cap] w fun e w' => ∃ t, e = .returned (.pointer (some ⟨t.blk, 0, none⟩)) ∧ Gr [x] w w' t := by
  obtain ⟨c0, c1⟩ := h 0 x rfl
  simp only [Nat.zero_mul, Nat.add_zero] at c0 c1
  clear h
  go_enter Try.func24, Try.ntmps24
  go_wp2_with (go_at_call 33; refine (sprout_any x _).mono ?_; rintro e w1 ⟨g, rfl, i, k⟩)
  go_ret
  exact ⟨.leaf g x, rfl, i, k, rfl, trivial, Grew.one⟩

set_option maxHeartbeats 1000000 in
theorem grow_two (xs : List It) (B o n cap : Nat) (w : World) (h : Row w B o xs) (hn : xs.length = n) (h2 : 2 ≤ n) (h3 : n ≤ cap) (h4 : cap ≤ 9223372036854775807) (hb : n ≤ 100000) (hs : Sm xs)
    (IH : Hid (∀ ys o' cap' w', Row w' B o' ys → 1 ≤ ys.length → ys.length < n → ys.length ≤ cap' → cap' ≤ 9223372036854775807 → Sm ys → Calls Try.prog 24 #[.slice (some ⟨B, o', none⟩) ys.length cap'] w' fun e w'' => ∃ t, e = .returned (.pointer (some ⟨t.blk, 0, none⟩)) ∧ Gr ys w' w'' t)) :
    Calls Try.prog 24 #[.slice (some ⟨B, o, none⟩) n cap] w fun e w' => ∃ t, e = .returned (.pointer (some ⟨t.blk, 0, none⟩)) ∧ Gr xs w w' t := by
  obtain ⟨m, hm⟩ : ∃ m, m = n / 2 := ⟨_, rfl⟩
  have e1 : ((n : Int) / 2) = (m : Int) := by omega
  have m1 : 1 ≤ m := by omega
  have m2 : m < n := by omega
  have i1 : (0 : Int) ≤ (m : Int) := by omega
  have i2 : (m : Int) ≤ (n : Int) := by omega
  have i3 : (m : Int) ≤ (cap : Int) := by omega
  have i4 : (n : Int) ≤ (cap : Int) := by omega
  have i5 : ¬ cap = m := by omega
  have g0 : ¬ (n : Int) = 0 := by omega
  have g1 : ¬ (n : Int) = 1 := by omega
  have HR : Hid (Row w B o xs) := h
  have HX : Hid (xs.length = n ∧ m = n / 2) := ⟨hn, hm⟩
  clear h hn hm
  have Q0 : Kp w w.drew := (Kp.refl _).drew
  have lt : Hid ((xs.take m).length = m) := by show _ = _; rw [List.length_take, HX.out.1]; omega
  have ld : Hid ((xs.drop m).length = n - m) := by show _ = _; rw [List.length_drop, HX.out.1]
  have G1 : Hid (∀ w', Kp w w' → Calls Try.prog 24 #[.slice (some ⟨B, o, none⟩) m cap] w' fun e w'' => ∃ t, e = .returned (.pointer (some ⟨t.blk, 0, none⟩)) ∧ Gr (xs.take m) w' w'' t) := fun w' k => by
    have := IH.out (xs.take m) o cap w' ((HR.out.take m).kp k) (by rw [lt.out]; omega) (by rw [lt.out]; omega) (by rw [lt.out]; omega) h4 (hs.sub (fun x hx => List.mem_of_mem_take hx))
    rw [lt.out] at this; exact this
  have G2 : Hid (∀ w', Kp w w' → Calls Try.prog 24 #[.slice (some ⟨B, o + m * 2, none⟩) (n - m) (cap - m)] w' fun e w'' => ∃ t, e = .returned (.pointer (some ⟨t.blk, 0, none⟩)) ∧ Gr (xs.drop m) w' w'' t) := fun w' k => by
    have := IH.out (xs.drop m) (o + m * 2) (cap - m) w' ((HR.out.drop m).kp k) (by rw [ld.out]; omega) (by rw [ld.out]; omega) (by rw [ld.out]; omega) (by omega) (hs.sub (fun x hx => List.mem_of_mem_drop hx))
    rw [ld.out] at this; exact this
  clear HR IH
  go_enter Try.func24, Try.ntmps24
  go_wp2_with fail
  go_region_held3 (fun W => Hid (Kp w W))
    (first | with_reducible exact hidk (by assumption))
    (first
      | (go_at_call_of 24 (Value.slice (some ⟨B, o, none⟩) m cap); refine (G1.out _ (by assumption)).mono ?_; rintro e w1 ⟨t1, rfl, j1⟩; have K1 : Kp w w1 := Kp.trans (by assumption) j1.k; have i1 := j1.i; try have i2 := In.kp i2 j1.k)
      | (go_at_call_of 24 (Value.slice (some ⟨B, o + m * 2, none⟩) (n - m) (cap - m)); refine (G2.out _ (by assumption)).mono ?_; rintro e w2 ⟨t2, rfl, j2⟩; have K2 : Kp w w2 := Kp.trans (by assumption) j2.k; have i2 := j2.i; try have i1 := In.kp i1 j2.k)
      | (go_at_call 34; refine (fork_any t1 t2 _ (by assumption) (by assumption) (by rw [j1.items, j2.items, lt.out, ld.out]; omega) (by rw [j1.items]; exact hs.sub (fun x hx => List.mem_of_mem_take hx)) (by rw [j2.items]; exact hs.sub (fun x hx => List.mem_of_mem_drop hx))).mono ?_; rintro e w3 ⟨g3, rfl, i3', k3⟩; have K3 : Kp w w3 := Kp.trans (by assumption) k3; clear k3))
  all_goals
    go_wp2_with fail
    go_ret
    have G := Grew.two m1 (show (xs.drop m).length = m ∨ (xs.drop m).length = m + 1 by have := HX.out; rw [ld.out]; omega) (lt.out ▸ j1.g) j2.g
    rw [ld.out, show m + (n - m) = n by omega] at G
    refine ⟨_, rfl, i3', K3, ?_, ⟨j1.bal, j2.bal, G.1, G.2.1⟩, ?_⟩
    · simp only [T.items, j1.items, j2.items, List.take_append_drop]
    · rw [HX.out.1]; exact G.2.2

theorem grow_S (B : Nat) (n : Nat) : ∀ (xs : List It) (o cap : Nat) (w : World), xs.length ≤ n → Row w B o xs → 1 ≤ xs.length → xs.length ≤ cap → cap ≤ 9223372036854775807 → xs.length ≤ 100000 → Sm xs →
    Calls Try.prog 24 #[.slice (some ⟨B, o, none⟩) xs.length cap] w fun e w' => ∃ t, e = .returned (.pointer (some ⟨t.blk, 0, none⟩)) ∧ Gr xs w w' t := by
  induction n with
  | zero => intro xs o cap w h _ h1; omega
  | succ n ih =>
    intro xs o cap w h hr h1 h2 h3 h4 hs
    by_cases hone : xs.length = 1
    · obtain ⟨x, rfl⟩ : ∃ x, xs = [x] := List.length_eq_one_iff.1 hone
      exact grow_one x B o cap w hr
    · exact grow_two xs B o xs.length cap w hr rfl (by omega) h2 h3 h4 hs (fun ys o' cap' w' hr' a1 a2 a3 a4 s' => ih ys o' cap' w' (by omega) hr' a1 a3 a4 (by omega) s')

theorem grow_nil (a : Option Addr) (cap : Nat) (w : World) :
    Calls Try.prog 24 #[.slice a 0 cap] w fun e w' => e = .returned (.pointer none) ∧ w' = w := by
  go_enter Try.func24, Try.ntmps24
  go_wp2
  go_ret
  exact ⟨rfl, rfl⟩

/-- A slice of items: where it lies (or nil), and what it holds. -/
def Sl (w : World) (v : Value) (xs : List It) : Prop := (∃ B o cap, v = .slice (some ⟨B, o, none⟩) xs.length cap ∧ Row w B o xs ∧ xs.length ≤ cap ∧ cap ≤ 9223372036854775807) ∨ (v = .slice none 0 0 ∧ xs = [])
theorem Sl.kp {w w' : World} {v : Value} {xs : List It} (h : Sl w v xs) (k : Kp w w') : Sl w' v xs := by
  rcases h with ⟨B, o, cap, rfl, hr, h1, h2⟩ | h
  · exact Or.inl ⟨B, o, cap, rfl, hr.kp k, h1, h2⟩
  · exact Or.inr h

/-- A rope of these items. -/
structure Rp (xs : List It) (w w' : World) (t : Option T) : Prop where
  i : InO w' t
  k : Kp w w'
  items : itemsO t = xs
  bal : BalO t

theorem grow_any (v : Value) (xs : List It) (w : World) (h : Sl w v xs) (hn : xs.length ≤ 100000) (hs : Sm xs) :
    Calls Try.prog 24 #[v] w fun e w' => ∃ t, e = .returned (.pointer (pO t)) ∧ Rp xs w w' t := by
  rcases h with ⟨B, o, cap, rfl, hr, h1, h2⟩ | ⟨rfl, rfl⟩
  · by_cases h0 : xs.length = 0
    · have := List.eq_nil_of_length_eq_zero h0
      subst this
      refine (grow_nil _ cap w).mono ?_
      rintro e w' ⟨rfl, rfl⟩
      exact ⟨none, rfl, trivial, Kp.refl _, rfl, trivial⟩
    · refine (grow_S B xs.length xs o cap w (Nat.le_refl _) hr (by omega) h1 h2 hn hs).mono ?_
      rintro e w' ⟨t, rfl, j⟩
      exact ⟨some t, rfl, j.i, j.k, j.items, j.bal⟩
  · refine (grow_nil _ 0 w).mono ?_
    rintro e w' ⟨rfl, rfl⟩
    exact ⟨none, rfl, trivial, Kp.refl _, rfl, trivial⟩

/-- A rope as a value. -/
abbrev rv (t : Option T) : Value := .agg #[.pointer (pO t)]

theorem of_rope (v : Value) (xs : List It) (w : World) (h : Sl w v xs) (hn : xs.length ≤ 100000) (hs : Sm xs) :
    Calls Try.prog 8 #[v] w fun e w' => ∃ t, e = .returned (rv t) ∧ Rp xs w w' t := by
  go_enter Try.func8, Try.ntmps8
  go_wp2_with fail
  refine (grow_any v xs _ (h.kp ((Kp.refl _).alloc _)) hn hs).mono ?_
  rintro e w1 ⟨t, rfl, j⟩
  have J : Hid (Rp xs (w.alloc (.cells #[.pointer none] 24)) w1 t) := j
  have b0 := bl_kp (last_of w (.cells #[.pointer none] 24)) j.k
  have d0 := bl_cell b0 0 (.pointer none) rfl
  have f0 := bl_frozen b0 0
  have B0 : Hid (w1.heap[w.heap.size]? = some (.cells #[.pointer none] 24)) := b0
  have K : Hid (Kp w w1) := ((Kp.refl w).alloc _).trans j.k
  clear j b0 h
  go_wp2_with fail
  exact bodyPost_ret (v := rv t) (by simp [results, Try.results8, go_sem, d0]) rfl ⟨t, rfl, J.out.i.set B0.out (by decide) _, K.out.setCell (Nat.le_refl _) _, J.out.items, J.out.bal⟩
end Go.Proofs.Ytjphjnpcpbenlaa
