/-
  The law RopeBig.
-/
import Derived.Test.YtjphjnpcpbenlaaParts
import Derived.Test.YtjphjnpcpbenlaaSteps
namespace Go.Proofs.Ytjphjnpcpbenlaa
open Go.RowKit
attribute [local go_sem] run_store_complex

def bit (i : Nat) : It := ⟨(i : Int), 1, i % 7⟩
def bl (a c : Nat) : List It := (List.range' a c).map bit
theorem bl_len (a c : Nat) : (bl a c).length = c := by simp [bl]
theorem bl_front (a c : Nat) : bl a (c + 1) = [bit a] ++ bl (a + 1) c := by simp [bl, List.range'_succ]
theorem bl_back (c : Nat) : bl 0 (c + 1) = bl 0 c ++ [bit c] := by simp [bl, List.range'_concat]
theorem bit_sm (i : Nat) : (bit i).l ≤ 100 ∧ (bit i).y ≤ 100 := ⟨by show 1 ≤ 100; omega, by show i % 7 ≤ 100; omega⟩
theorem bl_sm (a c : Nat) : Sm (bl a c) := by
  intro x hx
  simp only [bl, List.mem_map] at hx
  obtain ⟨i, _, rfl⟩ := hx
  exact bit_sm i

/-- The ropes of the first k rounds. -/
structure Bg (w wr : World) (m k : Nat) (f g : Option T) : Prop where
  v6 : Vr wr w.heap.size f
  v7 : Vr wr (w.heap.size + 1) g
  v8 : Vr wr (w.heap.size + 2) none
  of : Ok wr f (bl (m - k) k)
  og : Ok wr g (bl 0 k)
  k : Kp w wr

theorem Bg.next {w wr y : World} {m k : Nat} {f g f' g' : Option T} (h : Bg w wr m k f g) (ky : Kp wr y) (o2 : Ok y f' (bl (m - (k + 1)) (k + 1))) (o4 : Ok y g' (bl 0 (k + 1))) :
    Bg w ((y.setCell ⟨w.heap.size, 0, none⟩ (.pointer (pO f'))).setCell ⟨w.heap.size + 1, 0, none⟩ (.pointer (pO g'))) m (k + 1) f' g' := by
  have a := h.v6.kp ky
  have b := (h.v7.kp ky).set (show w.heap.size + 1 ≠ w.heap.size by omega) (.pointer (pO f'))
  have c := ((h.v8.kp ky).set (show w.heap.size + 2 ≠ w.heap.size by omega) (.pointer (pO f'))).set (show w.heap.size + 2 ≠ w.heap.size + 1 by omega) (.pointer (pO g'))
  exact ⟨(a.put f').set (show w.heap.size ≠ w.heap.size + 1 by omega) _, b.put g', c, (o2.set a _).set b _, (o4.set a _).set b _, ((h.k.trans ky).setCell (Nat.le_refl _) _).setCell (show w.heap.size ≤ w.heap.size + 1 by omega) _⟩
/-- So many times, doubled with one between. -/
def rp (xs : List It) : Nat → List It
  | 0 => []
  | c + 1 => rp xs c ++ xs ++ rp xs c
theorem rp_len (xs : List It) : (rp xs 0).length = 0 ∧ (rp xs 1).length = xs.length ∧ (rp xs 2).length = 3 * xs.length ∧ (rp xs 3).length = 7 * xs.length := by
  refine ⟨rfl, ?_, ?_, ?_⟩ <;> simp only [rp, List.length_append, List.length_nil] <;> omega
theorem rp_le (xs : List It) (c : Nat) (h : c ≤ 3) : (rp xs c).length ≤ 7 * xs.length := by
  have := rp_len xs
  match c, h with
  | 0, _ => omega
  | 1, _ => omega
  | 2, _ => omega
  | 3, _ => omega
theorem rp_sm (xs : List It) (h : Sm xs) (c : Nat) : Sm (rp xs c) := by
  induction c with
  | zero => exact Sm.nil
  | succ c ih => exact (ih.append h).append ih
theorem rp_at (xs : List It) (i : Nat) (h : i < xs.length) : (rp xs 3)[i + xs.length]? = xs[i]? := by
  have e : rp xs 3 = xs ++ (xs ++ (xs ++ (xs ++ (xs ++ (xs ++ xs))))) := by simp [rp]
  rw [e, List.getElem?_append_right (by omega), show i + xs.length - xs.length = i by omega, List.getElem?_append_left h]
theorem bl_at (m i : Nat) (h : i < m) : (bl 0 m)[i]? = some (bit i) := by
  simp [bl, h]
theorem bl_lines (a c : Nat) : lsum It.l (bl a c) = c := by
  induction c generalizing a with
  | zero => rfl
  | succ c ih => rw [bl_front, lsum_append, ih, lsum_cons, lsum_nil]; show 1 + 0 + c = c + 1; omega
theorem bl_place (c : Nat) : ∀ (a i : Nat), i < c → place (i : Int) (bl a c) = i := by
  induction c with
  | zero => intro a i h; omega
  | succ c ih =>
    intro a i h
    rw [bl_front]
    show (if (i : Int) < (((bit a).l : Nat) : Int) then 0 else 1 + place ((i : Int) - (((bit a).l : Nat) : Int)) (bl (a + 1) c)) = i
    have e : (((bit a).l : Nat) : Int) = 1 := rfl
    rw [e]
    cases i with
    | zero => rw [if_pos (by omega)]
    | succ i => rw [if_neg (by omega), show ((i + 1 : Nat) : Int) - 1 = (i : Int) by omega, ih (a + 1) i (by omega)]; omega
theorem bl_take (m i : Nat) (h : i ≤ m) : lsum It.l ((bl 0 m).take i) = i := by
  have e : (bl 0 m).take i = bl 0 i := by
    apply List.ext_getElem?
    intro j
    rw [List.getElem?_take]
    by_cases hj : j < i
    · rw [if_pos hj, bl_at m j (by omega), bl_at i j hj]
    · rw [if_neg hj, List.getElem?_eq_none (by rw [bl_len]; omega)]
  rw [e, bl_lines]

/-- An item of a rope. -/
theorem at_bit (t : Option T) (xs : List It) (j i : Nat) (w : World) (h : Ok w t xs) (hx : xs[j]? = some (bit i)) (hn : xs.length ≤ 100000) :
    Calls Try.prog 21 #[rv t, .int .i64 (j : Int)] w fun e w' => ∃ f1 f2 : Nat, e = .returned (.tuple #[.agg #[.int .i64 (i : Int), .complex .f64 f1 f2], .bool true]) ∧ Kp w w' := by
  obtain ⟨hi, _, rfl⟩ := h
  cases t with
  | none => simp [itemsO] at hx
  | some t =>
    refine (at_in t j (bit i) w hi hx hn).mono ?_
    rintro e w' ⟨rfl, k⟩
    exact ⟨_, _, rfl, k⟩
/-- The ropes of the first c doublings. -/
structure Tw (w wr : World) (k c : Nat) (f g t : Option T) : Prop where
  v6 : Vr wr w.heap.size f
  v7 : Vr wr (w.heap.size + 1) g
  v8 : Vr wr (w.heap.size + 2) t
  of : Ok wr f (bl 0 k)
  og : Ok wr g (bl 0 k)
  ot : Ok wr t (rp (bl 0 k) c)
  k : Kp w wr
theorem Tw.kp {w wr y : World} {k c : Nat} {f g t : Option T} (h : Tw w wr k c f g t) (ky : Kp wr y) : Tw w y k c f g t := ⟨h.v6.kp ky, h.v7.kp ky, h.v8.kp ky, h.of.kp ky, h.og.kp ky, h.ot.kp ky, h.k.trans ky⟩
theorem Tw.next {w wr : World} {k c : Nat} {f g t t' : Option T} (h : Tw w wr k c f g t) (o : Ok wr t' (rp (bl 0 k) c ++ bl 0 k ++ rp (bl 0 k) c)) : Tw w (wr.setCell ⟨w.heap.size + 2, 0, none⟩ (.pointer (pO t'))) k (c + 1) f g t' :=
  ⟨h.v6.set (show w.heap.size ≠ w.heap.size + 2 by omega) _, h.v7.set (show w.heap.size + 1 ≠ w.heap.size + 2 by omega) _, h.v8.put t', h.of.set h.v8 _, h.og.set h.v8 _, o.set h.v8 _, h.k.setCell (show w.heap.size ≤ w.heap.size + 2 by omega) _⟩

set_option maxRecDepth 100000 in
set_option maxHeartbeats 4000000 in
theorem big_walk (n j : Int) (w : World) :
    Calls Try.prog 6 #[.int .i64 n, .int .i64 j] w fun e w' => e = .returned (.bool true) ∧ Kp w w' := by
  have mb := wit_le n 1 300 (by omega)
  obtain ⟨m, hm⟩ := Int.eq_ofNat_of_zero_le (show 0 ≤ wit n 1 300 by omega)
  have HM : Hid (wit n 1 300 = (m : Int)) := hm
  have m1' : 1 ≤ m := by omega
  have m300 : m ≤ 300 := by omega
  clear mb hm
  go_enter Try.func6, Try.ntmps6
  go_wp2_with (go_at_call 15; refine (within_any n 1 300 _ (by omega) (by omega) (by omega)).mono ?_; rintro e w ⟨rfl, rfl⟩; rw [HM.out])
  go_loopw [23] (fun x wr => ∃ (k : Nat) (f g : Option T), k ≤ m ∧ x = .int .i64 (k : Int) ∧ Bg w wr m k f g) (fun x _ => m - (intOf x).toNat)
  case atStart =>
    refine ⟨0, none, none, Nat.zero_le _, rfl, bl_alloc (bl_alloc (last_of _ _) _) _, bl_alloc (last_at _ _ _ (by simp)) _, last_at _ _ _ (by simp), ⟨trivial, trivial, rfl⟩, ⟨trivial, trivial, rfl⟩, (((Kp.refl _).alloc _).alloc _).alloc _⟩
  case round =>
    obtain ⟨k, f, g, hk, rfl, bg⟩ := hrel
    rename World => wr
    by_cases hlt : k < m
    · have hlt' : (k : Int) < (m : Int) := by omega
      obtain ⟨h7, e7⟩ : ∃ h7, k % 7 = h7 := ⟨_, rfl⟩
      have hm7 : (k : Int) % 7 = (h7 : Int) := by omega
      have KX : Hid (bit k = ⟨(k : Int), 1, h7⟩) := by show _ = _; unfold bit; rw [e7]
      obtain ⟨q, eq⟩ : ∃ q, m - 1 - k = q := ⟨_, rfl⟩
      obtain ⟨r7, er⟩ : ∃ r7, q % 7 = r7 := ⟨_, rfl⟩
      have QX : Hid (bit q = ⟨(q : Int), 1, r7⟩ ∧ q + 1 = m - k) := ⟨by unfold bit; rw [er], by omega⟩
      have SK : Hid ((⟨(k : Int), 1, h7⟩ : It).l ≤ 100 ∧ (⟨(k : Int), 1, h7⟩ : It).y ≤ 100) := by rw [← KX.out]; exact bit_sm k
      have SQ : Hid ((⟨(q : Int), 1, r7⟩ : It).l ≤ 100 ∧ (⟨(q : Int), 1, r7⟩ : It).y ≤ 100) := by rw [← QX.out.1]; exact bit_sm q
      have gw1 : IntKind.i64.wrap ((m : Int) - 1) = (m : Int) - 1 := by rw [IntKind.wrap_i64]; omega
      have gw2 : IntKind.i64.wrap ((m : Int) - 1 - (k : Int)) = (q : Int) := by rw [IntKind.wrap_i64]; omega
      have gr : (q : Int).tmod 7 = (r7 : Int) := by rw [Int.tmod_eq_emod_of_nonneg (by omega)]; omega
      have gr2 : (q : Int) % 7 = (r7 : Int) := by omega
      have hq300 : q ≤ 300 := by omega
      obtain ⟨W1, hW1⟩ : ∃ W, wr.alloc (.cells #[.int .i64 (k : Int), cx 1 ((h7 : Nat) : Int)] 29) = W := ⟨_, rfl⟩
      have HW1 : Hid (wr.alloc (.cells #[.int .i64 (k : Int), cx 1 ((h7 : Nat) : Int)] 29) = W1) := hW1
      have ka : Kp wr W1 := by subst hW1; exact (Kp.refl _).alloc _
      have mS : W1.heap[wr.heap.size]? = some (.cells #[.int .i64 (k : Int), cx 1 ((h7 : Nat) : Int)] 29) := by subst hW1; exact last_of _ _
      have BG : Hid (Bg w wr m k f g) := bg
      have KA : Hid (Kp wr W1) := ka
      have w6 := bg.v6.kp ka
      have w7 := bg.v7.kp ka
      have MK : Hid (∀ W, Kp W1 W → W.cell? ⟨w.heap.size, 0, none⟩ = some (.pointer (pO f)) ∧ W.cell? ⟨w.heap.size + 1, 0, none⟩ = some (.pointer (pO g)) ∧ W.cell? ⟨wr.heap.size, 0, none⟩ = some (.int .i64 (k : Int)) ∧ W.cell? ⟨wr.heap.size, 1, none⟩ = some (cx 1 ((h7 : Nat) : Int)) ∧ Hid (Kp W1 W)) := fun W k => ⟨(w6.kp k).cell, (w7.kp k).cell, bl_cell (bl_kp mS k) 0 _ rfl, bl_cell (bl_kp mS k) 1 _ rfl, k⟩
      clear bg ka hW1 mS w6 w7 e7 eq er
      go_wp2_with (go_at_call 9; refine (of_any _ _ _).mono ?_; rintro e wr ⟨rfl, rfl⟩)
      rw [HW1.out]
      clear HW1
      have Q0 : Kp W1 W1.drew := (Kp.refl _).drew
      refine wp_region_noPanic ?_
      refine region_Z (z := 22) (S := (fun W => W.cell? ⟨w.heap.size, 0, none⟩ = some (.pointer (pO f)) ∧ W.cell? ⟨w.heap.size + 1, 0, none⟩ = some (.pointer (pO g)) ∧ W.cell? ⟨wr.heap.size, 0, none⟩ = some (.int .i64 (k : Int)) ∧ W.cell? ⟨wr.heap.size, 1, none⟩ = some (cx 1 ((h7 : Nat) : Int)) ∧ Hid (Kp W1 W))) (by kernel_rfl) ?_ (fun hH => ?_)
      · exact MK.out _ Q0
      have KQ := Q0
      refine anyZ_take (z := 22) (ks := []) (i := 0) (oi := { dst := some 31, op := Op.move (Operand.tmp 5), type := 3, pos := "law.go:117", after := #[], guard := none }) (v := ?v0z1) rfl (by kernel_rfl) (by kernel_rfl) (by kernel_rfl) (by kernel_rfl) (by kernel_rfl) (fun _ _ _ h => h) (Or.inl ⟨by rfl, ?hy0z1⟩) hH ?r0z1
      case hy0z1 => (intro W hSw; (try dsimp only at hSw); go_simp; try (with_reducible rfl))
      try simp only [Act.put, List.setIfInBounds_toArray, List.set_cons_zero, List.set_cons_succ]
      refine anyZ_take (z := 22) (ks := []) (i := 1) (oi := { dst := some 32, op := Op.binOp BinOp.sub 3 (Operand.tmp 31) (Operand.const (Value.int IntKind.i64 1)) 3, type := 3, pos := "law.go:117", after := #[{ on := 0, ground := Ground.data }], guard := none }) (v := ?v1z2) rfl (by kernel_rfl) (by kernel_rfl) (by kernel_rfl) (by kernel_rfl) (by kernel_rfl) (fun _ _ _ h => h) (Or.inl ⟨by rfl, ?hy1z2⟩) hH ?r1z2
      case hy1z2 => (intro W hSw; (try dsimp only at hSw); go_simp; try (with_reducible rfl))
      try simp only [Act.put, List.setIfInBounds_toArray, List.set_cons_zero, List.set_cons_succ]
      refine anyZ_take (z := 22) (ks := []) (i := 2) (oi := { dst := some 33, op := Op.move (Operand.tmp 9), type := 3, pos := "law.go:117", after := #[], guard := none }) (v := ?v2z3) rfl (by kernel_rfl) (by kernel_rfl) (by kernel_rfl) (by kernel_rfl) (by kernel_rfl) (fun _ _ _ h => h) (Or.inl ⟨by rfl, ?hy2z3⟩) hH ?r2z3
      case hy2z3 => (intro W hSw; (try dsimp only at hSw); go_simp; try (with_reducible rfl))
      try simp only [Act.put, List.setIfInBounds_toArray, List.set_cons_zero, List.set_cons_succ]
      refine anyZ_take (z := 22) (ks := []) (i := 3) (oi := { dst := some 34, op := Op.binOp BinOp.sub 3 (Operand.tmp 32) (Operand.tmp 33) 3, type := 3, pos := "law.go:117", after := #[{ on := 1, ground := Ground.data }, { on := 2, ground := Ground.data }], guard := none }) (v := ?v3z4) rfl (by kernel_rfl) (by kernel_rfl) (by kernel_rfl) (by kernel_rfl) (by kernel_rfl) (fun _ _ _ h => h) (Or.inl ⟨by rfl, ?hy3z4⟩) hH ?r3z4
      case hy3z4 => (intro W hSw; (try dsimp only at hSw); go_simp; try (with_reducible rfl))
      try simp only [Act.put, List.setIfInBounds_toArray, List.set_cons_zero, List.set_cons_succ]
      refine anyZ_take (z := 22) (ks := []) (i := 4) (oi := { dst := some 35, op := Op.move (Operand.tmp 5), type := 3, pos := "law.go:117", after := #[], guard := none }) (v := ?v4z5) rfl (by kernel_rfl) (by kernel_rfl) (by kernel_rfl) (by kernel_rfl) (by kernel_rfl) (fun _ _ _ h => h) (Or.inl ⟨by rfl, ?hy4z5⟩) hH ?r4z5
      case hy4z5 => (intro W hSw; (try dsimp only at hSw); go_simp; try (with_reducible rfl))
      try simp only [Act.put, List.setIfInBounds_toArray, List.set_cons_zero, List.set_cons_succ]
      refine anyZ_take (z := 22) (ks := []) (i := 5) (oi := { dst := some 36, op := Op.binOp BinOp.sub 3 (Operand.tmp 35) (Operand.const (Value.int IntKind.i64 1)) 3, type := 3, pos := "law.go:117", after := #[{ on := 4, ground := Ground.data }], guard := none }) (v := ?v5z6) rfl (by kernel_rfl) (by kernel_rfl) (by kernel_rfl) (by kernel_rfl) (by kernel_rfl) (fun _ _ _ h => h) (Or.inl ⟨by rfl, ?hy5z6⟩) hH ?r5z6
      case hy5z6 => (intro W hSw; (try dsimp only at hSw); go_simp; try (with_reducible rfl))
      try simp only [Act.put, List.setIfInBounds_toArray, List.set_cons_zero, List.set_cons_succ]
      refine anyZ_take (z := 22) (ks := []) (i := 6) (oi := { dst := some 37, op := Op.move (Operand.tmp 9), type := 3, pos := "law.go:117", after := #[], guard := none }) (v := ?v6z7) rfl (by kernel_rfl) (by kernel_rfl) (by kernel_rfl) (by kernel_rfl) (by kernel_rfl) (fun _ _ _ h => h) (Or.inl ⟨by rfl, ?hy6z7⟩) hH ?r6z7
      case hy6z7 => (intro W hSw; (try dsimp only at hSw); go_simp; try (with_reducible rfl))
      try simp only [Act.put, List.setIfInBounds_toArray, List.set_cons_zero, List.set_cons_succ]
      refine anyZ_take (z := 22) (ks := []) (i := 7) (oi := { dst := some 38, op := Op.binOp BinOp.sub 3 (Operand.tmp 36) (Operand.tmp 37) 3, type := 3, pos := "law.go:117", after := #[{ on := 5, ground := Ground.data }, { on := 6, ground := Ground.data }], guard := none }) (v := ?v7z8) rfl (by kernel_rfl) (by kernel_rfl) (by kernel_rfl) (by kernel_rfl) (by kernel_rfl) (fun _ _ _ h => h) (Or.inl ⟨by rfl, ?hy7z8⟩) hH ?r7z8
      case hy7z8 => (intro W hSw; (try dsimp only at hSw); go_simp; try (with_reducible rfl))
      try simp only [Act.put, List.setIfInBounds_toArray, List.set_cons_zero, List.set_cons_succ]
      refine anyZ_take (z := 22) (ks := []) (i := 8) (oi := { dst := some 39, op := Op.binOp BinOp.rem 3 (Operand.tmp 38) (Operand.const (Value.int IntKind.i64 7)) 3, type := 3, pos := "law.go:117", after := #[{ on := 7, ground := Ground.data }], guard := none }) (v := ?v8z9) rfl (by kernel_rfl) (by kernel_rfl) (by kernel_rfl) (by kernel_rfl) (by kernel_rfl) (fun _ _ _ h => h) (Or.inl ⟨by rfl, ?hy8z9⟩) hH ?r8z9
      case hy8z9 => (intro W hSw; (try dsimp only at hSw); go_simp; try (with_reducible rfl))
      try simp only [Act.put, List.setIfInBounds_toArray, List.set_cons_zero, List.set_cons_succ]
      refine anyZ_take (z := 22) (ks := []) (i := 13) (oi := { dst := some 44, op := Op.load 24 (Operand.tmp 6), type := 24, pos := "law.go:117", after := #[], guard := none }) (v := ?v13z10) rfl (by kernel_rfl) (by kernel_rfl) (by kernel_rfl) (by kernel_rfl) (by kernel_rfl) (fun _ _ _ h => h) (Or.inl ⟨by rfl, ?hy13z10⟩) hH ?r13z10
      case hy13z10 => (intro W hSw; (try dsimp only at hSw); go_simp; try (with_reducible rfl))
      try simp only [Act.put, List.setIfInBounds_toArray, List.set_cons_zero, List.set_cons_succ]
      refine anyZ_take (z := 22) (ks := [21, 20]) (i := 16) (oi := { dst := some 47, op := Op.load 24 (Operand.tmp 7), type := 24, pos := "law.go:117", after := #[], guard := none }) (v := ?v16z11) rfl (by kernel_rfl) (by kernel_rfl) (by kernel_rfl) (by kernel_rfl) (by kernel_rfl) (fun _ _ _ h => h) (Or.inl ⟨by rfl, ?hy16z11⟩) hH ?r16z11
      case hy16z11 => (intro W hSw; (try dsimp only at hSw); go_simp; try (with_reducible rfl))
      try simp only [Act.put, List.setIfInBounds_toArray, List.set_cons_zero, List.set_cons_succ]
      refine anyZ_take (z := 22) (ks := [21, 19, 18]) (i := 17) (oi := { dst := some 48, op := Op.load 29 (Operand.tmp 10), type := 29, pos := "law.go:117", after := #[], guard := none }) (v := ?v17z12) rfl (by kernel_rfl) (by kernel_rfl) (by kernel_rfl) (by kernel_rfl) (by kernel_rfl) (fun _ _ _ h => h) (Or.inl ⟨by rfl, ?hy17z12⟩) hH ?r17z12
      case hy17z12 => (intro W hSw; (try dsimp only at hSw); go_simp; try (with_reducible rfl))
      try simp only [Act.put, List.setIfInBounds_toArray, List.set_cons_zero, List.set_cons_succ]
      refine anyZ_ready (rs := [9, 18]) (by kernel_rfl) (by simp) ?_
      refine AllZ.cons (o := { dst := some 40, op := Op.call { callee := Callee.value (Operand.func 9), args := #[Operand.const (Value.int IntKind.i64 1), Operand.tmp 39], argTypes := #[3, 3] }, type := 26, pos := "law.go:117", after := #[{ on := 8, ground := Ground.data }], guard := none }) rfl (fun K hKq => ?_) ?_
      ·
        go_simp
        refine (of_any 1 (r7 : Int) _).mono ?_
        rintro e yy ⟨rfl, rfl⟩
        refine hKq.out _ _ (MK.out _ KQ) (fun hN => ?_)
        clear hKq K hH KQ
        have hH := hN
        clear hN
        have KQ := hH.2.2.2.2.out
        try simp only [Act.put, List.setIfInBounds_toArray, List.set_cons_zero, List.set_cons_succ]
        refine anyZ_take (z := 22) (ks := []) (i := 10) (oi := { dst := some 41, op := Op.build 29 #[(0, Operand.tmp 34), (1, Operand.tmp 40)], type := 29, pos := "law.go:117", after := #[{ on := 3, ground := Ground.data }, { on := 9, ground := Ground.data }], guard := none }) (v := ?v10z13) rfl (by kernel_rfl) (by kernel_rfl) (by kernel_rfl) (by kernel_rfl) (by kernel_rfl) (fun _ _ _ h => h) (Or.inl ⟨by rfl, ?hy10z13⟩) hH ?r10z13
        case hy10z13 => (intro W hSw; (try dsimp only at hSw); go_simp; try (with_reducible rfl))
        try simp only [Act.put, List.setIfInBounds_toArray, List.set_cons_zero, List.set_cons_succ]
        refine anyZ_ready (rs := [11, 18]) (by kernel_rfl) (by simp) ?_
        refine AllZ.cons (o := { dst := some 42, op := Op.buildSlice 32 1 #[(0, Operand.tmp 41)], type := 32, pos := "law.go:117", after := #[{ on := 10, ground := Ground.data }], guard := none }) rfl (fun K hKq => ?_) ?_
        ·
          go_simp
          refine hKq.out _ _ (MK.out _ (show Kp W1 (W1.alloc (.cells #[.int .i64 (q : Int), cx 1 ((r7 : Nat) : Int)] 29)).drew from Kp.drew (Kp.alloc (Kp.refl W1) _))) (fun hN => ?_)
          clear hKq K hH KQ
          have hH := hN
          clear hN
          have KQ := hH.2.2.2.2.out
          try simp only [Act.put, List.setIfInBounds_toArray, List.set_cons_zero, List.set_cons_succ]
          refine anyZ_ready (rs := [12, 18]) (by kernel_rfl) (by simp) ?_
          refine AllZ.cons (o := { dst := some 43, op := Op.call { callee := Callee.value (Operand.func 8), args := #[Operand.tmp 42], argTypes := #[32] }, type := 24, pos := "law.go:117", after := #[{ on := 11, ground := Ground.data }, { on := 9, ground := Ground.chain }], guard := none }) rfl (fun K hKq => ?_) ?_
          ·
            go_simp
            have kw : Kp W1 (W1.alloc (.cells #[.int .i64 (q : Int), cx 1 ((r7 : Nat) : Int)] 29)).drew := Kp.drew (Kp.alloc (Kp.refl W1) _)
            refine (of_one ⟨(q : Int), 1, r7⟩ _ _ SQ.out (show ((W1.alloc (.cells #[.int .i64 (q : Int), cx 1 ((r7 : Nat) : Int)] 29)).drew).heap[W1.heap.size]? = _ from last_of _ _)).mono ?_
            rintro e y1 ⟨u1, rfl, o1, kq⟩
            have K1 : Kp W1 y1 := KQ.trans kq
            refine hKq.out _ _ (MK.out _ K1) (fun hN => ?_)
            clear kq kw
            clear hKq K hH KQ
            have hH := hN
            clear hN
            have KQ := hH.2.2.2.2.out
            try simp only [Act.put, List.setIfInBounds_toArray, List.set_cons_zero, List.set_cons_succ]
            refine anyZ_ready (rs := [14, 18]) (by kernel_rfl) (by simp) ?_
            refine AllZ.cons (o := { dst := some 45, op := Op.buildSlice 59 2 #[(0, Operand.tmp 43), (1, Operand.tmp 44)], type := 59, pos := "law.go:117", after := #[{ on := 12, ground := Ground.data }, { on := 13, ground := Ground.data }], guard := none }) rfl (fun K hKq => ?_) ?_
            ·
              go_simp
              refine hKq.out _ _ (MK.out _ (show Kp W1 (y1.alloc (.cells #[.pointer (pO u1), .pointer (pO f)] 24)) from Kp.trans K1 (Kp.alloc (Kp.refl y1) _))) (fun hN => ?_)
              clear hKq K hH KQ
              have hH := hN
              clear hN
              have KQ := hH.2.2.2.2.out
              try simp only [Act.put, List.setIfInBounds_toArray, List.set_cons_zero, List.set_cons_succ]
              refine anyZ_ready (rs := [15, 18]) (by kernel_rfl) (by simp) ?_
              refine AllZ.cons (o := { dst := some 46, op := Op.call { callee := Callee.value (Operand.func 11), args := #[Operand.tmp 45], argTypes := #[59] }, type := 24, pos := "law.go:117", after := #[{ on := 14, ground := Ground.data }, { on := 12, ground := Ground.chain }], guard := none }) rfl (fun K hKq => ?_) ?_
              ·
                go_simp
                have kw : Kp y1 (y1.alloc (.cells #[.pointer (pO u1), .pointer (pO f)] 24)) := Kp.alloc (Kp.refl y1) _
                refine (join2_ok u1 f [⟨(q : Int), 1, r7⟩] (bl (m - k) k) _ _ (show ((y1.alloc (.cells #[.pointer (pO u1), .pointer (pO f)] 24))).heap[y1.heap.size]? = _ from last_of _ _) (o1.kp kw) (BG.out.of.kp (KA.out.trans KQ)) (by rw [bl_len]; simp only [List.length_singleton]; omega) (one_sm SQ.out) (bl_sm _ _)).mono ?_
                rintro e y2 ⟨f', rfl, o2, kq⟩
                have K2 : Kp W1 y2 := KQ.trans kq
                refine hKq.out _ _ (MK.out _ K2) (fun hN => ?_)
                clear kq kw
                clear hKq K hH KQ
                have hH := hN
                clear hN
                have KQ := hH.2.2.2.2.out
                try simp only [Act.put, List.setIfInBounds_toArray, List.set_cons_zero, List.set_cons_succ]
                refine anyZ_ready (rs := [18]) (by kernel_rfl) (by simp) ?_
                refine AllZ.cons (o := { dst := some 49, op := Op.buildSlice 32 1 #[(0, Operand.tmp 48)], type := 32, pos := "law.go:117", after := #[{ on := 17, ground := Ground.data }], guard := none }) rfl (fun K hKq => ?_) AllZ.nil
                go_simp
                refine hKq.out _ _ (MK.out _ (show Kp W1 (y2.alloc (.cells #[.int .i64 (k : Int), cx 1 ((h7 : Nat) : Int)] 29)) from Kp.trans K2 (Kp.alloc (Kp.refl y2) _))) (fun hN => ?_)
                clear hKq K hH KQ
                have hH := hN
                clear hN
                have KQ := hH.2.2.2.2.out
                try simp only [Act.put, List.setIfInBounds_toArray, List.set_cons_zero, List.set_cons_succ]
                refine anyZ_ready (rs := [19]) (by kernel_rfl) (by simp) ?_
                refine AllZ.cons (o := { dst := some 50, op := Op.call { callee := Callee.value (Operand.func 8), args := #[Operand.tmp 49], argTypes := #[32] }, type := 24, pos := "law.go:117", after := #[{ on := 18, ground := Ground.data }, { on := 15, ground := Ground.chain }], guard := none }) rfl (fun K hKq => ?_) AllZ.nil
                go_simp
                have kw : Kp y2 (y2.alloc (.cells #[.int .i64 (k : Int), cx 1 ((h7 : Nat) : Int)] 29)) := Kp.alloc (Kp.refl y2) _
                refine (of_one ⟨(k : Int), 1, h7⟩ _ _ SK.out (show ((y2.alloc (.cells #[.int .i64 (k : Int), cx 1 ((h7 : Nat) : Int)] 29))).heap[y2.heap.size]? = _ from last_of _ _)).mono ?_
                rintro e y3 ⟨u2, rfl, o3, kq⟩
                have K3 : Kp W1 y3 := KQ.trans kq
                have o2 := o2.kp ((show Kp y2 _ from kw).trans kq)
                refine hKq.out _ _ (MK.out _ K3) (fun hN => ?_)
                clear kq kw
                clear hKq K hH KQ
                have hH := hN
                clear hN
                have KQ := hH.2.2.2.2.out
                try simp only [Act.put, List.setIfInBounds_toArray, List.set_cons_zero, List.set_cons_succ]
                refine anyZ_ready (rs := [20]) (by kernel_rfl) (by simp) ?_
                refine AllZ.cons (o := { dst := some 51, op := Op.buildSlice 59 2 #[(0, Operand.tmp 47), (1, Operand.tmp 50)], type := 59, pos := "law.go:117", after := #[{ on := 16, ground := Ground.data }, { on := 19, ground := Ground.data }], guard := none }) rfl (fun K hKq => ?_) AllZ.nil
                go_simp
                refine hKq.out _ _ (MK.out _ (show Kp W1 (y3.alloc (.cells #[.pointer (pO g), .pointer (pO u2)] 24)) from Kp.trans K3 (Kp.alloc (Kp.refl y3) _))) (fun hN => ?_)
                clear hKq K hH KQ
                have hH := hN
                clear hN
                have KQ := hH.2.2.2.2.out
                try simp only [Act.put, List.setIfInBounds_toArray, List.set_cons_zero, List.set_cons_succ]
                refine anyZ_ready (rs := [21]) (by kernel_rfl) (by simp) ?_
                refine AllZ.cons (o := { dst := some 52, op := Op.call { callee := Callee.value (Operand.func 11), args := #[Operand.tmp 51], argTypes := #[59] }, type := 24, pos := "law.go:117", after := #[{ on := 20, ground := Ground.data }, { on := 19, ground := Ground.chain }], guard := none }) rfl (fun K hKq => ?_) AllZ.nil
                go_simp
                have kw : Kp y3 (y3.alloc (.cells #[.pointer (pO g), .pointer (pO u2)] 24)) := Kp.alloc (Kp.refl y3) _
                refine (join2_ok g u2 (bl 0 k) [⟨(k : Int), 1, h7⟩] _ _ (show ((y3.alloc (.cells #[.pointer (pO g), .pointer (pO u2)] 24))).heap[y3.heap.size]? = _ from last_of _ _) (BG.out.og.kp (KA.out.trans KQ)) (o3.kp kw) (by rw [bl_len]; simp only [List.length_singleton]; omega) (bl_sm _ _) (one_sm SK.out)).mono ?_
                rintro e y4 ⟨g', rfl, o4, kq⟩
                have K4 : Kp W1 y4 := KQ.trans kq
                have o2 := o2.kp ((show Kp y3 _ from kw).trans kq)
                have V6 := BG.out.v6.kp (KA.out.trans K4)
                have V7 := BG.out.v7.kp (KA.out.trans K4)
                have c6 := V6.cell
                have c7 := V7.cell
                have f6 := V6.frozen
                have f7 := V7.frozen
                refine hKq.out _ _ (MK.out _ K4) (fun hN => ?_)
                clear kq kw
                clear hKq K hH KQ
                have hH := hN
                clear hN
                have KQ := hH.2.2.2.2.out
                try simp only [Act.put, List.setIfInBounds_toArray, List.set_cons_zero, List.set_cons_succ]
                refine anyZ_ready (rs := [22]) (by kernel_rfl) (by simp) ?_
                refine AllZ.last (o := { dst := none, op := Op.store 24 (Operand.tmp 6) (Operand.tmp 46), type := 0, pos := "law.go:117", after := #[{ on := 15, ground := Ground.data }, { on := 21, ground := Ground.chain }, { on := 0, ground := Ground.phase }, { on := 1, ground := Ground.phase }, { on := 2, ground := Ground.phase }, { on := 3, ground := Ground.phase }, { on := 4, ground := Ground.phase }, { on := 5, ground := Ground.phase }, { on := 6, ground := Ground.phase }, { on := 7, ground := Ground.phase }, { on := 8, ground := Ground.phase }, { on := 9, ground := Ground.phase }, { on := 10, ground := Ground.phase }, { on := 11, ground := Ground.phase }, { on := 12, ground := Ground.phase }, { on := 13, ground := Ground.phase }, { on := 14, ground := Ground.phase }, { on := 15, ground := Ground.phase }, { on := 16, ground := Ground.textOnly Departure.lateStores }, { on := 17, ground := Ground.textOnly Departure.lateStores }, { on := 18, ground := Ground.textOnly Departure.lateStores }, { on := 19, ground := Ground.textOnly Departure.lateStoresUnsure }, { on := 20, ground := Ground.textOnly Departure.lateStores }, { on := 21, ground := Ground.textOnly Departure.lateStoresUnsure }], guard := none }) rfl (Or.inl rfl) (fun K hKq => ?_) AllZ.nil
                go_simp
                refine hKq.out _ _ ?_
                clear hKq K
                try simp only [Act.put, List.setIfInBounds_toArray, List.set_cons_zero, List.set_cons_succ]
                refine anyZ_ready (rs := [23]) (by kernel_rfl) (by simp) ?_
                refine AllZ.last (o := { dst := none, op := Op.store 24 (Operand.tmp 7) (Operand.tmp 52), type := 0, pos := "law.go:117", after := #[{ on := 21, ground := Ground.data }, { on := 22, ground := Ground.chain }, { on := 0, ground := Ground.phase }, { on := 1, ground := Ground.phase }, { on := 2, ground := Ground.phase }, { on := 3, ground := Ground.phase }, { on := 4, ground := Ground.phase }, { on := 5, ground := Ground.phase }, { on := 6, ground := Ground.phase }, { on := 7, ground := Ground.phase }, { on := 8, ground := Ground.phase }, { on := 9, ground := Ground.phase }, { on := 10, ground := Ground.phase }, { on := 11, ground := Ground.phase }, { on := 12, ground := Ground.phase }, { on := 13, ground := Ground.phase }, { on := 14, ground := Ground.phase }, { on := 15, ground := Ground.phase }, { on := 16, ground := Ground.phase }, { on := 17, ground := Ground.phase }, { on := 18, ground := Ground.phase }, { on := 19, ground := Ground.phase }, { on := 20, ground := Ground.phase }, { on := 21, ground := Ground.phase }, { on := 22, ground := Ground.phase }], guard := none }) rfl (Or.inr (by kernel_rfl)) (fun K hKq => ?_) AllZ.nil
                go_simp
                refine hKq.out _ _ ?_
                clear hKq K
                try simp only [Act.put, List.setIfInBounds_toArray, List.set_cons_zero, List.set_cons_succ]
                refine anyZ_done (by kernel_rfl) ?_ _
                refine NoPanic.normal ?_
                have o2' : Ok y4 f' (bl (m - (k + 1)) (k + 1)) := by rw [show m - (k + 1) = q by have := QX.out.2; omega, bl_front, QX.out.1, QX.out.2]; exact o2
                have o4' : Ok y4 g' (bl 0 (k + 1)) := by rw [bl_back, KX.out]; exact o4
                have NB : Hid (Bg w ((y4.setCell ⟨w.heap.size, 0, none⟩ (.pointer (pO f'))).setCell ⟨w.heap.size + 1, 0, none⟩ (.pointer (pO g'))) m (k + 1) f' g') := BG.out.next (KA.out.trans K4) o2' o4'
                clear o2' o4' o1 o2 o3 o4 V6 V7 c6 c7 f6 f7 gr gr2 gw1 gw2
                go_wp2_with fail
                go_roundw
                case rel => exact ⟨k + 1, f', g', hlt, by go_num, NB.out⟩
                case measure => simp [intOf]; omega
              refine AllZ.cons (o := { dst := some 49, op := Op.buildSlice 32 1 #[(0, Operand.tmp 48)], type := 32, pos := "law.go:117", after := #[{ on := 17, ground := Ground.data }], guard := none }) rfl (fun K hKq => ?_) ?_
              ·
                go_simp
                refine hKq.out _ _ (MK.out _ (show Kp W1 ((y1.alloc (.cells #[.pointer (pO u1), .pointer (pO f)] 24)).alloc (.cells #[.int .i64 (k : Int), cx 1 ((h7 : Nat) : Int)] 29)) from Kp.trans K1 (Kp.alloc (Kp.alloc (Kp.refl y1) _) _))) (fun hN => ?_)
                clear hKq K hH KQ
                have hH := hN
                clear hN
                have KQ := hH.2.2.2.2.out
                try simp only [Act.put, List.setIfInBounds_toArray, List.set_cons_zero, List.set_cons_succ]
                refine anyZ_ready (rs := [15]) (by kernel_rfl) (by simp) ?_
                refine AllZ.cons (o := { dst := some 46, op := Op.call { callee := Callee.value (Operand.func 11), args := #[Operand.tmp 45], argTypes := #[59] }, type := 24, pos := "law.go:117", after := #[{ on := 14, ground := Ground.data }, { on := 12, ground := Ground.chain }], guard := none }) rfl (fun K hKq => ?_) AllZ.nil
                go_simp
                have kw : Kp y1 ((y1.alloc (.cells #[.pointer (pO u1), .pointer (pO f)] 24)).alloc (.cells #[.int .i64 (k : Int), cx 1 ((h7 : Nat) : Int)] 29)) := Kp.alloc (Kp.alloc (Kp.refl y1) _) _
                refine (join2_ok u1 f [⟨(q : Int), 1, r7⟩] (bl (m - k) k) _ _ (show (((y1.alloc (.cells #[.pointer (pO u1), .pointer (pO f)] 24)).alloc (.cells #[.int .i64 (k : Int), cx 1 ((h7 : Nat) : Int)] 29))).heap[y1.heap.size]? = _ from bl_alloc (last_of _ _) _) (o1.kp kw) (BG.out.of.kp (KA.out.trans KQ)) (by rw [bl_len]; simp only [List.length_singleton]; omega) (one_sm SQ.out) (bl_sm _ _)).mono ?_
                rintro e y2 ⟨f', rfl, o2, kq⟩
                have GI : y2.heap[y1.heap.size + 1]? = some (.cells #[.int .i64 (k : Int), cx 1 ((h7 : Nat) : Int)] 29) := bl_kp (show (((y1.alloc (.cells #[.pointer (pO u1), .pointer (pO f)] 24)).alloc (.cells #[.int .i64 (k : Int), cx 1 ((h7 : Nat) : Int)] 29))).heap[y1.heap.size + 1]? = _ from last_at _ _ _ (by simp)) kq
                have K2 : Kp W1 y2 := KQ.trans kq
                refine hKq.out _ _ (MK.out _ K2) (fun hN => ?_)
                clear kq kw
                clear hKq K hH KQ
                have hH := hN
                clear hN
                have KQ := hH.2.2.2.2.out
                try simp only [Act.put, List.setIfInBounds_toArray, List.set_cons_zero, List.set_cons_succ]
                refine anyZ_ready (rs := [19]) (by kernel_rfl) (by simp) ?_
                refine AllZ.cons (o := { dst := some 50, op := Op.call { callee := Callee.value (Operand.func 8), args := #[Operand.tmp 49], argTypes := #[32] }, type := 24, pos := "law.go:117", after := #[{ on := 18, ground := Ground.data }, { on := 15, ground := Ground.chain }], guard := none }) rfl (fun K hKq => ?_) AllZ.nil
                go_simp
                have kw : Kp y2 y2 := Kp.refl y2
                refine (of_one ⟨(k : Int), 1, h7⟩ _ _ SK.out (bl_kp GI (Kp.refl y2))).mono ?_
                rintro e y3 ⟨u2, rfl, o3, kq⟩
                have K3 : Kp W1 y3 := KQ.trans kq
                have o2 := o2.kp ((show Kp y2 _ from kw).trans kq)
                refine hKq.out _ _ (MK.out _ K3) (fun hN => ?_)
                clear kq kw
                clear hKq K hH KQ
                have hH := hN
                clear hN
                have KQ := hH.2.2.2.2.out
                try simp only [Act.put, List.setIfInBounds_toArray, List.set_cons_zero, List.set_cons_succ]
                refine anyZ_ready (rs := [20]) (by kernel_rfl) (by simp) ?_
                refine AllZ.cons (o := { dst := some 51, op := Op.buildSlice 59 2 #[(0, Operand.tmp 47), (1, Operand.tmp 50)], type := 59, pos := "law.go:117", after := #[{ on := 16, ground := Ground.data }, { on := 19, ground := Ground.data }], guard := none }) rfl (fun K hKq => ?_) AllZ.nil
                go_simp
                refine hKq.out _ _ (MK.out _ (show Kp W1 (y3.alloc (.cells #[.pointer (pO g), .pointer (pO u2)] 24)) from Kp.trans K3 (Kp.alloc (Kp.refl y3) _))) (fun hN => ?_)
                clear hKq K hH KQ
                have hH := hN
                clear hN
                have KQ := hH.2.2.2.2.out
                try simp only [Act.put, List.setIfInBounds_toArray, List.set_cons_zero, List.set_cons_succ]
                refine anyZ_ready (rs := [21]) (by kernel_rfl) (by simp) ?_
                refine AllZ.cons (o := { dst := some 52, op := Op.call { callee := Callee.value (Operand.func 11), args := #[Operand.tmp 51], argTypes := #[59] }, type := 24, pos := "law.go:117", after := #[{ on := 20, ground := Ground.data }, { on := 19, ground := Ground.chain }], guard := none }) rfl (fun K hKq => ?_) AllZ.nil
                go_simp
                have kw : Kp y3 (y3.alloc (.cells #[.pointer (pO g), .pointer (pO u2)] 24)) := Kp.alloc (Kp.refl y3) _
                refine (join2_ok g u2 (bl 0 k) [⟨(k : Int), 1, h7⟩] _ _ (show ((y3.alloc (.cells #[.pointer (pO g), .pointer (pO u2)] 24))).heap[y3.heap.size]? = _ from last_of _ _) (BG.out.og.kp (KA.out.trans KQ)) (o3.kp kw) (by rw [bl_len]; simp only [List.length_singleton]; omega) (bl_sm _ _) (one_sm SK.out)).mono ?_
                rintro e y4 ⟨g', rfl, o4, kq⟩
                have K4 : Kp W1 y4 := KQ.trans kq
                have o2 := o2.kp ((show Kp y3 _ from kw).trans kq)
                have V6 := BG.out.v6.kp (KA.out.trans K4)
                have V7 := BG.out.v7.kp (KA.out.trans K4)
                have c6 := V6.cell
                have c7 := V7.cell
                have f6 := V6.frozen
                have f7 := V7.frozen
                refine hKq.out _ _ (MK.out _ K4) (fun hN => ?_)
                clear kq kw
                clear hKq K hH KQ
                have hH := hN
                clear hN
                have KQ := hH.2.2.2.2.out
                try simp only [Act.put, List.setIfInBounds_toArray, List.set_cons_zero, List.set_cons_succ]
                refine anyZ_ready (rs := [22]) (by kernel_rfl) (by simp) ?_
                refine AllZ.last (o := { dst := none, op := Op.store 24 (Operand.tmp 6) (Operand.tmp 46), type := 0, pos := "law.go:117", after := #[{ on := 15, ground := Ground.data }, { on := 21, ground := Ground.chain }, { on := 0, ground := Ground.phase }, { on := 1, ground := Ground.phase }, { on := 2, ground := Ground.phase }, { on := 3, ground := Ground.phase }, { on := 4, ground := Ground.phase }, { on := 5, ground := Ground.phase }, { on := 6, ground := Ground.phase }, { on := 7, ground := Ground.phase }, { on := 8, ground := Ground.phase }, { on := 9, ground := Ground.phase }, { on := 10, ground := Ground.phase }, { on := 11, ground := Ground.phase }, { on := 12, ground := Ground.phase }, { on := 13, ground := Ground.phase }, { on := 14, ground := Ground.phase }, { on := 15, ground := Ground.phase }, { on := 16, ground := Ground.textOnly Departure.lateStores }, { on := 17, ground := Ground.textOnly Departure.lateStores }, { on := 18, ground := Ground.textOnly Departure.lateStores }, { on := 19, ground := Ground.textOnly Departure.lateStoresUnsure }, { on := 20, ground := Ground.textOnly Departure.lateStores }, { on := 21, ground := Ground.textOnly Departure.lateStoresUnsure }], guard := none }) rfl (Or.inl rfl) (fun K hKq => ?_) AllZ.nil
                go_simp
                refine hKq.out _ _ ?_
                clear hKq K
                try simp only [Act.put, List.setIfInBounds_toArray, List.set_cons_zero, List.set_cons_succ]
                refine anyZ_ready (rs := [23]) (by kernel_rfl) (by simp) ?_
                refine AllZ.last (o := { dst := none, op := Op.store 24 (Operand.tmp 7) (Operand.tmp 52), type := 0, pos := "law.go:117", after := #[{ on := 21, ground := Ground.data }, { on := 22, ground := Ground.chain }, { on := 0, ground := Ground.phase }, { on := 1, ground := Ground.phase }, { on := 2, ground := Ground.phase }, { on := 3, ground := Ground.phase }, { on := 4, ground := Ground.phase }, { on := 5, ground := Ground.phase }, { on := 6, ground := Ground.phase }, { on := 7, ground := Ground.phase }, { on := 8, ground := Ground.phase }, { on := 9, ground := Ground.phase }, { on := 10, ground := Ground.phase }, { on := 11, ground := Ground.phase }, { on := 12, ground := Ground.phase }, { on := 13, ground := Ground.phase }, { on := 14, ground := Ground.phase }, { on := 15, ground := Ground.phase }, { on := 16, ground := Ground.phase }, { on := 17, ground := Ground.phase }, { on := 18, ground := Ground.phase }, { on := 19, ground := Ground.phase }, { on := 20, ground := Ground.phase }, { on := 21, ground := Ground.phase }, { on := 22, ground := Ground.phase }], guard := none }) rfl (Or.inr (by kernel_rfl)) (fun K hKq => ?_) AllZ.nil
                go_simp
                refine hKq.out _ _ ?_
                clear hKq K
                try simp only [Act.put, List.setIfInBounds_toArray, List.set_cons_zero, List.set_cons_succ]
                refine anyZ_done (by kernel_rfl) ?_ _
                refine NoPanic.normal ?_
                have o2' : Ok y4 f' (bl (m - (k + 1)) (k + 1)) := by rw [show m - (k + 1) = q by have := QX.out.2; omega, bl_front, QX.out.1, QX.out.2]; exact o2
                have o4' : Ok y4 g' (bl 0 (k + 1)) := by rw [bl_back, KX.out]; exact o4
                have NB : Hid (Bg w ((y4.setCell ⟨w.heap.size, 0, none⟩ (.pointer (pO f'))).setCell ⟨w.heap.size + 1, 0, none⟩ (.pointer (pO g'))) m (k + 1) f' g') := BG.out.next (KA.out.trans K4) o2' o4'
                clear o2' o4' o1 o2 o3 o4 V6 V7 c6 c7 f6 f7 gr gr2 gw1 gw2
                go_wp2_with fail
                go_roundw
                case rel => exact ⟨k + 1, f', g', hlt, by go_num, NB.out⟩
                case measure => simp [intOf]; omega
              exact AllZ.nil
            refine AllZ.cons (o := { dst := some 49, op := Op.buildSlice 32 1 #[(0, Operand.tmp 48)], type := 32, pos := "law.go:117", after := #[{ on := 17, ground := Ground.data }], guard := none }) rfl (fun K hKq => ?_) ?_
            ·
              go_simp
              refine hKq.out _ _ (MK.out _ (show Kp W1 (y1.alloc (.cells #[.int .i64 (k : Int), cx 1 ((h7 : Nat) : Int)] 29)) from Kp.trans K1 (Kp.alloc (Kp.refl y1) _))) (fun hN => ?_)
              clear hKq K hH KQ
              have hH := hN
              clear hN
              have KQ := hH.2.2.2.2.out
              try simp only [Act.put, List.setIfInBounds_toArray, List.set_cons_zero, List.set_cons_succ]
              refine anyZ_ready (rs := [14]) (by kernel_rfl) (by simp) ?_
              refine AllZ.cons (o := { dst := some 45, op := Op.buildSlice 59 2 #[(0, Operand.tmp 43), (1, Operand.tmp 44)], type := 59, pos := "law.go:117", after := #[{ on := 12, ground := Ground.data }, { on := 13, ground := Ground.data }], guard := none }) rfl (fun K hKq => ?_) AllZ.nil
              go_simp
              refine hKq.out _ _ (MK.out _ (show Kp W1 ((y1.alloc (.cells #[.int .i64 (k : Int), cx 1 ((h7 : Nat) : Int)] 29)).alloc (.cells #[.pointer (pO u1), .pointer (pO f)] 24)) from Kp.trans K1 (Kp.alloc (Kp.alloc (Kp.refl y1) _) _))) (fun hN => ?_)
              clear hKq K hH KQ
              have hH := hN
              clear hN
              have KQ := hH.2.2.2.2.out
              try simp only [Act.put, List.setIfInBounds_toArray, List.set_cons_zero, List.set_cons_succ]
              refine anyZ_ready (rs := [15]) (by kernel_rfl) (by simp) ?_
              refine AllZ.cons (o := { dst := some 46, op := Op.call { callee := Callee.value (Operand.func 11), args := #[Operand.tmp 45], argTypes := #[59] }, type := 24, pos := "law.go:117", after := #[{ on := 14, ground := Ground.data }, { on := 12, ground := Ground.chain }], guard := none }) rfl (fun K hKq => ?_) AllZ.nil
              go_simp
              have kw : Kp y1 ((y1.alloc (.cells #[.int .i64 (k : Int), cx 1 ((h7 : Nat) : Int)] 29)).alloc (.cells #[.pointer (pO u1), .pointer (pO f)] 24)) := Kp.alloc (Kp.alloc (Kp.refl y1) _) _
              refine (join2_ok u1 f [⟨(q : Int), 1, r7⟩] (bl (m - k) k) _ _ (show (((y1.alloc (.cells #[.int .i64 (k : Int), cx 1 ((h7 : Nat) : Int)] 29)).alloc (.cells #[.pointer (pO u1), .pointer (pO f)] 24))).heap[y1.heap.size + 1]? = _ from last_at _ _ _ (by simp)) (o1.kp kw) (BG.out.of.kp (KA.out.trans KQ)) (by rw [bl_len]; simp only [List.length_singleton]; omega) (one_sm SQ.out) (bl_sm _ _)).mono ?_
              rintro e y2 ⟨f', rfl, o2, kq⟩
              have GI : y2.heap[y1.heap.size]? = some (.cells #[.int .i64 (k : Int), cx 1 ((h7 : Nat) : Int)] 29) := bl_kp (show (((y1.alloc (.cells #[.int .i64 (k : Int), cx 1 ((h7 : Nat) : Int)] 29)).alloc (.cells #[.pointer (pO u1), .pointer (pO f)] 24))).heap[y1.heap.size]? = _ from bl_alloc (last_of _ _) _) kq
              have K2 : Kp W1 y2 := KQ.trans kq
              refine hKq.out _ _ (MK.out _ K2) (fun hN => ?_)
              clear kq kw
              clear hKq K hH KQ
              have hH := hN
              clear hN
              have KQ := hH.2.2.2.2.out
              try simp only [Act.put, List.setIfInBounds_toArray, List.set_cons_zero, List.set_cons_succ]
              refine anyZ_ready (rs := [19]) (by kernel_rfl) (by simp) ?_
              refine AllZ.cons (o := { dst := some 50, op := Op.call { callee := Callee.value (Operand.func 8), args := #[Operand.tmp 49], argTypes := #[32] }, type := 24, pos := "law.go:117", after := #[{ on := 18, ground := Ground.data }, { on := 15, ground := Ground.chain }], guard := none }) rfl (fun K hKq => ?_) AllZ.nil
              go_simp
              have kw : Kp y2 y2 := Kp.refl y2
              refine (of_one ⟨(k : Int), 1, h7⟩ _ _ SK.out (bl_kp GI (Kp.refl y2))).mono ?_
              rintro e y3 ⟨u2, rfl, o3, kq⟩
              have K3 : Kp W1 y3 := KQ.trans kq
              have o2 := o2.kp ((show Kp y2 _ from kw).trans kq)
              refine hKq.out _ _ (MK.out _ K3) (fun hN => ?_)
              clear kq kw
              clear hKq K hH KQ
              have hH := hN
              clear hN
              have KQ := hH.2.2.2.2.out
              try simp only [Act.put, List.setIfInBounds_toArray, List.set_cons_zero, List.set_cons_succ]
              refine anyZ_ready (rs := [20]) (by kernel_rfl) (by simp) ?_
              refine AllZ.cons (o := { dst := some 51, op := Op.buildSlice 59 2 #[(0, Operand.tmp 47), (1, Operand.tmp 50)], type := 59, pos := "law.go:117", after := #[{ on := 16, ground := Ground.data }, { on := 19, ground := Ground.data }], guard := none }) rfl (fun K hKq => ?_) AllZ.nil
              go_simp
              refine hKq.out _ _ (MK.out _ (show Kp W1 (y3.alloc (.cells #[.pointer (pO g), .pointer (pO u2)] 24)) from Kp.trans K3 (Kp.alloc (Kp.refl y3) _))) (fun hN => ?_)
              clear hKq K hH KQ
              have hH := hN
              clear hN
              have KQ := hH.2.2.2.2.out
              try simp only [Act.put, List.setIfInBounds_toArray, List.set_cons_zero, List.set_cons_succ]
              refine anyZ_ready (rs := [21]) (by kernel_rfl) (by simp) ?_
              refine AllZ.cons (o := { dst := some 52, op := Op.call { callee := Callee.value (Operand.func 11), args := #[Operand.tmp 51], argTypes := #[59] }, type := 24, pos := "law.go:117", after := #[{ on := 20, ground := Ground.data }, { on := 19, ground := Ground.chain }], guard := none }) rfl (fun K hKq => ?_) AllZ.nil
              go_simp
              have kw : Kp y3 (y3.alloc (.cells #[.pointer (pO g), .pointer (pO u2)] 24)) := Kp.alloc (Kp.refl y3) _
              refine (join2_ok g u2 (bl 0 k) [⟨(k : Int), 1, h7⟩] _ _ (show ((y3.alloc (.cells #[.pointer (pO g), .pointer (pO u2)] 24))).heap[y3.heap.size]? = _ from last_of _ _) (BG.out.og.kp (KA.out.trans KQ)) (o3.kp kw) (by rw [bl_len]; simp only [List.length_singleton]; omega) (bl_sm _ _) (one_sm SK.out)).mono ?_
              rintro e y4 ⟨g', rfl, o4, kq⟩
              have K4 : Kp W1 y4 := KQ.trans kq
              have o2 := o2.kp ((show Kp y3 _ from kw).trans kq)
              have V6 := BG.out.v6.kp (KA.out.trans K4)
              have V7 := BG.out.v7.kp (KA.out.trans K4)
              have c6 := V6.cell
              have c7 := V7.cell
              have f6 := V6.frozen
              have f7 := V7.frozen
              refine hKq.out _ _ (MK.out _ K4) (fun hN => ?_)
              clear kq kw
              clear hKq K hH KQ
              have hH := hN
              clear hN
              have KQ := hH.2.2.2.2.out
              try simp only [Act.put, List.setIfInBounds_toArray, List.set_cons_zero, List.set_cons_succ]
              refine anyZ_ready (rs := [22]) (by kernel_rfl) (by simp) ?_
              refine AllZ.last (o := { dst := none, op := Op.store 24 (Operand.tmp 6) (Operand.tmp 46), type := 0, pos := "law.go:117", after := #[{ on := 15, ground := Ground.data }, { on := 21, ground := Ground.chain }, { on := 0, ground := Ground.phase }, { on := 1, ground := Ground.phase }, { on := 2, ground := Ground.phase }, { on := 3, ground := Ground.phase }, { on := 4, ground := Ground.phase }, { on := 5, ground := Ground.phase }, { on := 6, ground := Ground.phase }, { on := 7, ground := Ground.phase }, { on := 8, ground := Ground.phase }, { on := 9, ground := Ground.phase }, { on := 10, ground := Ground.phase }, { on := 11, ground := Ground.phase }, { on := 12, ground := Ground.phase }, { on := 13, ground := Ground.phase }, { on := 14, ground := Ground.phase }, { on := 15, ground := Ground.phase }, { on := 16, ground := Ground.textOnly Departure.lateStores }, { on := 17, ground := Ground.textOnly Departure.lateStores }, { on := 18, ground := Ground.textOnly Departure.lateStores }, { on := 19, ground := Ground.textOnly Departure.lateStoresUnsure }, { on := 20, ground := Ground.textOnly Departure.lateStores }, { on := 21, ground := Ground.textOnly Departure.lateStoresUnsure }], guard := none }) rfl (Or.inl rfl) (fun K hKq => ?_) AllZ.nil
              go_simp
              refine hKq.out _ _ ?_
              clear hKq K
              try simp only [Act.put, List.setIfInBounds_toArray, List.set_cons_zero, List.set_cons_succ]
              refine anyZ_ready (rs := [23]) (by kernel_rfl) (by simp) ?_
              refine AllZ.last (o := { dst := none, op := Op.store 24 (Operand.tmp 7) (Operand.tmp 52), type := 0, pos := "law.go:117", after := #[{ on := 21, ground := Ground.data }, { on := 22, ground := Ground.chain }, { on := 0, ground := Ground.phase }, { on := 1, ground := Ground.phase }, { on := 2, ground := Ground.phase }, { on := 3, ground := Ground.phase }, { on := 4, ground := Ground.phase }, { on := 5, ground := Ground.phase }, { on := 6, ground := Ground.phase }, { on := 7, ground := Ground.phase }, { on := 8, ground := Ground.phase }, { on := 9, ground := Ground.phase }, { on := 10, ground := Ground.phase }, { on := 11, ground := Ground.phase }, { on := 12, ground := Ground.phase }, { on := 13, ground := Ground.phase }, { on := 14, ground := Ground.phase }, { on := 15, ground := Ground.phase }, { on := 16, ground := Ground.phase }, { on := 17, ground := Ground.phase }, { on := 18, ground := Ground.phase }, { on := 19, ground := Ground.phase }, { on := 20, ground := Ground.phase }, { on := 21, ground := Ground.phase }, { on := 22, ground := Ground.phase }], guard := none }) rfl (Or.inr (by kernel_rfl)) (fun K hKq => ?_) AllZ.nil
              go_simp
              refine hKq.out _ _ ?_
              clear hKq K
              try simp only [Act.put, List.setIfInBounds_toArray, List.set_cons_zero, List.set_cons_succ]
              refine anyZ_done (by kernel_rfl) ?_ _
              refine NoPanic.normal ?_
              have o2' : Ok y4 f' (bl (m - (k + 1)) (k + 1)) := by rw [show m - (k + 1) = q by have := QX.out.2; omega, bl_front, QX.out.1, QX.out.2]; exact o2
              have o4' : Ok y4 g' (bl 0 (k + 1)) := by rw [bl_back, KX.out]; exact o4
              have NB : Hid (Bg w ((y4.setCell ⟨w.heap.size, 0, none⟩ (.pointer (pO f'))).setCell ⟨w.heap.size + 1, 0, none⟩ (.pointer (pO g'))) m (k + 1) f' g') := BG.out.next (KA.out.trans K4) o2' o4'
              clear o2' o4' o1 o2 o3 o4 V6 V7 c6 c7 f6 f7 gr gr2 gw1 gw2
              go_wp2_with fail
              go_roundw
              case rel => exact ⟨k + 1, f', g', hlt, by go_num, NB.out⟩
              case measure => simp [intOf]; omega
            exact AllZ.nil
          refine AllZ.cons (o := { dst := some 49, op := Op.buildSlice 32 1 #[(0, Operand.tmp 48)], type := 32, pos := "law.go:117", after := #[{ on := 17, ground := Ground.data }], guard := none }) rfl (fun K hKq => ?_) ?_
          ·
            go_simp
            refine hKq.out _ _ (MK.out _ (show Kp W1 ((W1.alloc (.cells #[.int .i64 (q : Int), cx 1 ((r7 : Nat) : Int)] 29)).alloc (.cells #[.int .i64 (k : Int), cx 1 ((h7 : Nat) : Int)] 29)).drew from Kp.drew (Kp.alloc (Kp.alloc (Kp.refl W1) _) _))) (fun hN => ?_)
            clear hKq K hH KQ
            have hH := hN
            clear hN
            have KQ := hH.2.2.2.2.out
            try simp only [Act.put, List.setIfInBounds_toArray, List.set_cons_zero, List.set_cons_succ]
            refine anyZ_ready (rs := [12]) (by kernel_rfl) (by simp) ?_
            refine AllZ.cons (o := { dst := some 43, op := Op.call { callee := Callee.value (Operand.func 8), args := #[Operand.tmp 42], argTypes := #[32] }, type := 24, pos := "law.go:117", after := #[{ on := 11, ground := Ground.data }, { on := 9, ground := Ground.chain }], guard := none }) rfl (fun K hKq => ?_) AllZ.nil
            go_simp
            have kw : Kp W1 ((W1.alloc (.cells #[.int .i64 (q : Int), cx 1 ((r7 : Nat) : Int)] 29)).alloc (.cells #[.int .i64 (k : Int), cx 1 ((h7 : Nat) : Int)] 29)).drew := Kp.drew (Kp.alloc (Kp.alloc (Kp.refl W1) _) _)
            refine (of_one ⟨(q : Int), 1, r7⟩ _ _ SQ.out (show (((W1.alloc (.cells #[.int .i64 (q : Int), cx 1 ((r7 : Nat) : Int)] 29)).alloc (.cells #[.int .i64 (k : Int), cx 1 ((h7 : Nat) : Int)] 29)).drew).heap[W1.heap.size]? = _ from bl_alloc (last_of _ _) _)).mono ?_
            rintro e y1 ⟨u1, rfl, o1, kq⟩
            have GI : y1.heap[W1.heap.size + 1]? = some (.cells #[.int .i64 (k : Int), cx 1 ((h7 : Nat) : Int)] 29) := bl_kp (show (((W1.alloc (.cells #[.int .i64 (q : Int), cx 1 ((r7 : Nat) : Int)] 29)).alloc (.cells #[.int .i64 (k : Int), cx 1 ((h7 : Nat) : Int)] 29)).drew).heap[W1.heap.size + 1]? = _ from last_at _ _ _ (by simp)) kq
            have K1 : Kp W1 y1 := KQ.trans kq
            refine hKq.out _ _ (MK.out _ K1) (fun hN => ?_)
            clear kq kw
            clear hKq K hH KQ
            have hH := hN
            clear hN
            have KQ := hH.2.2.2.2.out
            try simp only [Act.put, List.setIfInBounds_toArray, List.set_cons_zero, List.set_cons_succ]
            refine anyZ_ready (rs := [14]) (by kernel_rfl) (by simp) ?_
            refine AllZ.cons (o := { dst := some 45, op := Op.buildSlice 59 2 #[(0, Operand.tmp 43), (1, Operand.tmp 44)], type := 59, pos := "law.go:117", after := #[{ on := 12, ground := Ground.data }, { on := 13, ground := Ground.data }], guard := none }) rfl (fun K hKq => ?_) AllZ.nil
            go_simp
            refine hKq.out _ _ (MK.out _ (show Kp W1 (y1.alloc (.cells #[.pointer (pO u1), .pointer (pO f)] 24)) from Kp.trans K1 (Kp.alloc (Kp.refl y1) _))) (fun hN => ?_)
            clear hKq K hH KQ
            have hH := hN
            clear hN
            have KQ := hH.2.2.2.2.out
            try simp only [Act.put, List.setIfInBounds_toArray, List.set_cons_zero, List.set_cons_succ]
            refine anyZ_ready (rs := [15]) (by kernel_rfl) (by simp) ?_
            refine AllZ.cons (o := { dst := some 46, op := Op.call { callee := Callee.value (Operand.func 11), args := #[Operand.tmp 45], argTypes := #[59] }, type := 24, pos := "law.go:117", after := #[{ on := 14, ground := Ground.data }, { on := 12, ground := Ground.chain }], guard := none }) rfl (fun K hKq => ?_) AllZ.nil
            go_simp
            have kw : Kp y1 (y1.alloc (.cells #[.pointer (pO u1), .pointer (pO f)] 24)) := Kp.alloc (Kp.refl y1) _
            refine (join2_ok u1 f [⟨(q : Int), 1, r7⟩] (bl (m - k) k) _ _ (show ((y1.alloc (.cells #[.pointer (pO u1), .pointer (pO f)] 24))).heap[y1.heap.size]? = _ from last_of _ _) (o1.kp kw) (BG.out.of.kp (KA.out.trans KQ)) (by rw [bl_len]; simp only [List.length_singleton]; omega) (one_sm SQ.out) (bl_sm _ _)).mono ?_
            rintro e y2 ⟨f', rfl, o2, kq⟩
            have GI := bl_kp (bl_kp GI kw) kq
            have K2 : Kp W1 y2 := KQ.trans kq
            refine hKq.out _ _ (MK.out _ K2) (fun hN => ?_)
            clear kq kw
            clear hKq K hH KQ
            have hH := hN
            clear hN
            have KQ := hH.2.2.2.2.out
            try simp only [Act.put, List.setIfInBounds_toArray, List.set_cons_zero, List.set_cons_succ]
            refine anyZ_ready (rs := [19]) (by kernel_rfl) (by simp) ?_
            refine AllZ.cons (o := { dst := some 50, op := Op.call { callee := Callee.value (Operand.func 8), args := #[Operand.tmp 49], argTypes := #[32] }, type := 24, pos := "law.go:117", after := #[{ on := 18, ground := Ground.data }, { on := 15, ground := Ground.chain }], guard := none }) rfl (fun K hKq => ?_) AllZ.nil
            go_simp
            have kw : Kp y2 y2 := Kp.refl y2
            refine (of_one ⟨(k : Int), 1, h7⟩ _ _ SK.out (bl_kp GI (Kp.refl y2))).mono ?_
            rintro e y3 ⟨u2, rfl, o3, kq⟩
            have K3 : Kp W1 y3 := KQ.trans kq
            have o2 := o2.kp ((show Kp y2 _ from kw).trans kq)
            refine hKq.out _ _ (MK.out _ K3) (fun hN => ?_)
            clear kq kw
            clear hKq K hH KQ
            have hH := hN
            clear hN
            have KQ := hH.2.2.2.2.out
            try simp only [Act.put, List.setIfInBounds_toArray, List.set_cons_zero, List.set_cons_succ]
            refine anyZ_ready (rs := [20]) (by kernel_rfl) (by simp) ?_
            refine AllZ.cons (o := { dst := some 51, op := Op.buildSlice 59 2 #[(0, Operand.tmp 47), (1, Operand.tmp 50)], type := 59, pos := "law.go:117", after := #[{ on := 16, ground := Ground.data }, { on := 19, ground := Ground.data }], guard := none }) rfl (fun K hKq => ?_) AllZ.nil
            go_simp
            refine hKq.out _ _ (MK.out _ (show Kp W1 (y3.alloc (.cells #[.pointer (pO g), .pointer (pO u2)] 24)) from Kp.trans K3 (Kp.alloc (Kp.refl y3) _))) (fun hN => ?_)
            clear hKq K hH KQ
            have hH := hN
            clear hN
            have KQ := hH.2.2.2.2.out
            try simp only [Act.put, List.setIfInBounds_toArray, List.set_cons_zero, List.set_cons_succ]
            refine anyZ_ready (rs := [21]) (by kernel_rfl) (by simp) ?_
            refine AllZ.cons (o := { dst := some 52, op := Op.call { callee := Callee.value (Operand.func 11), args := #[Operand.tmp 51], argTypes := #[59] }, type := 24, pos := "law.go:117", after := #[{ on := 20, ground := Ground.data }, { on := 19, ground := Ground.chain }], guard := none }) rfl (fun K hKq => ?_) AllZ.nil
            go_simp
            have kw : Kp y3 (y3.alloc (.cells #[.pointer (pO g), .pointer (pO u2)] 24)) := Kp.alloc (Kp.refl y3) _
            refine (join2_ok g u2 (bl 0 k) [⟨(k : Int), 1, h7⟩] _ _ (show ((y3.alloc (.cells #[.pointer (pO g), .pointer (pO u2)] 24))).heap[y3.heap.size]? = _ from last_of _ _) (BG.out.og.kp (KA.out.trans KQ)) (o3.kp kw) (by rw [bl_len]; simp only [List.length_singleton]; omega) (bl_sm _ _) (one_sm SK.out)).mono ?_
            rintro e y4 ⟨g', rfl, o4, kq⟩
            have K4 : Kp W1 y4 := KQ.trans kq
            have o2 := o2.kp ((show Kp y3 _ from kw).trans kq)
            have V6 := BG.out.v6.kp (KA.out.trans K4)
            have V7 := BG.out.v7.kp (KA.out.trans K4)
            have c6 := V6.cell
            have c7 := V7.cell
            have f6 := V6.frozen
            have f7 := V7.frozen
            refine hKq.out _ _ (MK.out _ K4) (fun hN => ?_)
            clear kq kw
            clear hKq K hH KQ
            have hH := hN
            clear hN
            have KQ := hH.2.2.2.2.out
            try simp only [Act.put, List.setIfInBounds_toArray, List.set_cons_zero, List.set_cons_succ]
            refine anyZ_ready (rs := [22]) (by kernel_rfl) (by simp) ?_
            refine AllZ.last (o := { dst := none, op := Op.store 24 (Operand.tmp 6) (Operand.tmp 46), type := 0, pos := "law.go:117", after := #[{ on := 15, ground := Ground.data }, { on := 21, ground := Ground.chain }, { on := 0, ground := Ground.phase }, { on := 1, ground := Ground.phase }, { on := 2, ground := Ground.phase }, { on := 3, ground := Ground.phase }, { on := 4, ground := Ground.phase }, { on := 5, ground := Ground.phase }, { on := 6, ground := Ground.phase }, { on := 7, ground := Ground.phase }, { on := 8, ground := Ground.phase }, { on := 9, ground := Ground.phase }, { on := 10, ground := Ground.phase }, { on := 11, ground := Ground.phase }, { on := 12, ground := Ground.phase }, { on := 13, ground := Ground.phase }, { on := 14, ground := Ground.phase }, { on := 15, ground := Ground.phase }, { on := 16, ground := Ground.textOnly Departure.lateStores }, { on := 17, ground := Ground.textOnly Departure.lateStores }, { on := 18, ground := Ground.textOnly Departure.lateStores }, { on := 19, ground := Ground.textOnly Departure.lateStoresUnsure }, { on := 20, ground := Ground.textOnly Departure.lateStores }, { on := 21, ground := Ground.textOnly Departure.lateStoresUnsure }], guard := none }) rfl (Or.inl rfl) (fun K hKq => ?_) AllZ.nil
            go_simp
            refine hKq.out _ _ ?_
            clear hKq K
            try simp only [Act.put, List.setIfInBounds_toArray, List.set_cons_zero, List.set_cons_succ]
            refine anyZ_ready (rs := [23]) (by kernel_rfl) (by simp) ?_
            refine AllZ.last (o := { dst := none, op := Op.store 24 (Operand.tmp 7) (Operand.tmp 52), type := 0, pos := "law.go:117", after := #[{ on := 21, ground := Ground.data }, { on := 22, ground := Ground.chain }, { on := 0, ground := Ground.phase }, { on := 1, ground := Ground.phase }, { on := 2, ground := Ground.phase }, { on := 3, ground := Ground.phase }, { on := 4, ground := Ground.phase }, { on := 5, ground := Ground.phase }, { on := 6, ground := Ground.phase }, { on := 7, ground := Ground.phase }, { on := 8, ground := Ground.phase }, { on := 9, ground := Ground.phase }, { on := 10, ground := Ground.phase }, { on := 11, ground := Ground.phase }, { on := 12, ground := Ground.phase }, { on := 13, ground := Ground.phase }, { on := 14, ground := Ground.phase }, { on := 15, ground := Ground.phase }, { on := 16, ground := Ground.phase }, { on := 17, ground := Ground.phase }, { on := 18, ground := Ground.phase }, { on := 19, ground := Ground.phase }, { on := 20, ground := Ground.phase }, { on := 21, ground := Ground.phase }, { on := 22, ground := Ground.phase }], guard := none }) rfl (Or.inr (by kernel_rfl)) (fun K hKq => ?_) AllZ.nil
            go_simp
            refine hKq.out _ _ ?_
            clear hKq K
            try simp only [Act.put, List.setIfInBounds_toArray, List.set_cons_zero, List.set_cons_succ]
            refine anyZ_done (by kernel_rfl) ?_ _
            refine NoPanic.normal ?_
            have o2' : Ok y4 f' (bl (m - (k + 1)) (k + 1)) := by rw [show m - (k + 1) = q by have := QX.out.2; omega, bl_front, QX.out.1, QX.out.2]; exact o2
            have o4' : Ok y4 g' (bl 0 (k + 1)) := by rw [bl_back, KX.out]; exact o4
            have NB : Hid (Bg w ((y4.setCell ⟨w.heap.size, 0, none⟩ (.pointer (pO f'))).setCell ⟨w.heap.size + 1, 0, none⟩ (.pointer (pO g'))) m (k + 1) f' g') := BG.out.next (KA.out.trans K4) o2' o4'
            clear o2' o4' o1 o2 o3 o4 V6 V7 c6 c7 f6 f7 gr gr2 gw1 gw2
            go_wp2_with fail
            go_roundw
            case rel => exact ⟨k + 1, f', g', hlt, by go_num, NB.out⟩
            case measure => simp [intOf]; omega
          exact AllZ.nil
        refine AllZ.cons (o := { dst := some 49, op := Op.buildSlice 32 1 #[(0, Operand.tmp 48)], type := 32, pos := "law.go:117", after := #[{ on := 17, ground := Ground.data }], guard := none }) rfl (fun K hKq => ?_) ?_
        ·
          go_simp
          refine hKq.out _ _ (MK.out _ (show Kp W1 (W1.alloc (.cells #[.int .i64 (k : Int), cx 1 ((h7 : Nat) : Int)] 29)).drew from Kp.drew (Kp.alloc (Kp.refl W1) _))) (fun hN => ?_)
          clear hKq K hH KQ
          have hH := hN
          clear hN
          have KQ := hH.2.2.2.2.out
          try simp only [Act.put, List.setIfInBounds_toArray, List.set_cons_zero, List.set_cons_succ]
          refine anyZ_ready (rs := [11]) (by kernel_rfl) (by simp) ?_
          refine AllZ.cons (o := { dst := some 42, op := Op.buildSlice 32 1 #[(0, Operand.tmp 41)], type := 32, pos := "law.go:117", after := #[{ on := 10, ground := Ground.data }], guard := none }) rfl (fun K hKq => ?_) AllZ.nil
          go_simp
          refine hKq.out _ _ (MK.out _ (show Kp W1 ((W1.alloc (.cells #[.int .i64 (k : Int), cx 1 ((h7 : Nat) : Int)] 29)).alloc (.cells #[.int .i64 (q : Int), cx 1 ((r7 : Nat) : Int)] 29)).drew from Kp.drew (Kp.alloc (Kp.alloc (Kp.refl W1) _) _))) (fun hN => ?_)
          clear hKq K hH KQ
          have hH := hN
          clear hN
          have KQ := hH.2.2.2.2.out
          try simp only [Act.put, List.setIfInBounds_toArray, List.set_cons_zero, List.set_cons_succ]
          refine anyZ_ready (rs := [12]) (by kernel_rfl) (by simp) ?_
          refine AllZ.cons (o := { dst := some 43, op := Op.call { callee := Callee.value (Operand.func 8), args := #[Operand.tmp 42], argTypes := #[32] }, type := 24, pos := "law.go:117", after := #[{ on := 11, ground := Ground.data }, { on := 9, ground := Ground.chain }], guard := none }) rfl (fun K hKq => ?_) AllZ.nil
          go_simp
          have kw : Kp W1 ((W1.alloc (.cells #[.int .i64 (k : Int), cx 1 ((h7 : Nat) : Int)] 29)).alloc (.cells #[.int .i64 (q : Int), cx 1 ((r7 : Nat) : Int)] 29)).drew := Kp.drew (Kp.alloc (Kp.alloc (Kp.refl W1) _) _)
          refine (of_one ⟨(q : Int), 1, r7⟩ _ _ SQ.out (show (((W1.alloc (.cells #[.int .i64 (k : Int), cx 1 ((h7 : Nat) : Int)] 29)).alloc (.cells #[.int .i64 (q : Int), cx 1 ((r7 : Nat) : Int)] 29)).drew).heap[W1.heap.size + 1]? = _ from last_at _ _ _ (by simp))).mono ?_
          rintro e y1 ⟨u1, rfl, o1, kq⟩
          have GI : y1.heap[W1.heap.size]? = some (.cells #[.int .i64 (k : Int), cx 1 ((h7 : Nat) : Int)] 29) := bl_kp (show (((W1.alloc (.cells #[.int .i64 (k : Int), cx 1 ((h7 : Nat) : Int)] 29)).alloc (.cells #[.int .i64 (q : Int), cx 1 ((r7 : Nat) : Int)] 29)).drew).heap[W1.heap.size]? = _ from bl_alloc (last_of _ _) _) kq
          have K1 : Kp W1 y1 := KQ.trans kq
          refine hKq.out _ _ (MK.out _ K1) (fun hN => ?_)
          clear kq kw
          clear hKq K hH KQ
          have hH := hN
          clear hN
          have KQ := hH.2.2.2.2.out
          try simp only [Act.put, List.setIfInBounds_toArray, List.set_cons_zero, List.set_cons_succ]
          refine anyZ_ready (rs := [14]) (by kernel_rfl) (by simp) ?_
          refine AllZ.cons (o := { dst := some 45, op := Op.buildSlice 59 2 #[(0, Operand.tmp 43), (1, Operand.tmp 44)], type := 59, pos := "law.go:117", after := #[{ on := 12, ground := Ground.data }, { on := 13, ground := Ground.data }], guard := none }) rfl (fun K hKq => ?_) AllZ.nil
          go_simp
          refine hKq.out _ _ (MK.out _ (show Kp W1 (y1.alloc (.cells #[.pointer (pO u1), .pointer (pO f)] 24)) from Kp.trans K1 (Kp.alloc (Kp.refl y1) _))) (fun hN => ?_)
          clear hKq K hH KQ
          have hH := hN
          clear hN
          have KQ := hH.2.2.2.2.out
          try simp only [Act.put, List.setIfInBounds_toArray, List.set_cons_zero, List.set_cons_succ]
          refine anyZ_ready (rs := [15]) (by kernel_rfl) (by simp) ?_
          refine AllZ.cons (o := { dst := some 46, op := Op.call { callee := Callee.value (Operand.func 11), args := #[Operand.tmp 45], argTypes := #[59] }, type := 24, pos := "law.go:117", after := #[{ on := 14, ground := Ground.data }, { on := 12, ground := Ground.chain }], guard := none }) rfl (fun K hKq => ?_) AllZ.nil
          go_simp
          have kw : Kp y1 (y1.alloc (.cells #[.pointer (pO u1), .pointer (pO f)] 24)) := Kp.alloc (Kp.refl y1) _
          refine (join2_ok u1 f [⟨(q : Int), 1, r7⟩] (bl (m - k) k) _ _ (show ((y1.alloc (.cells #[.pointer (pO u1), .pointer (pO f)] 24))).heap[y1.heap.size]? = _ from last_of _ _) (o1.kp kw) (BG.out.of.kp (KA.out.trans KQ)) (by rw [bl_len]; simp only [List.length_singleton]; omega) (one_sm SQ.out) (bl_sm _ _)).mono ?_
          rintro e y2 ⟨f', rfl, o2, kq⟩
          have GI := bl_kp (bl_kp GI kw) kq
          have K2 : Kp W1 y2 := KQ.trans kq
          refine hKq.out _ _ (MK.out _ K2) (fun hN => ?_)
          clear kq kw
          clear hKq K hH KQ
          have hH := hN
          clear hN
          have KQ := hH.2.2.2.2.out
          try simp only [Act.put, List.setIfInBounds_toArray, List.set_cons_zero, List.set_cons_succ]
          refine anyZ_ready (rs := [19]) (by kernel_rfl) (by simp) ?_
          refine AllZ.cons (o := { dst := some 50, op := Op.call { callee := Callee.value (Operand.func 8), args := #[Operand.tmp 49], argTypes := #[32] }, type := 24, pos := "law.go:117", after := #[{ on := 18, ground := Ground.data }, { on := 15, ground := Ground.chain }], guard := none }) rfl (fun K hKq => ?_) AllZ.nil
          go_simp
          have kw : Kp y2 y2 := Kp.refl y2
          refine (of_one ⟨(k : Int), 1, h7⟩ _ _ SK.out (bl_kp GI (Kp.refl y2))).mono ?_
          rintro e y3 ⟨u2, rfl, o3, kq⟩
          have K3 : Kp W1 y3 := KQ.trans kq
          have o2 := o2.kp ((show Kp y2 _ from kw).trans kq)
          refine hKq.out _ _ (MK.out _ K3) (fun hN => ?_)
          clear kq kw
          clear hKq K hH KQ
          have hH := hN
          clear hN
          have KQ := hH.2.2.2.2.out
          try simp only [Act.put, List.setIfInBounds_toArray, List.set_cons_zero, List.set_cons_succ]
          refine anyZ_ready (rs := [20]) (by kernel_rfl) (by simp) ?_
          refine AllZ.cons (o := { dst := some 51, op := Op.buildSlice 59 2 #[(0, Operand.tmp 47), (1, Operand.tmp 50)], type := 59, pos := "law.go:117", after := #[{ on := 16, ground := Ground.data }, { on := 19, ground := Ground.data }], guard := none }) rfl (fun K hKq => ?_) AllZ.nil
          go_simp
          refine hKq.out _ _ (MK.out _ (show Kp W1 (y3.alloc (.cells #[.pointer (pO g), .pointer (pO u2)] 24)) from Kp.trans K3 (Kp.alloc (Kp.refl y3) _))) (fun hN => ?_)
          clear hKq K hH KQ
          have hH := hN
          clear hN
          have KQ := hH.2.2.2.2.out
          try simp only [Act.put, List.setIfInBounds_toArray, List.set_cons_zero, List.set_cons_succ]
          refine anyZ_ready (rs := [21]) (by kernel_rfl) (by simp) ?_
          refine AllZ.cons (o := { dst := some 52, op := Op.call { callee := Callee.value (Operand.func 11), args := #[Operand.tmp 51], argTypes := #[59] }, type := 24, pos := "law.go:117", after := #[{ on := 20, ground := Ground.data }, { on := 19, ground := Ground.chain }], guard := none }) rfl (fun K hKq => ?_) AllZ.nil
          go_simp
          have kw : Kp y3 (y3.alloc (.cells #[.pointer (pO g), .pointer (pO u2)] 24)) := Kp.alloc (Kp.refl y3) _
          refine (join2_ok g u2 (bl 0 k) [⟨(k : Int), 1, h7⟩] _ _ (show ((y3.alloc (.cells #[.pointer (pO g), .pointer (pO u2)] 24))).heap[y3.heap.size]? = _ from last_of _ _) (BG.out.og.kp (KA.out.trans KQ)) (o3.kp kw) (by rw [bl_len]; simp only [List.length_singleton]; omega) (bl_sm _ _) (one_sm SK.out)).mono ?_
          rintro e y4 ⟨g', rfl, o4, kq⟩
          have K4 : Kp W1 y4 := KQ.trans kq
          have o2 := o2.kp ((show Kp y3 _ from kw).trans kq)
          have V6 := BG.out.v6.kp (KA.out.trans K4)
          have V7 := BG.out.v7.kp (KA.out.trans K4)
          have c6 := V6.cell
          have c7 := V7.cell
          have f6 := V6.frozen
          have f7 := V7.frozen
          refine hKq.out _ _ (MK.out _ K4) (fun hN => ?_)
          clear kq kw
          clear hKq K hH KQ
          have hH := hN
          clear hN
          have KQ := hH.2.2.2.2.out
          try simp only [Act.put, List.setIfInBounds_toArray, List.set_cons_zero, List.set_cons_succ]
          refine anyZ_ready (rs := [22]) (by kernel_rfl) (by simp) ?_
          refine AllZ.last (o := { dst := none, op := Op.store 24 (Operand.tmp 6) (Operand.tmp 46), type := 0, pos := "law.go:117", after := #[{ on := 15, ground := Ground.data }, { on := 21, ground := Ground.chain }, { on := 0, ground := Ground.phase }, { on := 1, ground := Ground.phase }, { on := 2, ground := Ground.phase }, { on := 3, ground := Ground.phase }, { on := 4, ground := Ground.phase }, { on := 5, ground := Ground.phase }, { on := 6, ground := Ground.phase }, { on := 7, ground := Ground.phase }, { on := 8, ground := Ground.phase }, { on := 9, ground := Ground.phase }, { on := 10, ground := Ground.phase }, { on := 11, ground := Ground.phase }, { on := 12, ground := Ground.phase }, { on := 13, ground := Ground.phase }, { on := 14, ground := Ground.phase }, { on := 15, ground := Ground.phase }, { on := 16, ground := Ground.textOnly Departure.lateStores }, { on := 17, ground := Ground.textOnly Departure.lateStores }, { on := 18, ground := Ground.textOnly Departure.lateStores }, { on := 19, ground := Ground.textOnly Departure.lateStoresUnsure }, { on := 20, ground := Ground.textOnly Departure.lateStores }, { on := 21, ground := Ground.textOnly Departure.lateStoresUnsure }], guard := none }) rfl (Or.inl rfl) (fun K hKq => ?_) AllZ.nil
          go_simp
          refine hKq.out _ _ ?_
          clear hKq K
          try simp only [Act.put, List.setIfInBounds_toArray, List.set_cons_zero, List.set_cons_succ]
          refine anyZ_ready (rs := [23]) (by kernel_rfl) (by simp) ?_
          refine AllZ.last (o := { dst := none, op := Op.store 24 (Operand.tmp 7) (Operand.tmp 52), type := 0, pos := "law.go:117", after := #[{ on := 21, ground := Ground.data }, { on := 22, ground := Ground.chain }, { on := 0, ground := Ground.phase }, { on := 1, ground := Ground.phase }, { on := 2, ground := Ground.phase }, { on := 3, ground := Ground.phase }, { on := 4, ground := Ground.phase }, { on := 5, ground := Ground.phase }, { on := 6, ground := Ground.phase }, { on := 7, ground := Ground.phase }, { on := 8, ground := Ground.phase }, { on := 9, ground := Ground.phase }, { on := 10, ground := Ground.phase }, { on := 11, ground := Ground.phase }, { on := 12, ground := Ground.phase }, { on := 13, ground := Ground.phase }, { on := 14, ground := Ground.phase }, { on := 15, ground := Ground.phase }, { on := 16, ground := Ground.phase }, { on := 17, ground := Ground.phase }, { on := 18, ground := Ground.phase }, { on := 19, ground := Ground.phase }, { on := 20, ground := Ground.phase }, { on := 21, ground := Ground.phase }, { on := 22, ground := Ground.phase }], guard := none }) rfl (Or.inr (by kernel_rfl)) (fun K hKq => ?_) AllZ.nil
          go_simp
          refine hKq.out _ _ ?_
          clear hKq K
          try simp only [Act.put, List.setIfInBounds_toArray, List.set_cons_zero, List.set_cons_succ]
          refine anyZ_done (by kernel_rfl) ?_ _
          refine NoPanic.normal ?_
          have o2' : Ok y4 f' (bl (m - (k + 1)) (k + 1)) := by rw [show m - (k + 1) = q by have := QX.out.2; omega, bl_front, QX.out.1, QX.out.2]; exact o2
          have o4' : Ok y4 g' (bl 0 (k + 1)) := by rw [bl_back, KX.out]; exact o4
          have NB : Hid (Bg w ((y4.setCell ⟨w.heap.size, 0, none⟩ (.pointer (pO f'))).setCell ⟨w.heap.size + 1, 0, none⟩ (.pointer (pO g'))) m (k + 1) f' g') := BG.out.next (KA.out.trans K4) o2' o4'
          clear o2' o4' o1 o2 o3 o4 V6 V7 c6 c7 f6 f7 gr gr2 gw1 gw2
          go_wp2_with fail
          go_roundw
          case rel => exact ⟨k + 1, f', g', hlt, by go_num, NB.out⟩
          case measure => simp [intOf]; omega
        exact AllZ.nil
      refine AllZ.cons (o := { dst := some 49, op := Op.buildSlice 32 1 #[(0, Operand.tmp 48)], type := 32, pos := "law.go:117", after := #[{ on := 17, ground := Ground.data }], guard := none }) rfl (fun K hKq => ?_) ?_
      ·
        go_simp
        refine hKq.out _ _ (MK.out _ (show Kp W1 (W1.alloc (.cells #[.int .i64 (k : Int), cx 1 ((h7 : Nat) : Int)] 29)).drew from Kp.drew (Kp.alloc (Kp.refl W1) _))) (fun hN => ?_)
        clear hKq K hH KQ
        have hH := hN
        clear hN
        have KQ := hH.2.2.2.2.out
        try simp only [Act.put, List.setIfInBounds_toArray, List.set_cons_zero, List.set_cons_succ]
        refine anyZ_ready (rs := [9]) (by kernel_rfl) (by simp) ?_
        refine AllZ.cons (o := { dst := some 40, op := Op.call { callee := Callee.value (Operand.func 9), args := #[Operand.const (Value.int IntKind.i64 1), Operand.tmp 39], argTypes := #[3, 3] }, type := 26, pos := "law.go:117", after := #[{ on := 8, ground := Ground.data }], guard := none }) rfl (fun K hKq => ?_) AllZ.nil
        go_simp
        refine (of_any 1 (r7 : Int) _).mono ?_
        rintro e yy ⟨rfl, rfl⟩
        refine hKq.out _ _ (MK.out _ KQ) (fun hN => ?_)
        clear hKq K hH KQ
        have hH := hN
        clear hN
        have KQ := hH.2.2.2.2.out
        try simp only [Act.put, List.setIfInBounds_toArray, List.set_cons_zero, List.set_cons_succ]
        refine anyZ_take (z := 22) (ks := []) (i := 10) (oi := { dst := some 41, op := Op.build 29 #[(0, Operand.tmp 34), (1, Operand.tmp 40)], type := 29, pos := "law.go:117", after := #[{ on := 3, ground := Ground.data }, { on := 9, ground := Ground.data }], guard := none }) (v := ?v10z14) rfl (by kernel_rfl) (by kernel_rfl) (by kernel_rfl) (by kernel_rfl) (by kernel_rfl) (fun _ _ _ h => h) (Or.inl ⟨by rfl, ?hy10z14⟩) hH ?r10z14
        case hy10z14 => (intro W hSw; (try dsimp only at hSw); go_simp; try (with_reducible rfl))
        try simp only [Act.put, List.setIfInBounds_toArray, List.set_cons_zero, List.set_cons_succ]
        refine anyZ_ready (rs := [11]) (by kernel_rfl) (by simp) ?_
        refine AllZ.cons (o := { dst := some 42, op := Op.buildSlice 32 1 #[(0, Operand.tmp 41)], type := 32, pos := "law.go:117", after := #[{ on := 10, ground := Ground.data }], guard := none }) rfl (fun K hKq => ?_) AllZ.nil
        go_simp
        refine hKq.out _ _ (MK.out _ (show Kp W1 ((W1.alloc (.cells #[.int .i64 (k : Int), cx 1 ((h7 : Nat) : Int)] 29)).alloc (.cells #[.int .i64 (q : Int), cx 1 ((r7 : Nat) : Int)] 29)).drew from Kp.drew (Kp.alloc (Kp.alloc (Kp.refl W1) _) _))) (fun hN => ?_)
        clear hKq K hH KQ
        have hH := hN
        clear hN
        have KQ := hH.2.2.2.2.out
        try simp only [Act.put, List.setIfInBounds_toArray, List.set_cons_zero, List.set_cons_succ]
        refine anyZ_ready (rs := [12]) (by kernel_rfl) (by simp) ?_
        refine AllZ.cons (o := { dst := some 43, op := Op.call { callee := Callee.value (Operand.func 8), args := #[Operand.tmp 42], argTypes := #[32] }, type := 24, pos := "law.go:117", after := #[{ on := 11, ground := Ground.data }, { on := 9, ground := Ground.chain }], guard := none }) rfl (fun K hKq => ?_) AllZ.nil
        go_simp
        have kw : Kp W1 ((W1.alloc (.cells #[.int .i64 (k : Int), cx 1 ((h7 : Nat) : Int)] 29)).alloc (.cells #[.int .i64 (q : Int), cx 1 ((r7 : Nat) : Int)] 29)).drew := Kp.drew (Kp.alloc (Kp.alloc (Kp.refl W1) _) _)
        refine (of_one ⟨(q : Int), 1, r7⟩ _ _ SQ.out (show (((W1.alloc (.cells #[.int .i64 (k : Int), cx 1 ((h7 : Nat) : Int)] 29)).alloc (.cells #[.int .i64 (q : Int), cx 1 ((r7 : Nat) : Int)] 29)).drew).heap[W1.heap.size + 1]? = _ from last_at _ _ _ (by simp))).mono ?_
        rintro e y1 ⟨u1, rfl, o1, kq⟩
        have GI : y1.heap[W1.heap.size]? = some (.cells #[.int .i64 (k : Int), cx 1 ((h7 : Nat) : Int)] 29) := bl_kp (show (((W1.alloc (.cells #[.int .i64 (k : Int), cx 1 ((h7 : Nat) : Int)] 29)).alloc (.cells #[.int .i64 (q : Int), cx 1 ((r7 : Nat) : Int)] 29)).drew).heap[W1.heap.size]? = _ from bl_alloc (last_of _ _) _) kq
        have K1 : Kp W1 y1 := KQ.trans kq
        refine hKq.out _ _ (MK.out _ K1) (fun hN => ?_)
        clear kq kw
        clear hKq K hH KQ
        have hH := hN
        clear hN
        have KQ := hH.2.2.2.2.out
        try simp only [Act.put, List.setIfInBounds_toArray, List.set_cons_zero, List.set_cons_succ]
        refine anyZ_ready (rs := [14]) (by kernel_rfl) (by simp) ?_
        refine AllZ.cons (o := { dst := some 45, op := Op.buildSlice 59 2 #[(0, Operand.tmp 43), (1, Operand.tmp 44)], type := 59, pos := "law.go:117", after := #[{ on := 12, ground := Ground.data }, { on := 13, ground := Ground.data }], guard := none }) rfl (fun K hKq => ?_) AllZ.nil
        go_simp
        refine hKq.out _ _ (MK.out _ (show Kp W1 (y1.alloc (.cells #[.pointer (pO u1), .pointer (pO f)] 24)) from Kp.trans K1 (Kp.alloc (Kp.refl y1) _))) (fun hN => ?_)
        clear hKq K hH KQ
        have hH := hN
        clear hN
        have KQ := hH.2.2.2.2.out
        try simp only [Act.put, List.setIfInBounds_toArray, List.set_cons_zero, List.set_cons_succ]
        refine anyZ_ready (rs := [15]) (by kernel_rfl) (by simp) ?_
        refine AllZ.cons (o := { dst := some 46, op := Op.call { callee := Callee.value (Operand.func 11), args := #[Operand.tmp 45], argTypes := #[59] }, type := 24, pos := "law.go:117", after := #[{ on := 14, ground := Ground.data }, { on := 12, ground := Ground.chain }], guard := none }) rfl (fun K hKq => ?_) AllZ.nil
        go_simp
        have kw : Kp y1 (y1.alloc (.cells #[.pointer (pO u1), .pointer (pO f)] 24)) := Kp.alloc (Kp.refl y1) _
        refine (join2_ok u1 f [⟨(q : Int), 1, r7⟩] (bl (m - k) k) _ _ (show ((y1.alloc (.cells #[.pointer (pO u1), .pointer (pO f)] 24))).heap[y1.heap.size]? = _ from last_of _ _) (o1.kp kw) (BG.out.of.kp (KA.out.trans KQ)) (by rw [bl_len]; simp only [List.length_singleton]; omega) (one_sm SQ.out) (bl_sm _ _)).mono ?_
        rintro e y2 ⟨f', rfl, o2, kq⟩
        have GI := bl_kp (bl_kp GI kw) kq
        have K2 : Kp W1 y2 := KQ.trans kq
        refine hKq.out _ _ (MK.out _ K2) (fun hN => ?_)
        clear kq kw
        clear hKq K hH KQ
        have hH := hN
        clear hN
        have KQ := hH.2.2.2.2.out
        try simp only [Act.put, List.setIfInBounds_toArray, List.set_cons_zero, List.set_cons_succ]
        refine anyZ_ready (rs := [19]) (by kernel_rfl) (by simp) ?_
        refine AllZ.cons (o := { dst := some 50, op := Op.call { callee := Callee.value (Operand.func 8), args := #[Operand.tmp 49], argTypes := #[32] }, type := 24, pos := "law.go:117", after := #[{ on := 18, ground := Ground.data }, { on := 15, ground := Ground.chain }], guard := none }) rfl (fun K hKq => ?_) AllZ.nil
        go_simp
        have kw : Kp y2 y2 := Kp.refl y2
        refine (of_one ⟨(k : Int), 1, h7⟩ _ _ SK.out (bl_kp GI (Kp.refl y2))).mono ?_
        rintro e y3 ⟨u2, rfl, o3, kq⟩
        have K3 : Kp W1 y3 := KQ.trans kq
        have o2 := o2.kp ((show Kp y2 _ from kw).trans kq)
        refine hKq.out _ _ (MK.out _ K3) (fun hN => ?_)
        clear kq kw
        clear hKq K hH KQ
        have hH := hN
        clear hN
        have KQ := hH.2.2.2.2.out
        try simp only [Act.put, List.setIfInBounds_toArray, List.set_cons_zero, List.set_cons_succ]
        refine anyZ_ready (rs := [20]) (by kernel_rfl) (by simp) ?_
        refine AllZ.cons (o := { dst := some 51, op := Op.buildSlice 59 2 #[(0, Operand.tmp 47), (1, Operand.tmp 50)], type := 59, pos := "law.go:117", after := #[{ on := 16, ground := Ground.data }, { on := 19, ground := Ground.data }], guard := none }) rfl (fun K hKq => ?_) AllZ.nil
        go_simp
        refine hKq.out _ _ (MK.out _ (show Kp W1 (y3.alloc (.cells #[.pointer (pO g), .pointer (pO u2)] 24)) from Kp.trans K3 (Kp.alloc (Kp.refl y3) _))) (fun hN => ?_)
        clear hKq K hH KQ
        have hH := hN
        clear hN
        have KQ := hH.2.2.2.2.out
        try simp only [Act.put, List.setIfInBounds_toArray, List.set_cons_zero, List.set_cons_succ]
        refine anyZ_ready (rs := [21]) (by kernel_rfl) (by simp) ?_
        refine AllZ.cons (o := { dst := some 52, op := Op.call { callee := Callee.value (Operand.func 11), args := #[Operand.tmp 51], argTypes := #[59] }, type := 24, pos := "law.go:117", after := #[{ on := 20, ground := Ground.data }, { on := 19, ground := Ground.chain }], guard := none }) rfl (fun K hKq => ?_) AllZ.nil
        go_simp
        have kw : Kp y3 (y3.alloc (.cells #[.pointer (pO g), .pointer (pO u2)] 24)) := Kp.alloc (Kp.refl y3) _
        refine (join2_ok g u2 (bl 0 k) [⟨(k : Int), 1, h7⟩] _ _ (show ((y3.alloc (.cells #[.pointer (pO g), .pointer (pO u2)] 24))).heap[y3.heap.size]? = _ from last_of _ _) (BG.out.og.kp (KA.out.trans KQ)) (o3.kp kw) (by rw [bl_len]; simp only [List.length_singleton]; omega) (bl_sm _ _) (one_sm SK.out)).mono ?_
        rintro e y4 ⟨g', rfl, o4, kq⟩
        have K4 : Kp W1 y4 := KQ.trans kq
        have o2 := o2.kp ((show Kp y3 _ from kw).trans kq)
        have V6 := BG.out.v6.kp (KA.out.trans K4)
        have V7 := BG.out.v7.kp (KA.out.trans K4)
        have c6 := V6.cell
        have c7 := V7.cell
        have f6 := V6.frozen
        have f7 := V7.frozen
        refine hKq.out _ _ (MK.out _ K4) (fun hN => ?_)
        clear kq kw
        clear hKq K hH KQ
        have hH := hN
        clear hN
        have KQ := hH.2.2.2.2.out
        try simp only [Act.put, List.setIfInBounds_toArray, List.set_cons_zero, List.set_cons_succ]
        refine anyZ_ready (rs := [22]) (by kernel_rfl) (by simp) ?_
        refine AllZ.last (o := { dst := none, op := Op.store 24 (Operand.tmp 6) (Operand.tmp 46), type := 0, pos := "law.go:117", after := #[{ on := 15, ground := Ground.data }, { on := 21, ground := Ground.chain }, { on := 0, ground := Ground.phase }, { on := 1, ground := Ground.phase }, { on := 2, ground := Ground.phase }, { on := 3, ground := Ground.phase }, { on := 4, ground := Ground.phase }, { on := 5, ground := Ground.phase }, { on := 6, ground := Ground.phase }, { on := 7, ground := Ground.phase }, { on := 8, ground := Ground.phase }, { on := 9, ground := Ground.phase }, { on := 10, ground := Ground.phase }, { on := 11, ground := Ground.phase }, { on := 12, ground := Ground.phase }, { on := 13, ground := Ground.phase }, { on := 14, ground := Ground.phase }, { on := 15, ground := Ground.phase }, { on := 16, ground := Ground.textOnly Departure.lateStores }, { on := 17, ground := Ground.textOnly Departure.lateStores }, { on := 18, ground := Ground.textOnly Departure.lateStores }, { on := 19, ground := Ground.textOnly Departure.lateStoresUnsure }, { on := 20, ground := Ground.textOnly Departure.lateStores }, { on := 21, ground := Ground.textOnly Departure.lateStoresUnsure }], guard := none }) rfl (Or.inl rfl) (fun K hKq => ?_) AllZ.nil
        go_simp
        refine hKq.out _ _ ?_
        clear hKq K
        try simp only [Act.put, List.setIfInBounds_toArray, List.set_cons_zero, List.set_cons_succ]
        refine anyZ_ready (rs := [23]) (by kernel_rfl) (by simp) ?_
        refine AllZ.last (o := { dst := none, op := Op.store 24 (Operand.tmp 7) (Operand.tmp 52), type := 0, pos := "law.go:117", after := #[{ on := 21, ground := Ground.data }, { on := 22, ground := Ground.chain }, { on := 0, ground := Ground.phase }, { on := 1, ground := Ground.phase }, { on := 2, ground := Ground.phase }, { on := 3, ground := Ground.phase }, { on := 4, ground := Ground.phase }, { on := 5, ground := Ground.phase }, { on := 6, ground := Ground.phase }, { on := 7, ground := Ground.phase }, { on := 8, ground := Ground.phase }, { on := 9, ground := Ground.phase }, { on := 10, ground := Ground.phase }, { on := 11, ground := Ground.phase }, { on := 12, ground := Ground.phase }, { on := 13, ground := Ground.phase }, { on := 14, ground := Ground.phase }, { on := 15, ground := Ground.phase }, { on := 16, ground := Ground.phase }, { on := 17, ground := Ground.phase }, { on := 18, ground := Ground.phase }, { on := 19, ground := Ground.phase }, { on := 20, ground := Ground.phase }, { on := 21, ground := Ground.phase }, { on := 22, ground := Ground.phase }], guard := none }) rfl (Or.inr (by kernel_rfl)) (fun K hKq => ?_) AllZ.nil
        go_simp
        refine hKq.out _ _ ?_
        clear hKq K
        try simp only [Act.put, List.setIfInBounds_toArray, List.set_cons_zero, List.set_cons_succ]
        refine anyZ_done (by kernel_rfl) ?_ _
        refine NoPanic.normal ?_
        have o2' : Ok y4 f' (bl (m - (k + 1)) (k + 1)) := by rw [show m - (k + 1) = q by have := QX.out.2; omega, bl_front, QX.out.1, QX.out.2]; exact o2
        have o4' : Ok y4 g' (bl 0 (k + 1)) := by rw [bl_back, KX.out]; exact o4
        have NB : Hid (Bg w ((y4.setCell ⟨w.heap.size, 0, none⟩ (.pointer (pO f'))).setCell ⟨w.heap.size + 1, 0, none⟩ (.pointer (pO g'))) m (k + 1) f' g') := BG.out.next (KA.out.trans K4) o2' o4'
        clear o2' o4' o1 o2 o3 o4 V6 V7 c6 c7 f6 f7 gr gr2 gw1 gw2
        go_wp2_with fail
        go_roundw
        case rel => exact ⟨k + 1, f', g', hlt, by go_num, NB.out⟩
        case measure => simp [intOf]; omega
      exact AllZ.nil
    · obtain rfl : k = m := by omega
      have BG : Hid (Bg w wr k k f g) := bg
      have OF : Hid (Ok wr f (bl 0 k)) := by have := bg.of; rw [Nat.sub_self] at this; exact this
      have v6 := bg.v6
      have v7 := bg.v7
      have MK : Hid (∀ W, Kp wr W → W.cell? ⟨w.heap.size, 0, none⟩ = some (.pointer (pO f)) ∧ W.cell? ⟨w.heap.size + 1, 0, none⟩ = some (.pointer (pO g)) ∧ Hid (Kp wr W)) := fun W k => ⟨(v6.kp k).cell, (v7.kp k).cell, k⟩
      clear bg v6 v7
      obtain ⟨L, Y, L1, b1, b2⟩ : ∃ L Y : Nat, Hid (mk (bl 0 k) = cx (L : Nat) (Y : Nat)) ∧ L ≤ 30000 ∧ Y ≤ 30000 := by
        have b1 := (bl_sm 0 k).lines
        have b2 := (bl_sm 0 k).bytes
        rw [bl_len] at b1 b2
        exact ⟨_, _, (rfl : mk (bl 0 k) = _), by omega, by omega⟩
      have EQN : ∀ w, (binOp .neq 26 (cx (L : Nat) (Y : Nat)) (cx (L : Nat) (Y : Nat))).run Try.prog w = .ok (.bool false) w := by
        intro w
        rw [run_neq_complex, show FloatKind.f64.format.order (F (L : Nat)) (F (L : Nat)) = some (compare (L : Int) (L : Int)) from F_order _ _ (small (by omega) (by omega)) (small (by omega) (by omega)), show FloatKind.f64.format.order (F (Y : Nat)) (F (Y : Nat)) = some (compare (Y : Int) (Y : Int)) from F_order _ _ (small (by omega) (by omega)) (small (by omega) (by omega))]
        simp
      go_wp2_with fail
      have Q0 : Kp wr wr.drew := (Kp.refl _).drew
      go_cut [66] (fun b wc => b = .bool false ∧ Kp wr wc)
      case first =>
        refine wp_region_noPanic ?_
        refine wp_region_held_drew (S := (fun W => W.cell? ⟨w.heap.size, 0, none⟩ = some (.pointer (pO f)) ∧ W.cell? ⟨w.heap.size + 1, 0, none⟩ = some (.pointer (pO g)) ∧ Hid (Kp wr W))) (by kernel_rfl) ?_ (fun hH => ?_)
        · exact MK.out _ Q0
        have KQ := Q0
        refine wpAnyH_take (i := 0) (oi := { dst := some 54, op := Op.load 24 (Operand.tmp 6), type := 24, pos := "law.go:119", after := #[], guard := none }) (v := ?v0n1) rfl (by kernel_rfl) (by kernel_rfl) (by kernel_rfl) (fun _ _ _ h => h) (Or.inl ⟨by rfl, ?hy0n1⟩) hH ?r0n1
        case hy0n1 => (intro W hSw; (try dsimp only at hSw); go_simp; try (with_reducible rfl))
        try simp only [Act.put, List.setIfInBounds_toArray, List.set_cons_zero, List.set_cons_succ]
        refine wpAnyH_take (i := 2) (oi := { dst := some 56, op := Op.load 24 (Operand.tmp 7), type := 24, pos := "law.go:119", after := #[], guard := none }) (v := ?v2n2) rfl (by kernel_rfl) (by kernel_rfl) (by kernel_rfl) (fun _ _ _ h => h) (Or.inl ⟨by rfl, ?hy2n2⟩) hH ?r2n2
        case hy2n2 => (intro W hSw; (try dsimp only at hSw); go_simp; try (with_reducible rfl))
        try simp only [Act.put, List.setIfInBounds_toArray, List.set_cons_zero, List.set_cons_succ]
        refine wpAnyH_ready (rs := [1]) (by kernel_rfl) (by simp) ?_
        refine AllReadyH.cons (o := { dst := some 55, op := Op.call { callee := Callee.value (Operand.func 12), args := #[Operand.tmp 54], argTypes := #[24] }, type := 32, pos := "law.go:119", after := #[{ on := 0, ground := Ground.data }], guard := none }) rfl (fun K hKq => ?_) AllReadyH.nil
        go_simp
        refine (items_ok f (bl 0 k) _ (OF.out.kp KQ) (by rw [bl_len]; omega)).mono ?_
        rintro e y1 ⟨va, rfl, oi, kq⟩
        have sa := oi.sl
        clear oi
        refine hKq.out _ _ (MK.out _ (KQ.trans kq)) (fun hN => ?_)
        clear kq
        clear hKq K hH KQ
        have hH := hN
        clear hN
        have KQ := hH.2.2.out
        try simp only [Act.put, List.setIfInBounds_toArray, List.set_cons_zero, List.set_cons_succ]
        refine wpAnyH_ready (rs := [3]) (by kernel_rfl) (by simp) ?_
        refine AllReadyH.cons (o := { dst := some 57, op := Op.call { callee := Callee.value (Operand.func 12), args := #[Operand.tmp 56], argTypes := #[24] }, type := 32, pos := "law.go:119", after := #[{ on := 2, ground := Ground.data }, { on := 1, ground := Ground.chain }], guard := none }) rfl (fun K hKq => ?_) AllReadyH.nil
        go_simp
        refine (items_ok g (bl 0 k) _ (BG.out.og.kp KQ) (by rw [bl_len]; omega)).mono ?_
        rintro e y2 ⟨vb, rfl, oi, kq⟩
        have sa := sa.kp kq
        have sb := oi.sl
        clear oi
        refine hKq.out _ _ (MK.out _ (KQ.trans kq)) (fun hN => ?_)
        clear kq
        clear hKq K hH KQ
        have hH := hN
        clear hN
        have KQ := hH.2.2.out
        try simp only [Act.put, List.setIfInBounds_toArray, List.set_cons_zero, List.set_cons_succ]
        refine wpAnyH_ready (rs := [4]) (by kernel_rfl) (by simp) ?_
        refine AllReadyH.cons (o := { dst := some 58, op := Op.call { callee := Callee.value (Operand.func 18), args := #[Operand.tmp 55, Operand.tmp 57], argTypes := #[32, 32] }, type := 4, pos := "law.go:119", after := #[{ on := 1, ground := Ground.data }, { on := 3, ground := Ground.data }, { on := 3, ground := Ground.chain }], guard := none }) rfl (fun K hKq => ?_) AllReadyH.nil
        go_simp
        refine (same_any _ _ (bl 0 k) _ sa sb (bl_sm _ _) (by rw [bl_len]; omega)).mono ?_
        rintro e y3 ⟨rfl, kq⟩
        refine hKq.out _ _ (MK.out _ (KQ.trans kq)) (fun hN => ?_)
        clear kq
        clear hKq K hH KQ
        have hH := hN
        clear hN
        have KQ := hH.2.2.out
        try simp only [Act.put, List.setIfInBounds_toArray, List.set_cons_zero, List.set_cons_succ]
        refine wpAnyH_take (i := 5) (oi := { dst := some 59, op := Op.unOp UnOp.not 4 (Operand.tmp 58), type := 4, pos := "law.go:119", after := #[{ on := 4, ground := Ground.data }], guard := none }) (v := ?v5n3) rfl (by kernel_rfl) (by kernel_rfl) (by kernel_rfl) (fun _ _ _ h => h) (Or.inl ⟨by rfl, ?hy5n3⟩) hH ?r5n3
        case hy5n3 => (intro W hSw; (try dsimp only at hSw); go_simp; try (with_reducible rfl))
        try simp only [Act.put, List.setIfInBounds_toArray, List.set_cons_zero, List.set_cons_succ]
        refine wpAnyH_take (i := 6) (oi := { dst := some 60, op := Op.move (Operand.tmp 59), type := 4, pos := "law.go:119", after := #[{ on := 5, ground := Ground.data }, { on := 4, ground := Ground.chain }], guard := none }) (v := ?v6n4) rfl (by kernel_rfl) (by kernel_rfl) (by kernel_rfl) (fun _ _ _ h => h) (Or.inl ⟨by rfl, ?hy6n4⟩) hH ?r6n4
        case hy6n4 => (intro W hSw; (try dsimp only at hSw); go_simp; try (with_reducible rfl))
        try simp only [Act.put, List.setIfInBounds_toArray, List.set_cons_zero, List.set_cons_succ]
        refine wpAnyH_take (i := 7) (oi := { dst := some 61, op := Op.load 24 (Operand.tmp 6), type := 24, pos := "law.go:119", after := #[{ on := 6, ground := Ground.guard }], guard := some (6, false) }) (v := ?v7n5) rfl (by kernel_rfl) (by kernel_rfl) (by kernel_rfl) (fun _ _ _ h => h) (Or.inl ⟨by rfl, ?hy7n5⟩) hH ?r7n5
        case hy7n5 => (intro W hSw; (try dsimp only at hSw); go_simp; try (with_reducible rfl))
        try simp only [Act.put, List.setIfInBounds_toArray, List.set_cons_zero, List.set_cons_succ]
        refine wpAnyH_take (i := 9) (oi := { dst := some 63, op := Op.load 24 (Operand.tmp 7), type := 24, pos := "law.go:119", after := #[{ on := 6, ground := Ground.guard }], guard := some (6, false) }) (v := ?v9n6) rfl (by kernel_rfl) (by kernel_rfl) (by kernel_rfl) (fun _ _ _ h => h) (Or.inl ⟨by rfl, ?hy9n6⟩) hH ?r9n6
        case hy9n6 => (intro W hSw; (try dsimp only at hSw); go_simp; try (with_reducible rfl))
        try simp only [Act.put, List.setIfInBounds_toArray, List.set_cons_zero, List.set_cons_succ]
        refine wpAnyH_ready (rs := [8]) (by kernel_rfl) (by simp) ?_
        refine AllReadyH.cons (o := { dst := some 62, op := Op.call { callee := Callee.value (Operand.func 20), args := #[Operand.tmp 61], argTypes := #[24] }, type := 26, pos := "law.go:119", after := #[{ on := 7, ground := Ground.data }, { on := 6, ground := Ground.chain }, { on := 6, ground := Ground.guard }], guard := some (6, false) }) rfl (fun K hKq => ?_) AllReadyH.nil
        go_simp
        refine (mark_ok f _ _ (OF.out.kp KQ)).mono ?_
        rintro e y4 ⟨rfl, kq⟩
        rw [L1.out]
        refine hKq.out _ _ (MK.out _ (KQ.trans kq)) (fun hN => ?_)
        clear kq
        clear hKq K hH KQ
        have hH := hN
        clear hN
        have KQ := hH.2.2.out
        try simp only [Act.put, List.setIfInBounds_toArray, List.set_cons_zero, List.set_cons_succ]
        refine wpAnyH_ready (rs := [10]) (by kernel_rfl) (by simp) ?_
        refine AllReadyH.cons (o := { dst := some 64, op := Op.call { callee := Callee.value (Operand.func 20), args := #[Operand.tmp 63], argTypes := #[24] }, type := 26, pos := "law.go:119", after := #[{ on := 9, ground := Ground.data }, { on := 8, ground := Ground.chain }, { on := 6, ground := Ground.guard }], guard := some (6, false) }) rfl (fun K hKq => ?_) AllReadyH.nil
        go_simp
        refine (mark_ok g _ _ (BG.out.og.kp KQ)).mono ?_
        rintro e y5 ⟨rfl, kq⟩
        rw [L1.out]
        refine hKq.out _ _ (MK.out _ (KQ.trans kq)) (fun hN => ?_)
        clear kq
        clear hKq K hH KQ
        have hH := hN
        clear hN
        have KQ := hH.2.2.out
        try simp only [Act.put, List.setIfInBounds_toArray, List.set_cons_zero, List.set_cons_succ]
        refine wpAnyH_take (i := 11) (oi := { dst := some 65, op := Op.binOp BinOp.neq 26 (Operand.tmp 62) (Operand.tmp 64) 26, type := 4, pos := "law.go:119", after := #[{ on := 8, ground := Ground.data }, { on := 10, ground := Ground.data }, { on := 6, ground := Ground.guard }], guard := some (6, false) }) (v := ?v11n7) rfl (by kernel_rfl) (by kernel_rfl) (by kernel_rfl) (fun _ _ _ h => h) (Or.inl ⟨by rfl, ?hy11n7⟩) hH ?r11n7
        case hy11n7 => (intro W hSw; (try dsimp only at hSw); go_simp; try (with_reducible rfl))
        try simp only [Act.put, List.setIfInBounds_toArray, List.set_cons_zero, List.set_cons_succ]
        refine wpAnyH_take (i := 12) (oi := { dst := some 66, op := Op.pick (Operand.tmp 60) (Operand.const (Value.bool true)) (Operand.tmp 65), type := 4, pos := "law.go:119", after := #[{ on := 6, ground := Ground.data }, { on := 11, ground := Ground.data }], guard := none }) (v := ?v12n8) rfl (by kernel_rfl) (by kernel_rfl) (by kernel_rfl) (fun _ _ _ h => h) (Or.inl ⟨by rfl, ?hy12n8⟩) hH ?r12n8
        case hy12n8 => (intro W hSw; (try dsimp only at hSw); go_simp; try (with_reducible rfl))
        try simp only [Act.put, List.setIfInBounds_toArray, List.set_cons_zero, List.set_cons_succ]
        refine wpAnyH_done (by kernel_rfl) ?_ _
        refine NoPanic.normal ?_
        go_wp2_with fail
        go_meet
        case rel => exact ⟨rfl, KQ⟩
      case rest =>
        obtain ⟨rfl, k2⟩ := hcut
        rename World => w2
        have TW2 : Hid (Tw w w2 k 0 f g none) := ⟨BG.out.v6.kp k2, BG.out.v7.kp k2, BG.out.v8.kp k2, OF.out.kp k2, BG.out.og.kp k2, ⟨trivial, trivial, rfl⟩, BG.out.k.trans k2⟩
        clear k2 BG OF MK L1 EQN Q0
        go_wp2_with fail
        go_loopw [67] (fun x wr => ∃ (c : Nat) (t : Option T), c ≤ 3 ∧ x = .int .i64 (c : Int) ∧ Tw w wr k c f g t) (fun x _ => 3 - (intOf x).toNat)
        case atStart => exact ⟨0, none, by omega, rfl, TW2.out⟩
        case round =>
          obtain ⟨c, t, hc, rfl, tw⟩ := hrel
          rename World => w3
          clear TW2
          by_cases hc3 : c < 3
          · have hc3' : (c : Int) < 3 := by omega
            have LE : Hid ((rp (bl 0 k) c).length ≤ 7 * k) := by have := rp_le (bl 0 k) c hc; rw [bl_len] at this; exact this
            have TW : Hid (Tw w w3 k c f g t) := tw
            have c7 := tw.v7.cell
            have c8 := tw.v8.cell
            clear tw
            go_wp2_with fail
            obtain ⟨W4, hW4⟩ : ∃ W, w3.alloc (.cells #[.pointer (pO t), .pointer (pO g), .pointer (pO t)] 24) = W := ⟨_, rfl⟩
            rw [hW4]
            have M4 : Hid (W4.heap[w3.heap.size]? = some (.cells #[.pointer (pO t), .pointer (pO g), .pointer (pO t)] 24)) := by subst hW4; exact last_of _ _
            have K4 : Hid (Kp w3 W4) := by subst hW4; exact (Kp.refl _).alloc _
            clear hW4 c7 c8
            refine (join3_ok t g t (rp (bl 0 k) c) (bl 0 k) (rp (bl 0 k) c) _ _ M4.out (TW.out.ot.kp K4.out) (TW.out.og.kp K4.out) (TW.out.ot.kp K4.out) (by have := LE.out; rw [bl_len]; omega) (rp_sm _ (bl_sm _ _) _) (bl_sm _ _) (rp_sm _ (bl_sm _ _) _)).mono ?_
            rintro e w5 ⟨t', rfl, o5, k5⟩
            have T5 : Hid (Tw w w5 k c f g t) := TW.out.kp (K4.out.trans k5)
            have O5 : Hid (Ok w5 t' (rp (bl 0 k) c ++ bl 0 k ++ rp (bl 0 k) c)) := o5
            have c8 := T5.out.v8.cell
            have f8 := T5.out.v8.frozen
            clear o5 k5 M4 K4 TW LE
            go_wp2_with fail
            go_roundw
            case rel => exact ⟨c + 1, t', by omega, by go_num, T5.out.next O5.out⟩
            case measure => simp [intOf]; omega
          · obtain rfl : c = 3 := by omega
            have TW : Hid (Tw w w3 k 3 f g t) := tw
            clear tw
            have ib := wit_le j 0 ((k : Int) - 1) (by omega)
            obtain ⟨i, hi⟩ := Int.eq_ofNat_of_zero_le (show 0 ≤ wit j 0 ((k : Int) - 1) by omega)
            have hik : i < k := by omega
            have HI : Hid (wit j 0 ((k : Int) - 1) = (i : Int)) := hi
            have gw1 : IntKind.i64.wrap ((k : Int) - 1) = (k : Int) - 1 := by rw [IntKind.wrap_i64]; omega
            clear ib hi
            go_wp2_with fail
            refine (within_any j 0 ((k : Int) - 1) _ (by omega) (by omega) (by omega)).mono ?_
            rintro e w3 ⟨rfl, rfl⟩
            rw [HI.out]
            have LR : Hid ((rp (bl 0 k) 3).length = 7 * k) := by have := (rp_len (bl 0 k)).2.2.2; rw [bl_len] at this; exact this
            have A1 : Hid ((bl 0 k)[i]? = some (bit i)) := bl_at k i hik
            have A2 : Hid ((rp (bl 0 k) 3)[i + k]? = some (bit i)) := by have := rp_at (bl 0 k) i (by rw [bl_len]; exact hik); rw [bl_len] at this; exact this.trans A1.out
            have c7 := TW.out.v7.cell
            clear HI gw1
            go_wp2_with fail
            refine (at_bit g (bl 0 k) i i _ TW.out.og A1.out (by rw [bl_len]; omega)).mono ?_
            rintro e w4 ⟨f1, f2, rfl, k4⟩
            obtain ⟨W5, hW5⟩ : ∃ W, w4.alloc (.cells #[.int .i64 (i : Int), .complex .f64 f1 f2] 29) = W := ⟨_, rfl⟩
            have HW5 : Hid (w4.alloc (.cells #[.int .i64 (i : Int), .complex .f64 f1 f2] 29) = W5) := hW5
            have M5 : Hid (W5.heap[w4.heap.size]? = some (.cells #[.int .i64 (i : Int), .complex .f64 f1 f2] 29)) := by subst hW5; exact last_of _ _
            have T5 : Hid (Tw w W5 k 3 f g t) := by subst hW5; exact TW.out.kp (k4.alloc _)
            clear k4 TW c7 hW5
            go_upto_region 17 with fail
            rw [HW5.out]
            clear HW5
            have c8 := T5.out.v8.cell
            have gw2 : IntKind.i64.wrap ((i : Int) + (k : Int)) = ((i + k : Nat) : Int) := by rw [IntKind.wrap_i64]; omega
            go_wp2_with fail
            refine (at_bit t (rp (bl 0 k) 3) (i + k) i _ T5.out.ot A2.out (by rw [LR.out]; omega)).mono ?_
            rintro e w6 ⟨f3, f4, rfl, k6⟩
            obtain ⟨W7, hW7⟩ : ∃ W, w6.alloc (.cells #[.int .i64 (i : Int), .complex .f64 f3 f4] 29) = W := ⟨_, rfl⟩
            have HW7 : Hid (w6.alloc (.cells #[.int .i64 (i : Int), .complex .f64 f3 f4] 29) = W7) := hW7
            have M7 : Hid (W7.heap[w6.heap.size]? = some (.cells #[.int .i64 (i : Int), .complex .f64 f3 f4] 29)) := by subst hW7; exact last_of _ _
            have T7 : Hid (Tw w W7 k 3 f g t) := by subst hW7; exact T5.out.kp (k6.alloc _)
            have N7 : Hid (W7.heap[w4.heap.size]? = some (.cells #[.int .i64 (i : Int), .complex .f64 f1 f2] 29)) := by subst hW7; exact bl_kp M5.out (k6.alloc _)
            clear k6 T5 M5 c8 hW7 gw2 A1 A2
            go_upto_region 18 with fail
            rw [HW7.out]
            clear HW7
            have c7 := T7.out.v7.cell
            go_wp2_with fail
            refine (line_ok g (bl 0 k) (i : Int) _ T7.out.og (by rw [bl_len]; omega) (bl_sm _ _)).mono ?_
            rintro e w8 ⟨rfl, k8⟩
            obtain ⟨Y, eY⟩ : ∃ Y, lsum It.y ((bl 0 k).take i) = Y := ⟨_, rfl⟩
            have eM : mk ((bl 0 k).take i) = .complex .f64 (F ((i : Nat) : Int)) (F ((Y : Nat) : Int)) := by
              show cx _ _ = _
              rw [bl_take k i (by omega), eY]
            rw [bl_place k 0 i hik, eM]
            have T8 : Hid (Tw w w8 k 3 f g t) := T7.out.kp k8
            have M8 : Hid (w8.heap[w6.heap.size]? = some (.cells #[.int .i64 (i : Int), .complex .f64 f3 f4] 29)) := bl_kp M7.out k8
            have N8 : Hid (w8.heap[w4.heap.size]? = some (.cells #[.int .i64 (i : Int), .complex .f64 f1 f2] 29)) := bl_kp N7.out k8
            clear k8 T7 M7 N7 c7 eY eM
            have c8 := T8.out.v8.cell
            go_wp2_with fail
            refine (len_ok t (rp (bl 0 k) 3) _ T8.out.ot).mono ?_
            rintro e w9 ⟨rfl, k9⟩
            rw [LR.out]
            have T9 : Hid (Tw w w9 k 3 f g t) := T8.out.kp k9
            have M9 : Hid (w9.heap[w6.heap.size]? = some (.cells #[.int .i64 (i : Int), .complex .f64 f3 f4] 29)) := bl_kp M8.out k9
            have N9 : Hid (w9.heap[w4.heap.size]? = some (.cells #[.int .i64 (i : Int), .complex .f64 f1 f2] 29)) := bl_kp N8.out k9
            clear k9 T8 M8 N8 c8
            go_wp2_with fail
            go_loop [18, 19] (fun b m => ∃ j' m' : Nat, b = .int .i64 (j' : Int) ∧ m = .int .i64 (m' : Int) ∧ Half (7 * k) j' m') (fun _ m => (intOf m).toNat)
            case atStart => exact ⟨0, 7 * k, rfl, rfl, Half.start _⟩
            case round =>
              obtain ⟨j', m', rfl, rfl, hh⟩ := hrel
              have hcc := hh.c
              by_cases hm : 0 < m'
              · have HH : Hid (Half (7 * k) (j' + 1) (m' / 2)) := hh.step hm
                have hm' : (0 : Int) < (m' : Int) := by omega
                clear hh
                go_wp2_with fail
                go_round
                case rel => exact ⟨j' + 1, m' / 2, by go_num, by go_num, HH.out⟩
                case measure => simp [intOf]; omega
              · obtain rfl : m' = 0 := by omega
                have HB : Hid (7 * k < 2 ^ j') := hh.done
                clear hh
                obtain ⟨hf, eF⟩ : ∃ h, htO f = h := ⟨_, rfl⟩
                obtain ⟨ht, eT⟩ : ∃ h, htO t = h := ⟨_, rfl⟩
                have g1 : (hf : Int) ≤ 20 := by
                  have := htO_bits f T9.out.of.b 10 (by rw [T9.out.of.e, bl_len]; omega)
                  omega
                have g2 : (ht : Int) ≤ 2 * (j' : Int) := by
                  have := htO_bits t T9.out.ot.b j' (by rw [T9.out.ot.e, LR.out]; exact HB.out)
                  omega
                have gw3 : IntKind.i64.wrap (2 * (j' : Int)) = 2 * (j' : Int) := by rw [IntKind.wrap_i64]; omega
                have gw4 : IntKind.i64.wrap (7 * (k : Int)) = 7 * (k : Int) := by rw [IntKind.wrap_i64]; omega
                have HF : Hid (htO f = hf ∧ htO t = ht) := ⟨eF, eT⟩
                clear eF eT HB
                have c12 := bl_cell N9.out 0 _ rfl
                have c14 := bl_cell M9.out 0 _ rfl
                go_wp2_with fail
                refine (lines_any _ _ _ (small (by omega) (by omega))).mono ?_
                rintro e w9 ⟨rfl, rfl⟩
                have c8 := T9.out.v8.cell
                clear c12 c14 M9 N9
                go_wp2_with fail
                refine (len_ok t (rp (bl 0 k) 3) _ T9.out.ot).mono ?_
                rintro e wa ⟨rfl, ka⟩
                rw [LR.out]
                have Ta : Hid (Tw w wa k 3 f g t) := T9.out.kp ka
                have c7 := Ta.out.v7.cell
                clear ka T9 c8
                go_wp2_with fail
                refine (len_ok g (bl 0 k) _ Ta.out.og).mono ?_
                rintro e wb ⟨rfl, kb⟩
                rw [bl_len]
                have Tb : Hid (Tw w wb k 3 f g t) := Ta.out.kp kb
                have c6 := Tb.out.v6.cell
                clear kb Ta c7
                go_wp2_with fail
                refine (height_any f _ Tb.out.of.i).mono ?_
                rintro e wc ⟨rfl, kc⟩
                rw [HF.out.1]
                have Tc : Hid (Tw w wc k 3 f g t) := Tb.out.kp kc
                have c8 := Tc.out.v8.cell
                clear kc Tb c6
                go_wp2_with fail
                refine (height_any t _ Tc.out.ot.i).mono ?_
                rintro e wd ⟨rfl, kd⟩
                rw [HF.out.2]
                have Kd : Hid (Kp w wd) := Tc.out.k.trans kd
                clear kd Tc c8
                go_wp2_with fail
                refine (runs_any _).mono ?_
                rintro e we ⟨rfl, ke⟩
                have Ke : Hid (Kp w we) := Kd.out.trans ke
                clear ke Kd
                go_wp2_with fail
                go_ret
                exact ⟨rfl, Ke.out⟩
end Go.Proofs.Ytjphjnpcpbenlaa
