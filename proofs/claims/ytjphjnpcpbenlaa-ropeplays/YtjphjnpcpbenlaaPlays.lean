/-
  The law RopePlays.
-/
import Derived.Test.YtjphjnpcpbenlaaLooks
import Derived.Test.YtjphjnpcpbenlaaAppend
import Derived.Test.YtjphjnpcpbenlaaParts
import Derived.Test.YtjphjnpcpbenlaaSteps
import Derived.Deep.LoopGhost
namespace Go.Proofs.Ytjphjnpcpbenlaa
open Go.RowKit
attribute [local go_sem] run_store_complex

/-- Where the play stands: the rope and the elder one in their variables, their items, and the slices. -/
structure Pl (w wr : World) (ov wv : Value) (r el : Option T) (xs us es : List It) : Prop where
  vr : Vr wr w.heap.size r
  ve : Vr wr (w.heap.size + 1) el
  or : Ok wr r xs
  oe : Ok wr el es
  so : Own w.heap.size wr ov us
  se : Own w.heap.size wr wv es
  k : Kp w wr
theorem Pl.kp {w wr y : World} {ov wv : Value} {r el : Option T} {xs us es : List It} (h : Pl w wr ov wv r el xs us es) (ky : Kp wr y) : Pl w y ov wv r el xs us es := ⟨h.vr.kp ky, h.ve.kp ky, h.or.kp ky, h.oe.kp ky, h.so.kp ky, h.se.kp ky, h.k.trans ky⟩
theorem Pl.putR {w wr : World} {ov wv : Value} {r el t : Option T} {xs us es ys : List It} (h : Pl w wr ov wv r el xs us es) (o : Ok wr t ys) : Pl w (wr.setCell ⟨w.heap.size, 0, none⟩ (.pointer (pO t))) ov wv t el ys us es :=
  ⟨h.vr.put t, h.ve.set (show w.heap.size + 1 ≠ w.heap.size by omega) _, o.set h.vr _, h.oe.set h.vr _, h.so.set h.vr _, h.se.set h.vr _, h.k.setCell (Nat.le_refl _) _⟩
theorem Pl.putE {w wr : World} {ov wv : Value} {r el : Option T} {xs es : List It} (h : Pl w wr ov wv r el xs xs es) : Pl w (wr.setCell ⟨w.heap.size + 1, 0, none⟩ (.pointer (pO r))) ov ov r r xs xs xs :=
  ⟨h.vr.set (show w.heap.size ≠ w.heap.size + 1 by omega) _, h.ve.put r, h.or.set h.ve _, h.or.set h.ve _, h.so.set h.ve _, h.so.set h.ve _, h.k.setCell (show w.heap.size ≤ w.heap.size + 1 by omega) _⟩
theorem Pl.own {w wr y : World} {ov wv v : Value} {r el : Option T} {xs us es ys : List It} (h : Pl w wr ov wv r el xs us es) (g : Ga wr y v ys) : Pl w y v wv r el xs ys es :=
  ⟨h.vr.kp g.k, h.ve.kp g.k, h.or.kp g.k, h.oe.kp g.k, g.o.mono h.k.size, h.se.kp g.k, h.k.trans g.k⟩
/-- What the items are held to. -/
structure Sz (k : Nat) (xs es : List It) : Prop where
  sx : Sm xs
  sy : Sm es
  lx : xs.length ≤ 200 + 9 * k
  ly : es.length ≤ 200 + 9 * k
theorem Sz.up {k : Nat} {xs es : List It} (h : Sz k xs es) : Sz (k + 1) xs es := ⟨h.sx, h.sy, by have := h.lx; omega, by have := h.ly; omega⟩
theorem bl_setV {w : World} {B S : Nat} {cs : Array Value} {u : Option T} (h : w.heap[B]? = some (.cells cs 41)) (hS : Vr w S u) (v : Value) : (w.setCell ⟨S, 0, none⟩ v).heap[B]? = some (.cells cs 41) := bl_set h (bl_ne h hS (by decide)) v

/-- A slice cut ahead of a place, or behind it. -/
theorem Sl.cut {w : World} {ad : Option Addr} {n cp : Nat} {xs : List It} (h : Sl w (.slice ad n cp) xs) (p : Nat) (hp : p ≤ n) :
    (∃ V, (∀ w', (Instr.slice 32 (.slice ad n cp) none (some (.int .i64 (p : Int))) none).run Try.prog w' = .ok V w') ∧ Sl w V (xs.take p)) ∧
    (∃ V, (∀ w', (Instr.slice 32 (.slice ad n cp) (some (.int .i64 (p : Int))) none none).run Try.prog w' = .ok V w') ∧ Sl w V (xs.drop p)) := by
  have h0 : (0 : Int) ≤ (p : Int) := by omega
  have hz : ∀ w', (sizeOf (Try.prog.elem 32)).run Try.prog w' = .ok 2 w' := fun w' => by
    obtain ⟨i, hi, _, hs, _⟩ := info29
    have e : Try.prog.elem 32 = 29 := by kernel_rfl
    rw [e]; simp [sizeOf, typeInfo, hi, hs]
  have hu : Try.prog.underlying 32 = some (.slice (Try.prog.elem 32)) := by kernel_rfl
  rcases h with ⟨B, o, cap, e, hr, h1, h2⟩ | ⟨e, rfl⟩
  · injection e with e1 e2 e3
    subst e1 e2 e3
    refine ⟨⟨sliced (some ⟨B, o, none⟩) 0 p cp 2, fun w' => ?_, Or.inl ⟨B, o, cp, ?_, hr.take p, ?_, h2⟩⟩, ⟨sliced (some ⟨B, o, none⟩) p xs.length cp 2, fun w' => ?_, ?_⟩⟩
    · rw [run_slice_h w' 32 _ _ _ hu .i64 (p : Int) h0 (by omega), hz]; simp [Result.andThen]
    · have hl : (xs.take p).length = p := by rw [List.length_take]; omega
      rw [hl]; unfold sliced; split <;> simp [Addr.add]
    · rw [List.length_take]; omega
    · rw [run_slice_l w' 32 _ _ _ hu .i64 (p : Int) h0 (by omega), hz]; simp [Result.andThen]
    · have hl : (xs.drop p).length = xs.length - p := List.length_drop
      unfold sliced
      by_cases hc : cp = p
      · rw [if_pos hc]
        refine Or.inl ⟨B, o, cp - p, by rw [hl], ?_, by rw [hl]; omega, by omega⟩
        have : xs.drop p = [] := List.drop_eq_nil_of_le (by omega)
        rw [this]; intro j x hx; simp at hx
      · rw [if_neg hc]
        exact Or.inl ⟨B, o + p * 2, cp - p, by rw [hl]; simp [Addr.add], hr.drop p, by rw [hl]; omega, by omega⟩
  · injection e with e1 e2 e3
    subst e1 e2 e3
    obtain rfl : p = 0 := by omega
    refine ⟨⟨.slice none 0 0, fun w' => ?_, Or.inr ⟨rfl, rfl⟩⟩, ⟨.slice none 0 0, fun w' => ?_, Or.inr ⟨rfl, rfl⟩⟩⟩
    · rw [run_slice_h w' 32 _ _ _ hu .i64 ((0 : Nat) : Int) h0 (by omega), hz]; simp [Result.andThen, sliced]
    · rw [run_slice_l w' 32 _ _ _ hu .i64 ((0 : Nat) : Int) h0 (by omega), hz]; simp [Result.andThen, sliced]

set_option maxRecDepth 100000 in
set_option maxHeartbeats 8000000 in
theorem plays_walk (a0 : Option Addr) (len cap : Nat) (w : World)
    (HA : ∀ j, j < len → ∃ (b o : Nat) (x y z : Int), a0 = some ⟨b, o, none⟩ ∧ w.cell? ⟨b, o + j * 3, none⟩ = some (.int .i64 x) ∧ w.cell? ⟨b, o + j * 3 + 1, none⟩ = some (.int .i64 y) ∧ w.cell? ⟨b, o + j * 3 + 2, none⟩ = some (.int .i64 z)) :
    Calls Try.prog 4 #[.slice a0 len cap] w fun e w' => e = .returned (.bool true) ∧ Kp w w' := by
  have H : Hid (∀ j, j < len → ∃ (b o : Nat) (x y z : Int), a0 = some ⟨b, o, none⟩ ∧ w.cell? ⟨b, o + j * 3, none⟩ = some (.int .i64 x) ∧ w.cell? ⟨b, o + j * 3 + 1, none⟩ = some (.int .i64 y) ∧ w.cell? ⟨b, o + j * 3 + 2, none⟩ = some (.int .i64 z)) := HA
  clear HA
  go_enter Try.func4, Try.ntmps4
  go_wp2_with fail
  go_loopg [4, 6, 7, 8] 25 (fun g ov wv nx ix wr => ∃ (k nn : Nat) (r el : Option T) (xs es : List It), k + g = 25 ∧ ix = .int .i64 (k : Int) ∧ nx = .int .i64 (nn : Int) ∧ nn ≤ 9 * k ∧ Pl w wr ov wv r el xs xs es ∧ Sz k xs es)
  case atStart =>
    exact ⟨0, 0, none, none, [], [], rfl, rfl, rfl, by omega, ⟨bl_alloc (last_of _ _) _, last_at _ _ _ (by simp), ⟨trivial, trivial, rfl⟩, ⟨trivial, trivial, rfl⟩, Own.nil _ _, Own.nil _ _, ((Kp.refl _).alloc _).alloc _⟩, ⟨Sm.nil, Sm.nil, by simp, by simp⟩⟩
  case round =>
    obtain ⟨k, nn, r, el, xs, es, hk, rfl, rfl, hnn, pl, sz⟩ := hrel
    by_cases hl1 : k < len
    · by_cases hl2 : k < 25
      · have hl1' : (k : Int) < (len : Int) := by omega
        have hl2' : (k : Int) < 25 := by omega
        obtain ⟨b, o, x, y, z, e, c0, c1, c2⟩ := H.out k hl1
        subst e
        have c0 := (pl.k.cell (block_lt_of_cell c0)).trans c0
        have c1 := (pl.k.cell (block_lt_of_cell c1)).trans c1
        have c2 := (pl.k.cell (block_lt_of_cell c2)).trans c2
        have PL : Hid (Pl w wr u4 u6 r el xs xs es) := pl
        have SZ : Hid (Sz k xs es) := sz
        clear pl sz H
        go_upto_region 9 with fail
        obtain ⟨W1, hW1⟩ : ∃ W, wr.alloc (.cells #[.int .i64 x, .int .i64 y, .int .i64 z] 41) = W := ⟨_, rfl⟩
        rw [hW1]
        have R1 : Hid (W1.heap[wr.heap.size]? = some (.cells #[.int .i64 x, .int .i64 y, .int .i64 z] 41)) := by subst hW1; exact last_of _ _
        have P1 : Hid (Pl w W1 u4 u6 r el xs xs es) := by subst hW1; exact PL.out.kp ((Kp.refl _).alloc _)
        clear hW1 PL c0 c1 c2
        obtain ⟨Q, hQ⟩ : ∃ Q, wr.heap.size = Q := ⟨_, rfl⟩
        rw [hQ]
        rw [hQ] at R1
        clear hQ
        obtain ⟨ad, cp, hu⟩ := sl_shape P1.out.so.sl
        obtain ⟨n, hn⟩ : ∃ n, xs.length = n := ⟨_, rfl⟩
        rw [hn] at hu
        subst hu
        have HN : Hid (xs.length = n) := hn
        have hnb : n ≤ 200 + 9 * k := by have := SZ.out.lx; omega
        clear hn
        have c0 := bl_cell R1.out 0 _ rfl
        have c1 := bl_cell R1.out 1 _ rfl
        have c2 := bl_cell R1.out 2 _ rfl
        by_cases hx1 : x = 1
        · subst hx1
          obtain ⟨n9, hn9⟩ := Int.eq_ofNat_of_zero_le (wit_le y 0 9 (by omega)).1
          have n9b : n9 ≤ 9 := by have := (wit_le y 0 9 (by omega)).2; omega
          have H9 : Hid (wit y 0 9 = (n9 : Int)) := hn9
          clear hn9

          go_wp2_with fail
          clear c0 c1 c2
          go_loopg [10, 11, 7] n9 (fun g v kx nx wi => ∃ (kk mm : Nat) (ys : List It), kk + g = n9 ∧ kx = .int .i64 (kk : Int) ∧ nx = .int .i64 (mm : Int) ∧ mm = nn + kk ∧ Ga W1 wi v ys ∧ Sm ys ∧ ys.length = kk)
          case atStart => exact ⟨0, nn, [], by omega, rfl, rfl, rfl, ⟨Own.nil _ _, Kp.refl _⟩, Sm.nil, rfl⟩
          case round =>
            obtain ⟨kk, mm, ys, hkk, rfl, rfl, hmm, ga, sy, ly⟩ := hrel
            have GA : Hid (Ga W1 wr u10 ys) := ga
            have RI : Hid (wr.heap[Q]? = some (.cells #[.int .i64 1, .int .i64 y, .int .i64 z] 41)) := bl_kp R1.out ga.k
            have LY : Hid (ys.length = kk ∧ kk ≤ 9) := ⟨ly, by omega⟩
            have SY : Hid (Sm ys) := sy
            have c1 := bl_cell RI.out 1 _ rfl
            have c2 := bl_cell RI.out 2 _ rfl
            have HMM : Hid (mm = nn + kk) := hmm
            have hmb : mm ≤ 300 := by omega
            clear ga sy ly hmm
            by_cases hlt : kk < n9
            · have hlt' : (kk : Int) < (n9 : Int) := by omega
              obtain ⟨A1, hA1⟩ : ∃ a, IntKind.i64.wrap (z + (kk : Int)) = a := ⟨_, rfl⟩
              obtain ⟨A2, hA2⟩ : ∃ a, IntKind.i64.wrap (y + (kk : Int)) = a := ⟨_, rfl⟩
              obtain ⟨l1, hl1⟩ := Int.eq_ofNat_of_zero_le (wit_le A1 0 2 (by omega)).1
              have l1b : l1 ≤ 2 := by have := (wit_le A1 0 2 (by omega)).2; omega
              have HL1 : Hid (wit A1 0 2 = (l1 : Int)) := hl1
              clear hl1
              obtain ⟨l2, hl2⟩ := Int.eq_ofNat_of_zero_le (wit_le A2 0 50 (by omega)).1
              have l2b : l2 ≤ 50 := by have := (wit_le A2 0 50 (by omega)).2; omega
              have HL2 : Hid (wit A2 0 50 = (l2 : Int)) := hl2
              clear hl2
              go_wp2_with fail
              refine (within_any y 0 9 _ (by omega) (by omega) (by omega)).mono ?_
              rintro e wr ⟨rfl, rfl⟩
              rw [H9.out]
              have MK : Hid (∀ W, Kp W1 W → W.cell? ⟨Q, 1, none⟩ = some (.int .i64 y) ∧ W.cell? ⟨Q, 2, none⟩ = some (.int .i64 z) ∧ Hid (Kp W1 W)) := fun W k => ⟨bl_cell (bl_kp R1.out k) 1 _ rfl, bl_cell (bl_kp R1.out k) 2 _ rfl, k⟩
              go_wp2_with fail
              have Q0 : Kp W1 wr.drew := GA.out.k.drew
              refine wp_region_noPanic ?_
              refine wp_region_held_drew (S := (fun W => W.cell? ⟨Q, 1, none⟩ = some (.int .i64 y) ∧ W.cell? ⟨Q, 2, none⟩ = some (.int .i64 z) ∧ Hid (Kp W1 W))) (by kernel_rfl) ?_ (fun hH => ?_)
              · exact MK.out _ Q0
              have KQ := Q0
              refine wpAnyH_take (i := 0) (oi := { dst := some 53, op := Op.move (Operand.tmp 10), type := 32, pos := "law.go:35", after := #[], guard := none }) (v := ?v0j1) rfl (by kernel_rfl) (by kernel_rfl) (by kernel_rfl) (fun _ _ _ h => h) (Or.inl ⟨by rfl, ?hy0j1⟩) hH ?r0j1
              case hy0j1 => (intro W hSw; (try dsimp only at hSw); go_simp; try (with_reducible rfl))
              try simp only [Act.put, List.setIfInBounds_toArray, List.set_cons_zero, List.set_cons_succ]
              refine wpAnyH_take (i := 1) (oi := { dst := some 54, op := Op.move (Operand.tmp 7), type := 3, pos := "law.go:35", after := #[], guard := none }) (v := ?v1j2) rfl (by kernel_rfl) (by kernel_rfl) (by kernel_rfl) (fun _ _ _ h => h) (Or.inl ⟨by rfl, ?hy1j2⟩) hH ?r1j2
              case hy1j2 => (intro W hSw; (try dsimp only at hSw); go_simp; try (with_reducible rfl))
              try simp only [Act.put, List.setIfInBounds_toArray, List.set_cons_zero, List.set_cons_succ]
              refine wpAnyH_take (i := 2) (oi := { dst := some 55, op := Op.fieldAddr 41 (Operand.tmp 9) 2, type := 0, pos := "law.go:35", after := #[], guard := none }) (v := ?v2j3) rfl (by kernel_rfl) (by kernel_rfl) (by kernel_rfl) (fun _ _ _ h => h) (Or.inl ⟨by rfl, ?hy2j3⟩) hH ?r2j3
              case hy2j3 => (intro W hSw; (try dsimp only at hSw); go_simp; try (with_reducible rfl))
              try simp only [Act.put, List.setIfInBounds_toArray, List.set_cons_zero, List.set_cons_succ]
              refine wpAnyH_take (i := 3) (oi := { dst := some 56, op := Op.load 3 (Operand.tmp 55), type := 3, pos := "law.go:35", after := #[{ on := 2, ground := Ground.data }], guard := none }) (v := ?v3j4) rfl (by kernel_rfl) (by kernel_rfl) (by kernel_rfl) (fun _ _ _ h => h) (Or.inl ⟨by rfl, ?hy3j4⟩) hH ?r3j4
              case hy3j4 => (intro W hSw; (try dsimp only at hSw); go_simp; try (with_reducible rfl))
              try simp only [Act.put, List.setIfInBounds_toArray, List.set_cons_zero, List.set_cons_succ]
              refine wpAnyH_take (i := 4) (oi := { dst := some 57, op := Op.move (Operand.tmp 11), type := 3, pos := "law.go:35", after := #[], guard := none }) (v := ?v4j5) rfl (by kernel_rfl) (by kernel_rfl) (by kernel_rfl) (fun _ _ _ h => h) (Or.inl ⟨by rfl, ?hy4j5⟩) hH ?r4j5
              case hy4j5 => (intro W hSw; (try dsimp only at hSw); go_simp; try (with_reducible rfl))
              try simp only [Act.put, List.setIfInBounds_toArray, List.set_cons_zero, List.set_cons_succ]
              refine wpAnyH_take (i := 5) (oi := { dst := some 58, op := Op.binOp BinOp.add 3 (Operand.tmp 56) (Operand.tmp 57) 3, type := 3, pos := "law.go:35", after := #[{ on := 3, ground := Ground.data }, { on := 4, ground := Ground.data }], guard := none }) (v := ?v5j6) rfl (by kernel_rfl) (by kernel_rfl) (by kernel_rfl) (fun _ _ _ h => h) (Or.inl ⟨by rfl, ?hy5j6⟩) hH ?r5j6
              case hy5j6 => (intro W hSw; (try dsimp only at hSw); go_simp; try (with_reducible rfl))
              try simp only [Act.put, List.setIfInBounds_toArray, List.set_cons_zero, List.set_cons_succ]
              refine wpAnyH_take (i := 7) (oi := { dst := some 60, op := Op.fieldAddr 41 (Operand.tmp 9) 1, type := 0, pos := "law.go:35", after := #[], guard := none }) (v := ?v7j7) rfl (by kernel_rfl) (by kernel_rfl) (by kernel_rfl) (fun _ _ _ h => h) (Or.inl ⟨by rfl, ?hy7j7⟩) hH ?r7j7
              case hy7j7 => (intro W hSw; (try dsimp only at hSw); go_simp; try (with_reducible rfl))
              try simp only [Act.put, List.setIfInBounds_toArray, List.set_cons_zero, List.set_cons_succ]
              refine wpAnyH_take (i := 8) (oi := { dst := some 61, op := Op.load 3 (Operand.tmp 60), type := 3, pos := "law.go:35", after := #[{ on := 7, ground := Ground.data }], guard := none }) (v := ?v8j8) rfl (by kernel_rfl) (by kernel_rfl) (by kernel_rfl) (fun _ _ _ h => h) (Or.inl ⟨by rfl, ?hy8j8⟩) hH ?r8j8
              case hy8j8 => (intro W hSw; (try dsimp only at hSw); go_simp; try (with_reducible rfl))
              try simp only [Act.put, List.setIfInBounds_toArray, List.set_cons_zero, List.set_cons_succ]
              refine wpAnyH_take (i := 9) (oi := { dst := some 62, op := Op.move (Operand.tmp 11), type := 3, pos := "law.go:35", after := #[], guard := none }) (v := ?v9j9) rfl (by kernel_rfl) (by kernel_rfl) (by kernel_rfl) (fun _ _ _ h => h) (Or.inl ⟨by rfl, ?hy9j9⟩) hH ?r9j9
              case hy9j9 => (intro W hSw; (try dsimp only at hSw); go_simp; try (with_reducible rfl))
              try simp only [Act.put, List.setIfInBounds_toArray, List.set_cons_zero, List.set_cons_succ]
              refine wpAnyH_take (i := 10) (oi := { dst := some 63, op := Op.binOp BinOp.add 3 (Operand.tmp 61) (Operand.tmp 62) 3, type := 3, pos := "law.go:35", after := #[{ on := 8, ground := Ground.data }, { on := 9, ground := Ground.data }], guard := none }) (v := ?v10j10) rfl (by kernel_rfl) (by kernel_rfl) (by kernel_rfl) (fun _ _ _ h => h) (Or.inl ⟨by rfl, ?hy10j10⟩) hH ?r10j10
              case hy10j10 => (intro W hSw; (try dsimp only at hSw); go_simp; try (with_reducible rfl))
              try simp only [Act.put, List.setIfInBounds_toArray, List.set_cons_zero, List.set_cons_succ]
              refine wpAnyH_ready (rs := [6]) (by kernel_rfl) (by simp) ?_
              refine AllReadyH.cons (o := { dst := some 59, op := Op.call { callee := Callee.value (Operand.func 15), args := #[Operand.tmp 58, Operand.const (Value.int IntKind.i64 0), Operand.const (Value.int IntKind.i64 2)], argTypes := #[3, 3, 3] }, type := 3, pos := "law.go:35", after := #[{ on := 5, ground := Ground.data }], guard := none }) rfl (fun K hKq => ?_) AllReadyH.nil
              go_simp
              refine (within_any A1 0 2 _ (by omega) (by omega) (by omega)).mono ?_
              rintro e yy ⟨rfl, rfl⟩
              rw [HL1.out]
              refine hKq.out _ _ (MK.out _ KQ) (fun hN => ?_)
              clear hKq K hH KQ
              have hH := hN
              clear hN
              have KQ := hH.2.2.out
              try simp only [Act.put, List.setIfInBounds_toArray, List.set_cons_zero, List.set_cons_succ]
              refine wpAnyH_ready (rs := [11]) (by kernel_rfl) (by simp) ?_
              refine AllReadyH.cons (o := { dst := some 64, op := Op.call { callee := Callee.value (Operand.func 15), args := #[Operand.tmp 63, Operand.const (Value.int IntKind.i64 0), Operand.const (Value.int IntKind.i64 50)], argTypes := #[3, 3, 3] }, type := 3, pos := "law.go:35", after := #[{ on := 10, ground := Ground.data }, { on := 6, ground := Ground.chain }], guard := none }) rfl (fun K hKq => ?_) AllReadyH.nil
              go_simp
              refine (within_any A2 0 50 _ (by omega) (by omega) (by omega)).mono ?_
              rintro e yy ⟨rfl, rfl⟩
              rw [HL2.out]
              refine hKq.out _ _ (MK.out _ KQ) (fun hN => ?_)
              clear hKq K hH KQ
              have hH := hN
              clear hN
              have KQ := hH.2.2.out
              try simp only [Act.put, List.setIfInBounds_toArray, List.set_cons_zero, List.set_cons_succ]
              refine wpAnyH_ready (rs := [12]) (by kernel_rfl) (by simp) ?_
              refine AllReadyH.cons (o := { dst := some 65, op := Op.call { callee := Callee.value (Operand.func 9), args := #[Operand.tmp 59, Operand.tmp 64], argTypes := #[3, 3] }, type := 26, pos := "law.go:35", after := #[{ on := 6, ground := Ground.data }, { on := 11, ground := Ground.data }, { on := 11, ground := Ground.chain }], guard := none }) rfl (fun K hKq => ?_) AllReadyH.nil
              go_simp
              refine (of_any (l1 : Int) (l2 : Int) _).mono ?_
              rintro e yy ⟨rfl, rfl⟩
              refine hKq.out _ _ (MK.out _ KQ) (fun hN => ?_)
              clear hKq K hH KQ
              have hH := hN
              clear hN
              have KQ := hH.2.2.out
              try simp only [Act.put, List.setIfInBounds_toArray, List.set_cons_zero, List.set_cons_succ]
              refine wpAnyH_take (i := 13) (oi := { dst := some 66, op := Op.build 29 #[(0, Operand.tmp 54), (1, Operand.tmp 65)], type := 29, pos := "law.go:35", after := #[{ on := 1, ground := Ground.data }, { on := 12, ground := Ground.data }], guard := none }) (v := ?v13j11) rfl (by kernel_rfl) (by kernel_rfl) (by kernel_rfl) (fun _ _ _ h => h) (Or.inl ⟨by rfl, ?hy13j11⟩) hH ?r13j11
              case hy13j11 => (intro W hSw; (try dsimp only at hSw); go_simp; try (with_reducible rfl))
              try simp only [Act.put, List.setIfInBounds_toArray, List.set_cons_zero, List.set_cons_succ]
              refine wpAnyH_ready (rs := [14]) (by kernel_rfl) (by simp) ?_
              refine AllReadyH.cons (o := { dst := some 67, op := Op.buildSlice 32 1 #[(0, Operand.tmp 66)], type := 32, pos := "law.go:35", after := #[{ on := 13, ground := Ground.data }], guard := none }) rfl (fun K hKq => ?_) AllReadyH.nil
              go_simp
              refine hKq.out _ _ (MK.out _ (KQ.alloc _)) (fun hN => ?_)
              clear hKq K hH KQ
              have hH := hN
              clear hN
              have KQ := hH.2.2.out
              try simp only [Act.put, List.setIfInBounds_toArray, List.set_cons_zero, List.set_cons_succ]
              refine wpAnyH_ready (rs := [15]) (by kernel_rfl) (by simp) ?_
              refine AllReadyH.cons (o := { dst := some 68, op := Op.call { callee := Callee.builtin Builtin.append, args := #[Operand.tmp 53, Operand.tmp 67], argTypes := #[32, 32] }, type := 32, pos := "law.go:35", after := #[{ on := 0, ground := Ground.data }, { on := 14, ground := Ground.data }, { on := 12, ground := Ground.chain }], guard := none }) rfl (fun K hKq => ?_) AllReadyH.nil
              refine step_append_sl W1 _ (by rfl) _ _ (by rfl) _ _ ys [(⟨(mm : Int) + 1, l1, l2⟩ : It)] (by rfl) (by rfl) ?g16 ?s16 ?n16 ?_
              case g16 => exact GA.out.kp (((Kp.refl _).drew).alloc _)
              case s16 => exact Sl.block (last_drew _ _) (vals_one (⟨(mm : Int) + 1, l1, l2⟩ : It)).symm 1 1 rfl (by omega) (by omega)
              case n16 => have := LY.out; simp only [List.length_singleton]; omega
              intro v16 q16 g16
              refine hKq.out _ _ (MK.out _ g16.k) (fun hN => ?_)
              clear hKq K hH KQ
              have hH := hN
              clear hN
              have KQ := hH.2.2.out
              try simp only [Act.put, List.setIfInBounds_toArray, List.set_cons_zero, List.set_cons_succ]
              refine wpAnyH_take (i := 16) (oi := { dst := some 10, op := Op.assign (Operand.tmp 68), type := 32, pos := "law.go:35", after := #[{ on := 15, ground := Ground.data }, { on := 15, ground := Ground.chain }, { on := 0, ground := Ground.phase }, { on := 1, ground := Ground.phase }, { on := 2, ground := Ground.phase }, { on := 3, ground := Ground.phase }, { on := 4, ground := Ground.phase }, { on := 5, ground := Ground.phase }, { on := 6, ground := Ground.phase }, { on := 7, ground := Ground.phase }, { on := 8, ground := Ground.phase }, { on := 9, ground := Ground.phase }, { on := 10, ground := Ground.phase }, { on := 11, ground := Ground.phase }, { on := 12, ground := Ground.phase }, { on := 13, ground := Ground.phase }, { on := 14, ground := Ground.phase }, { on := 15, ground := Ground.phase }], guard := none }) (v := ?v16j12) rfl (by kernel_rfl) (by kernel_rfl) (by kernel_rfl) (fun _ _ _ h => h) (Or.inl ⟨by rfl, ?hy16j12⟩) hH ?r16j12
              case hy16j12 => (intro W hSw; (try dsimp only at hSw); go_simp; try (with_reducible rfl))
              try simp only [Act.put, List.setIfInBounds_toArray, List.set_cons_zero, List.set_cons_succ]
              refine wpAnyH_done (by kernel_rfl) ?_ _
              refine NoPanic.normal ?_
              have GB : Hid (Ga W1 q16 v16 (ys ++ [(⟨(mm : Int) + 1, l1, l2⟩ : It)])) := g16
              clear g16 GA RI
              go_wp2_with fail
              go_roundg (n9 - kk - 1)
              case measure => omega
              case rel => exact ⟨kk + 1, mm + 1, ys ++ [(⟨(mm : Int) + 1, l1, l2⟩ : It)], by omega, by go_num, by go_num, by have := HMM.out; omega, GB.out, SY.out.append (one_sm ⟨by show l1 ≤ 100; omega, by show l2 ≤ 100; omega⟩), by have := LY.out; simp only [List.length_append, List.length_singleton]; omega⟩
            · obtain rfl : kk = n9 := by omega
              go_wp2_with fail
              refine (within_any y 0 9 _ (by omega) (by omega) (by omega)).mono ?_
              rintro e wr ⟨rfl, rfl⟩
              rw [H9.out]
              have P2 : Hid (Pl w wr (.slice ad n cp) u6 r el xs xs es) := P1.out.kp GA.out.k
              have OI2 : Hid (Own w.heap.size wr u10 ys) := GA.out.o.mono P1.out.k.size
              clear P1 R1 GA
              obtain ⟨p, hp⟩ := Int.eq_ofNat_of_zero_le (wit_le z 0 (n : Int) (by omega)).1
              have pb : p ≤ n := by have := (wit_le z 0 (n : Int) (by omega)).2; omega
              have HP : Hid (wit z 0 (n : Int) = (p : Int)) := hp
              clear hp
              have LN : Hid (xs.length = n ∧ n ≤ 430 ∧ ys.length ≤ 9) := ⟨HN.out, by omega, by have := LY.out; omega⟩
              go_wp2_with fail
              refine (within_any z 0 (n : Int) _ (by omega) (by omega) (by omega)).mono ?_
              rintro e wr ⟨rfl, rfl⟩
              rw [HP.out]
              have v3 := P2.out.vr.cell
              go_wp2_with fail
              refine (split_ok r xs (p : Int) _ P2.out.or (by have := HN.out; omega) SZ.out.sx).mono ?_
              rintro e w3 ⟨a, b', rfl, oa, ob, k2⟩
              rw [show ((p : Int)).toNat = p by omega] at oa ob
              clear v3 c1 c2
              go_upto_region 19 with fail
              have OI3 : Hid (Own w.heap.size w3 u10 ys) := OI2.out.kp k2
              obtain ⟨W3, hW3⟩ : ∃ W, (w3.alloc (.cells #[.pointer (pO a)] 24)).alloc (.cells #[.pointer (pO b')] 24) = W := ⟨_, rfl⟩
              rw [hW3]
              have G3 : Hid (Vr W3 w3.heap.size a ∧ Vr W3 (w3.heap.size + 1) b' ∧ Ok W3 a (xs.take p) ∧ Ok W3 b' (xs.drop p) ∧ Kp w3 W3) := by
                subst hW3
                have ka : Kp w3 ((w3.alloc (.cells #[.pointer (pO a)] 24)).alloc (.cells #[.pointer (pO b')] 24)) := ((Kp.refl _).alloc _).alloc _
                exact ⟨bl_alloc (last_of _ _) _, last_at _ _ _ (by simp), oa.kp ka, ob.kp ka, ka⟩
              have P3 : Hid (Pl w W3 (.slice ad n cp) u6 r el xs xs es) := P2.out.kp (k2.trans G3.out.2.2.2.2)
              have R3 : Hid (W3.heap[Q]? = some (.cells #[.int .i64 1, .int .i64 y, .int .i64 z] 41)) := bl_kp RI.out (k2.trans G3.out.2.2.2.2)
              clear hW3 oa ob k2 P2 RI
              have OI : Hid (Own w.heap.size W3 u10 ys) := OI3.out.kp G3.out.2.2.2.2
              have SI : Hid (Sl W3 u10 ys) := OI.out.sl
              clear OI2 OI3
              have va := G3.out.1
              have vb := G3.out.2.1
              have MK : Hid (∀ W, Kp W3 W → W.cell? ⟨w3.heap.size, 0, none⟩ = some (.pointer (pO a)) ∧ W.cell? ⟨w3.heap.size + 1, 0, none⟩ = some (.pointer (pO b')) ∧ Hid (Kp W3 W)) := fun W k => ⟨(va.kp k).cell, (vb.kp k).cell, k⟩
              clear va vb
              have Q0 : Kp W3 W3.drew := (Kp.refl _).drew
              refine wp_region_noPanic ?_
              refine region_Z (z := 6) (S := (fun W => W.cell? ⟨w3.heap.size, 0, none⟩ = some (.pointer (pO a)) ∧ W.cell? ⟨w3.heap.size + 1, 0, none⟩ = some (.pointer (pO b')) ∧ Hid (Kp W3 W))) (by kernel_rfl) ?_ (fun hH => ?_)
              · exact MK.out _ Q0
              have KQ := Q0
              refine anyZ_take (z := 6) (ks := []) (i := 0) (oi := { dst := some 80, op := Op.load 24 (Operand.tmp 13), type := 24, pos := "law.go:39", after := #[], guard := none }) (v := ?v0i1) rfl (by kernel_rfl) (by kernel_rfl) (by kernel_rfl) (by kernel_rfl) (by kernel_rfl) (fun _ _ _ h => h) (Or.inl ⟨by rfl, ?hy0i1⟩) hH ?r0i1
              case hy0i1 => (intro W hSw; (try dsimp only at hSw); go_simp; try (with_reducible rfl))
              try simp only [Act.put, List.setIfInBounds_toArray, List.set_cons_zero, List.set_cons_succ]
              refine anyZ_take (z := 6) (ks := []) (i := 1) (oi := { dst := some 81, op := Op.move (Operand.tmp 10), type := 32, pos := "law.go:39", after := #[], guard := none }) (v := ?v1i2) rfl (by kernel_rfl) (by kernel_rfl) (by kernel_rfl) (by kernel_rfl) (by kernel_rfl) (fun _ _ _ h => h) (Or.inl ⟨by rfl, ?hy1i2⟩) hH ?r1i2
              case hy1i2 => (intro W hSw; (try dsimp only at hSw); go_simp; try (with_reducible rfl))
              try simp only [Act.put, List.setIfInBounds_toArray, List.set_cons_zero, List.set_cons_succ]
              refine anyZ_take (z := 6) (ks := []) (i := 3) (oi := { dst := some 83, op := Op.load 24 (Operand.tmp 14), type := 24, pos := "law.go:39", after := #[], guard := none }) (v := ?v3i3) rfl (by kernel_rfl) (by kernel_rfl) (by kernel_rfl) (by kernel_rfl) (by kernel_rfl) (fun _ _ _ h => h) (Or.inl ⟨by rfl, ?hy3i3⟩) hH ?r3i3
              case hy3i3 => (intro W hSw; (try dsimp only at hSw); go_simp; try (with_reducible rfl))
              try simp only [Act.put, List.setIfInBounds_toArray, List.set_cons_zero, List.set_cons_succ]
              refine anyZ_ready (rs := [2]) (by kernel_rfl) (by simp) ?_
              refine AllZ.cons (o := { dst := some 82, op := Op.call { callee := Callee.value (Operand.func 8), args := #[Operand.tmp 81], argTypes := #[32] }, type := 24, pos := "law.go:39", after := #[{ on := 1, ground := Ground.data }], guard := none }) rfl (fun K hKq => ?_) AllZ.nil
              go_simp
              refine (of_ok u10 ys _ (SI.out.kp KQ) (by have := LY.out; omega) SY.out).mono ?_
              rintro e y1 ⟨t1, rfl, ot, kq⟩
              refine hKq.out _ _ (MK.out _ (KQ.trans kq)) (fun hN => ?_)
              clear kq
              clear hKq K hH KQ
              have hH := hN
              clear hN
              have KQ := hH.2.2.out
              try simp only [Act.put, List.setIfInBounds_toArray, List.set_cons_zero, List.set_cons_succ]
              refine anyZ_ready (rs := [4]) (by kernel_rfl) (by simp) ?_
              refine AllZ.cons (o := { dst := some 84, op := Op.buildSlice 59 3 #[(0, Operand.tmp 80), (1, Operand.tmp 82), (2, Operand.tmp 83)], type := 59, pos := "law.go:39", after := #[{ on := 0, ground := Ground.data }, { on := 2, ground := Ground.data }, { on := 3, ground := Ground.data }], guard := none }) rfl (fun K hKq => ?_) AllZ.nil
              go_simp
              have KU := KQ
              refine hKq.out _ _ (MK.out _ (KQ.alloc _)) (fun hN => ?_)
              clear hKq K hH KQ
              have hH := hN
              clear hN
              have KQ := hH.2.2.out
              try simp only [Act.put, List.setIfInBounds_toArray, List.set_cons_zero, List.set_cons_succ]
              refine anyZ_ready (rs := [5]) (by kernel_rfl) (by simp) ?_
              refine AllZ.cons (o := { dst := some 85, op := Op.call { callee := Callee.value (Operand.func 11), args := #[Operand.tmp 84], argTypes := #[59] }, type := 24, pos := "law.go:39", after := #[{ on := 4, ground := Ground.data }, { on := 2, ground := Ground.chain }], guard := none }) rfl (fun K hKq => ?_) AllZ.nil
              go_simp
              refine (join3_ok a t1 b' (xs.take p) ys (xs.drop p) _ _ (last_of _ _) (G3.out.2.2.1.kp KQ) (ot.kp ((Kp.refl _).alloc _)) (G3.out.2.2.2.1.kp KQ) (by have := LY.out; have := HN.out; simp only [List.length_take, List.length_drop]; omega) (SZ.out.sx.sub (fun x hx => List.mem_of_mem_take hx)) SY.out (SZ.out.sx.sub (fun x hx => List.mem_of_mem_drop hx))).mono ?_
              rintro e y5 ⟨t, rfl, o5, kq⟩
              have K5 : Kp W3 y5 := KQ.trans kq
              have v3 := (P3.out.vr.kp K5).cell
              have f3 := (P3.out.vr.kp K5).frozen
              refine hKq.out _ _ (MK.out _ K5) (fun hN => ?_)
              clear kq
              clear hKq K hH KQ
              have hH := hN
              clear hN
              have KQ := hH.2.2.out
              try simp only [Act.put, List.setIfInBounds_toArray, List.set_cons_zero, List.set_cons_succ]
              refine anyZ_ready (rs := [6]) (by kernel_rfl) (by simp) ?_
              refine AllZ.last (o := { dst := none, op := Op.store 24 (Operand.tmp 3) (Operand.tmp 85), type := 0, pos := "law.go:39", after := #[{ on := 5, ground := Ground.data }, { on := 5, ground := Ground.chain }, { on := 0, ground := Ground.phase }, { on := 1, ground := Ground.phase }, { on := 2, ground := Ground.phase }, { on := 3, ground := Ground.phase }, { on := 4, ground := Ground.phase }, { on := 5, ground := Ground.phase }], guard := none }) rfl (Or.inl rfl) (fun K hKq => ?_) AllZ.nil
              go_simp
              refine hKq.out _ _ ?_
              clear hKq K
              try simp only [Act.put, List.setIfInBounds_toArray, List.set_cons_zero, List.set_cons_succ]
              refine anyZ_done (by kernel_rfl) ?_ _
              refine NoPanic.normal ?_
              have Oj : Hid (Ok y5 t (xs.take p ++ ys ++ xs.drop p)) := o5
              have K6 : Hid (Kp W3 y5) := K5
              clear o5 ot KU
              go_upto_region 20 with fail
              obtain ⟨W5, hW5⟩ : ∃ W, y5.setCell ⟨w.heap.size, 0, none⟩ (.pointer (pO t)) = W := ⟨_, rfl⟩
              rw [hW5]
              have P5 : Hid (Pl w W5 (.slice ad n cp) u6 t el (xs.take p ++ ys ++ xs.drop p) xs es) := by subst hW5; exact (P3.out.kp K6.out).putR Oj.out
              have R5 : Hid (W5.heap[Q]? = some (.cells #[.int .i64 1, .int .i64 y, .int .i64 z] 41)) := by subst hW5; exact bl_setV (bl_kp R3.out K6.out) (P3.out.vr.kp K6.out) _
              have SI5 : Hid (Sl W5 u10 ys) := by subst hW5; exact ((OI.out.kp K6.out).set (P3.out.vr.kp K6.out) _).sl
              have SVi : Hid (∀ W, Kp W5 W → Sl W u10 ys) := fun W k => SI5.out.kp k
              clear hW5 P3 R3 Oj K6 v3 f3 SI5 G3 SI OI MK Q0 K5
              have SE : Hid (Sz (k + 1) (xs.take p ++ ys ++ xs.drop p) es) := ⟨Sm.append (Sm.append (SZ.out.sx.sub (fun x hx => List.mem_of_mem_take hx)) SY.out) (SZ.out.sx.sub (fun x hx => List.mem_of_mem_drop hx)), SZ.out.sy, by have := HN.out; have := LY.out; simp only [List.length_append, List.length_take, List.length_drop]; omega, by have := SZ.out.ly; omega⟩
              obtain ⟨⟨Va, ra, sva⟩, ⟨Vb, rb, svb⟩⟩ := Sl.cut P5.out.so.sl p (by omega)
              have SVa : Hid (∀ W, Kp W5 W → Sl W Va (xs.take p)) := fun W k => sva.kp k
              have SVb : Hid (∀ W, Kp W5 W → Sl W Vb (xs.drop p)) := fun W k => svb.kp k
              clear sva svb
              have Q0 : Kp W5 W5.drew := (Kp.refl _).drew
              have MK : Hid (∀ W, Kp W5 W → Hid (Kp W5 W)) := fun W k => k
              refine wp_region_noPanic ?_
              refine wp_region_held_drew (S := (fun W => Hid (Kp W5 W))) (by kernel_rfl) ?_ (fun hH => ?_)
              · exact MK.out _ Q0
              have KQ := Q0
              refine wpAnyH_take (i := 1) (oi := { dst := some 87, op := Op.move (Operand.tmp 4), type := 32, pos := "law.go:40", after := #[], guard := none }) (v := ?v1o1) rfl (by kernel_rfl) (by kernel_rfl) (by kernel_rfl) (fun _ _ _ h => h) (Or.inl ⟨by rfl, ?hy1o1⟩) hH ?r1o1
              case hy1o1 => (intro W hSw; (try dsimp only at hSw); go_simp; try (with_reducible rfl))
              try simp only [Act.put, List.setIfInBounds_toArray, List.set_cons_zero, List.set_cons_succ]
              refine wpAnyH_take (i := 2) (oi := { dst := some 88, op := Op.move (Operand.tmp 12), type := 3, pos := "law.go:40", after := #[], guard := none }) (v := ?v2o2) rfl (by kernel_rfl) (by kernel_rfl) (by kernel_rfl) (fun _ _ _ h => h) (Or.inl ⟨by rfl, ?hy2o2⟩) hH ?r2o2
              case hy2o2 => (intro W hSw; (try dsimp only at hSw); go_simp; try (with_reducible rfl))
              try simp only [Act.put, List.setIfInBounds_toArray, List.set_cons_zero, List.set_cons_succ]
              refine wpAnyH_take (i := 3) (oi := { dst := some 89, op := Op.slice 32 (Operand.tmp 87) none (some (Operand.tmp 88)) none, type := 32, pos := "law.go:40", after := #[{ on := 1, ground := Ground.data }, { on := 2, ground := Ground.data }], guard := none }) (v := ?v3o3) rfl (by kernel_rfl) (by kernel_rfl) (by kernel_rfl) (fun _ _ _ h => h) (Or.inl ⟨by rfl, ?hy3o3⟩) hH ?r3o3
              case hy3o3 => (intro W hSw; (try dsimp only at hSw); go_simp; try (with_reducible rfl))
              try simp only [Act.put, List.setIfInBounds_toArray, List.set_cons_zero, List.set_cons_succ]
              refine wpAnyH_take (i := 5) (oi := { dst := some 91, op := Op.move (Operand.tmp 10), type := 32, pos := "law.go:40", after := #[], guard := none }) (v := ?v5o4) rfl (by kernel_rfl) (by kernel_rfl) (by kernel_rfl) (fun _ _ _ h => h) (Or.inl ⟨by rfl, ?hy5o4⟩) hH ?r5o4
              case hy5o4 => (intro W hSw; (try dsimp only at hSw); go_simp; try (with_reducible rfl))
              try simp only [Act.put, List.setIfInBounds_toArray, List.set_cons_zero, List.set_cons_succ]
              refine wpAnyH_take (i := 7) (oi := { dst := some 93, op := Op.move (Operand.tmp 4), type := 32, pos := "law.go:40", after := #[], guard := none }) (v := ?v7o5) rfl (by kernel_rfl) (by kernel_rfl) (by kernel_rfl) (fun _ _ _ h => h) (Or.inl ⟨by rfl, ?hy7o5⟩) hH ?r7o5
              case hy7o5 => (intro W hSw; (try dsimp only at hSw); go_simp; try (with_reducible rfl))
              try simp only [Act.put, List.setIfInBounds_toArray, List.set_cons_zero, List.set_cons_succ]
              refine wpAnyH_take (i := 8) (oi := { dst := some 94, op := Op.move (Operand.tmp 12), type := 3, pos := "law.go:40", after := #[], guard := none }) (v := ?v8o6) rfl (by kernel_rfl) (by kernel_rfl) (by kernel_rfl) (fun _ _ _ h => h) (Or.inl ⟨by rfl, ?hy8o6⟩) hH ?r8o6
              case hy8o6 => (intro W hSw; (try dsimp only at hSw); go_simp; try (with_reducible rfl))
              try simp only [Act.put, List.setIfInBounds_toArray, List.set_cons_zero, List.set_cons_succ]
              refine wpAnyH_take (i := 9) (oi := { dst := some 95, op := Op.slice 32 (Operand.tmp 93) (some (Operand.tmp 94)) none none, type := 32, pos := "law.go:40", after := #[{ on := 7, ground := Ground.data }, { on := 8, ground := Ground.data }], guard := none }) (v := ?v9o7) rfl (by kernel_rfl) (by kernel_rfl) (by kernel_rfl) (fun _ _ _ h => h) (Or.inl ⟨by rfl, ?hy9o7⟩) hH ?r9o7
              case hy9o7 => (intro W hSw; (try dsimp only at hSw); go_simp; try (with_reducible rfl))
              try simp only [Act.put, List.setIfInBounds_toArray, List.set_cons_zero, List.set_cons_succ]
              refine wpAnyH_ready (rs := [0]) (by kernel_rfl) (by simp) ?_
              refine AllReadyH.cons (o := { dst := some 86, op := Op.buildSlice 32 0 #[], type := 32, pos := "law.go:40", after := #[], guard := none }) rfl (fun K hKq => ?_) AllReadyH.nil
              go_simp
              have KB := KQ
              refine hKq.out _ _ (MK.out _ (KQ.alloc _)) (fun hN => ?_)
              clear hKq K hH KQ
              have hH := hN
              clear hN
              have KQ := hH.out
              try simp only [Act.put, List.setIfInBounds_toArray, List.set_cons_zero, List.set_cons_succ]
              refine wpAnyH_ready (rs := [4]) (by kernel_rfl) (by simp) ?_
              refine AllReadyH.cons (o := { dst := some 90, op := Op.call { callee := Callee.builtin Builtin.append, args := #[Operand.tmp 86, Operand.tmp 89], argTypes := #[32, 32] }, type := 32, pos := "law.go:40", after := #[{ on := 0, ground := Ground.data }, { on := 3, ground := Ground.data }], guard := none }) rfl (fun K hKq => ?_) AllReadyH.nil
              refine step_append_sl W5.drew _ (by rfl) _ _ (by rfl) _ _ [] (xs.take p) (by rfl) (by rfl) ?g10 ?s10 ?n10 ?_
              case g10 => exact Ga.made _
              case s10 => exact SVa.out _ KQ
              case n10 => have := LN.out; simp only [List.length_nil, List.length_take]; omega
              intro vo0 qo0 go0
              refine hKq.out _ _ (MK.out _ (KB.trans go0.k)) (fun hN => ?_)
              clear hKq K hH KQ
              have hH := hN
              clear hN
              have KQ := hH.out
              try simp only [Act.put, List.setIfInBounds_toArray, List.set_cons_zero, List.set_cons_succ]
              refine wpAnyH_ready (rs := [6]) (by kernel_rfl) (by simp) ?_
              refine AllReadyH.cons (o := { dst := some 92, op := Op.call { callee := Callee.builtin Builtin.append, args := #[Operand.tmp 90, Operand.tmp 91], argTypes := #[32, 32] }, type := 32, pos := "law.go:40", after := #[{ on := 4, ground := Ground.data }, { on := 5, ground := Ground.data }, { on := 4, ground := Ground.chain }], guard := none }) rfl (fun K hKq => ?_) AllReadyH.nil
              refine step_append_sl W5.drew _ (by rfl) _ _ (by rfl) _ _ ([] ++ xs.take p) (ys) (by rfl) (by rfl) go0 ?s11 ?n11 ?_
              case s11 => exact SVi.out _ KQ
              case n11 => have := LN.out; simp only [List.length_nil, List.length_append, List.length_take]; omega
              intro vo1 qo1 go1
              refine hKq.out _ _ (MK.out _ (KB.trans go1.k)) (fun hN => ?_)
              clear hKq K hH KQ
              have hH := hN
              clear hN
              have KQ := hH.out
              try simp only [Act.put, List.setIfInBounds_toArray, List.set_cons_zero, List.set_cons_succ]
              refine wpAnyH_ready (rs := [10]) (by kernel_rfl) (by simp) ?_
              refine AllReadyH.cons (o := { dst := some 96, op := Op.call { callee := Callee.builtin Builtin.append, args := #[Operand.tmp 92, Operand.tmp 95], argTypes := #[32, 32] }, type := 32, pos := "law.go:40", after := #[{ on := 6, ground := Ground.data }, { on := 9, ground := Ground.data }, { on := 6, ground := Ground.chain }], guard := none }) rfl (fun K hKq => ?_) AllReadyH.nil
              refine step_append_sl W5.drew _ (by rfl) _ _ (by rfl) _ _ ([] ++ xs.take p ++ ys) (xs.drop p) (by rfl) (by rfl) go1 ?s12 ?n12 ?_
              case s12 => exact SVb.out _ KQ
              case n12 => have := LN.out; simp only [List.length_nil, List.length_append, List.length_take, List.length_drop]; omega
              intro vo2 qo2 go2
              refine hKq.out _ _ (MK.out _ (KB.trans go2.k)) (fun hN => ?_)
              clear hKq K hH KQ
              have hH := hN
              clear hN
              have KQ := hH.out
              try simp only [Act.put, List.setIfInBounds_toArray, List.set_cons_zero, List.set_cons_succ]
              refine wpAnyH_take (i := 11) (oi := { dst := some 4, op := Op.assign (Operand.tmp 96), type := 32, pos := "law.go:40", after := #[{ on := 10, ground := Ground.data }, { on := 10, ground := Ground.chain }, { on := 0, ground := Ground.phase }, { on := 1, ground := Ground.phase }, { on := 2, ground := Ground.phase }, { on := 3, ground := Ground.phase }, { on := 4, ground := Ground.phase }, { on := 5, ground := Ground.phase }, { on := 6, ground := Ground.phase }, { on := 7, ground := Ground.phase }, { on := 8, ground := Ground.phase }, { on := 9, ground := Ground.phase }, { on := 10, ground := Ground.phase }], guard := none }) (v := ?v11o8) rfl (by kernel_rfl) (by kernel_rfl) (by kernel_rfl) (fun _ _ _ h => h) (Or.inl ⟨by rfl, ?hy11o8⟩) hH ?r11o8
              case hy11o8 => (intro W hSw; (try dsimp only at hSw); go_simp; try (with_reducible rfl))
              try simp only [Act.put, List.setIfInBounds_toArray, List.set_cons_zero, List.set_cons_succ]
              refine wpAnyH_done (by kernel_rfl) ?_ _
              refine NoPanic.normal ?_
              have PE : Hid (Pl w qo2 vo2 u6 t el (xs.take p ++ ys ++ xs.drop p) (xs.take p ++ ys ++ xs.drop p) es) := by have := (P5.out.kp Q0).own go2; rw [List.nil_append] at this; exact this
              have RE : Hid (qo2.heap[Q]? = some (.cells #[.int .i64 1, .int .i64 y, .int .i64 z] 41)) := bl_kp R5.out (KB.trans go2.k)
              clear go0 go1 go2 KB KQ hH MK Q0 P5 R5 SVa SVb SVi ra rb
              have v3 := PE.out.vr.cell
              have q1 := bl_cell RE.out 1 _ rfl
              go_wp2_with fail
              refine (looks_any t (xs.take p ++ ys ++ xs.drop p) _ y _ PE.out.or PE.out.so.sl SE.out.sx (by have := SE.out.lx; omega)).mono ?_
              rintro e wF ⟨rfl, kF⟩
              have PF : Hid (Pl w wF _ _ t el (xs.take p ++ ys ++ xs.drop p) (xs.take p ++ ys ++ xs.drop p) (es)) := PE.out.kp kF
              have RF := bl_kp RE.out kF
              have v5 := PF.out.ve.cell
              have q2 := bl_cell RF 2 _ rfl
              clear v3 q1 kF PE RE RF
              go_wp2_with fail
              refine (looks_any el (es) _ z _ PF.out.oe PF.out.se.sl SE.out.sy (by have := SE.out.ly; omega)).mono ?_
              rintro e wG ⟨rfl, kG⟩
              have PG : Hid (Pl w wG _ _ t el (xs.take p ++ ys ++ xs.drop p) (xs.take p ++ ys ++ xs.drop p) (es)) := PF.out.kp kG
              clear v5 q2 kG PF
              go_wp2_with fail
              go_roundg (24 - k)
              case measure => omega
              case rel => exact ⟨k + 1, mm, t, el, xs.take p ++ ys ++ xs.drop p, es, by omega, by go_num, rfl, by have := HMM.out; omega, PG.out, SE.out⟩
        · by_cases hx2 : x = 2
          · subst hx2
            have cb : clp y 0 (n : Int) = ((min y.toNat n : Nat) : Int) := by unfold clp; split <;> (try split) <;> omega
            obtain ⟨p, hp⟩ : ∃ p, min y.toNat n = p := ⟨_, rfl⟩
            rw [hp] at cb
            have hpn : p ≤ n := by omega
            have CB : Hid (clp y 0 (n : Int) = (p : Int)) := cb
            have TK : Hid (xs.take y.toNat = xs.take p ∧ xs.drop y.toNat = xs.drop p) := by
              have := HN.out
              by_cases h : y.toNat ≤ n
              · rw [show p = y.toNat by omega]; exact ⟨rfl, rfl⟩
              · rw [show p = n by omega, List.take_of_length_le (by omega), List.drop_eq_nil_of_le (by omega), List.take_of_length_le (by omega), List.drop_eq_nil_of_le (by omega)]; exact ⟨rfl, rfl⟩
            have LN : Hid (xs.length = n ∧ n ≤ 430) := ⟨HN.out, by omega⟩
            clear cb hp
            go_wp2_with fail
            refine (clamp_any y 0 (n : Int) _).mono ?_
            rintro e W1 ⟨rfl, rfl⟩
            rw [CB.out]
            have v3 := P1.out.vr.cell
            go_wp2_with fail
            refine (split_ok r xs y _ P1.out.or (by have := HN.out; omega) SZ.out.sx).mono ?_
            rintro e w2 ⟨a, b', rfl, oa, ob, k2⟩
            rw [TK.out.1] at oa
            rw [TK.out.2] at ob
            clear v3 c0 c1 c2
            go_upto_region 24 with fail
            obtain ⟨W2, hW2⟩ : ∃ W, (w2.alloc (.cells #[.pointer (pO a)] 24)).alloc (.cells #[.pointer (pO b')] 24) = W := ⟨_, rfl⟩
            rw [hW2]
            have G2 : Hid (Vr W2 w2.heap.size a ∧ Vr W2 (w2.heap.size + 1) b' ∧ Ok W2 a (xs.take p) ∧ Ok W2 b' (xs.drop p) ∧ Kp w2 W2) := by
              subst hW2
              have ka : Kp w2 ((w2.alloc (.cells #[.pointer (pO a)] 24)).alloc (.cells #[.pointer (pO b')] 24)) := ((Kp.refl _).alloc _).alloc _
              exact ⟨bl_alloc (last_of _ _) _, last_at _ _ _ (by simp), oa.kp ka, ob.kp ka, ka⟩
            have P2 : Hid (Pl w W2 (.slice ad n cp) u6 r el xs xs es) := P1.out.kp (k2.trans G2.out.2.2.2.2)
            have R2 : Hid (W2.heap[Q]? = some (.cells #[.int .i64 2, .int .i64 y, .int .i64 z] 41)) := bl_kp R1.out (k2.trans G2.out.2.2.2.2)
            clear hW2 oa ob k2 P1 R1

            have va := G2.out.1.cell
            have gw : IntKind.i64.wrap ((n : Int) - (p : Int)) = ((n - p : Nat) : Int) := by rw [IntKind.wrap_i64]; omega
            go_wp2_with fail
            refine (len_ok a (xs.take p) _ G2.out.2.2.1).mono ?_
            rintro e w3 ⟨rfl, k3⟩
            rw [show (xs.take p).length = p by have := HN.out; rw [List.length_take]; omega]
            have P3 : Hid (Pl w w3 (.slice ad n cp) u6 r el xs xs es) := P2.out.kp k3
            have R3 : Hid (w3.heap[Q]? = some (.cells #[.int .i64 2, .int .i64 y, .int .i64 z] 41)) := bl_kp R2.out k3
            have G3 : Hid (Vr w3 w2.heap.size a ∧ Vr w3 (w2.heap.size + 1) b' ∧ Ok w3 a (xs.take p) ∧ Ok w3 b' (xs.drop p)) := ⟨G2.out.1.kp k3, G2.out.2.1.kp k3, G2.out.2.2.1.kp k3, G2.out.2.2.2.1.kp k3⟩
            clear va G2 P2 R2 k3
            have vb := G3.out.2.1.cell
            go_wp2_with fail
            refine (len_ok b' (xs.drop p) _ G3.out.2.2.2).mono ?_
            rintro e w4 ⟨rfl, k4⟩
            rw [show (xs.drop p).length = n - p by have := HN.out; rw [List.length_drop]; omega]
            have P4 : Hid (Pl w w4 (.slice ad n cp) u6 r el xs xs es) := P3.out.kp k4
            have R4 : Hid (w4.heap[Q]? = some (.cells #[.int .i64 2, .int .i64 y, .int .i64 z] 41)) := bl_kp R3.out k4
            have G4 : Hid (Vr w4 w2.heap.size a ∧ Vr w4 (w2.heap.size + 1) b' ∧ Ok w4 a (xs.take p) ∧ Ok w4 b' (xs.drop p)) := ⟨G3.out.1.kp k4, G3.out.2.1.kp k4, G3.out.2.2.1.kp k4, G3.out.2.2.2.kp k4⟩
            clear vb G3 P3 R3 k4
            have va := G4.out.1.cell
            have vb := G4.out.2.1.cell
            go_wp2_with fail
            obtain ⟨Wj, hWj⟩ : ∃ W, w4.alloc (.cells #[.pointer (pO b'), .pointer (pO a)] 24) = W := ⟨_, rfl⟩
            rw [hWj]
            have Mj : Hid (Wj.heap[w4.heap.size]? = some (.cells #[.pointer (pO b'), .pointer (pO a)] 24)) := by subst hWj; exact last_of _ _
            have Kj : Hid (Kp w4 Wj) := by subst hWj; exact (Kp.refl _).alloc _
            clear hWj
            refine (join2_ok b' a (xs.drop p) (xs.take p) _ _ Mj.out (G4.out.2.2.2.kp Kj.out) (G4.out.2.2.1.kp Kj.out) (by have := HN.out; simp only [List.length_take, List.length_drop]; omega) (SZ.out.sx.sub (fun x hx => List.mem_of_mem_drop hx)) (SZ.out.sx.sub (fun x hx => List.mem_of_mem_take hx))).mono ?_
            rintro e wj ⟨t, rfl, oj, kj⟩
            have Pj : Hid (Pl w wj (.slice ad n cp) u6 r el xs xs es) := P4.out.kp (Kj.out.trans kj)
            have Rj : Hid (wj.heap[Q]? = some (.cells #[.int .i64 2, .int .i64 y, .int .i64 z] 41)) := bl_kp (bl_kp R4.out Kj.out) kj
            have Oj : Hid (Ok wj t (xs.drop p ++ xs.take p)) := oj
            clear oj kj Kj Mj P4 R4 va vb G4 gw
            have v3 := Pj.out.vr.cell
            have f3 := Pj.out.vr.frozen
            go_upto_region 27 with fail
            obtain ⟨W5, hW5⟩ : ∃ W, wj.setCell ⟨w.heap.size, 0, none⟩ (.pointer (pO t)) = W := ⟨_, rfl⟩
            rw [hW5]
            have P5 : Hid (Pl w W5 (.slice ad n cp) u6 t el (xs.drop p ++ xs.take p) xs es) := by subst hW5; exact Pj.out.putR Oj.out
            have R5 : Hid (W5.heap[Q]? = some (.cells #[.int .i64 2, .int .i64 y, .int .i64 z] 41)) := by subst hW5; exact bl_setV Rj.out Pj.out.vr _
            clear hW5 Pj Rj Oj v3 f3

            have SE : Hid (Sz (k + 1) (xs.drop p ++ xs.take p) es) := ⟨Sm.append (SZ.out.sx.sub (fun x hx => List.mem_of_mem_drop hx)) (SZ.out.sx.sub (fun x hx => List.mem_of_mem_take hx)), SZ.out.sy, by have := HN.out; simp only [List.length_append, List.length_take, List.length_drop]; omega, by have := SZ.out.ly; omega⟩
            obtain ⟨⟨Va, ra, sva⟩, ⟨Vb, rb, svb⟩⟩ := Sl.cut P5.out.so.sl p (by omega)
            have SVa : Hid (∀ W, Kp W5 W → Sl W Va (xs.take p)) := fun W k => sva.kp k
            have SVb : Hid (∀ W, Kp W5 W → Sl W Vb (xs.drop p)) := fun W k => svb.kp k
            clear sva svb
            have Q0 : Kp W5 W5.drew := (Kp.refl _).drew
            have MK : Hid (∀ W, Kp W5 W → Hid (Kp W5 W)) := fun W k => k
            refine wp_region_noPanic ?_
            refine wp_region_held_drew (S := (fun W => Hid (Kp W5 W))) (by kernel_rfl) ?_ (fun hH => ?_)
            · exact MK.out _ Q0
            have KQ := Q0
            refine wpAnyH_take (i := 1) (oi := { dst := some 129, op := Op.move (Operand.tmp 4), type := 32, pos := "law.go:48", after := #[], guard := none }) (v := ?v1m1) rfl (by kernel_rfl) (by kernel_rfl) (by kernel_rfl) (fun _ _ _ h => h) (Or.inl ⟨by rfl, ?hy1m1⟩) hH ?r1m1
            case hy1m1 => (intro W hSw; (try dsimp only at hSw); go_simp; try (with_reducible rfl))
            try simp only [Act.put, List.setIfInBounds_toArray, List.set_cons_zero, List.set_cons_succ]
            refine wpAnyH_take (i := 2) (oi := { dst := some 130, op := Op.move (Operand.tmp 15), type := 3, pos := "law.go:48", after := #[], guard := none }) (v := ?v2m2) rfl (by kernel_rfl) (by kernel_rfl) (by kernel_rfl) (fun _ _ _ h => h) (Or.inl ⟨by rfl, ?hy2m2⟩) hH ?r2m2
            case hy2m2 => (intro W hSw; (try dsimp only at hSw); go_simp; try (with_reducible rfl))
            try simp only [Act.put, List.setIfInBounds_toArray, List.set_cons_zero, List.set_cons_succ]
            refine wpAnyH_take (i := 3) (oi := { dst := some 131, op := Op.slice 32 (Operand.tmp 129) (some (Operand.tmp 130)) none none, type := 32, pos := "law.go:48", after := #[{ on := 1, ground := Ground.data }, { on := 2, ground := Ground.data }], guard := none }) (v := ?v3m3) rfl (by kernel_rfl) (by kernel_rfl) (by kernel_rfl) (fun _ _ _ h => h) (Or.inl ⟨by rfl, ?hy3m3⟩) hH ?r3m3
            case hy3m3 => (intro W hSw; (try dsimp only at hSw); go_simp; try (with_reducible rfl))
            try simp only [Act.put, List.setIfInBounds_toArray, List.set_cons_zero, List.set_cons_succ]
            refine wpAnyH_take (i := 5) (oi := { dst := some 133, op := Op.move (Operand.tmp 4), type := 32, pos := "law.go:48", after := #[], guard := none }) (v := ?v5m4) rfl (by kernel_rfl) (by kernel_rfl) (by kernel_rfl) (fun _ _ _ h => h) (Or.inl ⟨by rfl, ?hy5m4⟩) hH ?r5m4
            case hy5m4 => (intro W hSw; (try dsimp only at hSw); go_simp; try (with_reducible rfl))
            try simp only [Act.put, List.setIfInBounds_toArray, List.set_cons_zero, List.set_cons_succ]
            refine wpAnyH_take (i := 6) (oi := { dst := some 134, op := Op.move (Operand.tmp 15), type := 3, pos := "law.go:48", after := #[], guard := none }) (v := ?v6m5) rfl (by kernel_rfl) (by kernel_rfl) (by kernel_rfl) (fun _ _ _ h => h) (Or.inl ⟨by rfl, ?hy6m5⟩) hH ?r6m5
            case hy6m5 => (intro W hSw; (try dsimp only at hSw); go_simp; try (with_reducible rfl))
            try simp only [Act.put, List.setIfInBounds_toArray, List.set_cons_zero, List.set_cons_succ]
            refine wpAnyH_take (i := 7) (oi := { dst := some 135, op := Op.slice 32 (Operand.tmp 133) none (some (Operand.tmp 134)) none, type := 32, pos := "law.go:48", after := #[{ on := 5, ground := Ground.data }, { on := 6, ground := Ground.data }], guard := none }) (v := ?v7m6) rfl (by kernel_rfl) (by kernel_rfl) (by kernel_rfl) (fun _ _ _ h => h) (Or.inl ⟨by rfl, ?hy7m6⟩) hH ?r7m6
            case hy7m6 => (intro W hSw; (try dsimp only at hSw); go_simp; try (with_reducible rfl))
            try simp only [Act.put, List.setIfInBounds_toArray, List.set_cons_zero, List.set_cons_succ]
            refine wpAnyH_ready (rs := [0]) (by kernel_rfl) (by simp) ?_
            refine AllReadyH.cons (o := { dst := some 128, op := Op.buildSlice 32 0 #[], type := 32, pos := "law.go:48", after := #[], guard := none }) rfl (fun K hKq => ?_) AllReadyH.nil
            go_simp
            have KB := KQ
            refine hKq.out _ _ (MK.out _ (KQ.alloc _)) (fun hN => ?_)
            clear hKq K hH KQ
            have hH := hN
            clear hN
            have KQ := hH.out
            try simp only [Act.put, List.setIfInBounds_toArray, List.set_cons_zero, List.set_cons_succ]
            refine wpAnyH_ready (rs := [4]) (by kernel_rfl) (by simp) ?_
            refine AllReadyH.cons (o := { dst := some 132, op := Op.call { callee := Callee.builtin Builtin.append, args := #[Operand.tmp 128, Operand.tmp 131], argTypes := #[32, 32] }, type := 32, pos := "law.go:48", after := #[{ on := 0, ground := Ground.data }, { on := 3, ground := Ground.data }], guard := none }) rfl (fun K hKq => ?_) AllReadyH.nil
            refine step_append_sl W5.drew _ (by rfl) _ _ (by rfl) _ _ [] (xs.drop p) (by rfl) (by rfl) ?g1 ?s1 ?n1 ?_
            case g1 => exact Ga.made _
            case s1 => exact SVb.out _ KQ
            case n1 => have := LN.out; simp only [List.length_nil, List.length_drop]; omega
            intro vm0 qm0 gm0
            refine hKq.out _ _ (MK.out _ (KB.trans gm0.k)) (fun hN => ?_)
            clear hKq K hH KQ
            have hH := hN
            clear hN
            have KQ := hH.out
            try simp only [Act.put, List.setIfInBounds_toArray, List.set_cons_zero, List.set_cons_succ]
            refine wpAnyH_ready (rs := [8]) (by kernel_rfl) (by simp) ?_
            refine AllReadyH.cons (o := { dst := some 136, op := Op.call { callee := Callee.builtin Builtin.append, args := #[Operand.tmp 132, Operand.tmp 135], argTypes := #[32, 32] }, type := 32, pos := "law.go:48", after := #[{ on := 4, ground := Ground.data }, { on := 7, ground := Ground.data }, { on := 4, ground := Ground.chain }], guard := none }) rfl (fun K hKq => ?_) AllReadyH.nil
            refine step_append_sl W5.drew _ (by rfl) _ _ (by rfl) _ _ ([] ++ xs.drop p) (xs.take p) (by rfl) (by rfl) gm0 ?s2 ?n2 ?_
            case s2 => exact SVa.out _ KQ
            case n2 => have := LN.out; simp only [List.length_nil, List.length_append, List.length_take, List.length_drop]; omega
            intro vm1 qm1 gm1
            refine hKq.out _ _ (MK.out _ (KB.trans gm1.k)) (fun hN => ?_)
            clear hKq K hH KQ
            have hH := hN
            clear hN
            have KQ := hH.out
            try simp only [Act.put, List.setIfInBounds_toArray, List.set_cons_zero, List.set_cons_succ]
            refine wpAnyH_take (i := 9) (oi := { dst := some 4, op := Op.assign (Operand.tmp 136), type := 32, pos := "law.go:48", after := #[{ on := 8, ground := Ground.data }, { on := 8, ground := Ground.chain }, { on := 0, ground := Ground.phase }, { on := 1, ground := Ground.phase }, { on := 2, ground := Ground.phase }, { on := 3, ground := Ground.phase }, { on := 4, ground := Ground.phase }, { on := 5, ground := Ground.phase }, { on := 6, ground := Ground.phase }, { on := 7, ground := Ground.phase }, { on := 8, ground := Ground.phase }], guard := none }) (v := ?v9m7) rfl (by kernel_rfl) (by kernel_rfl) (by kernel_rfl) (fun _ _ _ h => h) (Or.inl ⟨by rfl, ?hy9m7⟩) hH ?r9m7
            case hy9m7 => (intro W hSw; (try dsimp only at hSw); go_simp; try (with_reducible rfl))
            try simp only [Act.put, List.setIfInBounds_toArray, List.set_cons_zero, List.set_cons_succ]
            refine wpAnyH_done (by kernel_rfl) ?_ _
            refine NoPanic.normal ?_
            have PE : Hid (Pl w qm1 vm1 u6 t el (xs.drop p ++ xs.take p) (xs.drop p ++ xs.take p) es) := by have := (P5.out.kp Q0).own gm1; rw [List.nil_append] at this; exact this
            have RE : Hid (qm1.heap[Q]? = some (.cells #[.int .i64 2, .int .i64 y, .int .i64 z] 41)) := bl_kp R5.out (KB.trans gm1.k)
            clear gm0 gm1 KB KQ hH MK Q0 P5 R5 SVa SVb ra rb
            have v3 := PE.out.vr.cell
            have q1 := bl_cell RE.out 1 _ rfl
            go_wp2_with fail
            refine (looks_any t (xs.drop p ++ xs.take p) _ y _ PE.out.or PE.out.so.sl SE.out.sx (by have := SE.out.lx; omega)).mono ?_
            rintro e wF ⟨rfl, kF⟩
            have PF : Hid (Pl w wF _ _ t el (xs.drop p ++ xs.take p) (xs.drop p ++ xs.take p) (es)) := PE.out.kp kF
            have RF := bl_kp RE.out kF
            have v5 := PF.out.ve.cell
            have q2 := bl_cell RF 2 _ rfl
            clear v3 q1 kF PE RE RF
            go_wp2_with fail
            refine (looks_any el (es) _ z _ PF.out.oe PF.out.se.sl SE.out.sy (by have := SE.out.ly; omega)).mono ?_
            rintro e wG ⟨rfl, kG⟩
            have PG : Hid (Pl w wG _ _ t el (xs.drop p ++ xs.take p) (xs.drop p ++ xs.take p) (es)) := PF.out.kp kG
            clear v5 q2 kG PF
            go_wp2_with fail
            go_roundg (24 - k)
            case measure => omega
            case rel => exact ⟨k + 1, nn, t, el, xs.drop p ++ xs.take p, es, by omega, by go_num, rfl, by omega, PG.out, SE.out⟩
          · by_cases hx3 : x = 3
            · subst hx3
              have fb := wit_le y 0 (n : Int) (by omega)
              obtain ⟨f, hf⟩ := Int.eq_ofNat_of_zero_le fb.1
              have HF : Hid (wit y 0 (n : Int) = (f : Int)) := hf
              have hfn : f ≤ n := by omega
              have tb := wit_le z (f : Int) (n : Int) (by omega)
              obtain ⟨g, hg⟩ := Int.eq_ofNat_of_zero_le (show 0 ≤ wit z (f : Int) (n : Int) by omega)
              have HG : Hid (wit z (f : Int) (n : Int) = (g : Int)) := hg
              have hgn : g ≤ n := by omega
              have hfg : f ≤ g := by omega
              have LN : Hid (xs.length = n ∧ n ≤ 430) := ⟨HN.out, by omega⟩
              clear fb hf tb hg
              go_wp2_with fail
              refine (within_any y 0 (n : Int) _ (by omega) (by omega) (by omega)).mono ?_
              rintro e W1 ⟨rfl, rfl⟩
              rw [HF.out]
              go_wp2_with fail
              refine (within_any z (f : Int) (n : Int) _ (by omega) (by omega) (by omega)).mono ?_
              rintro e W1 ⟨rfl, rfl⟩
              rw [HG.out]
              have v3 := P1.out.vr.cell
              go_wp2_with fail
              refine (split_ok r xs (f : Int) _ P1.out.or (by have := HN.out; omega) SZ.out.sx).mono ?_
              rintro e w2 ⟨a, b', rfl, oa, ob, k2⟩
              rw [show ((f : Int)).toNat = f by omega] at oa ob
              clear v3 c0 c1 c2
              go_upto_region 32 with fail
              obtain ⟨W2, hW2⟩ : ∃ W, (w2.alloc (.cells #[.pointer (pO a)] 24)).alloc (.cells #[.pointer (pO b')] 24) = W := ⟨_, rfl⟩
              rw [hW2]
              have G2 : Hid (Vr W2 w2.heap.size a ∧ Vr W2 (w2.heap.size + 1) b' ∧ Ok W2 a (xs.take f) ∧ Ok W2 b' (xs.drop f) ∧ Kp w2 W2) := by
                subst hW2
                have ka : Kp w2 ((w2.alloc (.cells #[.pointer (pO a)] 24)).alloc (.cells #[.pointer (pO b')] 24)) := ((Kp.refl _).alloc _).alloc _
                exact ⟨bl_alloc (last_of _ _) _, last_at _ _ _ (by simp), oa.kp ka, ob.kp ka, ka⟩
              have P2 : Hid (Pl w W2 (.slice ad n cp) u6 r el xs xs es) := P1.out.kp (k2.trans G2.out.2.2.2.2)
              have R2 : Hid (W2.heap[Q]? = some (.cells #[.int .i64 3, .int .i64 y, .int .i64 z] 41)) := bl_kp R1.out (k2.trans G2.out.2.2.2.2)
              clear hW2 oa ob k2 P1 R1

              have vb := G2.out.2.1.cell
              have gw : IntKind.i64.wrap ((g : Int) - (f : Int)) = ((g - f : Nat) : Int) := by rw [IntKind.wrap_i64]; omega
              go_wp2_with fail
              refine (split_ok b' (xs.drop f) ((g - f : Nat) : Int) _ G2.out.2.2.2.1 (by have := HN.out; rw [List.length_drop]; omega) (SZ.out.sx.sub (fun x hx => List.mem_of_mem_drop hx))).mono ?_
              rintro e w3 ⟨c, d, rfl, oa, ob, k2⟩
              rw [show (((g - f : Nat) : Int)).toNat = g - f by omega, List.drop_drop, show f + (g - f) = g by omega] at ob
              rw [show (((g - f : Nat) : Int)).toNat = g - f by omega] at oa
              clear vb gw
              go_upto_region 33 with fail
              have G2' : Hid (Vr w3 w2.heap.size a ∧ Ok w3 a (xs.take f)) := ⟨G2.out.1.kp k2, G2.out.2.2.1.kp k2⟩
              obtain ⟨W3, hW3⟩ : ∃ W, (w3.alloc (.cells #[.pointer (pO c)] 24)).alloc (.cells #[.pointer (pO d)] 24) = W := ⟨_, rfl⟩
              rw [hW3]
              have G3 : Hid (Vr W3 w3.heap.size c ∧ Vr W3 (w3.heap.size + 1) d ∧ Ok W3 c ((xs.drop f).take (g - f)) ∧ Ok W3 d (xs.drop g) ∧ Kp w3 W3) := by
                subst hW3
                have ka : Kp w3 ((w3.alloc (.cells #[.pointer (pO c)] 24)).alloc (.cells #[.pointer (pO d)] 24)) := ((Kp.refl _).alloc _).alloc _
                exact ⟨bl_alloc (last_of _ _) _, last_at _ _ _ (by simp), oa.kp ka, ob.kp ka, ka⟩
              have P3 : Hid (Pl w W3 (.slice ad n cp) u6 r el xs xs es) := P2.out.kp (k2.trans G3.out.2.2.2.2)
              have R3 : Hid (W3.heap[Q]? = some (.cells #[.int .i64 3, .int .i64 y, .int .i64 z] 41)) := bl_kp R2.out (k2.trans G3.out.2.2.2.2)
              clear hW3 oa ob k2 P2 R2

              have va := (G2'.out.1.kp G3.out.2.2.2.2).cell
              have vb := G3.out.2.1.cell
              have OA : Hid (Ok W3 a (xs.take f)) := G2'.out.2.kp G3.out.2.2.2.2
              go_wp2_with fail
              obtain ⟨Wj, hWj⟩ : ∃ W, W3.alloc (.cells #[.pointer (pO a), .pointer (pO d)] 24) = W := ⟨_, rfl⟩
              rw [hWj]
              have Mj : Hid (Wj.heap[W3.heap.size]? = some (.cells #[.pointer (pO a), .pointer (pO d)] 24)) := by subst hWj; exact last_of _ _
              have Kj : Hid (Kp W3 Wj) := by subst hWj; exact (Kp.refl _).alloc _
              clear hWj
              refine (join2_ok a d (xs.take f) (xs.drop g) _ _ Mj.out (OA.out.kp Kj.out) (G3.out.2.2.2.1.kp Kj.out) (by have := HN.out; simp only [List.length_take, List.length_drop]; omega) (SZ.out.sx.sub (fun x hx => List.mem_of_mem_take hx)) (SZ.out.sx.sub (fun x hx => List.mem_of_mem_drop hx))).mono ?_
              rintro e wj ⟨t, rfl, oj, kj⟩
              have Pj : Hid (Pl w wj (.slice ad n cp) u6 r el xs xs es) := P3.out.kp (Kj.out.trans kj)
              have Rj : Hid (wj.heap[Q]? = some (.cells #[.int .i64 3, .int .i64 y, .int .i64 z] 41)) := bl_kp (bl_kp R3.out Kj.out) kj
              have Oj : Hid (Ok wj t (xs.take f ++ xs.drop g)) := oj
              clear oj kj Kj Mj P3 R3 va vb G2 G2' G3 OA
              have v3 := Pj.out.vr.cell
              have f3 := Pj.out.vr.frozen
              go_upto_region 34 with fail
              obtain ⟨W5, hW5⟩ : ∃ W, wj.setCell ⟨w.heap.size, 0, none⟩ (.pointer (pO t)) = W := ⟨_, rfl⟩
              rw [hW5]
              have P5 : Hid (Pl w W5 (.slice ad n cp) u6 t el (xs.take f ++ xs.drop g) xs es) := by subst hW5; exact Pj.out.putR Oj.out
              have R5 : Hid (W5.heap[Q]? = some (.cells #[.int .i64 3, .int .i64 y, .int .i64 z] 41)) := by subst hW5; exact bl_setV Rj.out Pj.out.vr _
              clear hW5 Pj Rj Oj v3 f3

              have SE : Hid (Sz (k + 1) (xs.take f ++ xs.drop g) es) := ⟨Sm.append (SZ.out.sx.sub (fun x hx => List.mem_of_mem_take hx)) (SZ.out.sx.sub (fun x hx => List.mem_of_mem_drop hx)), SZ.out.sy, by have := HN.out; simp only [List.length_append, List.length_take, List.length_drop]; omega, by have := SZ.out.ly; omega⟩
              obtain ⟨⟨Va, ra, sva⟩, ⟨Vb, rb, svb⟩⟩ := Sl.cut P5.out.so.sl f (by omega)
              have SVa : Hid (∀ W, Kp W5 W → Sl W Va (xs.take f)) := fun W k => sva.kp k
              clear sva svb rb
              obtain ⟨⟨Va2, ra, sva⟩, ⟨Vb, rb, svb⟩⟩ := Sl.cut P5.out.so.sl g (by omega)
              have SVb : Hid (∀ W, Kp W5 W → Sl W Vb (xs.drop g)) := fun W k => svb.kp k
              clear sva svb ra
              have Q0 : Kp W5 W5.drew := (Kp.refl _).drew
              have MK : Hid (∀ W, Kp W5 W → Hid (Kp W5 W)) := fun W k => k
              refine wp_region_noPanic ?_
              refine wp_region_held_drew (S := (fun W => Hid (Kp W5 W))) (by kernel_rfl) ?_ (fun hH => ?_)
              · exact MK.out _ Q0
              have KQ := Q0
              refine wpAnyH_take (i := 1) (oi := { dst := some 169, op := Op.move (Operand.tmp 4), type := 32, pos := "law.go:55", after := #[], guard := none }) (v := ?v1n1) rfl (by kernel_rfl) (by kernel_rfl) (by kernel_rfl) (fun _ _ _ h => h) (Or.inl ⟨by rfl, ?hy1n1⟩) hH ?r1n1
              case hy1n1 => (intro W hSw; (try dsimp only at hSw); go_simp; try (with_reducible rfl))
              try simp only [Act.put, List.setIfInBounds_toArray, List.set_cons_zero, List.set_cons_succ]
              refine wpAnyH_take (i := 2) (oi := { dst := some 170, op := Op.move (Operand.tmp 18), type := 3, pos := "law.go:55", after := #[], guard := none }) (v := ?v2n2) rfl (by kernel_rfl) (by kernel_rfl) (by kernel_rfl) (fun _ _ _ h => h) (Or.inl ⟨by rfl, ?hy2n2⟩) hH ?r2n2
              case hy2n2 => (intro W hSw; (try dsimp only at hSw); go_simp; try (with_reducible rfl))
              try simp only [Act.put, List.setIfInBounds_toArray, List.set_cons_zero, List.set_cons_succ]
              refine wpAnyH_take (i := 3) (oi := { dst := some 171, op := Op.slice 32 (Operand.tmp 169) none (some (Operand.tmp 170)) none, type := 32, pos := "law.go:55", after := #[{ on := 1, ground := Ground.data }, { on := 2, ground := Ground.data }], guard := none }) (v := ?v3n3) rfl (by kernel_rfl) (by kernel_rfl) (by kernel_rfl) (fun _ _ _ h => h) (Or.inl ⟨by rfl, ?hy3n3⟩) hH ?r3n3
              case hy3n3 => (intro W hSw; (try dsimp only at hSw); go_simp; try (with_reducible rfl))
              try simp only [Act.put, List.setIfInBounds_toArray, List.set_cons_zero, List.set_cons_succ]
              refine wpAnyH_take (i := 5) (oi := { dst := some 173, op := Op.move (Operand.tmp 4), type := 32, pos := "law.go:55", after := #[], guard := none }) (v := ?v5n4) rfl (by kernel_rfl) (by kernel_rfl) (by kernel_rfl) (fun _ _ _ h => h) (Or.inl ⟨by rfl, ?hy5n4⟩) hH ?r5n4
              case hy5n4 => (intro W hSw; (try dsimp only at hSw); go_simp; try (with_reducible rfl))
              try simp only [Act.put, List.setIfInBounds_toArray, List.set_cons_zero, List.set_cons_succ]
              refine wpAnyH_take (i := 6) (oi := { dst := some 174, op := Op.move (Operand.tmp 19), type := 3, pos := "law.go:55", after := #[], guard := none }) (v := ?v6n5) rfl (by kernel_rfl) (by kernel_rfl) (by kernel_rfl) (fun _ _ _ h => h) (Or.inl ⟨by rfl, ?hy6n5⟩) hH ?r6n5
              case hy6n5 => (intro W hSw; (try dsimp only at hSw); go_simp; try (with_reducible rfl))
              try simp only [Act.put, List.setIfInBounds_toArray, List.set_cons_zero, List.set_cons_succ]
              refine wpAnyH_take (i := 7) (oi := { dst := some 175, op := Op.slice 32 (Operand.tmp 173) (some (Operand.tmp 174)) none none, type := 32, pos := "law.go:55", after := #[{ on := 5, ground := Ground.data }, { on := 6, ground := Ground.data }], guard := none }) (v := ?v7n6) rfl (by kernel_rfl) (by kernel_rfl) (by kernel_rfl) (fun _ _ _ h => h) (Or.inl ⟨by rfl, ?hy7n6⟩) hH ?r7n6
              case hy7n6 => (intro W hSw; (try dsimp only at hSw); go_simp; try (with_reducible rfl))
              try simp only [Act.put, List.setIfInBounds_toArray, List.set_cons_zero, List.set_cons_succ]
              refine wpAnyH_ready (rs := [0]) (by kernel_rfl) (by simp) ?_
              refine AllReadyH.cons (o := { dst := some 168, op := Op.buildSlice 32 0 #[], type := 32, pos := "law.go:55", after := #[], guard := none }) rfl (fun K hKq => ?_) AllReadyH.nil
              go_simp
              have KB := KQ
              refine hKq.out _ _ (MK.out _ (KQ.alloc _)) (fun hN => ?_)
              clear hKq K hH KQ
              have hH := hN
              clear hN
              have KQ := hH.out
              try simp only [Act.put, List.setIfInBounds_toArray, List.set_cons_zero, List.set_cons_succ]
              refine wpAnyH_ready (rs := [4]) (by kernel_rfl) (by simp) ?_
              refine AllReadyH.cons (o := { dst := some 172, op := Op.call { callee := Callee.builtin Builtin.append, args := #[Operand.tmp 168, Operand.tmp 171], argTypes := #[32, 32] }, type := 32, pos := "law.go:55", after := #[{ on := 0, ground := Ground.data }, { on := 3, ground := Ground.data }], guard := none }) rfl (fun K hKq => ?_) AllReadyH.nil
              refine step_append_sl W5.drew _ (by rfl) _ _ (by rfl) _ _ [] (xs.take f) (by rfl) (by rfl) ?g3 ?s3 ?n3 ?_
              case g3 => exact Ga.made _
              case s3 => exact SVa.out _ KQ
              case n3 => have := LN.out; simp only [List.length_nil, List.length_take]; omega
              intro vn0 qn0 gn0
              refine hKq.out _ _ (MK.out _ (KB.trans gn0.k)) (fun hN => ?_)
              clear hKq K hH KQ
              have hH := hN
              clear hN
              have KQ := hH.out
              try simp only [Act.put, List.setIfInBounds_toArray, List.set_cons_zero, List.set_cons_succ]
              refine wpAnyH_ready (rs := [8]) (by kernel_rfl) (by simp) ?_
              refine AllReadyH.cons (o := { dst := some 176, op := Op.call { callee := Callee.builtin Builtin.append, args := #[Operand.tmp 172, Operand.tmp 175], argTypes := #[32, 32] }, type := 32, pos := "law.go:55", after := #[{ on := 4, ground := Ground.data }, { on := 7, ground := Ground.data }, { on := 4, ground := Ground.chain }], guard := none }) rfl (fun K hKq => ?_) AllReadyH.nil
              refine step_append_sl W5.drew _ (by rfl) _ _ (by rfl) _ _ ([] ++ xs.take f) (xs.drop g) (by rfl) (by rfl) gn0 ?s4 ?n4 ?_
              case s4 => exact SVb.out _ KQ
              case n4 => have := LN.out; simp only [List.length_nil, List.length_append, List.length_take, List.length_drop]; omega
              intro vn1 qn1 gn1
              refine hKq.out _ _ (MK.out _ (KB.trans gn1.k)) (fun hN => ?_)
              clear hKq K hH KQ
              have hH := hN
              clear hN
              have KQ := hH.out
              try simp only [Act.put, List.setIfInBounds_toArray, List.set_cons_zero, List.set_cons_succ]
              refine wpAnyH_take (i := 9) (oi := { dst := some 4, op := Op.assign (Operand.tmp 176), type := 32, pos := "law.go:55", after := #[{ on := 8, ground := Ground.data }, { on := 8, ground := Ground.chain }, { on := 0, ground := Ground.phase }, { on := 1, ground := Ground.phase }, { on := 2, ground := Ground.phase }, { on := 3, ground := Ground.phase }, { on := 4, ground := Ground.phase }, { on := 5, ground := Ground.phase }, { on := 6, ground := Ground.phase }, { on := 7, ground := Ground.phase }, { on := 8, ground := Ground.phase }], guard := none }) (v := ?v9n7) rfl (by kernel_rfl) (by kernel_rfl) (by kernel_rfl) (fun _ _ _ h => h) (Or.inl ⟨by rfl, ?hy9n7⟩) hH ?r9n7
              case hy9n7 => (intro W hSw; (try dsimp only at hSw); go_simp; try (with_reducible rfl))
              try simp only [Act.put, List.setIfInBounds_toArray, List.set_cons_zero, List.set_cons_succ]
              refine wpAnyH_done (by kernel_rfl) ?_ _
              refine NoPanic.normal ?_
              have PE : Hid (Pl w qn1 vn1 u6 t el (xs.take f ++ xs.drop g) (xs.take f ++ xs.drop g) es) := by have := (P5.out.kp Q0).own gn1; rw [List.nil_append] at this; exact this
              have RE : Hid (qn1.heap[Q]? = some (.cells #[.int .i64 3, .int .i64 y, .int .i64 z] 41)) := bl_kp R5.out (KB.trans gn1.k)
              clear gn0 gn1 KB KQ hH MK Q0 P5 R5 SVa SVb ra rb
              have v3 := PE.out.vr.cell
              have q1 := bl_cell RE.out 1 _ rfl
              go_wp2_with fail
              refine (looks_any t (xs.take f ++ xs.drop g) _ y _ PE.out.or PE.out.so.sl SE.out.sx (by have := SE.out.lx; omega)).mono ?_
              rintro e wF ⟨rfl, kF⟩
              have PF : Hid (Pl w wF _ _ t el (xs.take f ++ xs.drop g) (xs.take f ++ xs.drop g) (es)) := PE.out.kp kF
              have RF := bl_kp RE.out kF
              have v5 := PF.out.ve.cell
              have q2 := bl_cell RF 2 _ rfl
              clear v3 q1 kF PE RE RF
              go_wp2_with fail
              refine (looks_any el (es) _ z _ PF.out.oe PF.out.se.sl SE.out.sy (by have := SE.out.ly; omega)).mono ?_
              rintro e wG ⟨rfl, kG⟩
              have PG : Hid (Pl w wG _ _ t el (xs.take f ++ xs.drop g) (xs.take f ++ xs.drop g) (es)) := PF.out.kp kG
              clear v5 q2 kG PF
              go_wp2_with fail
              go_roundg (24 - k)
              case measure => omega
              case rel => exact ⟨k + 1, nn, t, el, xs.take f ++ xs.drop g, es, by omega, by go_num, rfl, by omega, PG.out, SE.out⟩
            · by_cases hx4 : x = 4
              · subst hx4
                by_cases hn100 : n < 100
                · have hn100' : (n : Int) < 100 := by omega
                  have v3 := P1.out.vr.cell
                  have v5 := P1.out.ve.cell
                  have f5 := P1.out.ve.frozen
                  go_upto_region 38 with fail
                  obtain ⟨W2, hW2⟩ : ∃ W, W1.setCell ⟨w.heap.size + 1, 0, none⟩ (.pointer (pO r)) = W := ⟨_, rfl⟩
                  rw [hW2]
                  have P2 : Hid (Pl w W2 (.slice ad n cp) (.slice ad n cp) r r xs xs xs) := by subst hW2; exact P1.out.putE
                  have R2 : Hid (W2.heap[Q]? = some (.cells #[.int .i64 4, .int .i64 y, .int .i64 z] 41)) := by subst hW2; exact bl_setV R1.out P1.out.ve _
                  clear hW2 P1 R1 v3 v5 f5 c0 c1 c2
                  have v3 := P2.out.vr.cell
                  go_wp2_with fail
                  obtain ⟨W3, hW3⟩ : ∃ W, W2.alloc (.cells #[.pointer (pO r), .pointer (pO r)] 24) = W := ⟨_, rfl⟩
                  rw [hW3]
                  have M3 : Hid (W3.heap[W2.heap.size]? = some (.cells #[.pointer (pO r), .pointer (pO r)] 24)) := by subst hW3; exact last_of _ _
                  have K3 : Hid (Kp W2 W3) := by subst hW3; exact (Kp.refl _).alloc _
                  clear hW3 v3
                  refine (join2_ok r r xs xs _ _ M3.out (P2.out.or.kp K3.out) (P2.out.or.kp K3.out) (by have := HN.out; omega) SZ.out.sx SZ.out.sx).mono ?_
                  rintro e w4 ⟨t, rfl, o4, k4⟩
                  have P4 : Hid (Pl w w4 (.slice ad n cp) (.slice ad n cp) r r xs xs xs) := P2.out.kp (K3.out.trans k4)
                  have R4 : Hid (w4.heap[Q]? = some (.cells #[.int .i64 4, .int .i64 y, .int .i64 z] 41)) := bl_kp (bl_kp R2.out K3.out) k4
                  have O4 : Hid (Ok w4 t (xs ++ xs)) := o4
                  have v3 := P4.out.vr.cell
                  have f3 := P4.out.vr.frozen
                  clear o4 k4 K3 M3 P2 R2
                  go_upto_region 39 with fail
                  obtain ⟨W5, hW5⟩ : ∃ W, w4.setCell ⟨w.heap.size, 0, none⟩ (.pointer (pO t)) = W := ⟨_, rfl⟩
                  rw [hW5]
                  have P5 : Hid (Pl w W5 (.slice ad n cp) (.slice ad n cp) t r (xs ++ xs) xs xs) := by subst hW5; exact P4.out.putR O4.out
                  have R5 : Hid (W5.heap[Q]? = some (.cells #[.int .i64 4, .int .i64 y, .int .i64 z] 41)) := by subst hW5; exact bl_setV R4.out P4.out.vr _
                  clear hW5 P4 R4 O4 v3 f3
                  have GM : Hid (Ga W5 (W5.alloc (.cells #[] 29)) (.slice (some ⟨W5.heap.size, 0, none⟩) 0 0) []) := Ga.made W5
                  have SB : Hid (Sl (W5.alloc (.cells #[] 29)) (.slice ad n cp) xs) := P5.out.so.sl.kp ((Kp.refl _).alloc _)
                  go_wp2_with (at_builtin; go_must (refine wpList_append_sl W5 _ (by rfl) _ _ (by rfl) _ _ [] xs (by rfl) (by rfl) GM SB ?h1 ?_))
                  case h1 => have := HN.out; simp only [List.length_nil]; omega
                  intro v1 q1 g1
                  have SB2 : Hid (Sl q1 (.slice ad n cp) xs) := P5.out.so.sl.kp g1.out.k
                  go_wp2_with (at_builtin; go_must (refine wpList_append_sl W5 _ (by rfl) _ _ (by rfl) _ _ ([] ++ xs) xs (by rfl) (by rfl) g1 SB2 ?h1 ?_))
                  case h1 => have := HN.out; simp only [List.length_append, List.length_nil]; omega
                  intro v2 q2 g2
                  have PE : Hid (Pl w q2 v2 (.slice ad n cp) t r (xs ++ xs) (xs ++ xs) xs) := by have := P5.out.own g2.out; show Pl _ _ _ _ _ _ _ _ _; simpa using this
                  have RE : Hid (q2.heap[Q]? = some (.cells #[.int .i64 4, .int .i64 y, .int .i64 z] 41)) := bl_kp R5.out g2.out.k
                  have SE : Hid (Sz (k + 1) (xs ++ xs) xs) := ⟨SZ.out.sx.append SZ.out.sx, SZ.out.sx, by have := HN.out; rw [List.length_append]; omega, by have := HN.out; omega⟩
                  clear GM SB g1 SB2 g2 P5 R5
                  have v3 := PE.out.vr.cell
                  have q1 := bl_cell RE.out 1 _ rfl
                  go_wp2_with fail
                  refine (looks_any t (xs ++ xs) _ y _ PE.out.or PE.out.so.sl SE.out.sx (by have := SE.out.lx; omega)).mono ?_
                  rintro e wF ⟨rfl, kF⟩
                  have PF : Hid (Pl w wF _ _ t r (xs ++ xs) (xs ++ xs) (xs)) := PE.out.kp kF
                  have RF := bl_kp RE.out kF
                  have v5 := PF.out.ve.cell
                  have q2 := bl_cell RF 2 _ rfl
                  clear v3 q1 kF PE RE RF
                  go_wp2_with fail
                  refine (looks_any r (xs) _ z _ PF.out.oe PF.out.se.sl SE.out.sy (by have := SE.out.ly; omega)).mono ?_
                  rintro e wG ⟨rfl, kG⟩
                  have PG : Hid (Pl w wG _ _ t r (xs ++ xs) (xs ++ xs) (xs)) := PF.out.kp kG
                  clear v5 q2 kG PF
                  go_wp2_with fail
                  go_roundg (24 - k)
                  case measure => omega
                  case rel => exact ⟨k + 1, nn, t, r, xs ++ xs, xs, by omega, by go_num, rfl, by omega, PG.out, SE.out⟩

                · have hn100' : ¬ (n : Int) < 100 := by omega
                  clear c1 c2
                  have SE : Hid (Sz (k + 1) xs es) := SZ.out.up
                  have PE := P1
                  have RE := R1
                  have v3 := PE.out.vr.cell
                  have q1 := bl_cell RE.out 1 _ rfl
                  go_wp2_with fail
                  refine (looks_any r (xs) _ y _ PE.out.or PE.out.so.sl SE.out.sx (by have := SE.out.lx; omega)).mono ?_
                  rintro e wF ⟨rfl, kF⟩
                  have PF : Hid (Pl w wF _ _ r el (xs) (xs) (es)) := PE.out.kp kF
                  have RF := bl_kp RE.out kF
                  have v5 := PF.out.ve.cell
                  have q2 := bl_cell RF 2 _ rfl
                  clear v3 q1 kF PE RE RF
                  go_wp2_with fail
                  refine (looks_any el (es) _ z _ PF.out.oe PF.out.se.sl SE.out.sy (by have := SE.out.ly; omega)).mono ?_
                  rintro e wG ⟨rfl, kG⟩
                  have PG : Hid (Pl w wG _ _ r el (xs) (xs) (es)) := PF.out.kp kG
                  clear v5 q2 kG PF
                  go_wp2_with fail
                  go_roundg (24 - k)
                  case measure => omega
                  case rel => exact ⟨k + 1, nn, r, el, xs, es, by omega, by go_num, rfl, by omega, PG.out, SE.out⟩
              · clear c1 c2
                have SE : Hid (Sz (k + 1) xs es) := SZ.out.up
                have PE := P1
                have RE := R1
                have v3 := PE.out.vr.cell
                have q1 := bl_cell RE.out 1 _ rfl
                go_wp2_with fail
                refine (looks_any r (xs) _ y _ PE.out.or PE.out.so.sl SE.out.sx (by have := SE.out.lx; omega)).mono ?_
                rintro e wF ⟨rfl, kF⟩
                have PF : Hid (Pl w wF _ _ r el (xs) (xs) (es)) := PE.out.kp kF
                have RF := bl_kp RE.out kF
                have v5 := PF.out.ve.cell
                have q2 := bl_cell RF 2 _ rfl
                clear v3 q1 kF PE RE RF
                go_wp2_with fail
                refine (looks_any el (es) _ z _ PF.out.oe PF.out.se.sl SE.out.sy (by have := SE.out.ly; omega)).mono ?_
                rintro e wG ⟨rfl, kG⟩
                have PG : Hid (Pl w wG _ _ r el (xs) (xs) (es)) := PF.out.kp kG
                clear v5 q2 kG PF
                go_wp2_with fail
                go_roundg (24 - k)
                case measure => omega
                case rel => exact ⟨k + 1, nn, r, el, xs, es, by omega, by go_num, rfl, by omega, PG.out, SE.out⟩
      · have hl1' : (k : Int) < (len : Int) := by omega
        have hl2' : ¬ (k : Int) < 25 := by omega
        have KE : Hid (Kp w wr) := pl.k
        clear pl sz
        go_wp2_with fail
        refine (runs_any _).mono ?_
        rintro e we ⟨rfl, ke⟩
        have KF : Hid (Kp w we) := KE.out.trans ke
        clear ke KE
        go_wp2_with fail
        go_ret
        exact ⟨rfl, KF.out⟩
    · have hl1' : ¬ (k : Int) < (len : Int) := by omega
      have KE : Hid (Kp w wr) := pl.k
      clear pl sz
      go_wp2_with fail
      refine (runs_any _).mono ?_
      rintro e we ⟨rfl, ke⟩
      have KF : Hid (Kp w we) := KE.out.trans ke
      clear ke KE
      go_wp2_with fail
      go_ret
      exact ⟨rfl, KF.out⟩
end Go.Proofs.Ytjphjnpcpbenlaa
