/-
  Texts of this claim: Sign3, Rxs, Mem.
-/
import Derived.Test.YtigdmebijbaofaaGreatDoorCmdAM2
import Derived.Maps.AppendAt

/-! ### Sign3 -/

namespace Go.Proofs.YtigdmebijbaofaaGreatDoor
open Go.RowKit

def sgn (s : ByteArray) (ere : Bool) (i : Nat) : Nat × Nat × Nat := if i = s.size then (1, 0, 0) else if ch s i = 92 then quoted (s.extract (i + 1) s.size) ere else (bare (ch s i) ere, ch s i, 1)

set_option maxRecDepth 100000 in
theorem signAt_any (s : ByteArray) (ere : Bool) (i : Nat) (w : World) (hi : i ≤ s.size) (hs : s.size ≤ 1000000) :
  Calls Tryz.prog 175 #[.string s, .int .i64 (i : Int), .bool ere] w fun e w' => e = .returned (sg (sgn s ere i)) ∧ Kp w w' := by
 by_cases h0 : i = s.size
 ·
  have E : Hid (sgn s ere i = (1, 0, 0)) := by show _ = _; unfold sgn; rw [if_pos h0]
  have g0 : ((i : Int) == (s.size : Int)) = true := by rw [h0]; simp
  have g0' : (i : Int) = (s.size : Int) := by omega
  go_enter Tryz.func175, Tryz.ntmps175
  go_upto_region 1 with fail
  obtain ⟨W0, hW0⟩ : ∃ W, w.alloc (.cells #[.int .i64 0, .int .u8 0, .int .i64 0] 173) = W := ⟨_, rfl⟩
  rw [hW0]
  have B0 : Hid (W0.heap[w.heap.size]? = some (.cells #[.int .i64 0, .int .u8 0, .int .i64 0] 173) ∧ Kp w W0) := by subst hW0; exact ⟨last_of _ _, (Kp.refl _).alloc _⟩
  clear hW0
  have z := B0.out.1
  have f0 := bl_frozen z 0
  have f1 := bl_frozen z 1
  have f2 := bl_frozen z 2
  have c0 := bl_cell z 0 _ rfl
  have c1 := bl_cell z 1 _ rfl
  have c2 := bl_cell z 2 _ rfl
  clear z
  go_wp2_with fail
  exact bodyPost_ret (v := .agg #[_, _, _]) (sg_ret rfl _ _ _ _ _ _ rfl (bl_set3 B0.out.1 _ _ _)) rfl ⟨by rw [E.out]; rfl, (ks_set3 _ _ _).up B0.out.2 (Nat.le_refl _)⟩
 have g0 : ((i : Int) == (s.size : Int)) = false := by simp; omega
 have g0' : ¬ (i : Int) = (s.size : Int) := by omega
 have hlt : i < s.size := by omega
 have ec := run_ch s i hlt
 obtain ⟨b, hb⟩ : ∃ b, ch s i = b := ⟨_, rfl⟩
 have hb256 : b < 256 := by rw [← hb]; exact ch_lt _ _
 rw [hb] at ec
 by_cases h1 : b = 92
 ·
  subst h1
  obtain ⟨x, y, z', hg⟩ : ∃ x y z', quoted (s.extract (i + 1) s.size) ere = (x, y, z') := ⟨_, _, _, rfl⟩
  have E : Hid (sgn s ere i = (x, y, z')) := by show _ = _; unfold sgn; rw [if_neg h0, if_pos hb, hg]
  have HG : Hid (quoted (s.extract (i + 1) s.size) ere = (x, y, z')) := hg
  have es : ∀ w, (Instr.slice 9 (.string s) (some (.int .i64 ((i : Int) + 1))) none none).run Tryz.prog w = .ok (.string (s.extract (i + 1) s.size)) w := by
   intro w
   rw [run_slice_string_from_if w 9 s .i64 ((i : Int) + 1) (by kernel_rfl), if_pos ⟨by omega, by omega⟩, show ((i : Int) + 1).toNat = i + 1 by omega]
  have gl1 : (0 : Int) ≤ (i : Int) + 1 := by omega
  have gl2 : (i : Int) + 1 ≤ (s.size : Int) := by omega
  rw [show ((92 : Nat) : Int) = 92 from rfl] at ec
  clear hb hg
  go_enter Tryz.func175, Tryz.ntmps175
  go_upto_region 1 with fail
  obtain ⟨W0, hW0⟩ : ∃ W, w.alloc (.cells #[.int .i64 0, .int .u8 0, .int .i64 0] 173) = W := ⟨_, rfl⟩
  rw [hW0]
  have B0 : Hid (W0.heap[w.heap.size]? = some (.cells #[.int .i64 0, .int .u8 0, .int .i64 0] 173) ∧ Kp w W0) := by subst hW0; exact ⟨last_of _ _, (Kp.refl _).alloc _⟩
  clear hW0
  go_wp2_with fail
  refine (quoted_any (s.extract (i + 1) s.size) ere _).mono ?_
  rintro e w1 ⟨rfl, kq⟩
  rw [HG.out, sg3]
  have B1 : Hid (w1.heap[w.heap.size]? = some (.cells #[.int .i64 0, .int .u8 0, .int .i64 0] 173) ∧ Kp w w1) := ⟨bl_kp B0.out.1 kq, B0.out.2.trans kq⟩
  clear kq B0
  have z := B1.out.1
  have f0 := bl_frozen z 0
  have f1 := bl_frozen z 1
  have f2 := bl_frozen z 2
  have c0 := bl_cell z 0 _ rfl
  have c1 := bl_cell z 1 _ rfl
  have c2 := bl_cell z 2 _ rfl
  clear z
  go_wp2_with fail
  exact bodyPost_ret (v := .agg #[_, _, _]) (sg_ret rfl _ _ _ _ _ _ rfl (bl_set3 B1.out.1 _ _ _)) rfl ⟨by rw [E.out]; rfl, (ks_set3 _ _ _).up B1.out.2 (Nat.le_refl _)⟩
 have E : Hid (sgn s ere i = (bare b ere, b, 1)) := by show _ = _; unfold sgn; rw [if_neg h0, hb, if_neg h1]
 have g1 : ((b : Int) == 92) = false := by simp; omega
 have g1' : ¬ (b : Int) = 92 := by omega
 clear hb
 go_enter Tryz.func175, Tryz.ntmps175
 go_upto_region 1 with fail
 obtain ⟨W0, hW0⟩ : ∃ W, w.alloc (.cells #[.int .i64 0, .int .u8 0, .int .i64 0] 173) = W := ⟨_, rfl⟩
 rw [hW0]
 have B0 : Hid (W0.heap[w.heap.size]? = some (.cells #[.int .i64 0, .int .u8 0, .int .i64 0] 173) ∧ Kp w W0) := by subst hW0; exact ⟨last_of _ _, (Kp.refl _).alloc _⟩
 clear hW0
 go_wp2_with fail
 have Q0 : Kp W0 W0.drew := (Kp.refl _).drew
 have MK : Hid (∀ W, Kp W0 W → Hid (Kp W0 W)) := fun W k => k
 refine wp_region_noPanic ?_
 refine region_Z (z := 9) (S := (fun W => Hid (Kp W0 W))) (by kernel_rfl) ?_ (fun hH => ?_)
 ·
  exact MK.out _ Q0
 have KQ := Q0
 refine anyZ_take (z := 9) (ks := []) (i := 0) (oi := { dst := some 22, op := Op.move (Operand.tmp 0), type := 9, pos := "sign.go:42", after := #[], guard := none }) (v := ?v0b1) rfl (by kernel_rfl) (by kernel_rfl) (by kernel_rfl) (by kernel_rfl) (by kernel_rfl) (fun _ _ _ h => h) (Or.inl ⟨by rfl, ?hy0b1⟩) hH ?r0b1
 case hy0b1 => (intro W hSw; (try dsimp only at hSw); go_simp; try (with_reducible rfl))
 try simp only [Act.put, List.setIfInBounds_toArray, List.set_cons_zero, List.set_cons_succ]
 refine anyZ_take (z := 9) (ks := []) (i := 1) (oi := { dst := some 23, op := Op.move (Operand.tmp 1), type := 3, pos := "sign.go:42", after := #[], guard := none }) (v := ?v1b2) rfl (by kernel_rfl) (by kernel_rfl) (by kernel_rfl) (by kernel_rfl) (by kernel_rfl) (fun _ _ _ h => h) (Or.inl ⟨by rfl, ?hy1b2⟩) hH ?r1b2
 case hy1b2 => (intro W hSw; (try dsimp only at hSw); go_simp; try (with_reducible rfl))
 try simp only [Act.put, List.setIfInBounds_toArray, List.set_cons_zero, List.set_cons_succ]
 refine anyZ_take (z := 9) (ks := []) (i := 2) (oi := { dst := some 24, op := Op.index 9 (Operand.tmp 22) (Operand.tmp 23), type := 5, pos := "sign.go:42", after := #[{ on := 0, ground := Ground.data }, { on := 1, ground := Ground.data }], guard := none }) (v := ?v2b3) rfl (by kernel_rfl) (by kernel_rfl) (by kernel_rfl) (by kernel_rfl) (by kernel_rfl) (fun _ _ _ h => h) (Or.inl ⟨by rfl, ?hy2b3⟩) hH ?r2b3
 case hy2b3 => (intro W hSw; (try dsimp only at hSw); go_simp; try (with_reducible rfl))
 try simp only [Act.put, List.setIfInBounds_toArray, List.set_cons_zero, List.set_cons_succ]
 refine anyZ_take (z := 9) (ks := []) (i := 3) (oi := { dst := some 25, op := Op.move (Operand.tmp 2), type := 4, pos := "sign.go:42", after := #[], guard := none }) (v := ?v3b4) rfl (by kernel_rfl) (by kernel_rfl) (by kernel_rfl) (by kernel_rfl) (by kernel_rfl) (fun _ _ _ h => h) (Or.inl ⟨by rfl, ?hy3b4⟩) hH ?r3b4
 case hy3b4 => (intro W hSw; (try dsimp only at hSw); go_simp; try (with_reducible rfl))
 try simp only [Act.put, List.setIfInBounds_toArray, List.set_cons_zero, List.set_cons_succ]
 refine anyZ_take (z := 9) (ks := []) (i := 5) (oi := { dst := some 27, op := Op.move (Operand.tmp 0), type := 9, pos := "sign.go:42", after := #[], guard := none }) (v := ?v5b5) rfl (by kernel_rfl) (by kernel_rfl) (by kernel_rfl) (by kernel_rfl) (by kernel_rfl) (fun _ _ _ h => h) (Or.inl ⟨by rfl, ?hy5b5⟩) hH ?r5b5
 case hy5b5 => (intro W hSw; (try dsimp only at hSw); go_simp; try (with_reducible rfl))
 try simp only [Act.put, List.setIfInBounds_toArray, List.set_cons_zero, List.set_cons_succ]
 refine anyZ_take (z := 9) (ks := []) (i := 6) (oi := { dst := some 28, op := Op.move (Operand.tmp 1), type := 3, pos := "sign.go:42", after := #[], guard := none }) (v := ?v6b6) rfl (by kernel_rfl) (by kernel_rfl) (by kernel_rfl) (by kernel_rfl) (by kernel_rfl) (fun _ _ _ h => h) (Or.inl ⟨by rfl, ?hy6b6⟩) hH ?r6b6
 case hy6b6 => (intro W hSw; (try dsimp only at hSw); go_simp; try (with_reducible rfl))
 try simp only [Act.put, List.setIfInBounds_toArray, List.set_cons_zero, List.set_cons_succ]
 refine anyZ_take (z := 9) (ks := []) (i := 7) (oi := { dst := some 29, op := Op.index 9 (Operand.tmp 27) (Operand.tmp 28), type := 5, pos := "sign.go:42", after := #[{ on := 5, ground := Ground.data }, { on := 6, ground := Ground.data }], guard := none }) (v := ?v7b7) rfl (by kernel_rfl) (by kernel_rfl) (by kernel_rfl) (by kernel_rfl) (by kernel_rfl) (fun _ _ _ h => h) (Or.inl ⟨by rfl, ?hy7b7⟩) hH ?r7b7
 case hy7b7 => (intro W hSw; (try dsimp only at hSw); go_simp; try (with_reducible rfl))
 try simp only [Act.put, List.setIfInBounds_toArray, List.set_cons_zero, List.set_cons_succ]
 refine anyZ_ready (rs := [4]) (by kernel_rfl) (by simp) ?_
 refine AllZ.cons (o := { dst := some 26, op := Op.call { callee := Callee.value (Operand.func 209), args := #[Operand.tmp 24, Operand.tmp 25], argTypes := #[5, 4] }, type := 3, pos := "sign.go:42", after := #[{ on := 2, ground := Ground.data }, { on := 3, ground := Ground.data }], guard := none }) rfl (fun K hKq => ?_) AllZ.nil
 go_simp
 refine (bare_any b ere _).mono ?_
 rintro e w1 ⟨rfl, hw⟩
 have kq : Kp W0 w1 := by rw [hw]; exact KQ
 have B1 : Hid (w1.heap[w.heap.size]? = some (.cells #[.int .i64 0, .int .u8 0, .int .i64 0] 173) ∧ Kp w w1) := ⟨bl_kp B0.out.1 kq, B0.out.2.trans kq⟩
 clear hw
 have z := B1.out.1
 have f0 := bl_frozen z 0
 have f1 := bl_frozen z 1
 have f2 := bl_frozen z 2
 have c0 := bl_cell z 0 _ rfl
 have c1 := bl_cell z 1 _ rfl
 have c2 := bl_cell z 2 _ rfl
 clear z
 refine hKq.out _ _ (MK.out _ kq) (fun hN => ?_)
 clear kq
 clear hKq K hH KQ
 have hH := hN
 clear hN
 have KQ := hH.out
 try simp only [Act.put, List.setIfInBounds_toArray, List.set_cons_zero, List.set_cons_succ]
 refine anyZ_take (z := 9) (ks := []) (i := 8) (oi := { dst := some 30, op := Op.build 173 #[(0, Operand.tmp 26), (1, Operand.tmp 29), (2, Operand.const (Value.int IntKind.i64 1))], type := 173, pos := "sign.go:42", after := #[{ on := 4, ground := Ground.data }, { on := 7, ground := Ground.data }], guard := none }) (v := ?v8b8) rfl (by kernel_rfl) (by kernel_rfl) (by kernel_rfl) (by kernel_rfl) (by kernel_rfl) (fun _ _ _ h => h) (Or.inl ⟨by rfl, ?hy8b8⟩) hH ?r8b8
 case hy8b8 => (intro W hSw; (try dsimp only at hSw); go_simp; try (with_reducible rfl))
 try simp only [Act.put, List.setIfInBounds_toArray, List.set_cons_zero, List.set_cons_succ]
 refine anyZ_ready (rs := [9]) (by kernel_rfl) (by simp) ?_
 refine AllZ.last (o := { dst := none, op := Op.store 173 (Operand.tmp 6) (Operand.tmp 30), type := 0, pos := "sign.go:42", after := #[{ on := 8, ground := Ground.data }, { on := 4, ground := Ground.chain }, { on := 0, ground := Ground.phase }, { on := 1, ground := Ground.phase }, { on := 2, ground := Ground.phase }, { on := 3, ground := Ground.phase }, { on := 4, ground := Ground.phase }, { on := 5, ground := Ground.phase }, { on := 6, ground := Ground.phase }, { on := 7, ground := Ground.phase }, { on := 8, ground := Ground.phase }], guard := none }) rfl (Or.inl rfl) (fun K hKq => ?_) AllZ.nil
 go_simp
 refine hKq.out _ _ ?_
 clear hKq K
 try simp only [Act.put, List.setIfInBounds_toArray, List.set_cons_zero, List.set_cons_succ]
 refine anyZ_done (by kernel_rfl) ?_ _
 refine NoPanic.normal ?_
 go_wp2_with fail
 exact bodyPost_ret (v := .agg #[_, _, _]) (sg_ret rfl _ _ _ _ _ _ rfl (bl_set3 B1.out.1 _ _ _)) rfl ⟨by rw [E.out]; rfl, (ks_set3 _ _ _).up B1.out.2 (Nat.le_refl _)⟩

/-- Where the reader stands: what it reads, how far it is, how many nodes, groups, open groups. -/
abbrev rdr (s : ByteArray) (ere : Bool) (i n g d : Nat) : Obj := .cells #[.string s, .bool ere, .int .i64 (i : Int), .int .i64 (n : Int), .int .i64 (g : Int), .int .i64 (d : Int)] 99
structure Rd (w : World) (P : Nat) (s : ByteArray) (ere : Bool) (i n g d : Nat) : Prop where
 b : w.heap[P]? = some (rdr s ere i n g d)
 p : 1 < P
 v : ∃ m, w.cell? ⟨1, 0, none⟩ = some (.int .i64 m)
theorem Rd.lt {w : World} {P : Nat} {s : ByteArray} {ere : Bool} {i n g d : Nat} (h : Rd w P s ere i n g d) : P < w.heap.size := bl_lt h.b
theorem Rd.kp {w w' : World} {P : Nat} {s : ByteArray} {ere : Bool} {i n g d : Nat} (h : Rd w P s ere i n g d) (k : Kp w w') : Rd w' P s ere i n g d := ⟨bl_kp h.b k, h.p, by obtain ⟨m, hm⟩ := h.v; exact ⟨m, (k.cell (Nat.lt_trans h.p h.lt)).trans hm⟩⟩
theorem Rd.drew {w : World} {P : Nat} {s : ByteArray} {ere : Bool} {i n g d : Nat} (h : Rd w P s ere i n g d) : Rd w.drew P s ere i n g d := h.kp (Kp.refl _).drew
theorem Rd.cells {w : World} {P : Nat} {s : ByteArray} {ere : Bool} {i n g d : Nat} (h : Rd w P s ere i n g d) : w.cell? ⟨P, 0, none⟩ = some (.string s) ∧ w.cell? ⟨P, 1, none⟩ = some (.bool ere) ∧ w.cell? ⟨P, 2, none⟩ = some (.int .i64 (i : Int)) ∧ w.cell? ⟨P, 3, none⟩ = some (.int .i64 (n : Int)) ∧ w.cell? ⟨P, 4, none⟩ = some (.int .i64 (g : Int)) ∧ w.cell? ⟨P, 5, none⟩ = some (.int .i64 (d : Int)) :=
 ⟨bl_cell h.b 0 _ rfl, bl_cell h.b 1 _ rfl, bl_cell h.b 2 _ rfl, bl_cell h.b 3 _ rfl, bl_cell h.b 4 _ rfl, bl_cell h.b 5 _ rfl⟩
theorem Rd.ks {S P : Nat} {w w' : World} {s : ByteArray} {ere : Bool} {i n g d : Nat} (h : Rd w P s ere i n g d) (k : Ks S w w') (hne : P ≠ S) (h0 : P < S) : Rd w' P s ere i n g d := ⟨bl_ks h.b hne k, h.p, by
 obtain ⟨m, hm⟩ := h.v
 exact ⟨m, (World.cell?_of_block (w := w) (k.block 1 (Nat.lt_trans h.p h.lt) (by have := h.p; show (1 : Nat) ≠ S; omega))).trans hm⟩⟩
theorem Rd.ks1 {S P : Nat} {w w' : World} {s : ByteArray} {ere : Bool} {i n g d : Nat} (h : Rd w P s ere i n g d) (k : Ks S w w') (hne : P ≠ S) (h0 : S ≠ 1) : Rd w' P s ere i n g d := ⟨bl_ks h.b hne k, h.p, by
 obtain ⟨m, hm⟩ := h.v
 exact ⟨m, (World.cell?_of_block (w := w) (k.block 1 (Nat.lt_trans h.p h.lt) (Ne.symm h0))).trans hm⟩⟩
theorem Rd.put {w : World} {P : Nat} {s : ByteArray} {ere : Bool} {i n g d : Nat} (h : Rd w P s ere i n g d) (j : Nat) (u : Value) {i' n' g' d' : Nat} (hb : (w.setCell ⟨P, j, none⟩ u).heap[P]? = some (rdr s ere i' n' g' d')) : Rd (w.setCell ⟨P, j, none⟩ u) P s ere i' n' g' d' := ⟨hb, h.p, by
 obtain ⟨m, hm⟩ := h.v
 exact ⟨m, (World.cell?_of_block (w := w) (Below.heap_setCell w ⟨P, j, none⟩ u 1 (Nat.ne_of_lt h.p))).trans hm⟩⟩
theorem Rd.at {w : World} {P : Nat} {s : ByteArray} {ere : Bool} {i n g d : Nat} (h : Rd w P s ere i n g d) (j : Nat) : Rd (w.setCell ⟨P, 2, none⟩ (.int .i64 (j : Int))) P s ere j n g d := h.put 2 _ (bl_put h.b _)
theorem Rd.nodes {w : World} {P : Nat} {s : ByteArray} {ere : Bool} {i n g d : Nat} (h : Rd w P s ere i n g d) (j : Nat) : Rd (w.setCell ⟨P, 3, none⟩ (.int .i64 (j : Int))) P s ere i j g d := h.put 3 _ (bl_put h.b _)
theorem Rd.groups {w : World} {P : Nat} {s : ByteArray} {ere : Bool} {i n g d : Nat} (h : Rd w P s ere i n g d) (j : Nat) : Rd (w.setCell ⟨P, 4, none⟩ (.int .i64 (j : Int))) P s ere i n j d := h.put 4 _ (bl_put h.b _)
theorem Rd.deep {w : World} {P : Nat} {s : ByteArray} {ere : Bool} {i n g d : Nat} (h : Rd w P s ere i n g d) (j : Nat) : Rd (w.setCell ⟨P, 5, none⟩ (.int .i64 (j : Int))) P s ere i n g j := h.put 5 _ (bl_put h.b _)

set_option maxRecDepth 100000 in
theorem sign_any (s : ByteArray) (ere : Bool) (i n g d P : Nat) (w : World) (h : Rd w P s ere i n g d) (hi : i ≤ s.size) (hs : s.size ≤ 1000000) :
  Calls Tryz.prog 135 #[.pointer (some ⟨P, 0, none⟩)] w fun e w' => e = .returned (sg (sgn s ere i)) ∧ Kp w w' := by
 obtain ⟨x, y, z', hg⟩ : ∃ x y z', sgn s ere i = (x, y, z') := ⟨_, _, _, rfl⟩
 have HG : Hid (sgn s ere i = (x, y, z')) := hg
 have R : Hid (Rd w P s ere i n g d) := h
 clear h hg
 go_enter Tryz.func135, Tryz.ntmps135
 go_upto_region 1 with fail
 obtain ⟨W0, hW0⟩ : ∃ W, w.alloc (.cells #[.int .i64 0, .int .u8 0, .int .i64 0] 173) = W := ⟨_, rfl⟩
 rw [hW0]
 have B0 : Hid (W0.heap[w.heap.size]? = some (.cells #[.int .i64 0, .int .u8 0, .int .i64 0] 173) ∧ Kp w W0) := by subst hW0; exact ⟨last_of _ _, (Kp.refl _).alloc _⟩
 clear hW0
 go_wp2_with fail
 have r0 := R.out.kp B0.out.2
 have Q0 : Kp W0 W0.drew := (Kp.refl _).drew
 have MK : Hid (∀ W, Kp W0 W → W.cell? ⟨P, 0, none⟩ = some (.string s) ∧ W.cell? ⟨P, 1, none⟩ = some (.bool ere) ∧ W.cell? ⟨P, 2, none⟩ = some (.int .i64 (i : Int)) ∧ Hid (Kp W0 W)) := fun W k => ⟨(r0.kp k).cells.1, (r0.kp k).cells.2.1, (r0.kp k).cells.2.2.1, k⟩
 clear r0
 refine wp_region_noPanic ?_
 refine region_Z (z := 13) (S := (fun W => W.cell? ⟨P, 0, none⟩ = some (.string s) ∧ W.cell? ⟨P, 1, none⟩ = some (.bool ere) ∧ W.cell? ⟨P, 2, none⟩ = some (.int .i64 (i : Int)) ∧ Hid (Kp W0 W))) (by kernel_rfl) ?_ (fun hH => ?_)
 ·
  exact MK.out _ Q0
 have KQ := Q0
 refine anyZ_take (z := 13) (ks := []) (i := 0) (oi := { dst := some 3, op := Op.move (Operand.tmp 0), type := 142, pos := "parse.go:92", after := #[], guard := none }) (v := ?v0c1) rfl (by kernel_rfl) (by kernel_rfl) (by kernel_rfl) (by kernel_rfl) (by kernel_rfl) (fun _ _ _ h => h) (Or.inl ⟨by rfl, ?hy0c1⟩) hH ?r0c1
 case hy0c1 => (intro W hSw; (try dsimp only at hSw); go_simp; try (with_reducible rfl))
 try simp only [Act.put, List.setIfInBounds_toArray, List.set_cons_zero, List.set_cons_succ]
 refine anyZ_take (z := 13) (ks := []) (i := 1) (oi := { dst := some 4, op := Op.nilCheck (Operand.tmp 3), type := 0, pos := "parse.go:92", after := #[{ on := 0, ground := Ground.data }], guard := none }) (v := ?v1c2) rfl (by kernel_rfl) (by kernel_rfl) (by kernel_rfl) (by kernel_rfl) (by kernel_rfl) (fun _ _ _ h => h) (Or.inl ⟨by rfl, ?hy1c2⟩) hH ?r1c2
 case hy1c2 => (intro W hSw; (try dsimp only at hSw); go_simp; try (with_reducible rfl))
 try simp only [Act.put, List.setIfInBounds_toArray, List.set_cons_zero, List.set_cons_succ]
 refine anyZ_take (z := 13) (ks := []) (i := 2) (oi := { dst := some 5, op := Op.fieldAddr 99 (Operand.tmp 4) 0, type := 0, pos := "parse.go:92", after := #[{ on := 1, ground := Ground.data }], guard := none }) (v := ?v2c3) rfl (by kernel_rfl) (by kernel_rfl) (by kernel_rfl) (by kernel_rfl) (by kernel_rfl) (fun _ _ _ h => h) (Or.inl ⟨by rfl, ?hy2c3⟩) hH ?r2c3
 case hy2c3 => (intro W hSw; (try dsimp only at hSw); go_simp; try (with_reducible rfl))
 try simp only [Act.put, List.setIfInBounds_toArray, List.set_cons_zero, List.set_cons_succ]
 refine anyZ_take (z := 13) (ks := []) (i := 3) (oi := { dst := some 6, op := Op.load 9 (Operand.tmp 5), type := 9, pos := "parse.go:92", after := #[{ on := 2, ground := Ground.data }], guard := none }) (v := ?v3c4) rfl (by kernel_rfl) (by kernel_rfl) (by kernel_rfl) (by kernel_rfl) (by kernel_rfl) (fun _ _ _ h => h) (Or.inl ⟨by rfl, ?hy3c4⟩) hH ?r3c4
 case hy3c4 => (intro W hSw; (try dsimp only at hSw); go_simp; try (with_reducible rfl))
 try simp only [Act.put, List.setIfInBounds_toArray, List.set_cons_zero, List.set_cons_succ]
 refine anyZ_take (z := 13) (ks := []) (i := 4) (oi := { dst := some 7, op := Op.move (Operand.tmp 0), type := 142, pos := "parse.go:92", after := #[], guard := none }) (v := ?v4c5) rfl (by kernel_rfl) (by kernel_rfl) (by kernel_rfl) (by kernel_rfl) (by kernel_rfl) (fun _ _ _ h => h) (Or.inl ⟨by rfl, ?hy4c5⟩) hH ?r4c5
 case hy4c5 => (intro W hSw; (try dsimp only at hSw); go_simp; try (with_reducible rfl))
 try simp only [Act.put, List.setIfInBounds_toArray, List.set_cons_zero, List.set_cons_succ]
 refine anyZ_take (z := 13) (ks := []) (i := 5) (oi := { dst := some 8, op := Op.nilCheck (Operand.tmp 7), type := 0, pos := "parse.go:92", after := #[{ on := 4, ground := Ground.data }], guard := none }) (v := ?v5c6) rfl (by kernel_rfl) (by kernel_rfl) (by kernel_rfl) (by kernel_rfl) (by kernel_rfl) (fun _ _ _ h => h) (Or.inl ⟨by rfl, ?hy5c6⟩) hH ?r5c6
 case hy5c6 => (intro W hSw; (try dsimp only at hSw); go_simp; try (with_reducible rfl))
 try simp only [Act.put, List.setIfInBounds_toArray, List.set_cons_zero, List.set_cons_succ]
 refine anyZ_take (z := 13) (ks := []) (i := 6) (oi := { dst := some 9, op := Op.fieldAddr 99 (Operand.tmp 8) 2, type := 0, pos := "parse.go:92", after := #[{ on := 5, ground := Ground.data }], guard := none }) (v := ?v6c7) rfl (by kernel_rfl) (by kernel_rfl) (by kernel_rfl) (by kernel_rfl) (by kernel_rfl) (fun _ _ _ h => h) (Or.inl ⟨by rfl, ?hy6c7⟩) hH ?r6c7
 case hy6c7 => (intro W hSw; (try dsimp only at hSw); go_simp; try (with_reducible rfl))
 try simp only [Act.put, List.setIfInBounds_toArray, List.set_cons_zero, List.set_cons_succ]
 refine anyZ_take (z := 13) (ks := []) (i := 7) (oi := { dst := some 10, op := Op.load 3 (Operand.tmp 9), type := 3, pos := "parse.go:92", after := #[{ on := 6, ground := Ground.data }], guard := none }) (v := ?v7c8) rfl (by kernel_rfl) (by kernel_rfl) (by kernel_rfl) (by kernel_rfl) (by kernel_rfl) (fun _ _ _ h => h) (Or.inl ⟨by rfl, ?hy7c8⟩) hH ?r7c8
 case hy7c8 => (intro W hSw; (try dsimp only at hSw); go_simp; try (with_reducible rfl))
 try simp only [Act.put, List.setIfInBounds_toArray, List.set_cons_zero, List.set_cons_succ]
 refine anyZ_take (z := 13) (ks := []) (i := 8) (oi := { dst := some 11, op := Op.move (Operand.tmp 0), type := 142, pos := "parse.go:92", after := #[], guard := none }) (v := ?v8c9) rfl (by kernel_rfl) (by kernel_rfl) (by kernel_rfl) (by kernel_rfl) (by kernel_rfl) (fun _ _ _ h => h) (Or.inl ⟨by rfl, ?hy8c9⟩) hH ?r8c9
 case hy8c9 => (intro W hSw; (try dsimp only at hSw); go_simp; try (with_reducible rfl))
 try simp only [Act.put, List.setIfInBounds_toArray, List.set_cons_zero, List.set_cons_succ]
 refine anyZ_take (z := 13) (ks := []) (i := 9) (oi := { dst := some 12, op := Op.nilCheck (Operand.tmp 11), type := 0, pos := "parse.go:92", after := #[{ on := 8, ground := Ground.data }], guard := none }) (v := ?v9c10) rfl (by kernel_rfl) (by kernel_rfl) (by kernel_rfl) (by kernel_rfl) (by kernel_rfl) (fun _ _ _ h => h) (Or.inl ⟨by rfl, ?hy9c10⟩) hH ?r9c10
 case hy9c10 => (intro W hSw; (try dsimp only at hSw); go_simp; try (with_reducible rfl))
 try simp only [Act.put, List.setIfInBounds_toArray, List.set_cons_zero, List.set_cons_succ]
 refine anyZ_take (z := 13) (ks := []) (i := 10) (oi := { dst := some 13, op := Op.fieldAddr 99 (Operand.tmp 12) 1, type := 0, pos := "parse.go:92", after := #[{ on := 9, ground := Ground.data }], guard := none }) (v := ?v10c11) rfl (by kernel_rfl) (by kernel_rfl) (by kernel_rfl) (by kernel_rfl) (by kernel_rfl) (fun _ _ _ h => h) (Or.inl ⟨by rfl, ?hy10c11⟩) hH ?r10c11
 case hy10c11 => (intro W hSw; (try dsimp only at hSw); go_simp; try (with_reducible rfl))
 try simp only [Act.put, List.setIfInBounds_toArray, List.set_cons_zero, List.set_cons_succ]
 refine anyZ_take (z := 13) (ks := []) (i := 11) (oi := { dst := some 14, op := Op.load 4 (Operand.tmp 13), type := 4, pos := "parse.go:92", after := #[{ on := 10, ground := Ground.data }], guard := none }) (v := ?v11c12) rfl (by kernel_rfl) (by kernel_rfl) (by kernel_rfl) (by kernel_rfl) (by kernel_rfl) (fun _ _ _ h => h) (Or.inl ⟨by rfl, ?hy11c12⟩) hH ?r11c12
 case hy11c12 => (intro W hSw; (try dsimp only at hSw); go_simp; try (with_reducible rfl))
 try simp only [Act.put, List.setIfInBounds_toArray, List.set_cons_zero, List.set_cons_succ]
 refine anyZ_ready (rs := [12]) (by kernel_rfl) (by simp) ?_
 refine AllZ.cons (o := { dst := some 15, op := Op.call { callee := Callee.value (Operand.func 175), args := #[Operand.tmp 6, Operand.tmp 10, Operand.tmp 14], argTypes := #[9, 3, 4] }, type := 173, pos := "parse.go:92", after := #[{ on := 3, ground := Ground.data }, { on := 7, ground := Ground.data }, { on := 11, ground := Ground.data }], guard := none }) rfl (fun K hKq => ?_) AllZ.nil
 go_simp
 refine (signAt_any s ere i _ hi hs).mono ?_
 rintro e w1 ⟨rfl, kq⟩
 rw [HG.out, sg3]
 have B1 : Hid (w1.heap[w.heap.size]? = some (.cells #[.int .i64 0, .int .u8 0, .int .i64 0] 173) ∧ Kp w w1) := ⟨bl_kp (bl_kp B0.out.1 KQ) kq, (B0.out.2.trans KQ).trans kq⟩
 have z := B1.out.1
 have f0 := bl_frozen z 0
 have f1 := bl_frozen z 1
 have f2 := bl_frozen z 2
 have c0 := bl_cell z 0 _ rfl
 have c1 := bl_cell z 1 _ rfl
 have c2 := bl_cell z 2 _ rfl
 refine hKq.out _ _ (MK.out _ (KQ.trans kq)) (fun hN => ?_)
 clear kq z
 clear hKq K hH KQ
 have hH := hN
 clear hN
 have KQ := hH.2.2.2.out
 try simp only [Act.put, List.setIfInBounds_toArray, List.set_cons_zero, List.set_cons_succ]
 refine anyZ_ready (rs := [13]) (by kernel_rfl) (by simp) ?_
 refine AllZ.last (o := { dst := none, op := Op.store 173 (Operand.tmp 2) (Operand.tmp 15), type := 0, pos := "parse.go:92", after := #[{ on := 12, ground := Ground.data }, { on := 12, ground := Ground.chain }, { on := 0, ground := Ground.phase }, { on := 1, ground := Ground.phase }, { on := 2, ground := Ground.phase }, { on := 3, ground := Ground.phase }, { on := 4, ground := Ground.phase }, { on := 5, ground := Ground.phase }, { on := 6, ground := Ground.phase }, { on := 7, ground := Ground.phase }, { on := 8, ground := Ground.phase }, { on := 9, ground := Ground.phase }, { on := 10, ground := Ground.phase }, { on := 11, ground := Ground.phase }, { on := 12, ground := Ground.phase }], guard := none }) rfl (Or.inl rfl) (fun K hKq => ?_) AllZ.nil
 go_simp
 refine hKq.out _ _ ?_
 clear hKq K
 try simp only [Act.put, List.setIfInBounds_toArray, List.set_cons_zero, List.set_cons_succ]
 refine anyZ_done (by kernel_rfl) ?_ _
 refine NoPanic.normal ?_
 go_wp2_with fail
 exact bodyPost_ret (v := .agg #[_, _, _]) (sg_ret rfl _ _ _ _ _ _ rfl (bl_set3 B1.out.1 _ _ _)) rfl ⟨by rw [HG.out]; rfl, (ks_set3 _ _ _).up B1.out.2 (Nat.le_refl _)⟩
end Go.Proofs.YtigdmebijbaofaaGreatDoor

/-! ### Rxs -/

namespace Go.Proofs.YtigdmebijbaofaaGreatDoor
open Go.RowKit

/-- A set of bytes, word by word. -/
structure W4 where
 a : Nat
 b : Nat
 c : Nat
 d : Nat
deriving DecidableEq
def W4.of (p : Nat → Bool) : W4 := ⟨wd p 0, wd p 1, wd p 2, wd p 3⟩

/-- An expression. -/
inductive Rx where
 | mk (k mn mx n : Int) (s : W4) (kids : List Rx)

/-- Its value. -/
abbrev rxv (k mn mx n : Int) (s : W4) (ks : Value) : Value := .agg #[.int .i64 k, .int .i64 mn, .int .i64 mx, .int .i64 n, .int .u64 (s.a : Int), .int .u64 (s.b : Int), .int .u64 (s.c : Int), .int .u64 (s.d : Int), ks]
abbrev rxo (k mn mx n : Int) (s : W4) (ks : Value) : Obj := .cells #[.int .i64 k, .int .i64 mn, .int .i64 mx, .int .i64 n, .int .u64 (s.a : Int), .int .u64 (s.b : Int), .int .u64 (s.c : Int), .int .u64 (s.d : Int), ks] 27
abbrev rz : Value := .agg #[.int .i64 0, .int .i64 0, .int .i64 0, .int .i64 0, .int .u64 0, .int .u64 0, .int .u64 0, .int .u64 0, .slice none 0 0]
abbrev rzo : Obj := .cells #[.int .i64 0, .int .i64 0, .int .i64 0, .int .i64 0, .int .u64 0, .int .u64 0, .int .u64 0, .int .u64 0, .slice none 0 0] 27
theorem bl_set9 {w : World} {B : Nat} {a0 a1 a2 a3 a4 a5 a6 a7 a8 : Value} {t : TypeId} (h : w.heap[B]? = some (.cells #[a0, a1, a2, a3, a4, a5, a6, a7, a8] t)) (x0 x1 x2 x3 x4 x5 x6 x7 x8 : Value) :
  (((((((((w.setCell ⟨B, 0, none⟩ x0).setCell ⟨B, 1, none⟩ x1).setCell ⟨B, 2, none⟩ x2).setCell ⟨B, 3, none⟩ x3).setCell ⟨B, 4, none⟩ x4).setCell ⟨B, 5, none⟩ x5).setCell ⟨B, 6, none⟩ x6).setCell ⟨B, 7, none⟩ x7).setCell ⟨B, 8, none⟩ x8).heap[B]? = some (.cells #[x0, x1, x2, x3, x4, x5, x6, x7, x8] t) := by
 have h0 : (w.setCell ⟨B, 0, none⟩ x0).heap[B]? = some (.cells #[x0, a1, a2, a3, a4, a5, a6, a7, a8] t) := bl_put h x0
 have h1 : ((w.setCell ⟨B, 0, none⟩ x0).setCell ⟨B, 1, none⟩ x1).heap[B]? = some (.cells #[x0, x1, a2, a3, a4, a5, a6, a7, a8] t) := bl_put h0 x1
 have h2 : (((w.setCell ⟨B, 0, none⟩ x0).setCell ⟨B, 1, none⟩ x1).setCell ⟨B, 2, none⟩ x2).heap[B]? = some (.cells #[x0, x1, x2, a3, a4, a5, a6, a7, a8] t) := bl_put h1 x2
 have h3 : ((((w.setCell ⟨B, 0, none⟩ x0).setCell ⟨B, 1, none⟩ x1).setCell ⟨B, 2, none⟩ x2).setCell ⟨B, 3, none⟩ x3).heap[B]? = some (.cells #[x0, x1, x2, x3, a4, a5, a6, a7, a8] t) := bl_put h2 x3
 have h4 : (((((w.setCell ⟨B, 0, none⟩ x0).setCell ⟨B, 1, none⟩ x1).setCell ⟨B, 2, none⟩ x2).setCell ⟨B, 3, none⟩ x3).setCell ⟨B, 4, none⟩ x4).heap[B]? = some (.cells #[x0, x1, x2, x3, x4, a5, a6, a7, a8] t) := bl_put h3 x4
 have h5 : ((((((w.setCell ⟨B, 0, none⟩ x0).setCell ⟨B, 1, none⟩ x1).setCell ⟨B, 2, none⟩ x2).setCell ⟨B, 3, none⟩ x3).setCell ⟨B, 4, none⟩ x4).setCell ⟨B, 5, none⟩ x5).heap[B]? = some (.cells #[x0, x1, x2, x3, x4, x5, a6, a7, a8] t) := bl_put h4 x5
 have h6 : (((((((w.setCell ⟨B, 0, none⟩ x0).setCell ⟨B, 1, none⟩ x1).setCell ⟨B, 2, none⟩ x2).setCell ⟨B, 3, none⟩ x3).setCell ⟨B, 4, none⟩ x4).setCell ⟨B, 5, none⟩ x5).setCell ⟨B, 6, none⟩ x6).heap[B]? = some (.cells #[x0, x1, x2, x3, x4, x5, x6, a7, a8] t) := bl_put h5 x6
 have h7 : ((((((((w.setCell ⟨B, 0, none⟩ x0).setCell ⟨B, 1, none⟩ x1).setCell ⟨B, 2, none⟩ x2).setCell ⟨B, 3, none⟩ x3).setCell ⟨B, 4, none⟩ x4).setCell ⟨B, 5, none⟩ x5).setCell ⟨B, 6, none⟩ x6).setCell ⟨B, 7, none⟩ x7).heap[B]? = some (.cells #[x0, x1, x2, x3, x4, x5, x6, x7, a8] t) := bl_put h6 x7
 have h8 : (((((((((w.setCell ⟨B, 0, none⟩ x0).setCell ⟨B, 1, none⟩ x1).setCell ⟨B, 2, none⟩ x2).setCell ⟨B, 3, none⟩ x3).setCell ⟨B, 4, none⟩ x4).setCell ⟨B, 5, none⟩ x5).setCell ⟨B, 6, none⟩ x6).setCell ⟨B, 7, none⟩ x7).setCell ⟨B, 8, none⟩ x8).heap[B]? = some (.cells #[x0, x1, x2, x3, x4, x5, x6, x7, x8] t) := bl_put h7 x8
 exact h8
theorem ks_set9 {w : World} {B : Nat} (x0 x1 x2 x3 x4 x5 x6 x7 x8 : Value) :
  Ks B w (((((((((w.setCell ⟨B, 0, none⟩ x0).setCell ⟨B, 1, none⟩ x1).setCell ⟨B, 2, none⟩ x2).setCell ⟨B, 3, none⟩ x3).setCell ⟨B, 4, none⟩ x4).setCell ⟨B, 5, none⟩ x5).setCell ⟨B, 6, none⟩ x6).setCell ⟨B, 7, none⟩ x7).setCell ⟨B, 8, none⟩ x8) :=
 ((((((((((Ks.refl B w).set 0 x0).set 1 x1).set 2 x2).set 3 x3).set 4 x4).set 5 x5).set 6 x6).set 7 x7).set 8 x8)
theorem rx_ret {fn : Func} {p : Tmp} (h : fn.results = #[.cell p 27]) (tmps : Array Value) (w : World) (S : Nat) (cs : Array Value) (hp : tmps.getD p undef = .pointer (some ⟨S, 0, none⟩)) (hA : w.heap[S]? = some (.cells cs 27)) (hc : cs.size = 9) : (results fn tmps).run Tryz.prog w = .ok (.agg cs) w :=
 results_cell_row h tmps w S 27 _ (0, 0) _ hp hA Tryz.underlying27 rfl (by rw [hc]; kernel_rfl)

theorem Ks.alloc {P : Nat} {a b : World} (h : Ks P a b) (o : Obj) (hP : P ≤ b.heap.size) : Ks P a (b.alloc o) := h.kp ((Kp.refl _).alloc _) hP
/-- What was written last is not the reader's. -/
theorem Ks.off {P S : Nat} {a b c : World} (h : Ks P a b) (k : Ks S b c) (hS : a.heap.size ≤ S) (hP : P < a.heap.size) : Ks P a c :=
 ⟨h.lo.trans (k.lo.mono (by omega)), fun x hx hne => (k.block x (Nat.lt_of_lt_of_le hx h.size) (by omega)).trans (h.block x hx hne)⟩

set_option maxRecDepth 100000 in
theorem node_any (k mn mx m : Int) (t : W4) (ad : Option Addr) (l c : Nat) (s : ByteArray) (ere : Bool) (i n g d P : Nat) (w : World) (h : Rd w P s ere i n g d) (hn : n ≤ 1000000000) :
  Calls Tryz.prog 137 #[.pointer (some ⟨P, 0, none⟩), rxv k mn mx m t (.slice ad l c)] w fun e w' => e = .returned (rxv k mn mx m t (.slice ad l c)) ∧ Rd w' P s ere i (n + 1) g d ∧ Ks P w w' := by
 have R : Hid (Rd w P s ere i n g d) := h
 have hP : P < w.heap.size := h.lt
 clear h
 go_enter Tryz.func137, Tryz.ntmps137
 go_upto_region 1 with fail
 obtain ⟨W0, hW0⟩ : ∃ W, (w.alloc (rxo k mn mx m t (.slice ad l c))).alloc rzo = W := ⟨_, rfl⟩
 rw [hW0]
 have R0 : Hid (Rd W0 P s ere i n g d ∧ Kp w W0) := by subst hW0; exact ⟨R.out.kp (((Kp.refl _).alloc _).alloc _), ((Kp.refl _).alloc _).alloc _⟩
 have A0 : Hid (W0.heap[w.heap.size]? = some (rxo k mn mx m t (.slice ad l c)) ∧ W0.heap[w.heap.size + 1]? = some rzo) := by subst hW0; exact ⟨bl_alloc (last_of _ _) _, last_at _ _ _ (by simp)⟩
 clear hW0
 have p3 := R0.out.1.cells.2.2.2.1
 have fp3 := bl_frozen R0.out.1.b 3
 have gw : IntKind.i64.wrap ((n : Int) + 1) = (n : Int) + 1 := by rw [IntKind.wrap_i64]; omega
 have ks0 : Hid (Ks P w W0) := R0.out.2.ks (Nat.le_of_lt hP)
 go_upto_region 2 with fail
 clear p3 fp3
 obtain ⟨W1, hW1⟩ : ∃ W, W0.setCell ⟨P, 3, none⟩ (.int .i64 ((n : Int) + 1)) = W := ⟨_, rfl⟩
 rw [hW1]
 have R1 : Hid (Rd W1 P s ere i (n + 1) g d ∧ Ks P w W1) := by subst hW1; exact ⟨R0.out.1.nodes (n + 1), ks0.out.set 3 _⟩
 have A1 : Hid (W1.heap[w.heap.size]? = some (rxo k mn mx m t (.slice ad l c)) ∧ W1.heap[w.heap.size + 1]? = some rzo) := by subst hW1; exact ⟨bl_set A0.out.1 (by omega) _, bl_set A0.out.2 (by omega) _⟩
 clear hW1
 have a0 := bl_cell (A1.out.1) 0 _ rfl
 have a1 := bl_cell (A1.out.1) 1 _ rfl
 have a2 := bl_cell (A1.out.1) 2 _ rfl
 have a3 := bl_cell (A1.out.1) 3 _ rfl
 have a4 := bl_cell (A1.out.1) 4 _ rfl
 have a5 := bl_cell (A1.out.1) 5 _ rfl
 have a6 := bl_cell (A1.out.1) 6 _ rfl
 have a7 := bl_cell (A1.out.1) 7 _ rfl
 have a8 := bl_cell (A1.out.1) 8 _ rfl
 have b0 := bl_cell (A1.out.2) 0 _ rfl
 have fb0 := bl_frozen (A1.out.2) 0
 have b1 := bl_cell (A1.out.2) 1 _ rfl
 have fb1 := bl_frozen (A1.out.2) 1
 have b2 := bl_cell (A1.out.2) 2 _ rfl
 have fb2 := bl_frozen (A1.out.2) 2
 have b3 := bl_cell (A1.out.2) 3 _ rfl
 have fb3 := bl_frozen (A1.out.2) 3
 have b4 := bl_cell (A1.out.2) 4 _ rfl
 have fb4 := bl_frozen (A1.out.2) 4
 have b5 := bl_cell (A1.out.2) 5 _ rfl
 have fb5 := bl_frozen (A1.out.2) 5
 have b6 := bl_cell (A1.out.2) 6 _ rfl
 have fb6 := bl_frozen (A1.out.2) 6
 have b7 := bl_cell (A1.out.2) 7 _ rfl
 have fb7 := bl_frozen (A1.out.2) 7
 have b8 := bl_cell (A1.out.2) 8 _ rfl
 have fb8 := bl_frozen (A1.out.2) 8

 go_wp2_with fail
 refine bodyPost_ret (v := .agg _) (rx_ret rfl _ _ _ _ rfl (bl_set9 A1.out.2 _ _ _ _ _ _ _ _ _) rfl) rfl ⟨rfl, ?_, ?_⟩
 ·
  exact R1.out.1.ks (ks_set9 _ _ _ _ _ _ _ _ _) (by omega) (by omega)
 ·
  exact R1.out.2.off (ks_set9 _ _ _ _ _ _ _ _ _) (by omega) hP
end Go.Proofs.YtigdmebijbaofaaGreatDoor

/-! ### Mem -/

namespace Go.Proofs.YtigdmebijbaofaaGreatDoor
open Go.RowKit

/-- The cells of a value. -/
def cellsOf : Value → List Value
 | .agg cs => cs.toList
 | _ => []
/-- A value lies there, cell by cell. -/
def CellsAt (w : World) (b o : Nat) (v : Value) : Prop := ∀ j u, (cellsOf v)[j]? = some u → w.cell? ⟨b, o + j, none⟩ = some u

mutual
/-- The value is that tree; its rows of kids lie in blocks that are ok. -/
def Is (w : World) (ok : Nat → Prop) : Rx → Value → Prop
 | .mk k mn mx n s kids, v => ∃ ad l c, v = rxv k mn mx n s (.slice ad l c) ∧ l = kids.length ∧ l ≤ c ∧ (kids ≠ [] → ∃ b o, ad = some ⟨b, o, none⟩ ∧ ok b ∧ b < w.heap.size ∧ IsL w ok kids b o)
def IsL (w : World) (ok : Nat → Prop) : List Rx → Nat → Nat → Prop
 | [], _, _ => True
 | t :: ts, b, o => (∃ v, Is w ok t v ∧ CellsAt w b o v) ∧ IsL w ok ts b (o + 9)
end

theorem CellsAt.turn {w w' : World} {b o : Nat} {v : Value} (h : CellsAt w b o v) (hb : w'.heap[b]? = w.heap[b]?) : CellsAt w' b o v := fun j u hj =>
 (World.cell?_of_block (w := w) (a := ⟨b, o + j, none⟩) hb).trans (h j u hj)

mutual
theorem Is.turn {w w' : World} {ok ok' : Nat → Prop} (hs : w.heap.size ≤ w'.heap.size) (hk : ∀ b, ok b → b < w.heap.size → ok' b ∧ w'.heap[b]? = w.heap[b]?) : ∀ (t : Rx) (v : Value), Is w ok t v → Is w' ok' t v
 | .mk k mn mx n s kids, v => by
  unfold Is
  rintro ⟨ad, l, c, h1, h2, h3, h4⟩
  refine ⟨ad, l, c, h1, h2, h3, fun hne => ?_⟩
  obtain ⟨b, o, h5, h6, h7, h8⟩ := h4 hne
  exact ⟨b, o, h5, (hk b h6 h7).1, Nat.lt_of_lt_of_le h7 hs, IsL.turn hs hk kids b o (hk b h6 h7).2 h8⟩
theorem IsL.turn {w w' : World} {ok ok' : Nat → Prop} (hs : w.heap.size ≤ w'.heap.size) (hk : ∀ b, ok b → b < w.heap.size → ok' b ∧ w'.heap[b]? = w.heap[b]?) : ∀ (ts : List Rx) (b o : Nat), w'.heap[b]? = w.heap[b]? → IsL w ok ts b o → IsL w' ok' ts b o
 | [], b, o => by unfold IsL; intro _ h; exact h
 | t :: ts, b, o => by
  unfold IsL
  rintro hb ⟨⟨v, h1, h2⟩, h3⟩
  exact ⟨⟨v, Is.turn hs hk t v h1, h2.turn hb⟩, IsL.turn hs hk ts b (o + 9) hb h3⟩
end

theorem Is.kp {w w' : World} {ok : Nat → Prop} {t : Rx} {v : Value} (h : Is w ok t v) (k : Kp w w') : Is w' ok t v := Is.turn k.size (fun b hb hl => ⟨hb, k.block b hl⟩) t v h
theorem Is.weak {w : World} {ok ok' : Nat → Prop} {t : Rx} {v : Value} (h : Is w ok t v) (hk : ∀ b, ok b → b < w.heap.size → ok' b) : Is w ok' t v := Is.turn (Nat.le_refl _) (fun b hb hl => ⟨hk b hb hl, rfl⟩) t v h
theorem Is.ks {P : Nat} {w w' : World} {ok : Nat → Prop} {t : Rx} {v : Value} (h : Is w ok t v) (k : Ks P w w') (hP : ∀ b, ok b → b < w.heap.size → b ≠ P) : Is w' ok t v := Is.turn k.size (fun b hb hl => ⟨hb, k.block b hl (hP b hb hl)⟩) t v h
theorem Is.grown {row : Option Nat} {w w' : World} {ok : Nat → Prop} {t : Rx} {v : Value} (h : Is w ok t v) (k : w.grownBy w' row) (hP : ∀ b, ok b → b < w.heap.size → some b ≠ row) : Is w' ok t v := Is.turn k.size (fun b hb hl => ⟨hb, k.block b hl (hP b hb hl)⟩) t v h

/-- The value of a tree has its nine cells. -/
theorem Is.form {w : World} {ok : Nat → Prop} {t : Rx} {v : Value} (h : Is w ok t v) : ∃ k mn mx n s ad l c, v = rxv k mn mx n s (.slice ad l c) := by
 cases t with
 | mk k mn mx n s kids =>
  unfold Is at h
  obtain ⟨ad, l, c, h1, _⟩ := h
  exact ⟨k, mn, mx, n, s, ad, l, c, h1⟩
theorem Is.leaf (w : World) (ok : Nat → Prop) (k mn mx n : Int) (s : W4) : Is w ok (.mk k mn mx n s []) (rxv k mn mx n s (.slice none 0 0)) := by
 unfold Is
 exact ⟨none, 0, 0, rfl, rfl, Nat.le_refl _, fun h => absurd rfl h⟩

theorem IsL.get {w : World} {ok : Nat → Prop} : ∀ {ts : List Rx} {b o : Nat}, IsL w ok ts b o → ∀ (j : Nat) t, ts[j]? = some t → ∃ v, Is w ok t v ∧ CellsAt w b (o + 9 * j) v
 | [], b, o, _, j, t, hj => by simp at hj
 | x :: ts, b, o, h, j, t, hj => by
  unfold IsL at h
  cases j with
  | zero => simp at hj; subst hj; exact h.1
  | succ j =>
   have := IsL.get h.2 j t (by simpa using hj)
   rw [show o + 9 * (j + 1) = o + 9 + 9 * j by omega]
   exact this
theorem IsL.put {w : World} {ok : Nat → Prop} : ∀ {ts : List Rx} {b o : Nat}, (∀ (j : Nat) t, ts[j]? = some t → ∃ v, Is w ok t v ∧ CellsAt w b (o + 9 * j) v) → IsL w ok ts b o
 | [], b, o, _ => by unfold IsL; trivial
 | x :: ts, b, o, h => by
  unfold IsL
  refine ⟨h 0 x rfl, IsL.put fun j t hj => ?_⟩
  have := h (j + 1) t (by simpa using hj)
  rw [show o + 9 * (j + 1) = o + 9 + 9 * j by omega] at this
  exact this

/-- The cells of a row of values. -/
def rowOf (vs : List Value) : List Value := vs.flatMap cellsOf
theorem rowOf_append (xs ys : List Value) : rowOf (xs ++ ys) = rowOf xs ++ rowOf ys := by simp [rowOf]
theorem rowOf_one (x : Value) : rowOf [x] = cellsOf x := by simp [rowOf]
theorem rowOf_at : ∀ (vs : List Value), (∀ v ∈ vs, (cellsOf v).length = 9) → ∀ (j : Nat) v, vs[j]? = some v → ∀ (i : Nat) u, (cellsOf v)[i]? = some u → (rowOf vs)[9 * j + i]? = some u
 | [], _, j, v, hj, _, _, _ => by simp at hj
 | x :: vs, h9, j, v, hj, i, u, hi => by
  have hx : (cellsOf x).length = 9 := h9 x (by simp)
  show (cellsOf x ++ rowOf vs)[9 * j + i]? = some u
  cases j with
  | zero =>
   simp at hj; subst hj
   rw [show 9 * 0 + i = i by omega, List.getElem?_append_left (List.getElem?_eq_some_iff.1 hi).1]
   exact hi
  | succ j =>
   rw [List.getElem?_append_right (by omega), hx, show 9 * (j + 1) + i - 9 = 9 * j + i by omega]
   exact rowOf_at vs (fun v hv => h9 v (by simp [hv])) j v (by simpa using hj) i u hi

/-- A row of trees that the call owns: its block is not below base, and no tree lies in it. -/
structure RKids (base : Nat) (w : World) (v : Value) (ts : List Rx) : Prop where
 ex : ∃ vs : List Value, vs.length = ts.length ∧ w.ownsRow base 27 9 v ts.length (rowOf vs) ∧ ∀ (j : Nat) t u, ts[j]? = some t → vs[j]? = some u → Is w (fun b => base ≤ b ∧ v.ownBlock ≠ some b) t u

theorem RKids.nil (base : Nat) (w : World) : RKids base w (.slice none 0 0) [] := ⟨[], rfl, World.ownsRow_nil w base 27 9, fun j t u hj => by simp at hj⟩

theorem owns_same {w w' : World} {B e k n : Nat} {v : Value} {xs : List Value} (h : w.ownsRow B e k v n xs) (hk : ∀ b, v.ownBlock = some b → b < w.heap.size → w'.heap[b]? = w.heap[b]?) : w'.ownsRow B e k v n xs := by
 obtain ⟨h1, h2⟩ := h
 refine ⟨h1, ?_⟩
 rcases h2 with h2 | ⟨g, cap, cur, hv, hb, hg, hr⟩
 ·
  exact .inl h2
 ·
  exact .inr ⟨g, cap, cur, hv, hb, (hk g (by rw [hv]; rfl) (Array.getElem?_eq_some_iff.1 hg).1).trans hg, hr⟩

theorem RKids.turn {base : Nat} {w w' : World} {v : Value} {ts : List Rx} (h : RKids base w v ts) (hs : w.heap.size ≤ w'.heap.size) (hk : ∀ b, base ≤ b → b < w.heap.size → w'.heap[b]? = w.heap[b]?) : RKids base w' v ts := by
 obtain ⟨vs, h1, h2, h3⟩ := h.ex
 exact ⟨vs, h1, owns_same h2 (fun b hb hl => hk b (h2.lt b hb).1 hl), fun j t u hj hu => Is.turn hs (fun b hb hl => ⟨hb, hk b hb.1 hl⟩) t u (h3 j t u hj hu)⟩
theorem RKids.kp {base : Nat} {w w' : World} {v : Value} {ts : List Rx} (h : RKids base w v ts) (k : Kp w w') : RKids base w' v ts := h.turn k.size (fun b _ hl => k.block b hl)
theorem RKids.ks {P base : Nat} {w w' : World} {v : Value} {ts : List Rx} (h : RKids base w v ts) (k : Ks P w w') (hP : P < base) : RKids base w' v ts := h.turn k.size (fun b hb hl => k.block b hl (by omega))
theorem RKids.block {base : Nat} {w : World} {v : Value} {ts : List Rx} (h : RKids base w v ts) : ∀ b, v.ownBlock = some b → base ≤ b ∧ b < w.heap.size := by
 obtain ⟨vs, _, h2, _⟩ := h.ex
 exact h2.lt
theorem RKids.form {base : Nat} {w : World} {v : Value} {ts : List Rx} (h : RKids base w v ts) : ∃ ad c, v = .slice ad ts.length c ∧ ts.length ≤ c := by
 obtain ⟨vs, _, h2, _⟩ := h.ex
 rcases h2.2 with ⟨rfl, h0⟩ | ⟨g, cap, cur, hv, _, _, hc, _⟩
 ·
  exact ⟨none, 0, by rw [h0], by omega⟩
 ·
  exact ⟨_, cap, hv, hc⟩
theorem owns_cells {w : World} {B n : Nat} {v : Value} {xs : List Value} (h : w.ownsRow B 27 9 v n xs) (hn : 0 < n) : ∃ g cap, v = .slice (some ⟨g, 0, none⟩) n cap ∧ n ≤ cap ∧ B ≤ g ∧ g < w.heap.size ∧ ∀ (j : Nat) u, xs[j]? = some u → w.cell? ⟨g, j, none⟩ = some u := by
 obtain ⟨h1, h2⟩ := h
 rcases h2 with ⟨rfl, h0⟩ | ⟨g, cap, cur, hv, hb, hg, hc, _, _, ht⟩
 ·
  omega
 ·
  refine ⟨g, cap, hv, hc, hb, (Array.getElem?_eq_some_iff.1 hg).1, fun j u hj => ?_⟩
  rw [← ht, List.getElem?_take] at hj
  split at hj
  ·
   rw [Array.getElem?_toList] at hj; exact bl_cell hg j u hj
  ·
   exact absurd hj (by simp)

/-- Each of them lies there. -/
theorem RKids.get {base : Nat} {w : World} {v : Value} {ts : List Rx} (h : RKids base w v ts) (hn : 0 < ts.length) : ∃ g cap, v = .slice (some ⟨g, 0, none⟩) ts.length cap ∧ ts.length ≤ cap ∧ base ≤ g ∧ g < w.heap.size ∧ ∀ (j : Nat) t, ts[j]? = some t → ∃ u, Is w (fun b => base ≤ b ∧ v.ownBlock ≠ some b) t u ∧ CellsAt w g (9 * j) u := by
 obtain ⟨vs, h1, h2, h3⟩ := h.ex
 obtain ⟨g, cap, hv, hc, hb, hl, hcell⟩ := owns_cells h2 hn
 refine ⟨g, cap, hv, hc, hb, hl, fun j t hj => ?_⟩
 have hjl : j < vs.length := by rw [h1]; exact (List.getElem?_eq_some_iff.1 hj).1
 have hu : vs[j]? = some vs[j] := List.getElem?_eq_getElem hjl
 refine ⟨vs[j], h3 j t _ hj hu, fun i x hi => hcell _ _ (rowOf_at vs ?_ j _ hu i x hi)⟩
 intro y hy
 obtain ⟨q, hq⟩ := List.mem_iff_getElem?.1 hy
 have hq' : q < ts.length := by rw [← h1]; exact (List.getElem?_eq_some_iff.1 hq).1
 obtain ⟨k, mn, mx, n, s, ad, l, c, rfl⟩ := (h3 q _ y (List.getElem?_eq_getElem hq') hq).form
 rfl
/-- A tree whose kids they are. -/
theorem RKids.is {base : Nat} {w : World} {v : Value} {ts : List Rx} (h : RKids base w v ts) (k mn mx n : Int) (s : W4) : Is w (fun b => base ≤ b) (.mk k mn mx n s ts) (rxv k mn mx n s v) := by
 unfold Is
 by_cases hn : 0 < ts.length
 ·
  obtain ⟨g, cap, rfl, hc, hb, hl, hg⟩ := h.get hn
  refine ⟨_, _, cap, rfl, rfl, hc, fun _ => ⟨g, 0, rfl, hb, hl, IsL.put fun j t hj => ?_⟩⟩
  obtain ⟨u, h1, h2⟩ := hg j t hj
  refine ⟨u, h1.weak (fun b hb _ => hb.1), ?_⟩
  rw [Nat.zero_add]; exact h2
 ·
  obtain ⟨ad, c, rfl, hc⟩ := h.form
  exact ⟨ad, _, c, rfl, rfl, hc, fun hne => absurd (List.eq_nil_of_length_eq_zero (by omega)) hne⟩

theorem info27 : ∃ i, Tryz.prog.info? 27 = some i ∧ i.zero = some rz ∧ i.size = 9 ∧ i.bytes = 88 := by
 obtain ⟨i, hi, h0, h1, h2⟩ := info_parts (P := Tryz.prog) (e := 27) (z := rz) (size := 9) (bytes := 88) (by kernel_rfl)
 exact ⟨i, hi, h0, h1, h2⟩

theorem rx_one (k mn mx m : Int) (t : W4) (ad : Option Addr) (l c : Nat) : ∀ u ∈ cellsOf (rxv k mn mx m t (.slice ad l c)), u.oneCell' = true := by
 intro u hu
 simp [cellsOf] at hu
 rcases hu with rfl | rfl | rfl | rfl | rfl | rfl | rfl | rfl | rfl <;> rfl

/-- A tree put behind those that the call owns. -/
theorem wpList_append_rx {ops : Array Oper} {rest : List Oper} {o : Oper} {a : Act} {Q : Exit → Act → World → Prop} (W : World) (hgd : o.guard = none) (s x : Operand)
  (ho : o.op = .call { callee := .builtin .append, args := #[s, x], argTypes := #[25, 25] })
  (base : Nat) (v : Value) (ts : List Rx) (r : Rx) (hs : a.eval s = v) (hK : Hid (RKids base W v ts)) (k mn mx m : Int) (t : W4) (ad : Option Addr) (l c : Nat)
  (hI : Hid (Is W (fun b => base ≤ b ∧ v.ownBlock ≠ some b) r (rxv k mn mx m t (.slice ad l c)))) (B : Nat) (hB : B = W.heap.size)
  (hx : a.eval x = .slice (some ⟨B, 0, none⟩) 1 1) (h63 : ts.length ≤ 1000000) (hbase : base ≤ W.heap.size)
  (h : ∀ v' w', RKids base w' v' (ts ++ [r]) → W.grownBy w' v.ownBlock → wpList Tryz.prog ops Q rest (a.put o.dst v') w') :
  wpList Tryz.prog ops Q (o :: rest) a (W.alloc (rxo k mn mx m t (.slice ad l c))) := by
 obtain ⟨i, hi, hz, hsz, hby⟩ := info27
 obtain ⟨vs, hv1, hv2, hv3⟩ := hK.out.ex
 have kal : Kp W (W.alloc (rxo k mn mx m t (.slice ad l c))) := (Kp.refl _).alloc _
 subst hB
 refine wpList_append_own_at (W.alloc (rxo k mn mx m t (.slice ad l c))) hgd s x 25 ho base 27 i rz 9 88 Tryz.underlying25 hi hz hsz hby rfl (by omega) v ts.length (rowOf vs) hs (owns_same hv2 fun b _ hl => kal.block b hl) ⟨W.heap.size, 0, none⟩ 1 1 (cellsOf (rxv k mn mx m t (.slice ad l c))) hx rfl ?_ (rx_one _ _ _ _ _ _ _ _) (by unfold maxLen; omega) (by omega) (by simp; omega) ?_
 ·
  intro j y hj
  have hn := last_of W (rxo k mn mx m t (.slice ad l c))
  rw [show (⟨W.heap.size, 0, none⟩ : Addr).add j = ⟨W.heap.size, j, none⟩ by simp [Addr.add]; exact Eq.symm]
  refine bl_cell hn j y ?_
  rw [← Array.getElem?_toList]; exact hj
 ·
  intro v' w' a1 a2 _ a4
  have hgr : W.grownBy w' v.ownBlock := ⟨a2.os.trans rfl, a2.tape.trans rfl, a2.output.trans rfl, Nat.le_trans kal.size a2.size, fun b hb hne => (a2.block b (Nat.lt_of_lt_of_le hb kal.size) hne).trans (kal.block b hb)⟩
  refine h v' w' ⟨vs ++ [rxv k mn mx m t (.slice ad l c)], by simp [hv1], ?_, ?_⟩ hgr
  ·
   rw [List.length_append, rowOf_append, rowOf_one]; exact a1
  ·
   have hok : ∀ b, (base ≤ b ∧ v.ownBlock ≠ some b) → b < W.heap.size → (base ≤ b ∧ v'.ownBlock ≠ some b) ∧ w'.heap[b]? = W.heap[b]? := by
    intro b hb hl
    refine ⟨⟨hb.1, ?_⟩, hgr.block b hl (Ne.symm hb.2)⟩
    rcases a4 with a4 | a4
    ·
     rw [a4]; exact hb.2
    ·
     rw [a4]; intro he; injection he with he; simp at he; omega
   intro j t' u hj hu
   by_cases hlt : j < ts.length
   ·
    rw [List.getElem?_append_left hlt] at hj
    rw [List.getElem?_append_left (by omega)] at hu
    exact Is.turn hgr.size hok t' u (hv3 j t' u hj hu)
   ·
    have hj0 : j = ts.length := by
     have := (List.getElem?_eq_some_iff.1 hj).1
     simp at this; omega
    subst hj0
    rw [List.getElem?_append_right (Nat.le_refl _)] at hj
    rw [List.getElem?_append_right (by omega), hv1] at hu
    simp at hj hu
    subst hj
    subst hu
    exact Is.turn hgr.size hok _ _ hI.out
end Go.Proofs.YtigdmebijbaofaaGreatDoor
