/-
  Texts of this claim: Sign2, Sign3.
-/
import Derived.Test.YtigdmebijbaofaaGreatDoorReadDM2
import Derived.Lib.SlBytesConst
/-! ### Sign2 -/
namespace Go.Proofs.YtigdmebijbaofaaGreatDoor
open Go.RowKit
def specL : List Nat := [46, 91, 93, 42, 94, 36, 92, 47]
def specE : List Nat := [43, 63, 123, 125, 124, 40, 41]
theorem spec_false : inL specL = spec false := by funext b; rw [Bool.eq_iff_iff]; simp [inL, specL, spec]; omega
theorem spec_true : orB (inL specL) (inL specE) = spec true := by funext b; rw [Bool.eq_iff_iff]; simp [orB, inL, specL, specE, spec]; omega
set_option maxRecDepth 100000 in
theorem special_any (ere : Bool) (w : World) : Calls Tryz.prog 192 #[.bool ere] w fun e w' => e = .returned (sv (spec ere)) ∧ Kp w w' := by
 have kc := fun (w : World) (C : Array Value) (n c : Nat) => Lib.run_convert_bytes_const (P := Tryz.prog) w 59 5 C n c Tryz.underlying59 Tryz.underlying5
 go_enter Tryz.func192, Tryz.ntmps192
 go_upto_region 1 with fail
 obtain ⟨W0, hW0⟩ : ∃ W, w.alloc (.cells #[.int .u64 0, .int .u64 0, .int .u64 0, .int .u64 0] 24) = W := ⟨_, rfl⟩
 rw [hW0]
 have B0 : Hid (W0.heap[w.heap.size]? = some (.cells #[.int .u64 0, .int .u64 0, .int .u64 0, .int .u64 0] 24) ∧ Kp w W0) := by subst hW0; exact ⟨last_of _ _, (Kp.refl _).alloc _⟩
 clear hW0
 go_wp2_with fail
 refine (of_list specL 8 8 _ _ _ rfl (by omega) (by decide) (last_of _ _)).mono ?_
 rintro e w1 ⟨rfl, k1⟩
 obtain ⟨W1, hW1⟩ : ∃ W, w1.alloc (blk (inL specL)) = W := ⟨_, rfl⟩
 have HW1 : Hid (w1.alloc (blk (inL specL)) = W1) := hW1
 have k2 : Kp W0 W1 := by subst hW1; exact ((((Kp.refl _).alloc _).trans k1).alloc _)
 have B1 : Hid (W1.heap[w.heap.size]? = some (.cells #[.int .u64 0, .int .u64 0, .int .u64 0, .int .u64 0] 24) ∧ Kp w W1 ∧ At W1 w1.heap.size (inL specL)) := ⟨bl_kp B0.out.1 k2, B0.out.2.trans k2, by subst hW1; exact last_of _ _⟩
 clear k1 k2 hW1 B0
 go_upto_if 7 with fail
 rw [HW1.out]
 clear HW1 kc
 obtain ⟨S3, hS3⟩ : ∃ S, w1.heap.size = S := ⟨_, rfl⟩
 rw [hS3] at B1 ⊢
 clear hS3
 obtain ⟨d0, d1, d2, d3⟩ := B1.out.2.2.cells
 have z := B1.out.1
 have f0 := bl_frozen z 0
 have f1 := bl_frozen z 1
 have f2 := bl_frozen z 2
 have f3 := bl_frozen z 3
 have c0 := bl_cell z 0 _ rfl
 have c1 := bl_cell z 1 _ rfl
 have c2 := bl_cell z 2 _ rfl
 have c3 := bl_cell z 3 _ rfl
 clear z
 cases ere with
 | false =>
  go_wp2_with fail
  have A4 := bl_set4 B1.out.1 (.int .u64 (wd (inL specL) 0 : Nat)) (.int .u64 (wd (inL specL) 1 : Nat)) (.int .u64 (wd (inL specL) 2 : Nat)) (.int .u64 (wd (inL specL) 3 : Nat))
  refine bodyPost_ret (v := sv (inL specL)) (ret_at rfl _ _ _ _ rfl A4) rfl ⟨by rw [spec_false], ?_⟩
  exact (ks_set4 _ _ _ _).up B1.out.2.1 (Nat.le_refl _)
 | true =>
  clear f0 f1 f2 f3 c0 c1 c2 c3
  have kc := fun (w : World) (C : Array Value) (n c : Nat) => Lib.run_convert_bytes_const (P := Tryz.prog) w 59 5 C n c Tryz.underlying59 Tryz.underlying5
  go_wp2_with fail
  have MK : Hid (∀ W, Kp W1 W → W.cell? ⟨S3, 0, none⟩ = some (.int .u64 (wd (inL specL) 0 : Nat)) ∧ W.cell? ⟨S3, 1, none⟩ = some (.int .u64 (wd (inL specL) 1 : Nat)) ∧ W.cell? ⟨S3, 2, none⟩ = some (.int .u64 (wd (inL specL) 2 : Nat)) ∧ W.cell? ⟨S3, 3, none⟩ = some (.int .u64 (wd (inL specL) 3 : Nat)) ∧ Hid (Kp W1 W)) := fun W k => ⟨(bl_cell (bl_kp B1.out.2.2 k) 0 _ rfl), (bl_cell (bl_kp B1.out.2.2 k) 1 _ rfl), (bl_cell (bl_kp B1.out.2.2 k) 2 _ rfl), (bl_cell (bl_kp B1.out.2.2 k) 3 _ rfl), k⟩
  have Q0 : Kp W1 W1.drew := (Kp.refl _).drew
  refine wp_region_noPanic ?_
  refine region_Z (z := 6) (S := (fun W => W.cell? ⟨S3, 0, none⟩ = some (.int .u64 (wd (inL specL) 0 : Nat)) ∧ W.cell? ⟨S3, 1, none⟩ = some (.int .u64 (wd (inL specL) 1 : Nat)) ∧ W.cell? ⟨S3, 2, none⟩ = some (.int .u64 (wd (inL specL) 2 : Nat)) ∧ W.cell? ⟨S3, 3, none⟩ = some (.int .u64 (wd (inL specL) 3 : Nat)) ∧ Hid (Kp W1 W))) (by kernel_rfl) ?_ (fun hH => ?_)
  ·
   exact MK.out _ Q0
  have KQ := Q0
  refine anyZ_take (z := 6) (ks := []) (i := 0) (oi := { dst := some 8, op := .load 24 (.tmp 3), type := 24, pos := "print.go:24", after := #[], guard := none }) (v := ?v0a1) rfl (by kernel_rfl) (by kernel_rfl) (by kernel_rfl) (by kernel_rfl) (by kernel_rfl) (fun _ _ _ h => h) (Or.inl ⟨by rfl, ?hy0a1⟩) hH ?r0a1
  case hy0a1 => (intro W hSw; (try dsimp only at hSw); go_simp; try (with_reducible rfl))
  try simp only [Act.put, List.setIfInBounds_toArray, List.set_cons_zero, List.set_cons_succ]
  refine anyZ_ready (rs := [1]) (by kernel_rfl) (by simp) ?_
  refine AllZ.cons (o := { dst := some 9, op := Op.buildSlice 59 7 #[(0, Operand.const (Value.int IntKind.u8 43)), (1, Operand.const (Value.int IntKind.u8 63)), (2, Operand.const (Value.int IntKind.u8 123)), (3, Operand.const (Value.int IntKind.u8 125)), (4, Operand.const (Value.int IntKind.u8 124)), (5, Operand.const (Value.int IntKind.u8 40)), (6, Operand.const (Value.int IntKind.u8 41))], type := 59, pos := "print.go:24", after := #[], guard := none }) rfl (fun K hKq => ?_) AllZ.nil
  go_simp
  refine hKq.out _ _ (MK.out _ (KQ.alloc _)) (fun hN => ?_)
  clear hKq K hH KQ
  have hH := hN
  clear hN
  have KQ := hH.2.2.2.2.out
  try simp only [Act.put, List.setIfInBounds_toArray, List.set_cons_zero, List.set_cons_succ]
  refine anyZ_ready (rs := [2]) (by kernel_rfl) (by simp) ?_
  refine AllZ.cons (o := { dst := some 10, op := Op.convert 59 59 (Operand.tmp 9), type := 59, pos := "print.go:24", after := #[{ on := 1, ground := Ground.data }], guard := none }) rfl (fun K hKq => ?_) AllZ.nil
  obtain ⟨wc, hc, bc, ks⟩ := conv_any (W1.alloc (.cells #[.int .u8 43, .int .u8 63, .int .u8 123, .int .u8 125, .int .u8 124, .int .u8 40, .int .u8 41] 5)).drew W1.heap.size _ 7 7 (last_drew _ _)
  go_simp
  clear hc
  refine hKq.out _ _ (MK.out _ (ks.up KQ (Nat.le_refl _))) (fun hN => ?_)
  clear ks
  clear hKq K hH KQ
  have hH := hN
  clear hN
  have KQ := hH.2.2.2.2.out
  try simp only [Act.put, List.setIfInBounds_toArray, List.set_cons_zero, List.set_cons_succ]
  refine anyZ_ready (rs := [3]) (by kernel_rfl) (by simp) ?_
  refine AllZ.cons (o := { dst := some 11, op := Op.call { callee := Callee.value (Operand.func 220), args := #[Operand.tmp 10], argTypes := #[59] }, type := 24, pos := "print.go:24", after := #[{ on := 2, ground := Ground.data }], guard := none }) rfl (fun K hKq => ?_) AllZ.nil
  go_simp
  refine (of_list specE 7 7 _ _ _ rfl (by omega) (by decide) bc).mono ?_
  rintro e y3 ⟨rfl, kq⟩
  refine hKq.out _ _ (MK.out _ (KQ.trans kq)) (fun hN => ?_)
  clear kq
  clear hKq K hH KQ
  have hH := hN
  clear hN
  have KQ := hH.2.2.2.2.out
  try simp only [Act.put, List.setIfInBounds_toArray, List.set_cons_zero, List.set_cons_succ]
  refine anyZ_ready (rs := [4]) (by kernel_rfl) (by simp) ?_
  refine AllZ.cons (o := { dst := some 12, op := Op.buildSlice 251 2 #[(0, Operand.tmp 8), (1, Operand.tmp 11)], type := 251, pos := "print.go:24", after := #[{ on := 0, ground := Ground.data }, { on := 3, ground := Ground.data }], guard := none }) rfl (fun K hKq => ?_) AllZ.nil
  go_simp
  refine hKq.out _ _ (MK.out _ (KQ.alloc _)) (fun hN => ?_)
  clear hKq K hH KQ
  have hH := hN
  clear hN
  have KQ := hH.2.2.2.2.out
  try simp only [Act.put, List.setIfInBounds_toArray, List.set_cons_zero, List.set_cons_succ]
  refine anyZ_ready (rs := [5]) (by kernel_rfl) (by simp) ?_
  refine AllZ.cons (o := { dst := some 13, op := Op.call { callee := Callee.value (Operand.func 221), args := #[Operand.tmp 12], argTypes := #[251] }, type := 24, pos := "print.go:24", after := #[{ on := 4, ground := Ground.data }, { on := 3, ground := Ground.chain }], guard := none }) rfl (fun K hKq => ?_) AllZ.nil
  go_simp
  refine (join2 (inL specL) (inL specE) _ _ (by simp) (last_of _ _)).mono ?_
  rintro e y5 ⟨rfl, kq⟩
  have K5 : Kp W1 y5 := KQ.trans kq
  have V2 := bl_kp B1.out.1 K5
  have f0 := bl_frozen V2 0
  have f1 := bl_frozen V2 1
  have f2 := bl_frozen V2 2
  have f3 := bl_frozen V2 3
  have c0 := bl_cell V2 0 _ rfl
  have c1 := bl_cell V2 1 _ rfl
  have c2 := bl_cell V2 2 _ rfl
  have c3 := bl_cell V2 3 _ rfl
  refine hKq.out _ _ (MK.out _ (KQ.trans kq)) (fun hN => ?_)
  clear kq
  clear hKq K hH KQ
  have hH := hN
  clear hN
  have KQ := hH.2.2.2.2.out
  try simp only [Act.put, List.setIfInBounds_toArray, List.set_cons_zero, List.set_cons_succ]
  refine anyZ_ready (rs := [6]) (by kernel_rfl) (by simp) ?_
  refine AllZ.last (o := { dst := none, op := Op.store 24 (Operand.tmp 2) (Operand.tmp 13), type := 0, pos := "print.go:24", after := #[{ on := 5, ground := Ground.data }, { on := 5, ground := Ground.chain }, { on := 0, ground := Ground.phase }, { on := 1, ground := Ground.phase }, { on := 2, ground := Ground.phase }, { on := 3, ground := Ground.phase }, { on := 4, ground := Ground.phase }, { on := 5, ground := Ground.phase }], guard := none }) rfl (Or.inl rfl) (fun K hKq => ?_) AllZ.nil
  go_simp
  refine hKq.out _ _ ?_
  clear hKq K
  try simp only [Act.put, List.setIfInBounds_toArray, List.set_cons_zero, List.set_cons_succ]
  refine anyZ_done (by kernel_rfl) ?_ _
  refine NoPanic.normal ?_
  go_wp2_with fail
  have A4 := bl_set4 V2 (.int .u64 (wd (orB (inL specL) (inL specE)) 0 : Nat)) (.int .u64 (wd (orB (inL specL) (inL specE)) 1 : Nat)) (.int .u64 (wd (orB (inL specL) (inL specE)) 2 : Nat)) (.int .u64 (wd (orB (inL specL) (inL specE)) 3 : Nat))
  refine bodyPost_ret (v := sv (orB (inL specL) (inL specE))) (ret_at rfl _ _ _ _ rfl A4) rfl ⟨by rw [spec_true], ?_⟩
  exact (ks_set4 _ _ _ _).up (B1.out.2.1.trans K5) (Nat.le_refl _)
def sg (g : Nat × Nat × Nat) : Value := .agg #[.int .i64 (g.1 : Int), .int .u8 (g.2.1 : Int), .int .i64 (g.2.2 : Int)]
theorem sg3 (x y z : Nat) : sg (x, y, z) = .agg #[.int .i64 (x : Int), .int .u8 (y : Int), .int .i64 (z : Int)] := rfl
theorem sg_ret {fn : Func} {p : Tmp} (h : fn.results = #[.cell p 173]) (tmps : Array Value) (w : World) (S : Nat) (x y z : Value) (hp : tmps.getD p undef = .pointer (some ⟨S, 0, none⟩)) (hA : w.heap[S]? = some (.cells #[x, y, z] 173)) : (results fn tmps).run Tryz.prog w = .ok (.agg #[x, y, z]) w :=
 results_cell_row h tmps w S 173 _ (0, 0) _ hp hA Tryz.underlying173 rfl (by kernel_rfl)
def qs (b : Nat) (ere : Bool) : Nat × Nat × Nat := if b = 110 then (2, 10, 2) else if rng 48 57 b then (14, b, 2) else if spec ere b then (2, b, 2) else if ere then (0, 0, 0) else (framing b, b, 2)
def quoted (t : ByteArray) (ere : Bool) : Nat × Nat × Nat := if t.size = 0 then (0, 0, 0) else qs (ch t 0) ere
theorem str_nil (t : ByteArray) : t.toList.isEmpty = decide (t.size = 0) := by
 rw [ByteArray.toList_eq, show t.size = t.data.toList.length from (Array.length_toList).symm]
 cases t.data.toList <;> simp
set_option maxRecDepth 100000 in
theorem quoted_any (t : ByteArray) (ere : Bool) (w : World) : Calls Tryz.prog 208 #[.string t, .bool ere] w fun e w' => e = .returned (sg (quoted t ere)) ∧ Kp w w' := by
 have ez := str_nil t
 by_cases h0 : t.size = 0
 ·
  rw [decide_eq_true h0] at ez
  have E : Hid (quoted t ere = (0, 0, 0)) := by show _ = _; unfold quoted; rw [if_pos h0]
  go_enter Tryz.func208, Tryz.ntmps208
  go_upto_region 1 with fail
  obtain ⟨W0, hW0⟩ : ∃ W, w.alloc (.cells #[.int .i64 0, .int .u8 0, .int .i64 0] 173) = W := ⟨_, rfl⟩
  rw [hW0]
  have B0 : Hid (W0.heap[w.heap.size]? = some (.cells #[.int .i64 0, .int .u8 0, .int .i64 0] 173) ∧ Kp w W0) := by subst hW0; exact ⟨last_of _ _, (Kp.refl _).alloc _⟩
  clear hW0
  have z := B0.out.1
  have f0 := bl_frozen z 0
  have f1 := bl_frozen z 1
  have f2 := bl_frozen z 2
  have c0 := bl_cell z 0 _ rfl
  have c1 := bl_cell z 1 _ rfl
  have c2 := bl_cell z 2 _ rfl
  clear z
  go_wp2_with fail
  exact bodyPost_ret (v := .agg #[_, _, _]) (sg_ret rfl _ _ _ _ _ _ rfl (bl_set3 B0.out.1 _ _ _)) rfl ⟨by rw [E.out]; rfl, (ks_set3 _ _ _).up B0.out.2 (Nat.le_refl _)⟩
 rw [decide_eq_false h0] at ez
 have ec := run_ch t 0 (by omega)
 rw [show ((0 : Nat) : Int) = 0 from rfl] at ec
 have hq : quoted t ere = qs (ch t 0) ere := by unfold quoted; rw [if_neg h0]
 obtain ⟨b, hb⟩ : ∃ b, ch t 0 = b := ⟨_, rfl⟩
 have hb256 : b < 256 := by rw [← hb]; exact ch_lt _ _
 rw [hb] at ec hq
 clear hb
 by_cases h1 : b = 110
 ·
  subst h1
  rw [show ((110 : Nat) : Int) = 110 from rfl] at ec
  have E : Hid (quoted t ere = (2, 10, 2)) := by show _ = _; rw [hq]; rfl
  clear hq
  go_enter Tryz.func208, Tryz.ntmps208
  go_upto_region 1 with fail
  obtain ⟨W0, hW0⟩ : ∃ W, w.alloc (.cells #[.int .i64 0, .int .u8 0, .int .i64 0] 173) = W := ⟨_, rfl⟩
  rw [hW0]
  have B0 : Hid (W0.heap[w.heap.size]? = some (.cells #[.int .i64 0, .int .u8 0, .int .i64 0] 173) ∧ Kp w W0) := by subst hW0; exact ⟨last_of _ _, (Kp.refl _).alloc _⟩
  clear hW0
  have z := B0.out.1
  have f0 := bl_frozen z 0
  have f1 := bl_frozen z 1
  have f2 := bl_frozen z 2
  have c0 := bl_cell z 0 _ rfl
  have c1 := bl_cell z 1 _ rfl
  have c2 := bl_cell z 2 _ rfl
  clear z
  go_wp2_with fail
  exact bodyPost_ret (v := .agg #[_, _, _]) (sg_ret rfl _ _ _ _ _ _ rfl (bl_set3 B0.out.1 _ _ _)) rfl ⟨by rw [E.out]; rfl, (ks_set3 _ _ _).up B0.out.2 (Nat.le_refl _)⟩
 have g1 : ((b : Int) == 110) = false := by simp; omega
 have g1' : ¬ (b : Int) = 110 := by omega
 by_cases h2 : rng 48 57 b = true
 ·
  have E : Hid (quoted t ere = (14, b, 2)) := by show _ = _; rw [hq]; unfold qs; rw [if_neg h1, if_pos h2]
  have H2 : Hid (rng 48 57 b = true) := h2
  clear hq h2
  go_enter Tryz.func208, Tryz.ntmps208
  go_upto_region 1 with fail
  obtain ⟨W0, hW0⟩ : ∃ W, w.alloc (.cells #[.int .i64 0, .int .u8 0, .int .i64 0] 173) = W := ⟨_, rfl⟩
  rw [hW0]
  have B0 : Hid (W0.heap[w.heap.size]? = some (.cells #[.int .i64 0, .int .u8 0, .int .i64 0] 173) ∧ Kp w W0) := by subst hW0; exact ⟨last_of _ _, (Kp.refl _).alloc _⟩
  clear hW0
  go_wp2_with fail
  refine (range_any 48 57 _ (by omega) (by omega)).mono ?_
  rintro e w1 ⟨rfl, kq⟩
  have B1 : Hid (w1.heap[w.heap.size]? = some (.cells #[.int .i64 0, .int .u8 0, .int .i64 0] 173) ∧ Kp w w1) := ⟨bl_kp B0.out.1 kq, B0.out.2.trans kq⟩
  clear kq B0
  go_wp2_with fail
  refine (has_any (rng 48 57) b _ hb256).mono ?_
  rintro e w2 ⟨rfl, kq⟩
  rw [H2.out]
  have B2 : Hid (w2.heap[w.heap.size]? = some (.cells #[.int .i64 0, .int .u8 0, .int .i64 0] 173) ∧ Kp w w2) := ⟨bl_kp B1.out.1 kq, B1.out.2.trans kq⟩
  clear kq B1
  have z := B2.out.1
  have f0 := bl_frozen z 0
  have f1 := bl_frozen z 1
  have f2 := bl_frozen z 2
  have c0 := bl_cell z 0 _ rfl
  have c1 := bl_cell z 1 _ rfl
  have c2 := bl_cell z 2 _ rfl
  clear z
  go_wp2_with fail
  exact bodyPost_ret (v := .agg #[_, _, _]) (sg_ret rfl _ _ _ _ _ _ rfl (bl_set3 B2.out.1 _ _ _)) rfl ⟨by rw [E.out]; rfl, (ks_set3 _ _ _).up B2.out.2 (Nat.le_refl _)⟩
 have h2 : rng 48 57 b = false := by cases h : rng 48 57 b <;> simp_all
 by_cases h3 : spec ere b = true
 ·
  have E : Hid (quoted t ere = (2, b, 2)) := by show _ = _; rw [hq]; unfold qs; rw [if_neg h1, h2, if_neg (by simp), if_pos h3]
  have H2 : Hid (rng 48 57 b = false) := h2
  have H3 : Hid (spec ere b = true) := h3
  clear hq h2 h3
  go_enter Tryz.func208, Tryz.ntmps208
  go_upto_region 1 with fail
  obtain ⟨W0, hW0⟩ : ∃ W, w.alloc (.cells #[.int .i64 0, .int .u8 0, .int .i64 0] 173) = W := ⟨_, rfl⟩
  rw [hW0]
  have B0 : Hid (W0.heap[w.heap.size]? = some (.cells #[.int .i64 0, .int .u8 0, .int .i64 0] 173) ∧ Kp w W0) := by subst hW0; exact ⟨last_of _ _, (Kp.refl _).alloc _⟩
  clear hW0
  go_wp2_with fail
  refine (range_any 48 57 _ (by omega) (by omega)).mono ?_
  rintro e w1 ⟨rfl, kq⟩
  have B1 : Hid (w1.heap[w.heap.size]? = some (.cells #[.int .i64 0, .int .u8 0, .int .i64 0] 173) ∧ Kp w w1) := ⟨bl_kp B0.out.1 kq, B0.out.2.trans kq⟩
  clear kq B0
  go_wp2_with fail
  refine (has_any (rng 48 57) b _ hb256).mono ?_
  rintro e w2 ⟨rfl, kq⟩
  rw [H2.out]
  have B2 : Hid (w2.heap[w.heap.size]? = some (.cells #[.int .i64 0, .int .u8 0, .int .i64 0] 173) ∧ Kp w w2) := ⟨bl_kp B1.out.1 kq, B1.out.2.trans kq⟩
  clear kq B1
  go_wp2_with fail
  refine (special_any ere _).mono ?_
  rintro e w3 ⟨rfl, kq⟩
  have B3 : Hid (w3.heap[w.heap.size]? = some (.cells #[.int .i64 0, .int .u8 0, .int .i64 0] 173) ∧ Kp w w3) := ⟨bl_kp B2.out.1 kq, B2.out.2.trans kq⟩
  clear kq B2
  go_wp2_with fail
  refine (has_any (spec ere) b _ hb256).mono ?_
  rintro e w4 ⟨rfl, kq⟩
  rw [H3.out]
  have B4 : Hid (w4.heap[w.heap.size]? = some (.cells #[.int .i64 0, .int .u8 0, .int .i64 0] 173) ∧ Kp w w4) := ⟨bl_kp B3.out.1 kq, B3.out.2.trans kq⟩
  clear kq B3
  have z := B4.out.1
  have f0 := bl_frozen z 0
  have f1 := bl_frozen z 1
  have f2 := bl_frozen z 2
  have c0 := bl_cell z 0 _ rfl
  have c1 := bl_cell z 1 _ rfl
  have c2 := bl_cell z 2 _ rfl
  clear z
  go_wp2_with fail
  exact bodyPost_ret (v := .agg #[_, _, _]) (sg_ret rfl _ _ _ _ _ _ rfl (bl_set3 B4.out.1 _ _ _)) rfl ⟨by rw [E.out]; rfl, (ks_set3 _ _ _).up B4.out.2 (Nat.le_refl _)⟩
 have h3 : spec ere b = false := by cases h : spec ere b <;> simp_all
 have H2 : Hid (rng 48 57 b = false) := h2
 have H3 : Hid (spec ere b = false) := h3
 cases ere with
 | true =>
  have E : Hid (quoted t true = (0, 0, 0)) := by show _ = _; rw [hq]; unfold qs; rw [if_neg h1, h2, if_neg (by simp), h3]; rfl
  clear hq h2 h3
  go_enter Tryz.func208, Tryz.ntmps208
  go_upto_region 1 with fail
  obtain ⟨W0, hW0⟩ : ∃ W, w.alloc (.cells #[.int .i64 0, .int .u8 0, .int .i64 0] 173) = W := ⟨_, rfl⟩
  rw [hW0]
  have B0 : Hid (W0.heap[w.heap.size]? = some (.cells #[.int .i64 0, .int .u8 0, .int .i64 0] 173) ∧ Kp w W0) := by subst hW0; exact ⟨last_of _ _, (Kp.refl _).alloc _⟩
  clear hW0
  go_wp2_with fail
  refine (range_any 48 57 _ (by omega) (by omega)).mono ?_
  rintro e w1 ⟨rfl, kq⟩
  have B1 : Hid (w1.heap[w.heap.size]? = some (.cells #[.int .i64 0, .int .u8 0, .int .i64 0] 173) ∧ Kp w w1) := ⟨bl_kp B0.out.1 kq, B0.out.2.trans kq⟩
  clear kq B0
  go_wp2_with fail
  refine (has_any (rng 48 57) b _ hb256).mono ?_
  rintro e w2 ⟨rfl, kq⟩
  rw [H2.out]
  have B2 : Hid (w2.heap[w.heap.size]? = some (.cells #[.int .i64 0, .int .u8 0, .int .i64 0] 173) ∧ Kp w w2) := ⟨bl_kp B1.out.1 kq, B1.out.2.trans kq⟩
  clear kq B1
  go_wp2_with fail
  refine (special_any true _).mono ?_
  rintro e w3 ⟨rfl, kq⟩
  have B3 : Hid (w3.heap[w.heap.size]? = some (.cells #[.int .i64 0, .int .u8 0, .int .i64 0] 173) ∧ Kp w w3) := ⟨bl_kp B2.out.1 kq, B2.out.2.trans kq⟩
  clear kq B2
  go_wp2_with fail
  refine (has_any (spec true) b _ hb256).mono ?_
  rintro e w4 ⟨rfl, kq⟩
  rw [H3.out]
  have B4 : Hid (w4.heap[w.heap.size]? = some (.cells #[.int .i64 0, .int .u8 0, .int .i64 0] 173) ∧ Kp w w4) := ⟨bl_kp B3.out.1 kq, B3.out.2.trans kq⟩
  clear kq B3
  have z := B4.out.1
  have f0 := bl_frozen z 0
  have f1 := bl_frozen z 1
  have f2 := bl_frozen z 2
  have c0 := bl_cell z 0 _ rfl
  have c1 := bl_cell z 1 _ rfl
  have c2 := bl_cell z 2 _ rfl
  clear z
  go_wp2_with fail
  exact bodyPost_ret (v := .agg #[_, _, _]) (sg_ret rfl _ _ _ _ _ _ rfl (bl_set3 B4.out.1 _ _ _)) rfl ⟨by rw [E.out]; rfl, (ks_set3 _ _ _).up B4.out.2 (Nat.le_refl _)⟩
 | false =>
  have E : Hid (quoted t false = (framing b, b, 2)) := by show _ = _; rw [hq]; unfold qs; rw [if_neg h1, h2, if_neg (by simp), h3]; rfl
  clear hq h2 h3
  go_enter Tryz.func208, Tryz.ntmps208
  go_upto_region 1 with fail
  obtain ⟨W0, hW0⟩ : ∃ W, w.alloc (.cells #[.int .i64 0, .int .u8 0, .int .i64 0] 173) = W := ⟨_, rfl⟩
  rw [hW0]
  have B0 : Hid (W0.heap[w.heap.size]? = some (.cells #[.int .i64 0, .int .u8 0, .int .i64 0] 173) ∧ Kp w W0) := by subst hW0; exact ⟨last_of _ _, (Kp.refl _).alloc _⟩
  clear hW0
  go_wp2_with fail
  refine (range_any 48 57 _ (by omega) (by omega)).mono ?_
  rintro e w1 ⟨rfl, kq⟩
  have B1 : Hid (w1.heap[w.heap.size]? = some (.cells #[.int .i64 0, .int .u8 0, .int .i64 0] 173) ∧ Kp w w1) := ⟨bl_kp B0.out.1 kq, B0.out.2.trans kq⟩
  clear kq B0
  go_wp2_with fail
  refine (has_any (rng 48 57) b _ hb256).mono ?_
  rintro e w2 ⟨rfl, kq⟩
  rw [H2.out]
  have B2 : Hid (w2.heap[w.heap.size]? = some (.cells #[.int .i64 0, .int .u8 0, .int .i64 0] 173) ∧ Kp w w2) := ⟨bl_kp B1.out.1 kq, B1.out.2.trans kq⟩
  clear kq B1
  go_wp2_with fail
  refine (special_any false _).mono ?_
  rintro e w3 ⟨rfl, kq⟩
  have B3 : Hid (w3.heap[w.heap.size]? = some (.cells #[.int .i64 0, .int .u8 0, .int .i64 0] 173) ∧ Kp w w3) := ⟨bl_kp B2.out.1 kq, B2.out.2.trans kq⟩
  clear kq B2
  go_wp2_with fail
  refine (has_any (spec false) b _ hb256).mono ?_
  rintro e w4 ⟨rfl, kq⟩
  rw [H3.out]
  have B4 : Hid (w4.heap[w.heap.size]? = some (.cells #[.int .i64 0, .int .u8 0, .int .i64 0] 173) ∧ Kp w w4) := ⟨bl_kp B3.out.1 kq, B3.out.2.trans kq⟩
  clear kq B3
  go_wp2_with fail
  refine (framing_any b _).mono ?_
  rintro e w4 ⟨rfl, rfl⟩
  have z := B4.out.1
  have f0 := bl_frozen z 0
  have f1 := bl_frozen z 1
  have f2 := bl_frozen z 2
  have c0 := bl_cell z 0 _ rfl
  have c1 := bl_cell z 1 _ rfl
  have c2 := bl_cell z 2 _ rfl
  clear z
  go_wp2_with fail
  exact bodyPost_ret (v := .agg #[_, _, _]) (sg_ret rfl _ _ _ _ _ _ rfl (bl_set3 B4.out.1 _ _ _)) rfl ⟨by rw [E.out]; rfl, (ks_set3 _ _ _).up B4.out.2 (Nat.le_refl _)⟩
def sgn (s : ByteArray) (ere : Bool) (i : Nat) : Nat × Nat × Nat := if i = s.size then (1, 0, 0) else if ch s i = 92 then quoted (s.extract (i + 1) s.size) ere else (bare (ch s i) ere, ch s i, 1)
set_option maxRecDepth 100000 in
theorem signAt_any (s : ByteArray) (ere : Bool) (i : Nat) (w : World) (hi : i ≤ s.size) (hs : s.size ≤ 1000000) :
  Calls Tryz.prog 175 #[.string s, .int .i64 (i : Int), .bool ere] w fun e w' => e = .returned (sg (sgn s ere i)) ∧ Kp w w' := by
 by_cases h0 : i = s.size
 ·
  have E : Hid (sgn s ere i = (1, 0, 0)) := by show _ = _; unfold sgn; rw [if_pos h0]
  have g0 : ((i : Int) == (s.size : Int)) = true := by rw [h0]; simp
  have g0' : (i : Int) = (s.size : Int) := by omega
  go_enter Tryz.func175, Tryz.ntmps175
  go_upto_region 1 with fail
  obtain ⟨W0, hW0⟩ : ∃ W, w.alloc (.cells #[.int .i64 0, .int .u8 0, .int .i64 0] 173) = W := ⟨_, rfl⟩
  rw [hW0]
  have B0 : Hid (W0.heap[w.heap.size]? = some (.cells #[.int .i64 0, .int .u8 0, .int .i64 0] 173) ∧ Kp w W0) := by subst hW0; exact ⟨last_of _ _, (Kp.refl _).alloc _⟩
  clear hW0
  have z := B0.out.1
  have f0 := bl_frozen z 0
  have f1 := bl_frozen z 1
  have f2 := bl_frozen z 2
  have c0 := bl_cell z 0 _ rfl
  have c1 := bl_cell z 1 _ rfl
  have c2 := bl_cell z 2 _ rfl
  clear z
  go_wp2_with fail
  exact bodyPost_ret (v := .agg #[_, _, _]) (sg_ret rfl _ _ _ _ _ _ rfl (bl_set3 B0.out.1 _ _ _)) rfl ⟨by rw [E.out]; rfl, (ks_set3 _ _ _).up B0.out.2 (Nat.le_refl _)⟩
 have g0 : ((i : Int) == (s.size : Int)) = false := by simp; omega
 have g0' : ¬ (i : Int) = (s.size : Int) := by omega
 have hlt : i < s.size := by omega
 have ec := run_ch s i hlt
 obtain ⟨b, hb⟩ : ∃ b, ch s i = b := ⟨_, rfl⟩
 have hb256 : b < 256 := by rw [← hb]; exact ch_lt _ _
 rw [hb] at ec
 by_cases h1 : b = 92
 ·
  subst h1
  obtain ⟨x, y, z', hg⟩ : ∃ x y z', quoted (s.extract (i + 1) s.size) ere = (x, y, z') := ⟨_, _, _, rfl⟩
  have E : Hid (sgn s ere i = (x, y, z')) := by show _ = _; unfold sgn; rw [if_neg h0, if_pos hb, hg]
  have HG : Hid (quoted (s.extract (i + 1) s.size) ere = (x, y, z')) := hg
  have es : ∀ w, (Instr.slice 9 (.string s) (some (.int .i64 ((i : Int) + 1))) none none).run Tryz.prog w = .ok (.string (s.extract (i + 1) s.size)) w := by
   intro w
   rw [run_slice_string_from_if w 9 s .i64 ((i : Int) + 1) (by kernel_rfl), if_pos ⟨by omega, by omega⟩, show ((i : Int) + 1).toNat = i + 1 by omega]
  have gl1 : (0 : Int) ≤ (i : Int) + 1 := by omega
  have gl2 : (i : Int) + 1 ≤ (s.size : Int) := by omega
  rw [show ((92 : Nat) : Int) = 92 from rfl] at ec
  clear hb hg
  go_enter Tryz.func175, Tryz.ntmps175
  go_upto_region 1 with fail
  obtain ⟨W0, hW0⟩ : ∃ W, w.alloc (.cells #[.int .i64 0, .int .u8 0, .int .i64 0] 173) = W := ⟨_, rfl⟩
  rw [hW0]
  have B0 : Hid (W0.heap[w.heap.size]? = some (.cells #[.int .i64 0, .int .u8 0, .int .i64 0] 173) ∧ Kp w W0) := by subst hW0; exact ⟨last_of _ _, (Kp.refl _).alloc _⟩
  clear hW0
  go_wp2_with fail
  refine (quoted_any (s.extract (i + 1) s.size) ere _).mono ?_
  rintro e w1 ⟨rfl, kq⟩
  rw [HG.out, sg3]
  have B1 : Hid (w1.heap[w.heap.size]? = some (.cells #[.int .i64 0, .int .u8 0, .int .i64 0] 173) ∧ Kp w w1) := ⟨bl_kp B0.out.1 kq, B0.out.2.trans kq⟩
  clear kq B0
  have z := B1.out.1
  have f0 := bl_frozen z 0
  have f1 := bl_frozen z 1
  have f2 := bl_frozen z 2
  have c0 := bl_cell z 0 _ rfl
  have c1 := bl_cell z 1 _ rfl
  have c2 := bl_cell z 2 _ rfl
  clear z
  go_wp2_with fail
  exact bodyPost_ret (v := .agg #[_, _, _]) (sg_ret rfl _ _ _ _ _ _ rfl (bl_set3 B1.out.1 _ _ _)) rfl ⟨by rw [E.out]; rfl, (ks_set3 _ _ _).up B1.out.2 (Nat.le_refl _)⟩
 have E : Hid (sgn s ere i = (bare b ere, b, 1)) := by show _ = _; unfold sgn; rw [if_neg h0, hb, if_neg h1]
 have g1 : ((b : Int) == 92) = false := by simp; omega
 have g1' : ¬ (b : Int) = 92 := by omega
 clear hb
 go_enter Tryz.func175, Tryz.ntmps175
 go_upto_region 1 with fail
 obtain ⟨W0, hW0⟩ : ∃ W, w.alloc (.cells #[.int .i64 0, .int .u8 0, .int .i64 0] 173) = W := ⟨_, rfl⟩
 rw [hW0]
 have B0 : Hid (W0.heap[w.heap.size]? = some (.cells #[.int .i64 0, .int .u8 0, .int .i64 0] 173) ∧ Kp w W0) := by subst hW0; exact ⟨last_of _ _, (Kp.refl _).alloc _⟩
 clear hW0
 go_wp2_with fail
 have Q0 : Kp W0 W0.drew := (Kp.refl _).drew
 have MK : Hid (∀ W, Kp W0 W → Hid (Kp W0 W)) := fun W k => k
 refine wp_region_noPanic ?_
 refine region_Z (z := 9) (S := (fun W => Hid (Kp W0 W))) (by kernel_rfl) ?_ (fun hH => ?_)
 ·
  exact MK.out _ Q0
 have KQ := Q0
 refine anyZ_take (z := 9) (ks := []) (i := 0) (oi := { dst := some 22, op := .move (.tmp 0), type := 9, pos := "sign.go:42", after := #[], guard := none }) (v := ?v0b1) rfl (by kernel_rfl) (by kernel_rfl) (by kernel_rfl) (by kernel_rfl) (by kernel_rfl) (fun _ _ _ h => h) (Or.inl ⟨by rfl, ?hy0b1⟩) hH ?r0b1
 case hy0b1 => (intro W hSw; (try dsimp only at hSw); go_simp; try (with_reducible rfl))
 try simp only [Act.put, List.setIfInBounds_toArray, List.set_cons_zero, List.set_cons_succ]
 refine anyZ_take (z := 9) (ks := []) (i := 1) (oi := { dst := some 23, op := .move (.tmp 1), type := 3, pos := "sign.go:42", after := #[], guard := none }) (v := ?v1b2) rfl (by kernel_rfl) (by kernel_rfl) (by kernel_rfl) (by kernel_rfl) (by kernel_rfl) (fun _ _ _ h => h) (Or.inl ⟨by rfl, ?hy1b2⟩) hH ?r1b2
 case hy1b2 => (intro W hSw; (try dsimp only at hSw); go_simp; try (with_reducible rfl))
 try simp only [Act.put, List.setIfInBounds_toArray, List.set_cons_zero, List.set_cons_succ]
 refine anyZ_take (z := 9) (ks := []) (i := 2) (oi := { dst := some 24, op := .index 9 (.tmp 22) (.tmp 23), type := 5, pos := "sign.go:42", after := #[{ on := 0, ground := Ground.data }, { on := 1, ground := Ground.data }], guard := none }) (v := ?v2b3) rfl (by kernel_rfl) (by kernel_rfl) (by kernel_rfl) (by kernel_rfl) (by kernel_rfl) (fun _ _ _ h => h) (Or.inl ⟨by rfl, ?hy2b3⟩) hH ?r2b3
 case hy2b3 => (intro W hSw; (try dsimp only at hSw); go_simp; try (with_reducible rfl))
 try simp only [Act.put, List.setIfInBounds_toArray, List.set_cons_zero, List.set_cons_succ]
 refine anyZ_take (z := 9) (ks := []) (i := 3) (oi := { dst := some 25, op := .move (.tmp 2), type := 4, pos := "sign.go:42", after := #[], guard := none }) (v := ?v3b4) rfl (by kernel_rfl) (by kernel_rfl) (by kernel_rfl) (by kernel_rfl) (by kernel_rfl) (fun _ _ _ h => h) (Or.inl ⟨by rfl, ?hy3b4⟩) hH ?r3b4
 case hy3b4 => (intro W hSw; (try dsimp only at hSw); go_simp; try (with_reducible rfl))
 try simp only [Act.put, List.setIfInBounds_toArray, List.set_cons_zero, List.set_cons_succ]
 refine anyZ_take (z := 9) (ks := []) (i := 5) (oi := { dst := some 27, op := .move (.tmp 0), type := 9, pos := "sign.go:42", after := #[], guard := none }) (v := ?v5b5) rfl (by kernel_rfl) (by kernel_rfl) (by kernel_rfl) (by kernel_rfl) (by kernel_rfl) (fun _ _ _ h => h) (Or.inl ⟨by rfl, ?hy5b5⟩) hH ?r5b5
 case hy5b5 => (intro W hSw; (try dsimp only at hSw); go_simp; try (with_reducible rfl))
 try simp only [Act.put, List.setIfInBounds_toArray, List.set_cons_zero, List.set_cons_succ]
 refine anyZ_take (z := 9) (ks := []) (i := 6) (oi := { dst := some 28, op := .move (.tmp 1), type := 3, pos := "sign.go:42", after := #[], guard := none }) (v := ?v6b6) rfl (by kernel_rfl) (by kernel_rfl) (by kernel_rfl) (by kernel_rfl) (by kernel_rfl) (fun _ _ _ h => h) (Or.inl ⟨by rfl, ?hy6b6⟩) hH ?r6b6
 case hy6b6 => (intro W hSw; (try dsimp only at hSw); go_simp; try (with_reducible rfl))
 try simp only [Act.put, List.setIfInBounds_toArray, List.set_cons_zero, List.set_cons_succ]
 refine anyZ_take (z := 9) (ks := []) (i := 7) (oi := { dst := some 29, op := .index 9 (.tmp 27) (.tmp 28), type := 5, pos := "sign.go:42", after := #[{ on := 5, ground := Ground.data }, { on := 6, ground := Ground.data }], guard := none }) (v := ?v7b7) rfl (by kernel_rfl) (by kernel_rfl) (by kernel_rfl) (by kernel_rfl) (by kernel_rfl) (fun _ _ _ h => h) (Or.inl ⟨by rfl, ?hy7b7⟩) hH ?r7b7
 case hy7b7 => (intro W hSw; (try dsimp only at hSw); go_simp; try (with_reducible rfl))
 try simp only [Act.put, List.setIfInBounds_toArray, List.set_cons_zero, List.set_cons_succ]
 refine anyZ_ready (rs := [4]) (by kernel_rfl) (by simp) ?_
 refine AllZ.cons (o := { dst := some 26, op := Op.call { callee := Callee.value (Operand.func 209), args := #[Operand.tmp 24, Operand.tmp 25], argTypes := #[5, 4] }, type := 3, pos := "sign.go:42", after := #[{ on := 2, ground := Ground.data }, { on := 3, ground := Ground.data }], guard := none }) rfl (fun K hKq => ?_) AllZ.nil
 go_simp
 refine (bare_any b ere _).mono ?_
 rintro e w1 ⟨rfl, hw⟩
 have kq : Kp W0 w1 := by rw [hw]; exact KQ
 have B1 : Hid (w1.heap[w.heap.size]? = some (.cells #[.int .i64 0, .int .u8 0, .int .i64 0] 173) ∧ Kp w w1) := ⟨bl_kp B0.out.1 kq, B0.out.2.trans kq⟩
 clear hw
 have z := B1.out.1
 have f0 := bl_frozen z 0
 have f1 := bl_frozen z 1
 have f2 := bl_frozen z 2
 have c0 := bl_cell z 0 _ rfl
 have c1 := bl_cell z 1 _ rfl
 have c2 := bl_cell z 2 _ rfl
 clear z
 refine hKq.out _ _ (MK.out _ kq) (fun hN => ?_)
 clear kq
 clear hKq K hH KQ
 have hH := hN
 clear hN
 have KQ := hH.out
 try simp only [Act.put, List.setIfInBounds_toArray, List.set_cons_zero, List.set_cons_succ]
 refine anyZ_take (z := 9) (ks := []) (i := 8) (oi := { dst := some 30, op := .build 173 #[(0, .tmp 26), (1, .tmp 29), (2, .const (.int .i64 1))], type := 173, pos := "sign.go:42", after := #[{ on := 4, ground := Ground.data }, { on := 7, ground := Ground.data }], guard := none }) (v := ?v8b8) rfl (by kernel_rfl) (by kernel_rfl) (by kernel_rfl) (by kernel_rfl) (by kernel_rfl) (fun _ _ _ h => h) (Or.inl ⟨by rfl, ?hy8b8⟩) hH ?r8b8
 case hy8b8 => (intro W hSw; (try dsimp only at hSw); go_simp; try (with_reducible rfl))
 try simp only [Act.put, List.setIfInBounds_toArray, List.set_cons_zero, List.set_cons_succ]
 refine anyZ_ready (rs := [9]) (by kernel_rfl) (by simp) ?_
 refine AllZ.last (o := { dst := none, op := Op.store 173 (Operand.tmp 6) (Operand.tmp 30), type := 0, pos := "sign.go:42", after := #[{ on := 8, ground := Ground.data }, { on := 4, ground := Ground.chain }, { on := 0, ground := Ground.phase }, { on := 1, ground := Ground.phase }, { on := 2, ground := Ground.phase }, { on := 3, ground := Ground.phase }, { on := 4, ground := Ground.phase }, { on := 5, ground := Ground.phase }, { on := 6, ground := Ground.phase }, { on := 7, ground := Ground.phase }, { on := 8, ground := Ground.phase }], guard := none }) rfl (Or.inl rfl) (fun K hKq => ?_) AllZ.nil
 go_simp
 refine hKq.out _ _ ?_
 clear hKq K
 try simp only [Act.put, List.setIfInBounds_toArray, List.set_cons_zero, List.set_cons_succ]
 refine anyZ_done (by kernel_rfl) ?_ _
 refine NoPanic.normal ?_
 go_wp2_with fail
 exact bodyPost_ret (v := .agg #[_, _, _]) (sg_ret rfl _ _ _ _ _ _ rfl (bl_set3 B1.out.1 _ _ _)) rfl ⟨by rw [E.out]; rfl, (ks_set3 _ _ _).up B1.out.2 (Nat.le_refl _)⟩
abbrev rdr (s : ByteArray) (ere : Bool) (i n g d : Nat) : Obj := .cells #[.string s, .bool ere, .int .i64 (i : Int), .int .i64 (n : Int), .int .i64 (g : Int), .int .i64 (d : Int)] 99
structure Rd (w : World) (P : Nat) (s : ByteArray) (ere : Bool) (i n g d : Nat) : Prop where
 b : w.heap[P]? = some (rdr s ere i n g d)
 p : 1 < P
 v : ∃ m, w.cell? ⟨1, 0, none⟩ = some (.int .i64 m)
theorem Rd.lt {w : World} {P : Nat} {s : ByteArray} {ere : Bool} {i n g d : Nat} (h : Rd w P s ere i n g d) : P < w.heap.size := bl_lt h.b
theorem Rd.kp {w w' : World} {P : Nat} {s : ByteArray} {ere : Bool} {i n g d : Nat} (h : Rd w P s ere i n g d) (k : Kp w w') : Rd w' P s ere i n g d := ⟨bl_kp h.b k, h.p, by obtain ⟨m, hm⟩ := h.v; exact ⟨m, (k.cell (Nat.lt_trans h.p h.lt)).trans hm⟩⟩
theorem Rd.drew {w : World} {P : Nat} {s : ByteArray} {ere : Bool} {i n g d : Nat} (h : Rd w P s ere i n g d) : Rd w.drew P s ere i n g d := h.kp (Kp.refl _).drew
theorem Rd.cells {w : World} {P : Nat} {s : ByteArray} {ere : Bool} {i n g d : Nat} (h : Rd w P s ere i n g d) : w.cell? ⟨P, 0, none⟩ = some (.string s) ∧ w.cell? ⟨P, 1, none⟩ = some (.bool ere) ∧ w.cell? ⟨P, 2, none⟩ = some (.int .i64 (i : Int)) ∧ w.cell? ⟨P, 3, none⟩ = some (.int .i64 (n : Int)) ∧ w.cell? ⟨P, 4, none⟩ = some (.int .i64 (g : Int)) ∧ w.cell? ⟨P, 5, none⟩ = some (.int .i64 (d : Int)) :=
 ⟨bl_cell h.b 0 _ rfl, bl_cell h.b 1 _ rfl, bl_cell h.b 2 _ rfl, bl_cell h.b 3 _ rfl, bl_cell h.b 4 _ rfl, bl_cell h.b 5 _ rfl⟩
theorem Rd.ks {S P : Nat} {w w' : World} {s : ByteArray} {ere : Bool} {i n g d : Nat} (h : Rd w P s ere i n g d) (k : Ks S w w') (hne : P ≠ S) (h0 : P < S) : Rd w' P s ere i n g d := ⟨bl_ks h.b hne k, h.p, by
 obtain ⟨m, hm⟩ := h.v
 exact ⟨m, (World.cell?_of_block (w := w) (k.block 1 (Nat.lt_trans h.p h.lt) (by have := h.p; show (1 : Nat) ≠ S; omega))).trans hm⟩⟩
theorem Rd.ks1 {S P : Nat} {w w' : World} {s : ByteArray} {ere : Bool} {i n g d : Nat} (h : Rd w P s ere i n g d) (k : Ks S w w') (hne : P ≠ S) (h0 : S ≠ 1) : Rd w' P s ere i n g d := ⟨bl_ks h.b hne k, h.p, by
 obtain ⟨m, hm⟩ := h.v
 exact ⟨m, (World.cell?_of_block (w := w) (k.block 1 (Nat.lt_trans h.p h.lt) (Ne.symm h0))).trans hm⟩⟩
theorem Rd.put {w : World} {P : Nat} {s : ByteArray} {ere : Bool} {i n g d : Nat} (h : Rd w P s ere i n g d) (j : Nat) (u : Value) {i' n' g' d' : Nat} (hb : (w.setCell ⟨P, j, none⟩ u).heap[P]? = some (rdr s ere i' n' g' d')) : Rd (w.setCell ⟨P, j, none⟩ u) P s ere i' n' g' d' := ⟨hb, h.p, by
 obtain ⟨m, hm⟩ := h.v
 exact ⟨m, (World.cell?_of_block (w := w) (Below.heap_setCell w ⟨P, j, none⟩ u 1 (Nat.ne_of_lt h.p))).trans hm⟩⟩
theorem Rd.at {w : World} {P : Nat} {s : ByteArray} {ere : Bool} {i n g d : Nat} (h : Rd w P s ere i n g d) (j : Nat) : Rd (w.setCell ⟨P, 2, none⟩ (.int .i64 (j : Int))) P s ere j n g d := h.put 2 _ (bl_put h.b _)
theorem Rd.nodes {w : World} {P : Nat} {s : ByteArray} {ere : Bool} {i n g d : Nat} (h : Rd w P s ere i n g d) (j : Nat) : Rd (w.setCell ⟨P, 3, none⟩ (.int .i64 (j : Int))) P s ere i j g d := h.put 3 _ (bl_put h.b _)
theorem Rd.groups {w : World} {P : Nat} {s : ByteArray} {ere : Bool} {i n g d : Nat} (h : Rd w P s ere i n g d) (j : Nat) : Rd (w.setCell ⟨P, 4, none⟩ (.int .i64 (j : Int))) P s ere i n j d := h.put 4 _ (bl_put h.b _)
theorem Rd.deep {w : World} {P : Nat} {s : ByteArray} {ere : Bool} {i n g d : Nat} (h : Rd w P s ere i n g d) (j : Nat) : Rd (w.setCell ⟨P, 5, none⟩ (.int .i64 (j : Int))) P s ere i n g j := h.put 5 _ (bl_put h.b _)
set_option maxRecDepth 100000 in
theorem sign_any (s : ByteArray) (ere : Bool) (i n g d P : Nat) (w : World) (h : Rd w P s ere i n g d) (hi : i ≤ s.size) (hs : s.size ≤ 1000000) :
  Calls Tryz.prog 135 #[.pointer (some ⟨P, 0, none⟩)] w fun e w' => e = .returned (sg (sgn s ere i)) ∧ Kp w w' := by
 obtain ⟨x, y, z', hg⟩ : ∃ x y z', sgn s ere i = (x, y, z') := ⟨_, _, _, rfl⟩
 have HG : Hid (sgn s ere i = (x, y, z')) := hg
 have R : Hid (Rd w P s ere i n g d) := h
 clear h hg
 go_enter Tryz.func135, Tryz.ntmps135
 go_upto_region 1 with fail
 obtain ⟨W0, hW0⟩ : ∃ W, w.alloc (.cells #[.int .i64 0, .int .u8 0, .int .i64 0] 173) = W := ⟨_, rfl⟩
 rw [hW0]
 have B0 : Hid (W0.heap[w.heap.size]? = some (.cells #[.int .i64 0, .int .u8 0, .int .i64 0] 173) ∧ Kp w W0) := by subst hW0; exact ⟨last_of _ _, (Kp.refl _).alloc _⟩
 clear hW0
 go_wp2_with fail
 have r0 := R.out.kp B0.out.2
 have Q0 : Kp W0 W0.drew := (Kp.refl _).drew
 have MK : Hid (∀ W, Kp W0 W → W.cell? ⟨P, 0, none⟩ = some (.string s) ∧ W.cell? ⟨P, 1, none⟩ = some (.bool ere) ∧ W.cell? ⟨P, 2, none⟩ = some (.int .i64 (i : Int)) ∧ Hid (Kp W0 W)) := fun W k => ⟨(r0.kp k).cells.1, (r0.kp k).cells.2.1, (r0.kp k).cells.2.2.1, k⟩
 clear r0
 refine wp_region_noPanic ?_
 refine region_Z (z := 13) (S := (fun W => W.cell? ⟨P, 0, none⟩ = some (.string s) ∧ W.cell? ⟨P, 1, none⟩ = some (.bool ere) ∧ W.cell? ⟨P, 2, none⟩ = some (.int .i64 (i : Int)) ∧ Hid (Kp W0 W))) (by kernel_rfl) ?_ (fun hH => ?_)
 ·
  exact MK.out _ Q0
 have KQ := Q0
 refine anyZ_take (z := 13) (ks := []) (i := 0) (oi := { dst := some 3, op := .move (.tmp 0), type := 142, pos := "parse.go:92", after := #[], guard := none }) (v := ?v0c1) rfl (by kernel_rfl) (by kernel_rfl) (by kernel_rfl) (by kernel_rfl) (by kernel_rfl) (fun _ _ _ h => h) (Or.inl ⟨by rfl, ?hy0c1⟩) hH ?r0c1
 case hy0c1 => (intro W hSw; (try dsimp only at hSw); go_simp; try (with_reducible rfl))
 try simp only [Act.put, List.setIfInBounds_toArray, List.set_cons_zero, List.set_cons_succ]
 refine anyZ_take (z := 13) (ks := []) (i := 1) (oi := { dst := some 4, op := .nilCheck (.tmp 3), type := 0, pos := "parse.go:92", after := #[{ on := 0, ground := Ground.data }], guard := none }) (v := ?v1c2) rfl (by kernel_rfl) (by kernel_rfl) (by kernel_rfl) (by kernel_rfl) (by kernel_rfl) (fun _ _ _ h => h) (Or.inl ⟨by rfl, ?hy1c2⟩) hH ?r1c2
 case hy1c2 => (intro W hSw; (try dsimp only at hSw); go_simp; try (with_reducible rfl))
 try simp only [Act.put, List.setIfInBounds_toArray, List.set_cons_zero, List.set_cons_succ]
 refine anyZ_take (z := 13) (ks := []) (i := 2) (oi := { dst := some 5, op := .fieldAddr 99 (.tmp 4) 0, type := 0, pos := "parse.go:92", after := #[{ on := 1, ground := Ground.data }], guard := none }) (v := ?v2c3) rfl (by kernel_rfl) (by kernel_rfl) (by kernel_rfl) (by kernel_rfl) (by kernel_rfl) (fun _ _ _ h => h) (Or.inl ⟨by rfl, ?hy2c3⟩) hH ?r2c3
 case hy2c3 => (intro W hSw; (try dsimp only at hSw); go_simp; try (with_reducible rfl))
 try simp only [Act.put, List.setIfInBounds_toArray, List.set_cons_zero, List.set_cons_succ]
 refine anyZ_take (z := 13) (ks := []) (i := 3) (oi := { dst := some 6, op := .load 9 (.tmp 5), type := 9, pos := "parse.go:92", after := #[{ on := 2, ground := Ground.data }], guard := none }) (v := ?v3c4) rfl (by kernel_rfl) (by kernel_rfl) (by kernel_rfl) (by kernel_rfl) (by kernel_rfl) (fun _ _ _ h => h) (Or.inl ⟨by rfl, ?hy3c4⟩) hH ?r3c4
 case hy3c4 => (intro W hSw; (try dsimp only at hSw); go_simp; try (with_reducible rfl))
 try simp only [Act.put, List.setIfInBounds_toArray, List.set_cons_zero, List.set_cons_succ]
 refine anyZ_take (z := 13) (ks := []) (i := 4) (oi := { dst := some 7, op := .move (.tmp 0), type := 142, pos := "parse.go:92", after := #[], guard := none }) (v := ?v4c5) rfl (by kernel_rfl) (by kernel_rfl) (by kernel_rfl) (by kernel_rfl) (by kernel_rfl) (fun _ _ _ h => h) (Or.inl ⟨by rfl, ?hy4c5⟩) hH ?r4c5
 case hy4c5 => (intro W hSw; (try dsimp only at hSw); go_simp; try (with_reducible rfl))
 try simp only [Act.put, List.setIfInBounds_toArray, List.set_cons_zero, List.set_cons_succ]
 refine anyZ_take (z := 13) (ks := []) (i := 5) (oi := { dst := some 8, op := .nilCheck (.tmp 7), type := 0, pos := "parse.go:92", after := #[{ on := 4, ground := Ground.data }], guard := none }) (v := ?v5c6) rfl (by kernel_rfl) (by kernel_rfl) (by kernel_rfl) (by kernel_rfl) (by kernel_rfl) (fun _ _ _ h => h) (Or.inl ⟨by rfl, ?hy5c6⟩) hH ?r5c6
 case hy5c6 => (intro W hSw; (try dsimp only at hSw); go_simp; try (with_reducible rfl))
 try simp only [Act.put, List.setIfInBounds_toArray, List.set_cons_zero, List.set_cons_succ]
 refine anyZ_take (z := 13) (ks := []) (i := 6) (oi := { dst := some 9, op := .fieldAddr 99 (.tmp 8) 2, type := 0, pos := "parse.go:92", after := #[{ on := 5, ground := Ground.data }], guard := none }) (v := ?v6c7) rfl (by kernel_rfl) (by kernel_rfl) (by kernel_rfl) (by kernel_rfl) (by kernel_rfl) (fun _ _ _ h => h) (Or.inl ⟨by rfl, ?hy6c7⟩) hH ?r6c7
 case hy6c7 => (intro W hSw; (try dsimp only at hSw); go_simp; try (with_reducible rfl))
 try simp only [Act.put, List.setIfInBounds_toArray, List.set_cons_zero, List.set_cons_succ]
 refine anyZ_take (z := 13) (ks := []) (i := 7) (oi := { dst := some 10, op := .load 3 (.tmp 9), type := 3, pos := "parse.go:92", after := #[{ on := 6, ground := Ground.data }], guard := none }) (v := ?v7c8) rfl (by kernel_rfl) (by kernel_rfl) (by kernel_rfl) (by kernel_rfl) (by kernel_rfl) (fun _ _ _ h => h) (Or.inl ⟨by rfl, ?hy7c8⟩) hH ?r7c8
 case hy7c8 => (intro W hSw; (try dsimp only at hSw); go_simp; try (with_reducible rfl))
 try simp only [Act.put, List.setIfInBounds_toArray, List.set_cons_zero, List.set_cons_succ]
 refine anyZ_take (z := 13) (ks := []) (i := 8) (oi := { dst := some 11, op := .move (.tmp 0), type := 142, pos := "parse.go:92", after := #[], guard := none }) (v := ?v8c9) rfl (by kernel_rfl) (by kernel_rfl) (by kernel_rfl) (by kernel_rfl) (by kernel_rfl) (fun _ _ _ h => h) (Or.inl ⟨by rfl, ?hy8c9⟩) hH ?r8c9
 case hy8c9 => (intro W hSw; (try dsimp only at hSw); go_simp; try (with_reducible rfl))
 try simp only [Act.put, List.setIfInBounds_toArray, List.set_cons_zero, List.set_cons_succ]
 refine anyZ_take (z := 13) (ks := []) (i := 9) (oi := { dst := some 12, op := .nilCheck (.tmp 11), type := 0, pos := "parse.go:92", after := #[{ on := 8, ground := Ground.data }], guard := none }) (v := ?v9c10) rfl (by kernel_rfl) (by kernel_rfl) (by kernel_rfl) (by kernel_rfl) (by kernel_rfl) (fun _ _ _ h => h) (Or.inl ⟨by rfl, ?hy9c10⟩) hH ?r9c10
 case hy9c10 => (intro W hSw; (try dsimp only at hSw); go_simp; try (with_reducible rfl))
 try simp only [Act.put, List.setIfInBounds_toArray, List.set_cons_zero, List.set_cons_succ]
 refine anyZ_take (z := 13) (ks := []) (i := 10) (oi := { dst := some 13, op := .fieldAddr 99 (.tmp 12) 1, type := 0, pos := "parse.go:92", after := #[{ on := 9, ground := Ground.data }], guard := none }) (v := ?v10c11) rfl (by kernel_rfl) (by kernel_rfl) (by kernel_rfl) (by kernel_rfl) (by kernel_rfl) (fun _ _ _ h => h) (Or.inl ⟨by rfl, ?hy10c11⟩) hH ?r10c11
 case hy10c11 => (intro W hSw; (try dsimp only at hSw); go_simp; try (with_reducible rfl))
 try simp only [Act.put, List.setIfInBounds_toArray, List.set_cons_zero, List.set_cons_succ]
 refine anyZ_take (z := 13) (ks := []) (i := 11) (oi := { dst := some 14, op := .load 4 (.tmp 13), type := 4, pos := "parse.go:92", after := #[{ on := 10, ground := Ground.data }], guard := none }) (v := ?v11c12) rfl (by kernel_rfl) (by kernel_rfl) (by kernel_rfl) (by kernel_rfl) (by kernel_rfl) (fun _ _ _ h => h) (Or.inl ⟨by rfl, ?hy11c12⟩) hH ?r11c12
 case hy11c12 => (intro W hSw; (try dsimp only at hSw); go_simp; try (with_reducible rfl))
 try simp only [Act.put, List.setIfInBounds_toArray, List.set_cons_zero, List.set_cons_succ]
 refine anyZ_ready (rs := [12]) (by kernel_rfl) (by simp) ?_
 refine AllZ.cons (o := { dst := some 15, op := Op.call { callee := Callee.value (Operand.func 175), args := #[Operand.tmp 6, Operand.tmp 10, Operand.tmp 14], argTypes := #[9, 3, 4] }, type := 173, pos := "parse.go:92", after := #[{ on := 3, ground := Ground.data }, { on := 7, ground := Ground.data }, { on := 11, ground := Ground.data }], guard := none }) rfl (fun K hKq => ?_) AllZ.nil
 go_simp
 refine (signAt_any s ere i _ hi hs).mono ?_
 rintro e w1 ⟨rfl, kq⟩
 rw [HG.out, sg3]
 have B1 : Hid (w1.heap[w.heap.size]? = some (.cells #[.int .i64 0, .int .u8 0, .int .i64 0] 173) ∧ Kp w w1) := ⟨bl_kp (bl_kp B0.out.1 KQ) kq, (B0.out.2.trans KQ).trans kq⟩
 have z := B1.out.1
 have f0 := bl_frozen z 0
 have f1 := bl_frozen z 1
 have f2 := bl_frozen z 2
 have c0 := bl_cell z 0 _ rfl
 have c1 := bl_cell z 1 _ rfl
 have c2 := bl_cell z 2 _ rfl
 refine hKq.out _ _ (MK.out _ (KQ.trans kq)) (fun hN => ?_)
 clear kq z
 clear hKq K hH KQ
 have hH := hN
 clear hN
 have KQ := hH.2.2.2.out
 try simp only [Act.put, List.setIfInBounds_toArray, List.set_cons_zero, List.set_cons_succ]
 refine anyZ_ready (rs := [13]) (by kernel_rfl) (by simp) ?_
 refine AllZ.last (o := { dst := none, op := Op.store 173 (Operand.tmp 2) (Operand.tmp 15), type := 0, pos := "parse.go:92", after := #[{ on := 12, ground := Ground.data }, { on := 12, ground := Ground.chain }, { on := 0, ground := Ground.phase }, { on := 1, ground := Ground.phase }, { on := 2, ground := Ground.phase }, { on := 3, ground := Ground.phase }, { on := 4, ground := Ground.phase }, { on := 5, ground := Ground.phase }, { on := 6, ground := Ground.phase }, { on := 7, ground := Ground.phase }, { on := 8, ground := Ground.phase }, { on := 9, ground := Ground.phase }, { on := 10, ground := Ground.phase }, { on := 11, ground := Ground.phase }, { on := 12, ground := Ground.phase }], guard := none }) rfl (Or.inl rfl) (fun K hKq => ?_) AllZ.nil
 go_simp
 refine hKq.out _ _ ?_
 clear hKq K
 try simp only [Act.put, List.setIfInBounds_toArray, List.set_cons_zero, List.set_cons_succ]
 refine anyZ_done (by kernel_rfl) ?_ _
 refine NoPanic.normal ?_
 go_wp2_with fail
 exact bodyPost_ret (v := .agg #[_, _, _]) (sg_ret rfl _ _ _ _ _ _ rfl (bl_set3 B1.out.1 _ _ _)) rfl ⟨by rw [HG.out]; rfl, (ks_set3 _ _ _).up B1.out.2 (Nat.le_refl _)⟩
end Go.Proofs.YtigdmebijbaofaaGreatDoor
