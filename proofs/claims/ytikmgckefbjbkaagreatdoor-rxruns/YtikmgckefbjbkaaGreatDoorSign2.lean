/-
  The signs of a text.
-/
import Derived.Test.YtikmgckefbjbkaaGreatDoorSigns
import Derived.Lib.SlBytesConst
import Derived.Test.YtikmgckefbjbkaaGreatDoorSteps
namespace Go.Proofs.YtikmgckefbjbkaaGreatDoor
open Go.RowKit

def specL : List Nat := [46, 91, 93, 42, 94, 36, 92, 47]
def specE : List Nat := [43, 63, 123, 125, 124, 40, 41]
theorem spec_false : inL specL = spec false := by funext b; rw [Bool.eq_iff_iff]; simp [inL, specL, spec]; omega
theorem spec_true : orB (inL specL) (inL specE) = spec true := by funext b; rw [Bool.eq_iff_iff]; simp [orB, inL, specL, specE, spec]; omega
theorem At.ret {fn : Func} {p : Tmp} (h : fn.results = #[.cell p 24]) (tmps : Array Value) (w : World) (S : Nat) (q : Nat → Bool) (hp : tmps.getD p undef = .pointer (some ⟨S, 0, none⟩)) (hA : At w S q) : (results fn tmps).run Tryz.prog w = .ok (sv q) w := ret_at h tmps w S q hp hA

set_option maxRecDepth 100000 in
theorem special_any (ere : Bool) (w : World) : Calls Tryz.prog 73 #[.bool ere] w fun e w' => e = .returned (sv (spec ere)) ∧ Kp w w' := by
  have kc := fun (w : World) (C : Array Value) (n c : Nat) => Lib.run_convert_bytes_const (P := Tryz.prog) w 47 5 C n c Tryz.underlying47 Tryz.underlying5
  go_enter Tryz.func73, Tryz.ntmps73
  go_upto_region 1 with fail
  obtain ⟨W0, hW0⟩ : ∃ W, w.alloc (.cells #[.int .u64 0, .int .u64 0, .int .u64 0, .int .u64 0] 24) = W := ⟨_, rfl⟩
  rw [hW0]
  have B0 : Hid (W0.heap[w.heap.size]? = some (.cells #[.int .u64 0, .int .u64 0, .int .u64 0, .int .u64 0] 24) ∧ Kp w W0) := by subst hW0; exact ⟨last_of _ _, (Kp.refl _).alloc _⟩
  clear hW0
  go_wp2_with fail
  refine (of_list specL 8 8 _ _ _ rfl (by omega) (by decide) (last_of _ _)).mono ?_
  rintro e w1 ⟨rfl, k1⟩
  obtain ⟨W1, hW1⟩ : ∃ W, w1.alloc (blk (inL specL)) = W := ⟨_, rfl⟩
  have HW1 : Hid (w1.alloc (blk (inL specL)) = W1) := hW1
  have k2 : Kp W0 W1 := by subst hW1; exact ((((Kp.refl _).alloc _).trans k1).alloc _)
  have B1 : Hid (W1.heap[w.heap.size]? = some (.cells #[.int .u64 0, .int .u64 0, .int .u64 0, .int .u64 0] 24) ∧ Kp w W1 ∧ At W1 w1.heap.size (inL specL)) := ⟨bl_kp B0.out.1 k2, B0.out.2.trans k2, by subst hW1; exact last_of _ _⟩
  clear k1 k2 hW1 B0
  go_upto_if 7 with fail
  rw [HW1.out]
  clear HW1 kc
  obtain ⟨S3, hS3⟩ : ∃ S, w1.heap.size = S := ⟨_, rfl⟩
  rw [hS3] at B1 ⊢
  clear hS3
  obtain ⟨d0, d1, d2, d3⟩ := B1.out.2.2.cells
  have z := B1.out.1
  have f0 := bl_frozen z 0
  have f1 := bl_frozen z 1
  have f2 := bl_frozen z 2
  have f3 := bl_frozen z 3
  have c0 := bl_cell z 0 _ rfl
  have c1 := bl_cell z 1 _ rfl
  have c2 := bl_cell z 2 _ rfl
  have c3 := bl_cell z 3 _ rfl
  clear z
  cases ere with
  | false =>
    go_wp2_with fail
    have A4 := bl_set4 B1.out.1 (.int .u64 (wd (inL specL) 0 : Nat)) (.int .u64 (wd (inL specL) 1 : Nat)) (.int .u64 (wd (inL specL) 2 : Nat)) (.int .u64 (wd (inL specL) 3 : Nat))
    refine bodyPost_ret (v := sv (inL specL)) (ret_at rfl _ _ _ _ rfl A4) rfl ⟨by rw [spec_false], ?_⟩
    exact (ks_set4 _ _ _ _).up B1.out.2.1 (Nat.le_refl _)
  | true =>
    clear f0 f1 f2 f3 c0 c1 c2 c3
    have kc := fun (w : World) (C : Array Value) (n c : Nat) => Lib.run_convert_bytes_const (P := Tryz.prog) w 47 5 C n c Tryz.underlying47 Tryz.underlying5
    go_wp2_with fail
    have MK : Hid (∀ W, Kp W1 W → W.cell? ⟨S3, 0, none⟩ = some (.int .u64 (wd (inL specL) 0 : Nat)) ∧ W.cell? ⟨S3, 1, none⟩ = some (.int .u64 (wd (inL specL) 1 : Nat)) ∧ W.cell? ⟨S3, 2, none⟩ = some (.int .u64 (wd (inL specL) 2 : Nat)) ∧ W.cell? ⟨S3, 3, none⟩ = some (.int .u64 (wd (inL specL) 3 : Nat)) ∧ Hid (Kp W1 W)) := fun W k => ⟨(bl_cell (bl_kp B1.out.2.2 k) 0 _ rfl), (bl_cell (bl_kp B1.out.2.2 k) 1 _ rfl), (bl_cell (bl_kp B1.out.2.2 k) 2 _ rfl), (bl_cell (bl_kp B1.out.2.2 k) 3 _ rfl), k⟩
    have Q0 : Kp W1 W1.drew := (Kp.refl _).drew
    refine wp_region_noPanic ?_
    refine region_Z (z := 6) (S := (fun W => W.cell? ⟨S3, 0, none⟩ = some (.int .u64 (wd (inL specL) 0 : Nat)) ∧ W.cell? ⟨S3, 1, none⟩ = some (.int .u64 (wd (inL specL) 1 : Nat)) ∧ W.cell? ⟨S3, 2, none⟩ = some (.int .u64 (wd (inL specL) 2 : Nat)) ∧ W.cell? ⟨S3, 3, none⟩ = some (.int .u64 (wd (inL specL) 3 : Nat)) ∧ Hid (Kp W1 W))) (by kernel_rfl) ?_ (fun hH => ?_)
    · exact MK.out _ Q0
    have KQ := Q0
    refine anyZ_take (z := 6) (ks := []) (i := 0) (oi := { dst := some 8, op := Op.load 24 (Operand.tmp 3), type := 24, pos := "print.go:24", after := #[], guard := none }) (v := ?v0a1) rfl (by kernel_rfl) (by kernel_rfl) (by kernel_rfl) (by kernel_rfl) (by kernel_rfl) (fun _ _ _ h => h) (Or.inl ⟨by rfl, ?hy0a1⟩) hH ?r0a1
    case hy0a1 => (intro W hSw; (try dsimp only at hSw); go_simp; try (with_reducible rfl))
    try simp only [Act.put, List.setIfInBounds_toArray, List.set_cons_zero, List.set_cons_succ]
    refine anyZ_ready (rs := [1]) (by kernel_rfl) (by simp) ?_
    refine AllZ.cons (o := { dst := some 9, op := Op.buildSlice 47 7 #[(0, Operand.const (Value.int IntKind.u8 43)), (1, Operand.const (Value.int IntKind.u8 63)), (2, Operand.const (Value.int IntKind.u8 123)), (3, Operand.const (Value.int IntKind.u8 125)), (4, Operand.const (Value.int IntKind.u8 124)), (5, Operand.const (Value.int IntKind.u8 40)), (6, Operand.const (Value.int IntKind.u8 41))], type := 47, pos := "print.go:24", after := #[], guard := none }) rfl (fun K hKq => ?_) AllZ.nil
    go_simp
    refine hKq.out _ _ (MK.out _ (KQ.alloc _)) (fun hN => ?_)
    clear hKq K hH KQ
    have hH := hN
    clear hN
    have KQ := hH.2.2.2.2.out
    try simp only [Act.put, List.setIfInBounds_toArray, List.set_cons_zero, List.set_cons_succ]
    refine anyZ_ready (rs := [2]) (by kernel_rfl) (by simp) ?_
    refine AllZ.cons (o := { dst := some 10, op := Op.convert 47 47 (Operand.tmp 9), type := 47, pos := "print.go:24", after := #[{ on := 1, ground := Ground.data }], guard := none }) rfl (fun K hKq => ?_) AllZ.nil
    obtain ⟨wc, hc, bc, ks⟩ := conv_any (W1.alloc (.cells #[.int .u8 43, .int .u8 63, .int .u8 123, .int .u8 125, .int .u8 124, .int .u8 40, .int .u8 41] 5)).drew W1.heap.size _ 7 7 (last_drew _ _)
    go_simp
    clear hc
    refine hKq.out _ _ (MK.out _ (ks.up KQ (Nat.le_refl _))) (fun hN => ?_)
    clear ks
    clear hKq K hH KQ
    have hH := hN
    clear hN
    have KQ := hH.2.2.2.2.out
    try simp only [Act.put, List.setIfInBounds_toArray, List.set_cons_zero, List.set_cons_succ]
    refine anyZ_ready (rs := [3]) (by kernel_rfl) (by simp) ?_
    refine AllZ.cons (o := { dst := some 11, op := Op.call { callee := Callee.value (Operand.func 24), args := #[Operand.tmp 10], argTypes := #[47] }, type := 24, pos := "print.go:24", after := #[{ on := 2, ground := Ground.data }], guard := none }) rfl (fun K hKq => ?_) AllZ.nil
    go_simp
    refine (of_list specE 7 7 _ _ _ rfl (by omega) (by decide) bc).mono ?_
    rintro e y3 ⟨rfl, kq⟩
    refine hKq.out _ _ (MK.out _ (KQ.trans kq)) (fun hN => ?_)
    clear kq
    clear hKq K hH KQ
    have hH := hN
    clear hN
    have KQ := hH.2.2.2.2.out
    try simp only [Act.put, List.setIfInBounds_toArray, List.set_cons_zero, List.set_cons_succ]
    refine anyZ_ready (rs := [4]) (by kernel_rfl) (by simp) ?_
    refine AllZ.cons (o := { dst := some 12, op := Op.buildSlice 75 2 #[(0, Operand.tmp 8), (1, Operand.tmp 11)], type := 75, pos := "print.go:24", after := #[{ on := 0, ground := Ground.data }, { on := 3, ground := Ground.data }], guard := none }) rfl (fun K hKq => ?_) AllZ.nil
    go_simp
    refine hKq.out _ _ (MK.out _ (KQ.alloc _)) (fun hN => ?_)
    clear hKq K hH KQ
    have hH := hN
    clear hN
    have KQ := hH.2.2.2.2.out
    try simp only [Act.put, List.setIfInBounds_toArray, List.set_cons_zero, List.set_cons_succ]
    refine anyZ_ready (rs := [5]) (by kernel_rfl) (by simp) ?_
    refine AllZ.cons (o := { dst := some 13, op := Op.call { callee := Callee.value (Operand.func 23), args := #[Operand.tmp 12], argTypes := #[75] }, type := 24, pos := "print.go:24", after := #[{ on := 4, ground := Ground.data }, { on := 3, ground := Ground.chain }], guard := none }) rfl (fun K hKq => ?_) AllZ.nil
    go_simp
    refine (join2 (inL specL) (inL specE) _ _ (by simp) (last_of _ _)).mono ?_
    rintro e y5 ⟨rfl, kq⟩
    have K5 : Kp W1 y5 := KQ.trans kq
    have V2 := bl_kp B1.out.1 K5
    have f0 := bl_frozen V2 0
    have f1 := bl_frozen V2 1
    have f2 := bl_frozen V2 2
    have f3 := bl_frozen V2 3
    have c0 := bl_cell V2 0 _ rfl
    have c1 := bl_cell V2 1 _ rfl
    have c2 := bl_cell V2 2 _ rfl
    have c3 := bl_cell V2 3 _ rfl
    refine hKq.out _ _ (MK.out _ (KQ.trans kq)) (fun hN => ?_)
    clear kq
    clear hKq K hH KQ
    have hH := hN
    clear hN
    have KQ := hH.2.2.2.2.out
    try simp only [Act.put, List.setIfInBounds_toArray, List.set_cons_zero, List.set_cons_succ]
    refine anyZ_ready (rs := [6]) (by kernel_rfl) (by simp) ?_
    refine AllZ.last (o := { dst := none, op := Op.store 24 (Operand.tmp 2) (Operand.tmp 13), type := 0, pos := "print.go:24", after := #[{ on := 5, ground := Ground.data }, { on := 5, ground := Ground.chain }, { on := 0, ground := Ground.phase }, { on := 1, ground := Ground.phase }, { on := 2, ground := Ground.phase }, { on := 3, ground := Ground.phase }, { on := 4, ground := Ground.phase }, { on := 5, ground := Ground.phase }], guard := none }) rfl (Or.inl rfl) (fun K hKq => ?_) AllZ.nil
    go_simp
    refine hKq.out _ _ ?_
    clear hKq K
    try simp only [Act.put, List.setIfInBounds_toArray, List.set_cons_zero, List.set_cons_succ]
    refine anyZ_done (by kernel_rfl) ?_ _
    refine NoPanic.normal ?_
    go_wp2_with fail
    have A4 := bl_set4 V2 (.int .u64 (wd (orB (inL specL) (inL specE)) 0 : Nat)) (.int .u64 (wd (orB (inL specL) (inL specE)) 1 : Nat)) (.int .u64 (wd (orB (inL specL) (inL specE)) 2 : Nat)) (.int .u64 (wd (orB (inL specL) (inL specE)) 3 : Nat))
    refine bodyPost_ret (v := sv (orB (inL specL) (inL specE))) (ret_at rfl _ _ _ _ rfl A4) rfl ⟨by rw [spec_true], ?_⟩
    exact (ks_set4 _ _ _ _).up (B1.out.2.1.trans K5) (Nat.le_refl _)

/-- A sign as the program has it: its kind, its byte, how many bytes it takes. -/
def sg (g : Nat × Nat × Nat) : Value := .agg #[.int .i64 (g.1 : Int), .int .u8 (g.2.1 : Int), .int .i64 (g.2.2 : Int)]
theorem sg3 (x y z : Nat) : sg (x, y, z) = .agg #[.int .i64 (x : Int), .int .u8 (y : Int), .int .i64 (z : Int)] := rfl
theorem sg_ret {fn : Func} {p : Tmp} (h : fn.results = #[.cell p 91]) (tmps : Array Value) (w : World) (S : Nat) (x y z : Value) (hp : tmps.getD p undef = .pointer (some ⟨S, 0, none⟩)) (hA : w.heap[S]? = some (.cells #[x, y, z] 91)) : (results fn tmps).run Tryz.prog w = .ok (.agg #[x, y, z]) w :=
  results_cell_row h tmps w S 91 _ (0, 0) _ hp hA Tryz.underlying91 rfl (by kernel_rfl)
def qs (b : Nat) (ere : Bool) : Nat × Nat × Nat := if b = 110 then (2, 10, 2) else if rng 48 57 b then (14, b, 2) else if spec ere b then (2, b, 2) else if ere then (0, 0, 0) else (framing b, b, 2)
def quoted (t : ByteArray) (ere : Bool) : Nat × Nat × Nat := if t.size = 0 then (0, 0, 0) else qs (ch t 0) ere
theorem str_nil (t : ByteArray) : t.toList.isEmpty = decide (t.size = 0) := by
  rw [ByteArray.toList_eq, show t.size = t.data.toList.length from (Array.length_toList).symm]
  cases t.data.toList <;> simp

set_option maxRecDepth 100000 in
theorem quoted_any (t : ByteArray) (ere : Bool) (w : World) : Calls Tryz.prog 82 #[.string t, .bool ere] w fun e w' => e = .returned (sg (quoted t ere)) ∧ Kp w w' := by
  have ez := str_nil t
  by_cases h0 : t.size = 0
  · rw [decide_eq_true h0] at ez
    have E : Hid (quoted t ere = (0, 0, 0)) := by show _ = _; unfold quoted; rw [if_pos h0]
    go_enter Tryz.func82, Tryz.ntmps82
    go_upto_region 1 with fail
    obtain ⟨W0, hW0⟩ : ∃ W, w.alloc (.cells #[.int .i64 0, .int .u8 0, .int .i64 0] 91) = W := ⟨_, rfl⟩
    rw [hW0]
    have B0 : Hid (W0.heap[w.heap.size]? = some (.cells #[.int .i64 0, .int .u8 0, .int .i64 0] 91) ∧ Kp w W0) := by subst hW0; exact ⟨last_of _ _, (Kp.refl _).alloc _⟩
    clear hW0
    have z := B0.out.1
    have f0 := bl_frozen z 0
    have f1 := bl_frozen z 1
    have f2 := bl_frozen z 2
    have c0 := bl_cell z 0 _ rfl
    have c1 := bl_cell z 1 _ rfl
    have c2 := bl_cell z 2 _ rfl
    clear z
    go_wp2_with fail
    exact bodyPost_ret (v := .agg #[_, _, _]) (sg_ret rfl _ _ _ _ _ _ rfl (bl_set3 B0.out.1 _ _ _)) rfl ⟨by rw [E.out]; rfl, (ks_set3 _ _ _).up B0.out.2 (Nat.le_refl _)⟩
  rw [decide_eq_false h0] at ez
  have ec := run_ch t 0 (by omega)
  rw [show ((0 : Nat) : Int) = 0 from rfl] at ec
  have hq : quoted t ere = qs (ch t 0) ere := by unfold quoted; rw [if_neg h0]
  obtain ⟨b, hb⟩ : ∃ b, ch t 0 = b := ⟨_, rfl⟩
  have hb256 : b < 256 := by rw [← hb]; exact ch_lt _ _
  rw [hb] at ec hq
  clear hb
  by_cases h1 : b = 110
  · subst h1
    rw [show ((110 : Nat) : Int) = 110 from rfl] at ec
    have E : Hid (quoted t ere = (2, 10, 2)) := by show _ = _; rw [hq]; rfl
    clear hq
    go_enter Tryz.func82, Tryz.ntmps82
    go_upto_region 1 with fail
    obtain ⟨W0, hW0⟩ : ∃ W, w.alloc (.cells #[.int .i64 0, .int .u8 0, .int .i64 0] 91) = W := ⟨_, rfl⟩
    rw [hW0]
    have B0 : Hid (W0.heap[w.heap.size]? = some (.cells #[.int .i64 0, .int .u8 0, .int .i64 0] 91) ∧ Kp w W0) := by subst hW0; exact ⟨last_of _ _, (Kp.refl _).alloc _⟩
    clear hW0
    have z := B0.out.1
    have f0 := bl_frozen z 0
    have f1 := bl_frozen z 1
    have f2 := bl_frozen z 2
    have c0 := bl_cell z 0 _ rfl
    have c1 := bl_cell z 1 _ rfl
    have c2 := bl_cell z 2 _ rfl
    clear z
    go_wp2_with fail
    exact bodyPost_ret (v := .agg #[_, _, _]) (sg_ret rfl _ _ _ _ _ _ rfl (bl_set3 B0.out.1 _ _ _)) rfl ⟨by rw [E.out]; rfl, (ks_set3 _ _ _).up B0.out.2 (Nat.le_refl _)⟩
  have g1 : ((b : Int) == 110) = false := by simp; omega
  have g1' : ¬ (b : Int) = 110 := by omega
  by_cases h2 : rng 48 57 b = true
  · have E : Hid (quoted t ere = (14, b, 2)) := by show _ = _; rw [hq]; unfold qs; rw [if_neg h1, if_pos h2]
    have H2 : Hid (rng 48 57 b = true) := h2
    clear hq h2
    go_enter Tryz.func82, Tryz.ntmps82
    go_upto_region 1 with fail
    obtain ⟨W0, hW0⟩ : ∃ W, w.alloc (.cells #[.int .i64 0, .int .u8 0, .int .i64 0] 91) = W := ⟨_, rfl⟩
    rw [hW0]
    have B0 : Hid (W0.heap[w.heap.size]? = some (.cells #[.int .i64 0, .int .u8 0, .int .i64 0] 91) ∧ Kp w W0) := by subst hW0; exact ⟨last_of _ _, (Kp.refl _).alloc _⟩
    clear hW0
    go_wp2_with fail
    refine (range_any 48 57 _ (by omega) (by omega)).mono ?_
    rintro e w1 ⟨rfl, kq⟩
    have B1 : Hid (w1.heap[w.heap.size]? = some (.cells #[.int .i64 0, .int .u8 0, .int .i64 0] 91) ∧ Kp w w1) := ⟨bl_kp B0.out.1 kq, B0.out.2.trans kq⟩
    clear kq B0
    go_wp2_with fail
    refine (has_any (rng 48 57) b _ hb256).mono ?_
    rintro e w2 ⟨rfl, kq⟩
    rw [H2.out]
    have B2 : Hid (w2.heap[w.heap.size]? = some (.cells #[.int .i64 0, .int .u8 0, .int .i64 0] 91) ∧ Kp w w2) := ⟨bl_kp B1.out.1 kq, B1.out.2.trans kq⟩
    clear kq B1
    have z := B2.out.1
    have f0 := bl_frozen z 0
    have f1 := bl_frozen z 1
    have f2 := bl_frozen z 2
    have c0 := bl_cell z 0 _ rfl
    have c1 := bl_cell z 1 _ rfl
    have c2 := bl_cell z 2 _ rfl
    clear z
    go_wp2_with fail
    exact bodyPost_ret (v := .agg #[_, _, _]) (sg_ret rfl _ _ _ _ _ _ rfl (bl_set3 B2.out.1 _ _ _)) rfl ⟨by rw [E.out]; rfl, (ks_set3 _ _ _).up B2.out.2 (Nat.le_refl _)⟩
  have h2 : rng 48 57 b = false := by cases h : rng 48 57 b <;> simp_all
  by_cases h3 : spec ere b = true
  · have E : Hid (quoted t ere = (2, b, 2)) := by show _ = _; rw [hq]; unfold qs; rw [if_neg h1, h2, if_neg (by simp), if_pos h3]
    have H2 : Hid (rng 48 57 b = false) := h2
    have H3 : Hid (spec ere b = true) := h3
    clear hq h2 h3
    go_enter Tryz.func82, Tryz.ntmps82
    go_upto_region 1 with fail
    obtain ⟨W0, hW0⟩ : ∃ W, w.alloc (.cells #[.int .i64 0, .int .u8 0, .int .i64 0] 91) = W := ⟨_, rfl⟩
    rw [hW0]
    have B0 : Hid (W0.heap[w.heap.size]? = some (.cells #[.int .i64 0, .int .u8 0, .int .i64 0] 91) ∧ Kp w W0) := by subst hW0; exact ⟨last_of _ _, (Kp.refl _).alloc _⟩
    clear hW0
    go_wp2_with fail
    refine (range_any 48 57 _ (by omega) (by omega)).mono ?_
    rintro e w1 ⟨rfl, kq⟩
    have B1 : Hid (w1.heap[w.heap.size]? = some (.cells #[.int .i64 0, .int .u8 0, .int .i64 0] 91) ∧ Kp w w1) := ⟨bl_kp B0.out.1 kq, B0.out.2.trans kq⟩
    clear kq B0
    go_wp2_with fail
    refine (has_any (rng 48 57) b _ hb256).mono ?_
    rintro e w2 ⟨rfl, kq⟩
    rw [H2.out]
    have B2 : Hid (w2.heap[w.heap.size]? = some (.cells #[.int .i64 0, .int .u8 0, .int .i64 0] 91) ∧ Kp w w2) := ⟨bl_kp B1.out.1 kq, B1.out.2.trans kq⟩
    clear kq B1
    go_wp2_with fail
    refine (special_any ere _).mono ?_
    rintro e w3 ⟨rfl, kq⟩
    have B3 : Hid (w3.heap[w.heap.size]? = some (.cells #[.int .i64 0, .int .u8 0, .int .i64 0] 91) ∧ Kp w w3) := ⟨bl_kp B2.out.1 kq, B2.out.2.trans kq⟩
    clear kq B2
    go_wp2_with fail
    refine (has_any (spec ere) b _ hb256).mono ?_
    rintro e w4 ⟨rfl, kq⟩
    rw [H3.out]
    have B4 : Hid (w4.heap[w.heap.size]? = some (.cells #[.int .i64 0, .int .u8 0, .int .i64 0] 91) ∧ Kp w w4) := ⟨bl_kp B3.out.1 kq, B3.out.2.trans kq⟩
    clear kq B3
    have z := B4.out.1
    have f0 := bl_frozen z 0
    have f1 := bl_frozen z 1
    have f2 := bl_frozen z 2
    have c0 := bl_cell z 0 _ rfl
    have c1 := bl_cell z 1 _ rfl
    have c2 := bl_cell z 2 _ rfl
    clear z
    go_wp2_with fail
    exact bodyPost_ret (v := .agg #[_, _, _]) (sg_ret rfl _ _ _ _ _ _ rfl (bl_set3 B4.out.1 _ _ _)) rfl ⟨by rw [E.out]; rfl, (ks_set3 _ _ _).up B4.out.2 (Nat.le_refl _)⟩
  have h3 : spec ere b = false := by cases h : spec ere b <;> simp_all
  have H2 : Hid (rng 48 57 b = false) := h2
  have H3 : Hid (spec ere b = false) := h3
  cases ere with
  | true =>
    have E : Hid (quoted t true = (0, 0, 0)) := by show _ = _; rw [hq]; unfold qs; rw [if_neg h1, h2, if_neg (by simp), h3]; rfl
    clear hq h2 h3
    go_enter Tryz.func82, Tryz.ntmps82
    go_upto_region 1 with fail
    obtain ⟨W0, hW0⟩ : ∃ W, w.alloc (.cells #[.int .i64 0, .int .u8 0, .int .i64 0] 91) = W := ⟨_, rfl⟩
    rw [hW0]
    have B0 : Hid (W0.heap[w.heap.size]? = some (.cells #[.int .i64 0, .int .u8 0, .int .i64 0] 91) ∧ Kp w W0) := by subst hW0; exact ⟨last_of _ _, (Kp.refl _).alloc _⟩
    clear hW0
    go_wp2_with fail
    refine (range_any 48 57 _ (by omega) (by omega)).mono ?_
    rintro e w1 ⟨rfl, kq⟩
    have B1 : Hid (w1.heap[w.heap.size]? = some (.cells #[.int .i64 0, .int .u8 0, .int .i64 0] 91) ∧ Kp w w1) := ⟨bl_kp B0.out.1 kq, B0.out.2.trans kq⟩
    clear kq B0
    go_wp2_with fail
    refine (has_any (rng 48 57) b _ hb256).mono ?_
    rintro e w2 ⟨rfl, kq⟩
    rw [H2.out]
    have B2 : Hid (w2.heap[w.heap.size]? = some (.cells #[.int .i64 0, .int .u8 0, .int .i64 0] 91) ∧ Kp w w2) := ⟨bl_kp B1.out.1 kq, B1.out.2.trans kq⟩
    clear kq B1
    go_wp2_with fail
    refine (special_any true _).mono ?_
    rintro e w3 ⟨rfl, kq⟩
    have B3 : Hid (w3.heap[w.heap.size]? = some (.cells #[.int .i64 0, .int .u8 0, .int .i64 0] 91) ∧ Kp w w3) := ⟨bl_kp B2.out.1 kq, B2.out.2.trans kq⟩
    clear kq B2
    go_wp2_with fail
    refine (has_any (spec true) b _ hb256).mono ?_
    rintro e w4 ⟨rfl, kq⟩
    rw [H3.out]
    have B4 : Hid (w4.heap[w.heap.size]? = some (.cells #[.int .i64 0, .int .u8 0, .int .i64 0] 91) ∧ Kp w w4) := ⟨bl_kp B3.out.1 kq, B3.out.2.trans kq⟩
    clear kq B3
    have z := B4.out.1
    have f0 := bl_frozen z 0
    have f1 := bl_frozen z 1
    have f2 := bl_frozen z 2
    have c0 := bl_cell z 0 _ rfl
    have c1 := bl_cell z 1 _ rfl
    have c2 := bl_cell z 2 _ rfl
    clear z
    go_wp2_with fail
    exact bodyPost_ret (v := .agg #[_, _, _]) (sg_ret rfl _ _ _ _ _ _ rfl (bl_set3 B4.out.1 _ _ _)) rfl ⟨by rw [E.out]; rfl, (ks_set3 _ _ _).up B4.out.2 (Nat.le_refl _)⟩
  | false =>
    have E : Hid (quoted t false = (framing b, b, 2)) := by show _ = _; rw [hq]; unfold qs; rw [if_neg h1, h2, if_neg (by simp), h3]; rfl
    clear hq h2 h3
    go_enter Tryz.func82, Tryz.ntmps82
    go_upto_region 1 with fail
    obtain ⟨W0, hW0⟩ : ∃ W, w.alloc (.cells #[.int .i64 0, .int .u8 0, .int .i64 0] 91) = W := ⟨_, rfl⟩
    rw [hW0]
    have B0 : Hid (W0.heap[w.heap.size]? = some (.cells #[.int .i64 0, .int .u8 0, .int .i64 0] 91) ∧ Kp w W0) := by subst hW0; exact ⟨last_of _ _, (Kp.refl _).alloc _⟩
    clear hW0
    go_wp2_with fail
    refine (range_any 48 57 _ (by omega) (by omega)).mono ?_
    rintro e w1 ⟨rfl, kq⟩
    have B1 : Hid (w1.heap[w.heap.size]? = some (.cells #[.int .i64 0, .int .u8 0, .int .i64 0] 91) ∧ Kp w w1) := ⟨bl_kp B0.out.1 kq, B0.out.2.trans kq⟩
    clear kq B0
    go_wp2_with fail
    refine (has_any (rng 48 57) b _ hb256).mono ?_
    rintro e w2 ⟨rfl, kq⟩
    rw [H2.out]
    have B2 : Hid (w2.heap[w.heap.size]? = some (.cells #[.int .i64 0, .int .u8 0, .int .i64 0] 91) ∧ Kp w w2) := ⟨bl_kp B1.out.1 kq, B1.out.2.trans kq⟩
    clear kq B1
    go_wp2_with fail
    refine (special_any false _).mono ?_
    rintro e w3 ⟨rfl, kq⟩
    have B3 : Hid (w3.heap[w.heap.size]? = some (.cells #[.int .i64 0, .int .u8 0, .int .i64 0] 91) ∧ Kp w w3) := ⟨bl_kp B2.out.1 kq, B2.out.2.trans kq⟩
    clear kq B2
    go_wp2_with fail
    refine (has_any (spec false) b _ hb256).mono ?_
    rintro e w4 ⟨rfl, kq⟩
    rw [H3.out]
    have B4 : Hid (w4.heap[w.heap.size]? = some (.cells #[.int .i64 0, .int .u8 0, .int .i64 0] 91) ∧ Kp w w4) := ⟨bl_kp B3.out.1 kq, B3.out.2.trans kq⟩
    clear kq B3
    go_wp2_with fail
    refine (framing_any b _).mono ?_
    rintro e w4 ⟨rfl, rfl⟩
    have z := B4.out.1
    have f0 := bl_frozen z 0
    have f1 := bl_frozen z 1
    have f2 := bl_frozen z 2
    have c0 := bl_cell z 0 _ rfl
    have c1 := bl_cell z 1 _ rfl
    have c2 := bl_cell z 2 _ rfl
    clear z
    go_wp2_with fail
    exact bodyPost_ret (v := .agg #[_, _, _]) (sg_ret rfl _ _ _ _ _ _ rfl (bl_set3 B4.out.1 _ _ _)) rfl ⟨by rw [E.out]; rfl, (ks_set3 _ _ _).up B4.out.2 (Nat.le_refl _)⟩

end Go.Proofs.YtikmgckefbjbkaaGreatDoor
