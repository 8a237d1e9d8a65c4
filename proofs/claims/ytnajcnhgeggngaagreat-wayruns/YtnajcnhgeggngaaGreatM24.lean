/-
  Texts of this claim: RAddB.
-/
import Derived.Test.YtnajcnhgeggngaaGreatM21

/-! ### RAddB -/

namespace Go.Proofs.YtnajcnhgeggngaaGreat.Way
set_option maxHeartbeats 2000000
set_option maxRecDepth 100000
open Go.RowKit Go.Proofs.YtnajcnhgeggngaaGreat

set_option maxHeartbeats 4000000 in
theorem raddB_any (R h pl : Nat) (lv : Value) (sn : Option Nat) (z0 z1 z2 z3 : Value) (base : Nat) (xs : List Sp) (x : Sp) (hx0 : x.Ok) (w : World) (hR : w.heap[R]? = some (.cells #[z0, z1, z2, z3, .int .u8 (h : Int), lv, .int .u64 (pl : Int), .map sn] 182)) (hI : RowI base w h xs lv pl sn) (hRb : R < base) (hbw : base ≤ w.heap.size) :
  Calls Tryz.prog 126 #[.pointer (some ⟨R, 4, none⟩), spv x] w fun e w' => AddD (fun lv pl sn => (.cells #[z0, z1, z2, z3, .int .u8 (h : Int), lv, .int .u64 (pl : Int), .map sn] 182)) base h xs x lv sn R w e w' := by
 have HR := hid hR
 have HI := hid hI
 have OA := hid (fun W => only_any x h hI.lt W)
 have hx := hid hx0
 clear hR hI
 go_enter Tryz.func126, Tryz.ntmps126
 go_upto_region 1 with fail
 refine opq (fun W0 => W0.heap[w.heap.size]? = some (spo x) ∧ W0.heap[R]? = some (.cells #[z0, z1, z2, z3, .int .u8 (h : Int), lv, .int .u64 (pl : Int), .map sn] 182) ∧ Kp w W0 ∧ RowI base W0 h xs lv pl sn ∧ w.heap.size < W0.heap.size) ⟨by exact last_of _ _, by exact bl_kp HR.out kpt, by exact kpt, by exact HI.out.kp kpt, by simp⟩ ?_
 rintro W0 ⟨xX0, xR0, xK0, xI0, xZ0⟩
 have X0 := hid xX0
 have R0 := hid xR0
 have K0 := hid xK0
 have I0 := hid xI0
 have Z0 := hid xZ0
 clear xX0 xR0 xK0 xI0 xZ0
 go_cut [4] (fun v wc => ∃ K, v = .pointer (some ⟨K, 0, none⟩) ∧ W0.heap.size ≤ K ∧ wc.heap[K]? = some (spo (x.only h)) ∧ Kp W0 wc)
 case first =>
  have Q0 : Kp W0 W0.drew := (Kp.refl _).drew
  have MK : Hid (∀ W, Kp W0 W → W.cell? ⟨w.heap.size, 0, none⟩ = some (.int .i8 x.a) ∧ W.cell? ⟨w.heap.size, 1, none⟩ = some (.int .i8 x.f0) ∧ W.cell? ⟨w.heap.size, 2, none⟩ = some (.int .i8 x.t0) ∧ W.cell? ⟨w.heap.size, 3, none⟩ = some (.int .i8 x.f1) ∧ W.cell? ⟨w.heap.size, 4, none⟩ = some (.int .i8 x.t1) ∧ W.cell? ⟨w.heap.size, 5, none⟩ = some (.int .i8 x.f2) ∧ W.cell? ⟨w.heap.size, 6, none⟩ = some (.int .i8 x.t2) ∧ W.cell? ⟨R, 4, none⟩ = some (.int .u8 (h : Int)) ∧ Hid (Kp W0 W)) := fun W k => ⟨bl_cell (bl_kp X0.out k) 0 _ rfl, bl_cell (bl_kp X0.out k) 1 _ rfl, bl_cell (bl_kp X0.out k) 2 _ rfl, bl_cell (bl_kp X0.out k) 3 _ rfl, bl_cell (bl_kp X0.out k) 4 _ rfl, bl_cell (bl_kp X0.out k) 5 _ rfl, bl_cell (bl_kp X0.out k) 6 _ rfl, bl_cell (bl_kp R0.out k) 4 _ rfl, k⟩
  refine wp_region_noPanic ?_
  refine hdrew MK Q0 (fun hH => ?_)
  have KQ := Q0
  refine tk 0 (some 7) (Op.load 83 (Operand.tmp 3)) 83 (v := ?v0a1) rfl ?h0a1 hH ?_
  case h0a1 => intro _ _; go_simp; try with_reducible rfl
  try simp only [ps]
  refine tk 1 (some 8) (Op.move (Operand.tmp 0)) 179 (v := ?v1a2) rfl ?h1a2 hH ?_
  case h1a2 => intro _ _; go_simp; try with_reducible rfl
  try simp only [ps]
  refine tk 2 (some 9) (Op.nilCheck (Operand.tmp 8)) 0 (v := ?v2a3) rfl ?h2a3 hH ?_
  case h2a3 => intro _ _; go_simp; try with_reducible rfl
  try simp only [ps]
  refine tk 3 (some 10) (Op.fieldAddr 177 (Operand.tmp 9) 0) 0 (v := ?v3a4) rfl ?h3a4 hH ?_
  case h3a4 => intro _ _; go_simp; try with_reducible rfl
  try simp only [ps]
  refine tk 4 (some 11) (Op.load 75 (Operand.tmp 10)) 75 (v := ?v4a5) rfl ?h4a5 hH ?_
  case h4a5 => intro _ _; go_simp; try with_reducible rfl
  try simp only [ps]
  refine wpAnyH_ready (rs := [5, 6]) (by kernel_rfl) (by simp) ?_
  refine AllReadyH.cons (o := { dst := some 12, op := Op.call { callee := Callee.value (Operand.func 55), args := #[Operand.tmp 7, Operand.tmp 11], argTypes := #[83, 75] }, type := 83, pos := "spot.go:84", after := #[{ on := 0, ground := Ground.data }, { on := 4, ground := Ground.data }], guard := none }) rfl (fun K hKq => ?_) ?_
  ·
   go_simp
   refine (OA.out _).mono ?_
   rintro e y1 ⟨rfl, kq⟩
   have hs1 : W0.heap.size ≤ y1.heap.size := kq.size
   refine hKq.out _ _ (MK.out _ (KQ.trans kq)) (fun hN => ?_)
   clear kq
   clear hKq K hH KQ
   have hH := hN
   clear hN
   have KQ := hH.2.2.2.2.2.2.2.2.out
   try simp only [ps]
   refine wpAnyH_ready (rs := [6]) (by kernel_rfl) (by simp) ?_
   refine AllReadyH.cons (o := { dst := some 4, op := Op.alloc 83, type := 0, pos := "spot.go:84", after := #[], guard := none }) rfl (fun K hKq => ?_) AllReadyH.nil
   go_simp
   refine hKq.out _ _ (MK.out _ (KQ.alloc _)) (fun hN => ?_)
   have KB2 : Hid ((y1.alloc (.cells #[.int .i8 0, .int .i8 0, .int .i8 0, .int .i8 0, .int .i8 0, .int .i8 0, .int .i8 0] 83)).heap[y1.heap.size]? = some (.cells #[.int .i8 0, .int .i8 0, .int .i8 0, .int .i8 0, .int .i8 0, .int .i8 0, .int .i8 0] 83)) := last_of _ _
   clear hKq K hH KQ
   have hH := hN
   clear hN
   have KQ := hH.2.2.2.2.2.2.2.2.out
   try simp only [ps]
   refine wpAnyH_ready (rs := [7]) (by kernel_rfl) (by simp) ?_
   refine AllReadyH.cons (o := { dst := none, op := Op.store 83 (Operand.tmp 4) (Operand.tmp 12), type := 0, pos := "spot.go:84", after := #[{ on := 6, ground := Ground.data }, { on := 5, ground := Ground.data }, { on := 5, ground := Ground.chain }, { on := 0, ground := Ground.phase }, { on := 1, ground := Ground.phase }, { on := 2, ground := Ground.phase }, { on := 3, ground := Ground.phase }, { on := 4, ground := Ground.phase }, { on := 5, ground := Ground.phase }, { on := 6, ground := Ground.phase }], guard := none }) rfl (fun K hKq => ?_) AllReadyH.nil
   obtain ⟨U, hU⟩ : ∃ U, y1.alloc (.cells #[.int .i8 0, .int .i8 0, .int .i8 0, .int .i8 0, .int .i8 0, .int .i8 0, .int .i8 0] 83) = U := ⟨_, rfl⟩
   rw [hU] at hH KQ KB2 ⊢
   clear hU
   obtain ⟨q0, fq0, q1, fq1, q2, fq2, q3, fq3, q4, fq4, q5, fq5, q6, fq6⟩ := cellf7 (KB2.out)
   go_simp
   refine hKq.out _ _ (MK.out _ (Ks.up (P := y1.heap.size) (ks_set7 _ _ _ _ _ _ _) KQ (by omega))) (fun hN => ?_)
   clear q0 fq0 q1 fq1 q2 fq2 q3 fq3 q4 fq4 q5 fq5 q6 fq6
   clear hKq K hH KQ
   have hH := hN
   clear hN
   have KQ := hH.2.2.2.2.2.2.2.2.out
   try simp only [ps]
   refine wpAnyH_done (by kernel_rfl) ?_ _
   refine NoPanic.normal ?_
   go_wp2_with fail
   go_meet
   case rel => exact ⟨_, rfl, by omega, bl_set7 KB2.out _ _ _ _ _ _ _, KQ⟩
  refine AllReadyH.cons (o := { dst := some 4, op := Op.alloc 83, type := 0, pos := "spot.go:84", after := #[], guard := none }) rfl (fun K hKq => ?_) ?_
  ·
   go_simp
   refine hKq.out _ _ (MK.out _ (KQ.alloc _)) (fun hN => ?_)
   have KB1 : Hid ((W0.alloc (.cells #[.int .i8 0, .int .i8 0, .int .i8 0, .int .i8 0, .int .i8 0, .int .i8 0, .int .i8 0] 83)).heap[W0.heap.size]? = some (.cells #[.int .i8 0, .int .i8 0, .int .i8 0, .int .i8 0, .int .i8 0, .int .i8 0, .int .i8 0] 83)) := last_of _ _
   clear hKq K hH KQ
   have hH := hN
   clear hN
   have KQ := hH.2.2.2.2.2.2.2.2.out
   try simp only [ps]
   refine wpAnyH_ready (rs := [5]) (by kernel_rfl) (by simp) ?_
   refine AllReadyH.cons (o := { dst := some 12, op := Op.call { callee := Callee.value (Operand.func 55), args := #[Operand.tmp 7, Operand.tmp 11], argTypes := #[83, 75] }, type := 83, pos := "spot.go:84", after := #[{ on := 0, ground := Ground.data }, { on := 4, ground := Ground.data }], guard := none }) rfl (fun K hKq => ?_) AllReadyH.nil
   go_simp
   refine (OA.out _).mono ?_
   rintro e y2 ⟨rfl, kq⟩
   have KB2 : Hid (y2.heap[W0.heap.size]? = some (.cells #[.int .i8 0, .int .i8 0, .int .i8 0, .int .i8 0, .int .i8 0, .int .i8 0, .int .i8 0] 83)) := bl_kp (w := (W0.alloc (.cells #[.int .i8 0, .int .i8 0, .int .i8 0, .int .i8 0, .int .i8 0, .int .i8 0, .int .i8 0] 83)).drew) KB1.out kq
   have hs2 : W0.heap.size < y2.heap.size := Nat.lt_of_lt_of_le (by simp) kq.size
   refine hKq.out _ _ (MK.out _ (KQ.trans kq)) (fun hN => ?_)
   clear kq
   clear hKq K hH KQ
   have hH := hN
   clear hN
   have KQ := hH.2.2.2.2.2.2.2.2.out
   try simp only [ps]
   refine wpAnyH_ready (rs := [7]) (by kernel_rfl) (by simp) ?_
   refine AllReadyH.cons (o := { dst := none, op := Op.store 83 (Operand.tmp 4) (Operand.tmp 12), type := 0, pos := "spot.go:84", after := #[{ on := 6, ground := Ground.data }, { on := 5, ground := Ground.data }, { on := 5, ground := Ground.chain }, { on := 0, ground := Ground.phase }, { on := 1, ground := Ground.phase }, { on := 2, ground := Ground.phase }, { on := 3, ground := Ground.phase }, { on := 4, ground := Ground.phase }, { on := 5, ground := Ground.phase }, { on := 6, ground := Ground.phase }], guard := none }) rfl (fun K hKq => ?_) AllReadyH.nil
   obtain ⟨q0, fq0, q1, fq1, q2, fq2, q3, fq3, q4, fq4, q5, fq5, q6, fq6⟩ := cellf7 (KB2.out)
   go_simp
   refine hKq.out _ _ (MK.out _ (Ks.up (P := W0.heap.size) (ks_set7 _ _ _ _ _ _ _) KQ (by omega))) (fun hN => ?_)
   clear q0 fq0 q1 fq1 q2 fq2 q3 fq3 q4 fq4 q5 fq5 q6 fq6
   clear hKq K hH KQ
   have hH := hN
   clear hN
   have KQ := hH.2.2.2.2.2.2.2.2.out
   try simp only [ps]
   refine wpAnyH_done (by kernel_rfl) ?_ _
   refine NoPanic.normal ?_
   go_wp2_with fail
   go_meet
   case rel => exact ⟨_, rfl, by omega, bl_set7 KB2.out _ _ _ _ _ _ _, KQ⟩
  exact AllReadyH.nil
 case rest =>
 obtain ⟨K, rfl, hK, hkb, k1⟩ := hcut
 rename World => W1
 have X1 := hid (bl_kp X0.out k1)
 have R1 := hid (bl_kp R0.out k1)
 have KB1 := hid hkb
 have I1 := hid (I0.out.kp k1)
 have K1 := hid (K0.out.trans k1)
 have HSZ := hid (show w.heap.size < K from Nat.lt_of_lt_of_le Z0.out hK)
 have HRB := hid hRb
 have HRW := hid (show R < w.heap.size from bl_lt HR.out)
 have HNR := hid (show ¬ lv.ownBlock = some R from fun e => by have := (HI.out.row.block R e).1; omega)
 have HNX := hid (show ¬ lv.ownBlock = some w.heap.size from fun e => by have := (HI.out.row.block _ e).2; omega)
 have HNK := hid (show ¬ lv.ownBlock = some K from fun e => by have := (HI.out.row.block _ e).2; have := HSZ.out; omega)
 have HXR := hid (show w.heap.size ≠ R by have := HRW.out; omega)
 have HKR := hid (show K ≠ R by have := HRW.out; have := HSZ.out; omega)
 have HBW := hid hbw
 clear hK hkb k1 X0 R0 K0 I0 Z0 OA hRb hbw
 obtain ⟨q0, q1, q2, q3, q4, q5, q6⟩ := cells7 (KB1.out)
 go_wp2_with fail
 refine (rhasB_any R h pl lv sn z0 z1 z2 z3 I1.out.lt base xs (x.only h) (hx.out.only h) (only_only h x) _ R1.out I1.out.row (by have := I1.out.few; omega) I1.out.pl (fun b hb => ⟨(I1.out.set b hb).2.1, (I1.out.set b hb).2.2.1⟩)).mono ?_
 rintro e W2 ⟨rfl, k2⟩
 have X2 := hid (bl_kp X1.out k2)
 have R2 := hid (bl_kp R1.out k2)
 have KB2 := hid (bl_kp KB1.out k2)
 have I2 := hid (I1.out.kp k2)
 have K2 := hid (K1.out.trans k2)
 clear k2 X1 R1 KB1 I1 K1 q0 q1 q2 q3 q4 q5 q6
 obtain ⟨q, hq⟩ : ∃ q, xs.any (fun y => y.only h == x.only h) = q := ⟨_, rfl⟩
 have HQ := hid hq
 rw [hq]
 clear hq
 cases q with
 | true =>
  have E : Hid (addL h xs x = xs) := by show _ = _; unfold addL; rw [HQ.out]; rfl
  go_wp2_with fail
  refine bodyPost_ret (v := .tuple #[]) (results_none rfl _ _ _) rfl ⟨⟨rfl, lv, pl, sn, R2.out, by rw [E.out]; exact I2.out, fun b hb => Or.inl hb, fun b hb => Or.inl hb, Kp.kx K2.out⟩⟩
 | false =>
 go_upto_region 3 with fail
 go_cut [] (fun wc => ∃ lv', wc.heap[R]? = some (.cells #[z0, z1, z2, z3, .int .u8 (h : Int), lv', .int .u64 (pl : Int), .map sn] 182) ∧ Add3 base h xs x lv sn K w.heap.size R W2 lv' wc)
 case first =>
  have Q0 : Kx (fun b => lv.ownBlock = some b) W2 W2.drew := (Kx.refl _ _).drew
  have MK : Hid (∀ W, Kx (fun b => lv.ownBlock = some b) W2 W → W.cell? ⟨R, 5, none⟩ = some (lv) ∧ W.cell? ⟨w.heap.size, 0, none⟩ = some (.int .i8 x.a) ∧ W.cell? ⟨w.heap.size, 1, none⟩ = some (.int .i8 x.f0) ∧ W.cell? ⟨w.heap.size, 2, none⟩ = some (.int .i8 x.t0) ∧ W.cell? ⟨w.heap.size, 3, none⟩ = some (.int .i8 x.f1) ∧ W.cell? ⟨w.heap.size, 4, none⟩ = some (.int .i8 x.t1) ∧ W.cell? ⟨w.heap.size, 5, none⟩ = some (.int .i8 x.f2) ∧ W.cell? ⟨w.heap.size, 6, none⟩ = some (.int .i8 x.t2) ∧ Hid (Kx (fun b => lv.ownBlock = some b) W2 W)) := fun W k => ⟨bl_cell (bl_kx R2.out k HNR.out) 5 _ rfl, bl_cell (bl_kx X2.out k HNX.out) 0 _ rfl, bl_cell (bl_kx X2.out k HNX.out) 1 _ rfl, bl_cell (bl_kx X2.out k HNX.out) 2 _ rfl, bl_cell (bl_kx X2.out k HNX.out) 3 _ rfl, bl_cell (bl_kx X2.out k HNX.out) 4 _ rfl, bl_cell (bl_kx X2.out k HNX.out) 5 _ rfl, bl_cell (bl_kx X2.out k HNX.out) 6 _ rfl, k⟩
  refine wp_region_noPanic ?_
  refine hdrewZ 10 MK Q0 (fun hH => ?_)
  have KQ := Q0
  refine zk 10 0 [] (some 16) (Op.move (Operand.tmp 0)) 179 (v := ?v0c1) rfl ?h0c1 hH ?_
  case h0c1 => intro _ _; go_simp; try with_reducible rfl
  try simp only [ps]
  refine zk 10 1 [] (some 17) (Op.move (Operand.tmp 0)) 179 (v := ?v1c2) rfl ?h1c2 hH ?_
  case h1c2 => intro _ _; go_simp; try with_reducible rfl
  try simp only [ps]
  refine zk 10 2 [] (some 18) (Op.nilCheck (Operand.tmp 17)) 0 (v := ?v2c3) rfl ?h2c3 hH ?_
  case h2c3 => intro _ _; go_simp; try with_reducible rfl
  try simp only [ps]
  refine zk 10 3 [] (some 19) (Op.fieldAddr 177 (Operand.tmp 18) 1) 0 (v := ?v3c4) rfl ?h3c4 hH ?_
  case h3c4 => intro _ _; go_simp; try with_reducible rfl
  try simp only [ps]
  refine zk 10 4 [] (some 20) (Op.load 68 (Operand.tmp 19)) 68 (v := ?v4c5) rfl ?h4c5 hH ?_
  case h4c5 => intro _ _; go_simp; try with_reducible rfl
  try simp only [ps]
  refine zk 10 5 [] (some 21) (Op.load 83 (Operand.tmp 3)) 83 (v := ?v5c6) rfl ?h5c6 hH ?_
  case h5c6 => intro _ _; go_simp; try with_reducible rfl
  try simp only [ps]
  refine anyZ_ready (rs := [6]) (by kernel_rfl) (by simp) ?_
  refine AllZ.cons (o := { dst := some 22, op := Op.buildSlice 68 1 #[(0, Operand.tmp 21)], type := 68, pos := "spot.go:88", after := #[{ on := 5, ground := Ground.data }], guard := none }) rfl (fun K hKq => ?_) AllZ.nil
  go_simp
  refine hKq.out _ _ (MK.out _ (KQ.alloc _)) (fun hN => ?_)
  clear hKq K hH KQ
  have hH := hN
  clear hN
  have KQ := hH.2.2.2.2.2.2.2.2.out
  try simp only [ps]
  refine anyZ_ready (rs := [7]) (by kernel_rfl) (by simp) ?_
  refine AllZ.cons (o := { dst := some 23, op := Op.call { callee := Callee.builtin Builtin.append, args := #[Operand.tmp 20, Operand.tmp 22], argTypes := #[68, 68] }, type := 68, pos := "spot.go:88", after := #[{ on := 4, ground := Ground.data }, { on := 6, ground := Ground.data }], guard := none }) rfl (fun K hKq => ?_) AllZ.nil
  refine step_append_sp _ (by rfl) _ _ (by rfl) base lv xs x (by rfl) W2.heap.size (by rfl) (I2.out.row.kp (((Kp.refl _).drew).alloc _)) hx.out (last_of _ _) (by have := I2.out.few; omega) (by have := HBW.out; have := K2.out.size; simp; omega) ?_
  rintro v' w' md
  obtain ⟨ad', c', hv', _⟩ := md.row.form
  obtain ⟨n', hn'⟩ : ∃ n', (xs ++ [x]).length = n' := ⟨_, rfl⟩
  rw [hn'] at hv'
  subst hv'
  have MD := hid md
  clear md hn'
  refine hKq.out _ _ (MK.out _ (KQ.grown MD.out.grown (fun k e _ => e))) (fun hN => ?_)
  clear hKq K hH KQ
  have hH := hN
  clear hN
  have KQ := hH.2.2.2.2.2.2.2.2.out
  try simp only [ps]
  refine zk 10 8 [9] (some 24) (Op.nilCheck (Operand.tmp 16)) 0 (v := ?v8c7) rfl ?h8c7 hH ?_
  case h8c7 => intro _ _; go_simp; try with_reducible rfl
  try simp only [ps]
  refine zk 10 9 [] (some 25) (Op.fieldAddr 177 (Operand.tmp 24) 1) 0 (v := ?v9c8) rfl ?h9c8 hH ?_
  case h9c8 => intro _ _; go_simp; try with_reducible rfl
  try simp only [ps]
  refine anyZ_ready (rs := [10]) (by kernel_rfl) (by simp) ?_
  refine AllZ.last (o := { dst := none, op := Op.store 68 (Operand.tmp 25) (Operand.tmp 23), type := 0, pos := "spot.go:88", after := #[{ on := 9, ground := Ground.data }, { on := 7, ground := Ground.data }, { on := 7, ground := Ground.chain }, { on := 0, ground := Ground.phase }, { on := 1, ground := Ground.phase }, { on := 2, ground := Ground.phase }, { on := 3, ground := Ground.phase }, { on := 4, ground := Ground.phase }, { on := 5, ground := Ground.phase }, { on := 6, ground := Ground.phase }, { on := 7, ground := Ground.phase }], guard := none }) rfl (Or.inl rfl) (fun K hKq => ?_) AllZ.nil
  have c1 := bl_cell (bl_kx R2.out KQ HNR.out) 5 _ rfl
  have f1 := bl_frozen (bl_kx R2.out KQ HNR.out) 5
  go_simp
  refine hKq.out _ _ ?_
  clear c1 f1
  clear hKq K
  try simp only [ps]
  refine anyZ_done (by kernel_rfl) ?_ _
  refine NoPanic.normal ?_
  go_wp2_with fail
  go_meet
  case rel => exact ⟨_, bl_put (bl_kx R2.out KQ HNR.out) _, add3 HRB.out HNX.out HNK.out HXR.out HKR.out I2.out X2.out KB2.out (by simp) MD.out KQ⟩
 case rest =>
 obtain ⟨lv', hr3, ha3⟩ := hcut
 rename World => W3
 have R3 := hid hr3
 have A3 := hid ha3
 have E : Hid (addL h xs x = xs ++ [x]) := by show _ = _; unfold addL; rw [HQ.out]; rfl
 obtain ⟨a, ha⟩ : ∃ a, x.a.toNat = a := ⟨_, rfl⟩
 have hxa := hx.out.a0
 have hxb := hx.out.a1
 have hpl2 := (I2.out.pl.more x hx.out)
 rw [ha] at hpl2
 have HPL := hid hpl2
 have HOR : Hid (bits .or .u64 (pl : Int) (IntKind.u64.wrap (2 ^ x.a.toNat)) = ((pl ||| 2 ^ a : Nat) : Int)) := by
  show _ = _
  have hp : (2 : Nat) ^ a < 2 ^ 61 := Nat.pow_lt_pow_right (by omega) (by omega)
  have hl := I2.out.pl.lt
  rw [ha, show (2 : Int) ^ a = ((2 ^ a : Nat) : Int) from (Int.natCast_pow 2 a).symm, wrap_nat (by omega), u64_or_nat _ _ (by omega) (by omega)]
 have HND : Hid (((xs ++ [x]).map (Sp.only h)).Nodup) := by
  show List.Nodup _
  rw [List.map_append, List.nodup_append]
  refine ⟨I2.out.nd, by simp, fun p hp r hr e => ?_⟩
  obtain ⟨y, hy, rfl⟩ := List.mem_map.1 hp
  have hr : r = x.only h := by simpa using hr
  have := List.any_eq_false.1 HQ.out y hy
  rw [e, hr] at this
  simp at this
 clear hr3 ha3 hpl2 HQ ha
 go_upto_region 4 with fail
 go_cut [] (fun wc => wc.heap[R]? = some (.cells #[z0, z1, z2, z3, .int .u8 (h : Int), lv', .int .u64 ((pl ||| 2 ^ a : Nat) : Int), .map sn] 182) ∧ Ks R W3 wc)
 case first =>
  have Q0 : Ks R W3 W3.drew := (Ks.refl _ _).drew
  have MK : Hid (∀ W, Ks R W3 W → W.cell? ⟨w.heap.size, 0, none⟩ = some (.int .i8 x.a) ∧ Hid (Ks R W3 W)) := fun W k => ⟨bl_cell (bl_ks A3.out.xb HXR.out k) 0 _ rfl, k⟩
  refine wp_region_noPanic ?_
  refine hdrewZ 10 MK Q0 (fun hH => ?_)
  have KQ := Q0
  refine zk 10 0 [] (some 26) (Op.move (Operand.tmp 0)) 179 (v := ?v0d1) rfl ?h0d1 hH ?_
  case h0d1 => intro _ _; go_simp; try with_reducible rfl
  try simp only [ps]
  refine zk 10 1 [] (some 27) (Op.nilCheck (Operand.tmp 26)) 0 (v := ?v1d2) rfl ?h1d2 hH ?_
  case h1d2 => intro _ _; go_simp; try with_reducible rfl
  try simp only [ps]
  refine zk 10 2 [] (some 28) (Op.fieldAddr 177 (Operand.tmp 27) 2) 0 (v := ?v2d3) rfl ?h2d3 hH ?_
  case h2d3 => intro _ _; go_simp; try with_reducible rfl
  try simp only [ps]
  refine zk 10 4 [] (some 30) (Op.fieldAddr 83 (Operand.tmp 3) 0) 0 (v := ?v4d4) rfl ?h4d4 hH ?_
  case h4d4 => intro _ _; go_simp; try with_reducible rfl
  try simp only [ps]
  refine zk 10 5 [] (some 31) (Op.load 78 (Operand.tmp 30)) 78 (v := ?v5d5) rfl ?h5d5 hH ?_
  case h5d5 => intro _ _; go_simp; try with_reducible rfl
  try simp only [ps]
  refine zk 10 6 [] (some 32) (Op.binOp BinOp.shl 22 (Operand.const (Value.int IntKind.u64 1)) (Operand.tmp 31) 78) 22 (v := ?v6d6) rfl ?h6d6 hH ?_
  case h6d6 => intro _ _; go_simp; try with_reducible rfl
  try simp only [ps]
  refine anyZ_ready (rs := [3]) (by kernel_rfl) (by simp) ?_
  refine AllZ.cons (o := { dst := some 29, op := Op.load 22 (Operand.tmp 28), type := 22, pos := "spot.go:89", after := #[{ on := 2, ground := Ground.data }], guard := none }) rfl (fun K hKq => ?_) AllZ.nil
  have c4 := bl_cell (bl_drew R3.out) 6 _ rfl
  go_simp
  refine hKq.out _ _ (MK.out _ KQ) (fun hN => ?_)
  clear c4
  clear hKq K hH KQ
  have hH := hN
  clear hN
  have KQ := hH.2.out
  try simp only [ps]
  refine zk 10 7 [] (some 33) (Op.binOp BinOp.or 22 (Operand.tmp 29) (Operand.tmp 32) 22) 22 (v := ?v7d7) rfl ?h7d7 hH ?_
  case h7d7 => intro _ _; go_simp; try with_reducible rfl
  try simp only [ps]
  refine zk 10 8 [9] (some 34) (Op.nilCheck (Operand.tmp 26)) 0 (v := ?v8d8) rfl ?h8d8 hH ?_
  case h8d8 => intro _ _; go_simp; try with_reducible rfl
  try simp only [ps]
  refine zk 10 9 [] (some 35) (Op.fieldAddr 177 (Operand.tmp 34) 2) 0 (v := ?v9d9) rfl ?h9d9 hH ?_
  case h9d9 => intro _ _; go_simp; try with_reducible rfl
  try simp only [ps]
  refine anyZ_ready (rs := [10]) (by kernel_rfl) (by simp) ?_
  refine AllZ.last (o := { dst := none, op := Op.store 22 (Operand.tmp 35) (Operand.tmp 33), type := 0, pos := "spot.go:89", after := #[{ on := 9, ground := Ground.data }, { on := 7, ground := Ground.data }, { on := 0, ground := Ground.phase }, { on := 1, ground := Ground.phase }, { on := 2, ground := Ground.phase }, { on := 3, ground := Ground.phase }, { on := 4, ground := Ground.phase }, { on := 5, ground := Ground.phase }, { on := 6, ground := Ground.phase }, { on := 7, ground := Ground.phase }], guard := none }) rfl (Or.inl rfl) (fun K hKq => ?_) AllZ.nil
  have c4 := bl_cell (bl_drew R3.out) 6 _ rfl
  have f4 := bl_frozen (bl_drew R3.out) 6
  go_simp
  refine hKq.out _ _ ?_
  clear c4 f4
  clear hKq K
  try simp only [ps]
  refine anyZ_done (by kernel_rfl) ?_ _
  refine NoPanic.normal ?_
  go_wp2_with fail
  go_meet
  case rel => exact ⟨by rw [HOR.out]; exact bl_put R3.out _, ((Ks.refl _ _).set _ _).drew⟩
 case rest =>
 obtain ⟨hr4, hk4⟩ := hcut
 rename World => W4w
 have R4 := hid hr4
 have S4 := hid (A3.out.row.turn (fun b hb hl => hk4.block b hl (by have := (A3.out.row.block b hb).1; have := HRB.out; omega)))
 have KB4 := hid (bl_ks A3.out.key HKR.out hk4)
 have Q4 := hid (fun b (hb : sn = some b) => (⟨(A3.out.set b hb).1, (A3.out.set b hb).2.1.same (hk4.block b (A3.out.set b hb).2.1.lt (by have := (A3.out.set b hb).1; have := HRB.out; omega)), (A3.out.set b hb).2.2⟩ : base ≤ b ∧ SetAt W4w b (xs.map (Sp.only h)) ∧ h ≠ 0 ∧ 8 < xs.length))
 have K4 : Hid (Kx (rowB R lv sn) w W4w) := ((Kp.kx K2.out).trans (A3.out.kx.mono (fun b _ q => q))).trans ⟨Below.mono hk4.lo (Nat.zero_le _), fun b hl hn => hk4.block b hl (fun e => hn (Or.inl e))⟩
 have OW := hid (fun b (hb : lv'.ownBlock = some b) => ((A3.out.own b hb).imp (fun q => q) (fun q => Nat.le_trans K2.out.size q) : lv.ownBlock = some b ∨ w.heap.size ≤ b))
 have hsz4 : W3.heap.size ≤ W4w.heap.size := hk4.size
 have HB4 := hid (show base ≤ W4w.heap.size by have := HBW.out; have := K4.out.size; omega)
 obtain ⟨ad', c', hlv, hlc⟩ := S4.out.form
 subst hlv
 obtain ⟨N, hN⟩ : ∃ N, (xs ++ [x]).length = N := ⟨_, rfl⟩
 have hNx : N = xs.length + 1 := by rw [← hN]; simp
 have HN := hid hN
 have HNX2 := hid hNx
 rw [hN] at R4 S4 OW hlc
 have hNb : N ≤ 4398046511105 := by have := I2.out.few; omega
 have DONE := hid (fun (w' : World) (sn' : Option Nat) (hr : w'.heap[R]? = some (.cells #[z0, z1, z2, z3, .int .u8 (h : Int), (.slice ad' N c'), .int .u64 ((pl ||| 2 ^ a : Nat) : Int), .map sn'] 182)) (hS : SpR base w' (.slice ad' N c') (xs ++ [x])) (hs : ∀ b, sn' = some b → base ≤ b ∧ SetAt w' b ((xs ++ [x]).map (Sp.only h)) ∧ h ≠ 0 ∧ 8 < (xs ++ [x]).length) (ho : ∀ b, sn' = some b → sn = some b ∨ w.heap.size ≤ b) (hk : Kx (rowB R lv sn) w w') =>
  (⟨⟨rfl, .slice ad' N c', pl ||| 2 ^ a, sn', hr, by rw [E.out]; exact ⟨I2.out.lt, hS, HPL.out, hs, HND.out⟩, OW.out, ho, hk⟩⟩ : AddD (fun lv pl sn => (.cells #[z0, z1, z2, z3, .int .u8 (h : Int), lv, .int .u64 (pl : Int), .map sn] 182)) base h xs x lv sn R w (.returned (.tuple #[])) w'))
 clear hr4 hk4 hN hNx A3 R3 HPL HND OW R2 KB2 X2 K2 hxa hxb
 have r4 := bl_cell R4.out 4 _ rfl
 have r5 := bl_cell R4.out 5 _ rfl
 have r6 := bl_cell R4.out 6 _ rfl
 have r7 := bl_cell R4.out 7 _ rfl
 by_cases hN8 : N ≤ 8
 ·
  have hN8i : (N : Int) ≤ 8 := by omega
  go_wp2_with fail
  refine bodyPost_end (v := .tuple #[]) (results_none rfl _ _ _) rfl (DONE.out W4w sn R4.out S4.out (fun b hb => absurd (Q4.out b hb).2.2.2 (by have := HNX2.out; omega)) (fun b hb => Or.inl hb) K4.out)
 have hN8i : ¬ (N : Int) ≤ 8 := by omega
 by_cases h0 : h = 0
 ·
  have h0b : ((h : Int) == 0) = true := by rw [h0]; rfl
  have H0 := hid h0
  clear h0
  go_wp2_with fail
  refine bodyPost_end (v := .tuple #[]) (results_none rfl _ _ _) rfl (DONE.out W4w sn R4.out S4.out (fun b hb => absurd H0.out (Q4.out b hb).2.2.1) (fun b hb => Or.inl hb) K4.out)
 have h0b : ((h : Int) == 0) = false := by rw [beq_eq_false_iff_ne]; omega
 have h0c : ¬ (h : Int) = 0 := by omega
 have hxo := hid (hx.out.only h)
 have H0N := hid h0
 cases sn with
 | some b =>
  have em := map_nil (some b)
  have HQ4 := hid (Q4.out b rfl)
  have HRb := hid (show R ≠ b by have := HQ4.out.1; have := HRB.out; omega)
  have HKb : Hid (K ≠ b) := fun e => by
   obtain ⟨es, cl, hm, _⟩ := HQ4.out.2.1.ex
   have := KB4.out
   rw [e, hm] at this
   cases this
  have HSb := hid (fun q (hq : (Value.slice ad' N c').ownBlock = some q) => (fun e => by
   obtain ⟨es, cl, hm, _⟩ := HQ4.out.2.1.ex
   exact own_cells (xs := xs ++ [x]) (base := base) (w := W4w) (v := .slice ad' (xs ++ [x]).length c') (by rw [HN.out]; exact S4.out) (by rw [HN.out]; exact hq) (e ▸ hm) : q ≠ b))
  clear Q4
  go_upto_region 5 with fail
  clear r4 r5 r6 r7 em
  have Q0 : Kx (fun q => q = b) W4w W4w.drew := (Kx.refl _ _).drew
  have MK : Hid (∀ W, Kx (fun q => q = b) W4w W → W.cell? ⟨R, 7, none⟩ = some (.map (some b)) ∧ W.cell? ⟨K, 0, none⟩ = some (.int .i8 (x.only h).a) ∧ W.cell? ⟨K, 1, none⟩ = some (.int .i8 (x.only h).f0) ∧ W.cell? ⟨K, 2, none⟩ = some (.int .i8 (x.only h).t0) ∧ W.cell? ⟨K, 3, none⟩ = some (.int .i8 (x.only h).f1) ∧ W.cell? ⟨K, 4, none⟩ = some (.int .i8 (x.only h).t1) ∧ W.cell? ⟨K, 5, none⟩ = some (.int .i8 (x.only h).f2) ∧ W.cell? ⟨K, 6, none⟩ = some (.int .i8 (x.only h).t2) ∧ Hid (Kx (fun q => q = b) W4w W)) := fun W k => ⟨bl_cell (bl_kx R4.out k HRb.out) 7 _ rfl, bl_cell (bl_kx KB4.out k HKb.out) 0 _ rfl, bl_cell (bl_kx KB4.out k HKb.out) 1 _ rfl, bl_cell (bl_kx KB4.out k HKb.out) 2 _ rfl, bl_cell (bl_kx KB4.out k HKb.out) 3 _ rfl, bl_cell (bl_kx KB4.out k HKb.out) 4 _ rfl, bl_cell (bl_kx KB4.out k HKb.out) 5 _ rfl, bl_cell (bl_kx KB4.out k HKb.out) 6 _ rfl, k⟩
  refine wp_region_noPanic ?_
  refine hdrewZ 6 MK Q0 (fun hH => ?_)
  have KQ := Q0
  refine zk 6 0 [] (some 36) (Op.move (Operand.tmp 0)) 179 (v := ?v0s1) rfl ?h0s1 hH ?_
  case h0s1 => intro _ _; go_simp; try with_reducible rfl
  try simp only [ps]
  refine zk 6 1 [] (some 37) (Op.nilCheck (Operand.tmp 36)) 0 (v := ?v1s2) rfl ?h1s2 hH ?_
  case h1s2 => intro _ _; go_simp; try with_reducible rfl
  try simp only [ps]
  refine zk 6 2 [] (some 38) (Op.fieldAddr 177 (Operand.tmp 37) 3) 0 (v := ?v2s3) rfl ?h2s3 hH ?_
  case h2s3 => intro _ _; go_simp; try with_reducible rfl
  try simp only [ps]
  refine zk 6 3 [] (some 39) (Op.load 175 (Operand.tmp 38)) 175 (v := ?v3s4) rfl ?h3s4 hH ?_
  case h3s4 => intro _ _; go_simp; try with_reducible rfl
  try simp only [ps]
  refine zk 6 4 [] (some 40) (Op.load 83 (Operand.tmp 4)) 83 (v := ?v4s5) rfl ?h4s5 hH ?_
  case h4s5 => intro _ _; go_simp; try with_reducible rfl
  try simp only [ps]
  refine zk 6 5 [] (some 41) (Op.build 206 #[]) 206 (v := ?v5s6) rfl ?h5s6 hH ?_
  case h5s6 => intro _ _; go_simp; try with_reducible rfl
  try simp only [ps]
  refine anyZ_ready (rs := [6]) (by kernel_rfl) (by simp) ?_
  refine AllZ.last (o := { dst := none, op := Op.mapUpdate 175 (Operand.tmp 39) (Operand.tmp 40) (Operand.tmp 41), type := 0, pos := "spot.go:98", after := #[{ on := 3, ground := Ground.data }, { on := 4, ground := Ground.data }, { on := 5, ground := Ground.data }, { on := 0, ground := Ground.phase }, { on := 1, ground := Ground.phase }, { on := 2, ground := Ground.phase }, { on := 3, ground := Ground.phase }, { on := 4, ground := Ground.phase }, { on := 5, ground := Ground.phase }], guard := none }) rfl (Or.inl rfl) (fun K hKq => ?_) AllZ.nil
  obtain ⟨wm, hrun, hset, hg⟩ := (HQ4.out.2.1.same (w' := W4w.drew) rfl).put Tryz.underlying175 (x.only h) hxo.out
  have HSET := hid hset
  have HG := hid hg
  clear hset hg
  go_simp
  refine hKq.out _ _ ?_
  clear hrun
  clear hKq K
  try simp only [ps]
  refine anyZ_done (by kernel_rfl) ?_ _
  refine NoPanic.normal ?_
  go_wp2_with fail
  refine bodyPost_end (v := .tuple #[]) (results_none rfl _ _ _) rfl (DONE.out wm (some b) ((HG.out.block R (bl_lt R4.out) (fun e => HRb.out (by injection e))).trans R4.out) (by rw [← HN.out]; exact (show SpR base wm (.slice ad' (xs ++ [x]).length c') (xs ++ [x]) from by rw [HN.out]; exact S4.out.turn (fun q hq hl => HG.out.block q hl (fun e => HSb.out q hq (by injection e))))) (fun b' e => by injection e with e; subst e; exact ⟨HQ4.out.1, by rw [List.map_append]; exact HSET.out, HQ4.out.2.2.1, by rw [HN.out]; omega⟩) (fun b' e => Or.inl e) (K4.out.drew.grown HG.out (fun k e _ => Or.inr (Or.inr e))))
 | none =>
  obtain ⟨ad2, c2, hv2, _, hc2⟩ := (S4.out.spl (ok := fun _ => True) (fun _ _ => trivial)).ex
  injection hv2 with e1 e2 e3
  obtain ⟨bb, hbb, _⟩ := hc2 (by rw [HN.out]; omega)
  rw [← e1] at hbb
  subst hbb
  clear hc2 e1 e2 e3
  have em := map_nil none
  have mm := make175 W4w
  have fr := bl_frozen R4.out 7
  have frA := bl_frozen (bl_alloc R4.out (Obj.map #[] 0)) 7
  have rA := bl_cell (bl_alloc R4.out (Obj.map #[] 0)) 7 _ rfl
  go_upto_region 9 with fail
  refine opq (fun W5 => W5.heap[R]? = some (.cells #[z0, z1, z2, z3, .int .u8 (h : Int), (.slice (some ⟨bb, 0, none⟩) N c'), .int .u64 ((pl ||| 2 ^ a : Nat) : Int), .map (some W4w.heap.size)] 182) ∧ SpR base W5 (.slice (some ⟨bb, 0, none⟩) N c') (xs ++ [x]) ∧ SetAt W5 W4w.heap.size (((xs ++ [x]).take 0).map (Sp.only h)) ∧ Kx (rowB R lv none) w W5) ⟨by exact bl_put (bl_alloc R4.out _) _, by exact (S4.out.kp ((Kp.refl _).alloc _)).turn (fun q hq hl => Below.heap_setCell (W4w.alloc (Obj.map #[] 0)) ⟨R, 7, none⟩ _ q (show q ≠ R from by have := (S4.out.block q hq).1; have := HRB.out; omega)), by exact (SetAt.made W4w).same (Below.heap_setCell (W4w.alloc (Obj.map #[] 0)) ⟨R, 7, none⟩ _ W4w.heap.size (show W4w.heap.size ≠ R from by have := bl_lt R4.out; omega)), by exact (K4.out.alloc _).set (fun _ => Or.inl rfl) _ _⟩ ?_
  rintro W5 ⟨xR5, xS5, xM5, xK5⟩
  have R5 := hid xR5
  have S5 := hid xS5
  have M5 := hid xM5
  have K5 := hid xK5
  clear xR5 xS5 xM5 xK5
  clear r4 r5 r6 r7 em mm fr frA rA Q4
  have r4 := bl_cell R5.out 4 _ rfl
  have r5 := bl_cell R5.out 5 _ rfl
  have r6 := bl_cell R5.out 6 _ rfl
  have r7 := bl_cell R5.out 7 _ rfl
  go_wp2_with fail
  clear r4 r5 r6 r7
  go_loopg [71] N (fun gg i wr => ∃ q : Nat, q + gg = N ∧ i = .int .i64 (q : Int) ∧ wr.heap[R]? = some (.cells #[z0, z1, z2, z3, .int .u8 (h : Int), (.slice (some ⟨bb, 0, none⟩) N c'), .int .u64 ((pl ||| 2 ^ a : Nat) : Int), .map (some W4w.heap.size)] 182) ∧ SpR base wr (.slice (some ⟨bb, 0, none⟩) N c') (xs ++ [x]) ∧ SetAt wr W4w.heap.size (((xs ++ [x]).take q).map (Sp.only h)) ∧ Kx (rowB R lv none) w wr)
  case atStart => exact ⟨0, by omega, rfl, R5.out, S5.out, M5.out, K5.out⟩
  case round =>
   obtain ⟨q, hq, rfl, hR, hS, hM, hK⟩ := hrel
   have R6 := hid hR
   have S6 := hid hS
   have M6 := hid hM
   have K6 := hid hK
   clear hR hS hM hK R5 S5 M5 K5
   by_cases hlt : q < N
   ·
    have gkw : IntKind.i64.wrap ((q : Int) + 1) = (q : Int) + 1 := by rw [IntKind.wrap_i64]; omega
    have ga : (q : Int) < (N : Int) := by omega
    have g0 : (0 : Int) ≤ (q : Int) := by omega
    obtain ⟨y, hy⟩ : ∃ y, (xs ++ [x])[q]? = some y := ⟨_, List.getElem?_eq_getElem (by rw [HN.out]; exact hlt)⟩
    obtain ⟨ad2, c2, hv2, _, hc2⟩ := (S6.out.spl (ok := fun _ => True) (fun _ _ => trivial)).ex
    injection hv2 with e1 e2 e3
    obtain ⟨b2, hbb, _, hbl, hce⟩ := hc2 (by rw [HN.out]; omega)
    rw [← e1] at hbb
    injection hbb with hbb
    injection hbb with hbb
    subst hbb
    have hsp := hce q y hy
    have HY := hid (S6.out.good y (List.mem_of_getElem? hy))
    have HTK : Hid (((xs ++ [x]).take (q + 1)).map (Sp.only h) = ((xs ++ [x]).take q).map (Sp.only h) ++ [y.only h]) := by
     show _ = _
     rw [List.take_succ_eq_append_getElem (by rw [HN.out]; exact hlt), List.map_append, (List.getElem?_eq_some_iff.1 hy).2]
     rfl
    have x0 := hsp.c0
    have x1 := hsp.c1
    have x2 := hsp.c2
    have x3 := hsp.c3
    have x4 := hsp.c4
    have x5 := hsp.c5
    have x6 := hsp.c6
    clear hsp hce hy e1 e2 e3
    have HRM := hid (show ¬ R = W4w.heap.size from fun e => by have := bl_lt R4.out; omega)
    have HYM := hid (show ¬ wr.heap.size = W4w.heap.size from fun e => by have := M6.out.lt; omega)
    have HLB := hid (fun p (hp : (Value.slice (some ⟨bb, 0, none⟩) N c').ownBlock = some p) => (fun e => by have := (S4.out.block p hp).2; omega : ¬ p = W4w.heap.size))
    have HW4 := hid K4.out.size
    have OY := hid (fun W => only_any y h I2.out.lt W)
    have hyo := hid (HY.out.only h)
    go_upto_region 12 with fail
    refine opq (fun W6 => W6.heap[wr.heap.size]? = some (spo y) ∧ W6.heap[R]? = some (.cells #[z0, z1, z2, z3, .int .u8 (h : Int), (.slice (some ⟨bb, 0, none⟩) N c'), .int .u64 ((pl ||| 2 ^ a : Nat) : Int), .map (some W4w.heap.size)] 182) ∧ SpR base W6 (.slice (some ⟨bb, 0, none⟩) N c') (xs ++ [x]) ∧ SetAt W6 W4w.heap.size (((xs ++ [x]).take q).map (Sp.only h)) ∧ Kx (rowB R lv none) w W6) ⟨by exact last_of _ _, by exact bl_alloc R6.out _, by exact S6.out.kp ((Kp.refl _).alloc _), by exact M6.out.same (((Kp.refl _).alloc _).block _ M6.out.lt), by exact K6.out.alloc _⟩ ?_
    rintro W6 ⟨xY7, xR7, xS7, xM7, xK7⟩
    have Y7 := hid xY7
    have R7 := hid xR7
    have S7 := hid xS7
    have M7 := hid xM7
    have K7 := hid xK7
    clear xY7 xR7 xS7 xM7 xK7
    clear x0 x1 x2 x3 x4 x5 x6 R6 S6 M6 K6
    have Q0 : Kx (fun q => q = W4w.heap.size) W6 W6.drew := (Kx.refl _ _).drew
    have MK : Hid (∀ W, Kx (fun q => q = W4w.heap.size) W6 W → W.cell? ⟨R, 7, none⟩ = some (.map (some W4w.heap.size)) ∧ W.cell? ⟨R, 4, none⟩ = some (.int .u8 (h : Int)) ∧ W.cell? ⟨wr.heap.size, 0, none⟩ = some (.int .i8 y.a) ∧ W.cell? ⟨wr.heap.size, 1, none⟩ = some (.int .i8 y.f0) ∧ W.cell? ⟨wr.heap.size, 2, none⟩ = some (.int .i8 y.t0) ∧ W.cell? ⟨wr.heap.size, 3, none⟩ = some (.int .i8 y.f1) ∧ W.cell? ⟨wr.heap.size, 4, none⟩ = some (.int .i8 y.t1) ∧ W.cell? ⟨wr.heap.size, 5, none⟩ = some (.int .i8 y.f2) ∧ W.cell? ⟨wr.heap.size, 6, none⟩ = some (.int .i8 y.t2) ∧ Hid (Kx (fun q => q = W4w.heap.size) W6 W)) := fun W k => ⟨bl_cell (bl_kx R7.out k HRM.out) 7 _ rfl, bl_cell (bl_kx R7.out k HRM.out) 4 _ rfl, bl_cell (bl_kx Y7.out k HYM.out) 0 _ rfl, bl_cell (bl_kx Y7.out k HYM.out) 1 _ rfl, bl_cell (bl_kx Y7.out k HYM.out) 2 _ rfl, bl_cell (bl_kx Y7.out k HYM.out) 3 _ rfl, bl_cell (bl_kx Y7.out k HYM.out) 4 _ rfl, bl_cell (bl_kx Y7.out k HYM.out) 5 _ rfl, bl_cell (bl_kx Y7.out k HYM.out) 6 _ rfl, k⟩
    refine wp_region_noPanic ?_
    refine hdrewZ 11 MK Q0 (fun hH => ?_)
    have KQ := Q0
    refine zk 11 0 [] (some 75) (Op.move (Operand.tmp 0)) 179 (v := ?v0l1) rfl ?h0l1 hH ?_
    case h0l1 => intro _ _; go_simp; try with_reducible rfl
    try simp only [ps]
    refine zk 11 1 [] (some 76) (Op.nilCheck (Operand.tmp 75)) 0 (v := ?v1l2) rfl ?h1l2 hH ?_
    case h1l2 => intro _ _; go_simp; try with_reducible rfl
    try simp only [ps]
    refine zk 11 2 [] (some 77) (Op.fieldAddr 177 (Operand.tmp 76) 3) 0 (v := ?v2l3) rfl ?h2l3 hH ?_
    case h2l3 => intro _ _; go_simp; try with_reducible rfl
    try simp only [ps]
    refine zk 11 3 [] (some 78) (Op.load 175 (Operand.tmp 77)) 175 (v := ?v3l4) rfl ?h3l4 hH ?_
    case h3l4 => intro _ _; go_simp; try with_reducible rfl
    try simp only [ps]
    refine zk 11 4 [] (some 79) (Op.load 83 (Operand.tmp 6)) 83 (v := ?v4l5) rfl ?h4l5 hH ?_
    case h4l5 => intro _ _; go_simp; try with_reducible rfl
    try simp only [ps]
    refine zk 11 5 [] (some 80) (Op.move (Operand.tmp 0)) 179 (v := ?v5l6) rfl ?h5l6 hH ?_
    case h5l6 => intro _ _; go_simp; try with_reducible rfl
    try simp only [ps]
    refine zk 11 6 [] (some 81) (Op.nilCheck (Operand.tmp 80)) 0 (v := ?v6l7) rfl ?h6l7 hH ?_
    case h6l7 => intro _ _; go_simp; try with_reducible rfl
    try simp only [ps]
    refine zk 11 7 [] (some 82) (Op.fieldAddr 177 (Operand.tmp 81) 0) 0 (v := ?v7l8) rfl ?h7l8 hH ?_
    case h7l8 => intro _ _; go_simp; try with_reducible rfl
    try simp only [ps]
    refine zk 11 8 [] (some 83) (Op.load 75 (Operand.tmp 82)) 75 (v := ?v8l9) rfl ?h8l9 hH ?_
    case h8l9 => intro _ _; go_simp; try with_reducible rfl
    try simp only [ps]
    refine zk 11 10 [] (some 85) (Op.build 206 #[]) 206 (v := ?v10l10) rfl ?h10l10 hH ?_
    case h10l10 => intro _ _; go_simp; try with_reducible rfl
    try simp only [ps]
    refine anyZ_ready (rs := [9]) (by kernel_rfl) (by simp) ?_
    refine AllZ.cons (o := { dst := some 84, op := Op.call { callee := Callee.value (Operand.func 55), args := #[Operand.tmp 79, Operand.tmp 83], argTypes := #[83, 75] }, type := 83, pos := "spot.go:95", after := #[{ on := 4, ground := Ground.data }, { on := 8, ground := Ground.data }], guard := none }) rfl (fun K hKq => ?_) AllZ.nil
    go_simp
    refine (OY.out _).mono ?_
    rintro e yy ⟨rfl, kq⟩
    have MY := hid (M7.out.same (w' := yy) (kq.block _ M7.out.lt))
    refine hKq.out _ _ (MK.out _ (KQ.then kq)) (fun hN => ?_)
    clear kq
    clear hKq K hH KQ
    have hH := hN
    clear hN
    have KQ := hH.2.2.2.2.2.2.2.2.2.out
    try simp only [ps]
    refine anyZ_ready (rs := [11]) (by kernel_rfl) (by simp) ?_
    refine AllZ.last (o := { dst := none, op := Op.mapUpdate 175 (Operand.tmp 78) (Operand.tmp 84) (Operand.tmp 85), type := 0, pos := "spot.go:95", after := #[{ on := 3, ground := Ground.data }, { on := 9, ground := Ground.data }, { on := 10, ground := Ground.data }, { on := 9, ground := Ground.chain }, { on := 0, ground := Ground.phase }, { on := 1, ground := Ground.phase }, { on := 2, ground := Ground.phase }, { on := 3, ground := Ground.phase }, { on := 4, ground := Ground.phase }, { on := 5, ground := Ground.phase }, { on := 6, ground := Ground.phase }, { on := 7, ground := Ground.phase }, { on := 8, ground := Ground.phase }, { on := 9, ground := Ground.phase }, { on := 10, ground := Ground.phase }], guard := none }) rfl (Or.inl rfl) (fun K hKq => ?_) AllZ.nil
    obtain ⟨wm, hrun, hset, hg⟩ := MY.out.put Tryz.underlying175 (y.only h) hyo.out
    have HSET := hid hset
    have KG := hid (KQ.grown hg (fun k e _ => by injection e with e; exact e.symm))
    clear hset hg
    go_simp
    refine hKq.out _ _ ?_
    clear hrun
    clear hKq K
    try simp only [ps]
    refine anyZ_done (by kernel_rfl) ?_ _
    refine NoPanic.normal ?_
    go_wp2_with fail
    go_roundg (gk - 1)
    case measure => omega
    case rel => exact ⟨q + 1, by omega, by go_num, bl_kx R7.out KG.out HRM.out, S7.out.turn (fun p hp hl => KG.out.block p hl (HLB.out p hp)), by rw [HTK.out]; exact HSET.out, K7.out.past KG.out (fun k hk e => by have := HW4.out; omega)⟩
   ·
    have hqN : q = N := by omega
    have ga : ¬ (q : Int) < (N : Int) := by omega
    have HQN := hid hqN
    clear hqN
    go_wp2_with fail
    refine bodyPost_end (v := .tuple #[]) (results_none rfl _ _ _) rfl (DONE.out wr (some W4w.heap.size) R6.out S6.out (fun b' e => ?_) (fun b' e => Or.inr ?_) K6.out)
    ·
     injection e with e
     subst e
     refine ⟨HB4.out, ?_, H0N.out, by rw [HN.out]; omega⟩
     have := M6.out
     rw [List.take_of_length_le (by rw [HN.out, HQN.out]; exact Nat.le_refl _)] at this
     exact this
    ·
     injection e with e
     rw [← e]
     exact K4.out.size
end Go.Proofs.YtnajcnhgeggngaaGreat.Way
