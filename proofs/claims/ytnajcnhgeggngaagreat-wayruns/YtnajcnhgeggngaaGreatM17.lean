/-
  Texts of this claim: StepB, WLeaf, Own7, Nu.
-/
import Derived.Test.YtnajcnhgeggngaaGreatM16
import Derived.Test.YtnajcnhgeggngaaGreatM2
import Derived.Test.YtnajcnhgeggngaaGreatM10
import Derived.Maps.AppendAt
import Derived.OwnWalk
import Derived.Laws.OwnMore

/-! ### StepB -/

namespace Go.Proofs.YtnajcnhgeggngaaGreat.Way
set_option maxHeartbeats 2000000
set_option maxRecDepth 100000
open Go.RowKit Go.Proofs.YtnajcnhgeggngaaGreat

theorem slice88 (s : ByteArray) (f t : Int) (h0 : 0 ≤ f) (h : f ≤ t) (h2 : t ≤ s.size) (w : World) : (Instr.slice 9 (.string s) (some (.int .i8 f)) (some (.int .i8 t)) none).run Tryz.prog w = .ok (.string (s.extract f.toNat t.toNat)) w := by
 rw [run_slice_string_if w 9 s .i8 .i8 f t (by kernel_rfl), if_pos ⟨by omega, by omega⟩, if_pos ⟨by omega, by omega⟩]
theorem ext_list (s : ByteArray) (f t : Nat) : (s.extract f t).data.toList = (s.data.toList.drop f).take (t - f) := by
 rw [ByteArray.data_extract, Array.toList_extract, List.extract_eq_take_drop]
theorem step_back1 (low high : Int) (t : W4) (ks : Value) (rd st hd : Nat) (kn so : Option Nat) (P : Nat) (s : ByteArray) (bol : Bool) (x : Sp) (w : World) (hP : w.heap[P]? = some (pto 6 low high 1 t ks rd st hd kn so)) (hx : x.Ok) (hN : x.In s.size) : Calls Tryz.prog 80 #[.agg #[.string s, .bool bol], ptv P, spv x] w fun e w' => StepD s bol 6 1 t x w e w' := by
 have HP := hid hP
 have ha0 := hx.a0
 have haN := hN.a
 have es := slice8 s x.a ha0 haN
 obtain ⟨a, ha⟩ : ∃ a : Nat, x.a.toNat = a := ⟨_, rfl⟩
 have hai : x.a = (a : Int) := by omega
 rw [ha] at es
 clear hP ha0
 have hs := hx.s0
 have hT := hN.t0
 unfold Spn at hs
 have HSP : x.span 1 = (x.f0, x.t0) := by unfold Sp.span; simp
 by_cases h0 : x.f0 < 0
 ·
  have HS : Hid (stepP s.data.toList bol 6 1 t x = none) := by
   show _ = _
   unfold stepP
   rw [if_neg (by decide), if_neg (by decide), if_neg (by decide), HSP, if_pos h0]
  have HB : Hid (decide (x.f0 < 0) = true) := decide_eq_true h0
  clear hs hT HSP h0 hx hN haN ha hai
  go_enter Tryz.func80, Tryz.ntmps80
  go_upto_region 1 with fail
  refine opq (fun W0 => W0.heap[w.heap.size]? = some (.cells #[.string s, .bool bol] 70) ∧ W0.heap[(w.heap.size + 1)]? = some (spo x) ∧ W0.heap[P]? = some (pto 6 low high 1 t ks rd st hd kn so) ∧ Kp w W0) ⟨by exact bl_alloc (last_of _ _) _, by exact last_at _ _ _ (by simp), by exact bl_kp HP.out kpt, by exact kpt⟩ ?_
  rintro W0 ⟨xT0, xX0, xP0, xK0⟩
  have T0 := hid xT0
  have X0 := hid xX0
  have P0 := hid xP0
  have K0 := hid xK0
  clear xT0 xX0 xP0 xK0
  have b0 := bl_cell (T0.out) 0 _ rfl
  have b1 := bl_cell (T0.out) 1 _ rfl
  obtain ⟨x0, x1, x2, x3, x4, x5, x6⟩ := cells7 (X0.out)
  obtain ⟨p0, p1, p2, p3, p4, p5, p6, p7, p8, p9, p10, p11, p12, p13⟩ := cells14 (P0.out)
  go_upto_region 10 with fail
  clear b0 b1 x0 x1 x2 x3 x4 x5 x6 p0 p1 p2 p3 p4 p5 p6 p7 p8 p9 p10 p11 p12 p13
  refine opq (fun WG => WG.heap[W0.heap.size]? = some (.cells #[.int .i8 x.f0, .int .i8 x.t0] 80) ∧ WG.heap[w.heap.size]? = some (.cells #[.string s, .bool bol] 70) ∧ Kp w WG) ⟨by exact last_at _ _ _ rfl, by exact bl_alloc T0.out _, by exact K0.out.alloc _⟩ ?_
  rintro WG ⟨xGG, xTG, xKG⟩
  have GG := hid xGG
  have TG := hid xTG
  have KG := hid xKG
  clear xGG xTG xKG
  have g0 := bl_cell (GG.out) 0 _ rfl
  have g1 := bl_cell (GG.out) 1 _ rfl
  go_wp2_with fail
  refine (none_any _ _ _).mono ?_
  rintro e w1 ⟨rfl, k1⟩
  rw [HB.out]
  have K1 := hid (KG.out.trans k1)
  clear k1 g0 g1
  go_wp2_with fail
  go_ret2
  exact ⟨0, false, rfl, HS.out, K1.out⟩
 ·
  have hf0 : 0 ≤ x.f0 := by omega
  have hft : x.f0 ≤ x.t0 := by omega
  have es2 := slice88 s x.f0 x.t0 hf0 hft hT
  have HS : Hid (stepP s.data.toList bol 6 1 t x = if Lib.hasPrefix (s.extract a s.size).data.toList (s.extract x.f0.toNat x.t0.toNat).data.toList then some ((s.extract x.f0.toNat x.t0.toNat).size : Int) else none) := by
   show _ = _
   unfold stepP
   rw [if_neg (by decide), if_neg (by decide), if_neg (by decide), HSP, if_neg h0, pfx_lib, ha, ext_list, ByteArray.size_extract]
   unfold pfx
   rw [show (x.t0 - x.f0).toNat = x.t0.toNat - x.f0.toNat by omega, show ((min x.t0.toNat s.size - x.f0.toNat : Nat) : Int) = x.t0 - x.f0 by omega]
  have HB : Hid (decide (x.f0 < 0) = false) := decide_eq_false h0
  have hz : (s.extract x.f0.toNat x.t0.toNat).size ≤ 1000000000 := by rw [ByteArray.size_extract]; omega
  obtain ⟨r, hr⟩ : ∃ r, s.extract a s.size = r := ⟨_, rfl⟩
  obtain ⟨u, hu⟩ : ∃ u, s.extract x.f0.toNat x.t0.toNat = u := ⟨_, rfl⟩
  rw [hr] at es HS
  rw [hu] at es2 HS hz
  have HLP := hid (fun W => Tryz.strings_HasPrefix r u W)
  obtain ⟨b, hb⟩ : ∃ b, Lib.hasPrefix r.data.toList u.data.toList = b := ⟨_, rfl⟩
  rw [hb] at HS HLP
  clear hs hT HSP h0 hx hN haN ha hai hf0 hft hr hu hb
  go_enter Tryz.func80, Tryz.ntmps80
  go_upto_region 1 with fail
  refine opq (fun W0 => W0.heap[w.heap.size]? = some (.cells #[.string s, .bool bol] 70) ∧ W0.heap[(w.heap.size + 1)]? = some (spo x) ∧ W0.heap[P]? = some (pto 6 low high 1 t ks rd st hd kn so) ∧ Kp w W0) ⟨by exact bl_alloc (last_of _ _) _, by exact last_at _ _ _ (by simp), by exact bl_kp HP.out kpt, by exact kpt⟩ ?_
  rintro W0 ⟨xT0, xX0, xP0, xK0⟩
  have T0 := hid xT0
  have X0 := hid xX0
  have P0 := hid xP0
  have K0 := hid xK0
  clear xT0 xX0 xP0 xK0
  have b0 := bl_cell (T0.out) 0 _ rfl
  have b1 := bl_cell (T0.out) 1 _ rfl
  obtain ⟨x0, x1, x2, x3, x4, x5, x6⟩ := cells7 (X0.out)
  obtain ⟨p0, p1, p2, p3, p4, p5, p6, p7, p8, p9, p10, p11, p12, p13⟩ := cells14 (P0.out)
  go_upto_region 10 with fail
  clear b0 b1 x0 x1 x2 x3 x4 x5 x6 p0 p1 p2 p3 p4 p5 p6 p7 p8 p9 p10 p11 p12 p13
  refine opq (fun WG => WG.heap[W0.heap.size]? = some (.cells #[.int .i8 x.f0, .int .i8 x.t0] 80) ∧ WG.heap[w.heap.size]? = some (.cells #[.string s, .bool bol] 70) ∧ Kp w WG) ⟨by exact last_at _ _ _ rfl, by exact bl_alloc T0.out _, by exact K0.out.alloc _⟩ ?_
  rintro WG ⟨xGG, xTG, xKG⟩
  have GG := hid xGG
  have TG := hid xTG
  have KG := hid xKG
  clear xGG xTG xKG
  have g0 := bl_cell (GG.out) 0 _ rfl
  have g1 := bl_cell (GG.out) 1 _ rfl
  go_wp2_with fail
  refine (none_any _ _ _).mono ?_
  rintro e w1 ⟨rfl, k1⟩
  rw [HB.out]
  have K1 := hid (KG.out.trans k1)
  have T1 := hid (bl_kp TG.out k1)
  have G1 := hid (bl_kp GG.out k1)
  clear k1 g0 g1
  have b0 := bl_cell (T1.out) 0 _ rfl
  have b1 := bl_cell (T1.out) 1 _ rfl
  have g0 := bl_cell (G1.out) 0 _ rfl
  have g1 := bl_cell (G1.out) 1 _ rfl
  go_upto_region 13 with fail
  clear b0 b1 g0 g1
  go_wp2_with fail
  refine (HLP.out _).mono ?_
  rintro e w2 ⟨rfl, rfl⟩
  go_wp2_with fail
  go_ret2
  exact ⟨_, b, rfl, HS.out, K1.out⟩
theorem step_back2 (low high : Int) (t : W4) (ks : Value) (rd st hd : Nat) (kn so : Option Nat) (P : Nat) (s : ByteArray) (bol : Bool) (x : Sp) (w : World) (hP : w.heap[P]? = some (pto 6 low high 2 t ks rd st hd kn so)) (hx : x.Ok) (hN : x.In s.size) : Calls Tryz.prog 80 #[.agg #[.string s, .bool bol], ptv P, spv x] w fun e w' => StepD s bol 6 2 t x w e w' := by
 have HP := hid hP
 have ha0 := hx.a0
 have haN := hN.a
 have es := slice8 s x.a ha0 haN
 obtain ⟨a, ha⟩ : ∃ a : Nat, x.a.toNat = a := ⟨_, rfl⟩
 have hai : x.a = (a : Int) := by omega
 rw [ha] at es
 clear hP ha0
 have hs := hx.s1
 have hT := hN.t1
 unfold Spn at hs
 have HSP : x.span 2 = (x.f1, x.t1) := by unfold Sp.span; simp
 by_cases h0 : x.f1 < 0
 ·
  have HS : Hid (stepP s.data.toList bol 6 2 t x = none) := by
   show _ = _
   unfold stepP
   rw [if_neg (by decide), if_neg (by decide), if_neg (by decide), HSP, if_pos h0]
  have HB : Hid (decide (x.f1 < 0) = true) := decide_eq_true h0
  clear hs hT HSP h0 hx hN haN ha hai
  go_enter Tryz.func80, Tryz.ntmps80
  go_upto_region 1 with fail
  refine opq (fun W0 => W0.heap[w.heap.size]? = some (.cells #[.string s, .bool bol] 70) ∧ W0.heap[(w.heap.size + 1)]? = some (spo x) ∧ W0.heap[P]? = some (pto 6 low high 2 t ks rd st hd kn so) ∧ Kp w W0) ⟨by exact bl_alloc (last_of _ _) _, by exact last_at _ _ _ (by simp), by exact bl_kp HP.out kpt, by exact kpt⟩ ?_
  rintro W0 ⟨xT0, xX0, xP0, xK0⟩
  have T0 := hid xT0
  have X0 := hid xX0
  have P0 := hid xP0
  have K0 := hid xK0
  clear xT0 xX0 xP0 xK0
  have b0 := bl_cell (T0.out) 0 _ rfl
  have b1 := bl_cell (T0.out) 1 _ rfl
  obtain ⟨x0, x1, x2, x3, x4, x5, x6⟩ := cells7 (X0.out)
  obtain ⟨p0, p1, p2, p3, p4, p5, p6, p7, p8, p9, p10, p11, p12, p13⟩ := cells14 (P0.out)
  go_upto_region 10 with fail
  clear b0 b1 x0 x1 x2 x3 x4 x5 x6 p0 p1 p2 p3 p4 p5 p6 p7 p8 p9 p10 p11 p12 p13
  refine opq (fun WG => WG.heap[W0.heap.size]? = some (.cells #[.int .i8 x.f1, .int .i8 x.t1] 80) ∧ WG.heap[w.heap.size]? = some (.cells #[.string s, .bool bol] 70) ∧ Kp w WG) ⟨by exact last_at _ _ _ rfl, by exact bl_alloc T0.out _, by exact K0.out.alloc _⟩ ?_
  rintro WG ⟨xGG, xTG, xKG⟩
  have GG := hid xGG
  have TG := hid xTG
  have KG := hid xKG
  clear xGG xTG xKG
  have g0 := bl_cell (GG.out) 0 _ rfl
  have g1 := bl_cell (GG.out) 1 _ rfl
  go_wp2_with fail
  refine (none_any _ _ _).mono ?_
  rintro e w1 ⟨rfl, k1⟩
  rw [HB.out]
  have K1 := hid (KG.out.trans k1)
  clear k1 g0 g1
  go_wp2_with fail
  go_ret2
  exact ⟨0, false, rfl, HS.out, K1.out⟩
 ·
  have hf0 : 0 ≤ x.f1 := by omega
  have hft : x.f1 ≤ x.t1 := by omega
  have es2 := slice88 s x.f1 x.t1 hf0 hft hT
  have HS : Hid (stepP s.data.toList bol 6 2 t x = if Lib.hasPrefix (s.extract a s.size).data.toList (s.extract x.f1.toNat x.t1.toNat).data.toList then some ((s.extract x.f1.toNat x.t1.toNat).size : Int) else none) := by
   show _ = _
   unfold stepP
   rw [if_neg (by decide), if_neg (by decide), if_neg (by decide), HSP, if_neg h0, pfx_lib, ha, ext_list, ByteArray.size_extract]
   unfold pfx
   rw [show (x.t1 - x.f1).toNat = x.t1.toNat - x.f1.toNat by omega, show ((min x.t1.toNat s.size - x.f1.toNat : Nat) : Int) = x.t1 - x.f1 by omega]
  have HB : Hid (decide (x.f1 < 0) = false) := decide_eq_false h0
  have hz : (s.extract x.f1.toNat x.t1.toNat).size ≤ 1000000000 := by rw [ByteArray.size_extract]; omega
  obtain ⟨r, hr⟩ : ∃ r, s.extract a s.size = r := ⟨_, rfl⟩
  obtain ⟨u, hu⟩ : ∃ u, s.extract x.f1.toNat x.t1.toNat = u := ⟨_, rfl⟩
  rw [hr] at es HS
  rw [hu] at es2 HS hz
  have HLP := hid (fun W => Tryz.strings_HasPrefix r u W)
  obtain ⟨b, hb⟩ : ∃ b, Lib.hasPrefix r.data.toList u.data.toList = b := ⟨_, rfl⟩
  rw [hb] at HS HLP
  clear hs hT HSP h0 hx hN haN ha hai hf0 hft hr hu hb
  go_enter Tryz.func80, Tryz.ntmps80
  go_upto_region 1 with fail
  refine opq (fun W0 => W0.heap[w.heap.size]? = some (.cells #[.string s, .bool bol] 70) ∧ W0.heap[(w.heap.size + 1)]? = some (spo x) ∧ W0.heap[P]? = some (pto 6 low high 2 t ks rd st hd kn so) ∧ Kp w W0) ⟨by exact bl_alloc (last_of _ _) _, by exact last_at _ _ _ (by simp), by exact bl_kp HP.out kpt, by exact kpt⟩ ?_
  rintro W0 ⟨xT0, xX0, xP0, xK0⟩
  have T0 := hid xT0
  have X0 := hid xX0
  have P0 := hid xP0
  have K0 := hid xK0
  clear xT0 xX0 xP0 xK0
  have b0 := bl_cell (T0.out) 0 _ rfl
  have b1 := bl_cell (T0.out) 1 _ rfl
  obtain ⟨x0, x1, x2, x3, x4, x5, x6⟩ := cells7 (X0.out)
  obtain ⟨p0, p1, p2, p3, p4, p5, p6, p7, p8, p9, p10, p11, p12, p13⟩ := cells14 (P0.out)
  go_upto_region 10 with fail
  clear b0 b1 x0 x1 x2 x3 x4 x5 x6 p0 p1 p2 p3 p4 p5 p6 p7 p8 p9 p10 p11 p12 p13
  refine opq (fun WG => WG.heap[W0.heap.size]? = some (.cells #[.int .i8 x.f1, .int .i8 x.t1] 80) ∧ WG.heap[w.heap.size]? = some (.cells #[.string s, .bool bol] 70) ∧ Kp w WG) ⟨by exact last_at _ _ _ rfl, by exact bl_alloc T0.out _, by exact K0.out.alloc _⟩ ?_
  rintro WG ⟨xGG, xTG, xKG⟩
  have GG := hid xGG
  have TG := hid xTG
  have KG := hid xKG
  clear xGG xTG xKG
  have g0 := bl_cell (GG.out) 0 _ rfl
  have g1 := bl_cell (GG.out) 1 _ rfl
  go_wp2_with fail
  refine (none_any _ _ _).mono ?_
  rintro e w1 ⟨rfl, k1⟩
  rw [HB.out]
  have K1 := hid (KG.out.trans k1)
  have T1 := hid (bl_kp TG.out k1)
  have G1 := hid (bl_kp GG.out k1)
  clear k1 g0 g1
  have b0 := bl_cell (T1.out) 0 _ rfl
  have b1 := bl_cell (T1.out) 1 _ rfl
  have g0 := bl_cell (G1.out) 0 _ rfl
  have g1 := bl_cell (G1.out) 1 _ rfl
  go_upto_region 13 with fail
  clear b0 b1 g0 g1
  go_wp2_with fail
  refine (HLP.out _).mono ?_
  rintro e w2 ⟨rfl, rfl⟩
  go_wp2_with fail
  go_ret2
  exact ⟨_, b, rfl, HS.out, K1.out⟩
theorem step_back3 (low high : Int) (t : W4) (ks : Value) (rd st hd : Nat) (kn so : Option Nat) (P : Nat) (s : ByteArray) (bol : Bool) (x : Sp) (w : World) (hP : w.heap[P]? = some (pto 6 low high 3 t ks rd st hd kn so)) (hx : x.Ok) (hN : x.In s.size) : Calls Tryz.prog 80 #[.agg #[.string s, .bool bol], ptv P, spv x] w fun e w' => StepD s bol 6 3 t x w e w' := by
 have HP := hid hP
 have ha0 := hx.a0
 have haN := hN.a
 have es := slice8 s x.a ha0 haN
 obtain ⟨a, ha⟩ : ∃ a : Nat, x.a.toNat = a := ⟨_, rfl⟩
 have hai : x.a = (a : Int) := by omega
 rw [ha] at es
 clear hP ha0
 have hs := hx.s2
 have hT := hN.t2
 unfold Spn at hs
 have HSP : x.span 3 = (x.f2, x.t2) := by unfold Sp.span; simp
 by_cases h0 : x.f2 < 0
 ·
  have HS : Hid (stepP s.data.toList bol 6 3 t x = none) := by
   show _ = _
   unfold stepP
   rw [if_neg (by decide), if_neg (by decide), if_neg (by decide), HSP, if_pos h0]
  have HB : Hid (decide (x.f2 < 0) = true) := decide_eq_true h0
  clear hs hT HSP h0 hx hN haN ha hai
  go_enter Tryz.func80, Tryz.ntmps80
  go_upto_region 1 with fail
  refine opq (fun W0 => W0.heap[w.heap.size]? = some (.cells #[.string s, .bool bol] 70) ∧ W0.heap[(w.heap.size + 1)]? = some (spo x) ∧ W0.heap[P]? = some (pto 6 low high 3 t ks rd st hd kn so) ∧ Kp w W0) ⟨by exact bl_alloc (last_of _ _) _, by exact last_at _ _ _ (by simp), by exact bl_kp HP.out kpt, by exact kpt⟩ ?_
  rintro W0 ⟨xT0, xX0, xP0, xK0⟩
  have T0 := hid xT0
  have X0 := hid xX0
  have P0 := hid xP0
  have K0 := hid xK0
  clear xT0 xX0 xP0 xK0
  have b0 := bl_cell (T0.out) 0 _ rfl
  have b1 := bl_cell (T0.out) 1 _ rfl
  obtain ⟨x0, x1, x2, x3, x4, x5, x6⟩ := cells7 (X0.out)
  obtain ⟨p0, p1, p2, p3, p4, p5, p6, p7, p8, p9, p10, p11, p12, p13⟩ := cells14 (P0.out)
  go_upto_region 10 with fail
  clear b0 b1 x0 x1 x2 x3 x4 x5 x6 p0 p1 p2 p3 p4 p5 p6 p7 p8 p9 p10 p11 p12 p13
  refine opq (fun WG => WG.heap[W0.heap.size]? = some (.cells #[.int .i8 x.f2, .int .i8 x.t2] 80) ∧ WG.heap[w.heap.size]? = some (.cells #[.string s, .bool bol] 70) ∧ Kp w WG) ⟨by exact last_at _ _ _ rfl, by exact bl_alloc T0.out _, by exact K0.out.alloc _⟩ ?_
  rintro WG ⟨xGG, xTG, xKG⟩
  have GG := hid xGG
  have TG := hid xTG
  have KG := hid xKG
  clear xGG xTG xKG
  have g0 := bl_cell (GG.out) 0 _ rfl
  have g1 := bl_cell (GG.out) 1 _ rfl
  go_wp2_with fail
  refine (none_any _ _ _).mono ?_
  rintro e w1 ⟨rfl, k1⟩
  rw [HB.out]
  have K1 := hid (KG.out.trans k1)
  clear k1 g0 g1
  go_wp2_with fail
  go_ret2
  exact ⟨0, false, rfl, HS.out, K1.out⟩
 ·
  have hf0 : 0 ≤ x.f2 := by omega
  have hft : x.f2 ≤ x.t2 := by omega
  have es2 := slice88 s x.f2 x.t2 hf0 hft hT
  have HS : Hid (stepP s.data.toList bol 6 3 t x = if Lib.hasPrefix (s.extract a s.size).data.toList (s.extract x.f2.toNat x.t2.toNat).data.toList then some ((s.extract x.f2.toNat x.t2.toNat).size : Int) else none) := by
   show _ = _
   unfold stepP
   rw [if_neg (by decide), if_neg (by decide), if_neg (by decide), HSP, if_neg h0, pfx_lib, ha, ext_list, ByteArray.size_extract]
   unfold pfx
   rw [show (x.t2 - x.f2).toNat = x.t2.toNat - x.f2.toNat by omega, show ((min x.t2.toNat s.size - x.f2.toNat : Nat) : Int) = x.t2 - x.f2 by omega]
  have HB : Hid (decide (x.f2 < 0) = false) := decide_eq_false h0
  have hz : (s.extract x.f2.toNat x.t2.toNat).size ≤ 1000000000 := by rw [ByteArray.size_extract]; omega
  obtain ⟨r, hr⟩ : ∃ r, s.extract a s.size = r := ⟨_, rfl⟩
  obtain ⟨u, hu⟩ : ∃ u, s.extract x.f2.toNat x.t2.toNat = u := ⟨_, rfl⟩
  rw [hr] at es HS
  rw [hu] at es2 HS hz
  have HLP := hid (fun W => Tryz.strings_HasPrefix r u W)
  obtain ⟨b, hb⟩ : ∃ b, Lib.hasPrefix r.data.toList u.data.toList = b := ⟨_, rfl⟩
  rw [hb] at HS HLP
  clear hs hT HSP h0 hx hN haN ha hai hf0 hft hr hu hb
  go_enter Tryz.func80, Tryz.ntmps80
  go_upto_region 1 with fail
  refine opq (fun W0 => W0.heap[w.heap.size]? = some (.cells #[.string s, .bool bol] 70) ∧ W0.heap[(w.heap.size + 1)]? = some (spo x) ∧ W0.heap[P]? = some (pto 6 low high 3 t ks rd st hd kn so) ∧ Kp w W0) ⟨by exact bl_alloc (last_of _ _) _, by exact last_at _ _ _ (by simp), by exact bl_kp HP.out kpt, by exact kpt⟩ ?_
  rintro W0 ⟨xT0, xX0, xP0, xK0⟩
  have T0 := hid xT0
  have X0 := hid xX0
  have P0 := hid xP0
  have K0 := hid xK0
  clear xT0 xX0 xP0 xK0
  have b0 := bl_cell (T0.out) 0 _ rfl
  have b1 := bl_cell (T0.out) 1 _ rfl
  obtain ⟨x0, x1, x2, x3, x4, x5, x6⟩ := cells7 (X0.out)
  obtain ⟨p0, p1, p2, p3, p4, p5, p6, p7, p8, p9, p10, p11, p12, p13⟩ := cells14 (P0.out)
  go_upto_region 10 with fail
  clear b0 b1 x0 x1 x2 x3 x4 x5 x6 p0 p1 p2 p3 p4 p5 p6 p7 p8 p9 p10 p11 p12 p13
  refine opq (fun WG => WG.heap[W0.heap.size]? = some (.cells #[.int .i8 x.f2, .int .i8 x.t2] 80) ∧ WG.heap[w.heap.size]? = some (.cells #[.string s, .bool bol] 70) ∧ Kp w WG) ⟨by exact last_at _ _ _ rfl, by exact bl_alloc T0.out _, by exact K0.out.alloc _⟩ ?_
  rintro WG ⟨xGG, xTG, xKG⟩
  have GG := hid xGG
  have TG := hid xTG
  have KG := hid xKG
  clear xGG xTG xKG
  have g0 := bl_cell (GG.out) 0 _ rfl
  have g1 := bl_cell (GG.out) 1 _ rfl
  go_wp2_with fail
  refine (none_any _ _ _).mono ?_
  rintro e w1 ⟨rfl, k1⟩
  rw [HB.out]
  have K1 := hid (KG.out.trans k1)
  have T1 := hid (bl_kp TG.out k1)
  have G1 := hid (bl_kp GG.out k1)
  clear k1 g0 g1
  have b0 := bl_cell (T1.out) 0 _ rfl
  have b1 := bl_cell (T1.out) 1 _ rfl
  have g0 := bl_cell (G1.out) 0 _ rfl
  have g1 := bl_cell (G1.out) 1 _ rfl
  go_upto_region 13 with fail
  clear b0 b1 g0 g1
  go_wp2_with fail
  refine (HLP.out _).mono ?_
  rintro e w2 ⟨rfl, rfl⟩
  go_wp2_with fail
  go_ret2
  exact ⟨_, b, rfl, HS.out, K1.out⟩
end Go.Proofs.YtnajcnhgeggngaaGreat.Way

/-! ### WLeaf -/

namespace Go.Proofs.YtnajcnhgeggngaaGreat.Way
set_option maxHeartbeats 2000000
set_option maxRecDepth 100000
open Go.RowKit Go.Proofs.YtnajcnhgeggngaaGreat

structure LeafOk (k n : Int) (t : W4) : Prop where
 k : k = 1 ∨ k = 7 ∨ k = 8 ∨ (k = 6 ∧ (n = 1 ∨ n = 2 ∨ n = 3))
 t : t.a < 18446744073709551616 ∧ t.b < 18446744073709551616 ∧ t.c < 18446744073709551616 ∧ t.d < 18446744073709551616
theorem step_any (k low high n : Int) (t : W4) (ks : Value) (rd st hd : Nat) (kn so : Option Nat) (P : Nat) (s : ByteArray) (bol : Bool) (x : Sp) (w : World) (hP : w.heap[P]? = some (pto k low high n t ks rd st hd kn so)) (hx : x.Ok) (hN : x.In s.size) (hk : LeafOk k n t) : Calls Tryz.prog 80 #[.agg #[.string s, .bool bol], ptv P, spv x] w fun e w' => StepD s bol k n t x w e w' := by
 rcases hk.k with rfl | rfl | rfl | ⟨rfl, rfl | rfl | rfl⟩
 ·
  exact step_set n low high t ks rd st hd kn so P s bol x w hP hx hN hk.t
 ·
  exact step_begin n low high t ks rd st hd kn so P s bol x w hP hx hN
 ·
  exact step_end n low high t ks rd st hd kn so P s bol x w hP hx hN
 ·
  exact step_back1 low high t ks rd st hd kn so P s bol x w hP hx hN
 ·
  exact step_back2 low high t ks rd st hd kn so P s bol x w hP hx hN
 ·
  exact step_back3 low high t ks rd st hd kn so P s bol x w hP hx hN
theorem span_in {N : Nat} {x : Sp} (hx : x.Ok) (hN : x.In N) (n : Int) : Spn (x.span n).1 (x.span n).2 ∧ (x.span n).2 ≤ N := by
 unfold Sp.span
 split
 ·
  exact ⟨hx.s0, hN.t0⟩
 ·
  split
  ·
   exact ⟨hx.s1, hN.t1⟩
  ·
   exact ⟨hx.s2, hN.t2⟩
theorem step_le {L : List UInt8} {bol : Bool} {k n v : Int} {t : W4} {x : Sp} (hx : x.Ok) (hN : x.In L.length) (h : stepP L bol k n t x = some v) : 0 ≤ v ∧ x.a + v ≤ L.length := by
 have ha := hN.a
 have h0 := hx.a0
 unfold stepP at h
 split at h
 ·
  split at h
  ·
   rename_i c hc
   have := (List.getElem?_eq_some_iff.1 hc).1
   split at h
   ·
    cases h; omega
   ·
    cases h
  ·
   cases h
 ·
  split at h
  ·
   split at h
   ·
    cases h; omega
   ·
    cases h
  ·
   split at h
   ·
    split at h
    ·
     cases h; omega
    ·
     cases h
   ·
    obtain ⟨hs, ht⟩ := span_in hx hN n
    unfold Spn at hs
    split at h
    ·
     cases h
    ·
     rename_i hf
     split at h
     ·
      rename_i hp
      have hl := (List.isPrefixOf_iff_prefix.1 hp).length_le
      rw [List.length_take, List.length_drop, List.length_drop] at hl
      cases h
      omega
     ·
      cases h
theorem moved_good {N : Nat} (h60 : N ≤ 60) {x : Sp} (hx : x.Ok) (hN : x.In N) {v : Int} (h0 : 0 ≤ v) (h1 : x.a + v ≤ N) : (x.moved v).Ok ∧ (x.moved v).In N := by
 have ha := hx.a0
 refine ⟨⟨?_, ?_, hx.s0, hx.s1, hx.s2⟩, ⟨h1, hN.t0, hN.t1, hN.t2⟩⟩
 ·
  show 0 ≤ x.a + v
  omega
 ·
  show x.a + v ≤ 60
  omega
theorem spl_one (w : World) (x : Sp) (hx : x.Ok) (ok : Nat → Prop) (hok : ok w.heap.size) : SpL (w.alloc (spo x)) ok (.slice (some ⟨w.heap.size, 0, none⟩) 1 1) [x] := by
 have hb : (w.alloc (spo x)).heap[w.heap.size]? = some (spo x) := last_of _ _
 refine ⟨fun y hy => by rw [List.mem_singleton.1 hy]; exact hx, _, 1, rfl, Nat.le_refl _, fun _ => ⟨w.heap.size, rfl, hok, bl_lt hb, fun j y hj => ?_⟩⟩
 match j, hj with
 | 0, hj =>
  obtain rfl : x = y := by simpa using hj
  exact ⟨bl_cell hb 0 _ rfl, bl_cell hb 1 _ rfl, bl_cell hb 2 _ rfl, bl_cell hb 3 _ rfl, bl_cell hb 4 _ rfl, bl_cell hb 5 _ rfl, bl_cell hb 6 _ rfl⟩
 | j + 1, hj => simp at hj
theorem spl_nil (w : World) (ok : Nat → Prop) (c : Nat) (ad : Option Addr) : SpL w ok (.slice ad 0 c) [] := ⟨(fun y hy => by cases hy), ad, c, rfl, Nat.zero_le _, fun h => absurd h (by simp)⟩
structure WaysD (W : List Sp) (ok : Nat → Prop) (R : World → Prop) (e : Ending) (w' : World) : Prop where
 ex : ∃ v, e = .returned v ∧ SpL w' ok v W ∧ R w'

theorem wleaf_any (k low high n : Int) (t : W4) (ks : Value) (rd st hd : Nat) (kn so : Option Nat) (P : Nat) (s : ByteArray) (bol : Bool) (x : Sp) (w : World) (hP : w.heap[P]? = some (pto k low high n t ks rd st hd kn so)) (h60 : s.size ≤ 60) (hx : x.Ok) (hN : x.In s.size) (hk : LeafOk k n t) :
  Calls Tryz.prog 53 #[.agg #[.string s, .bool bol], ptv P, spv x] w fun e w' => WaysD (leafP s.data.toList bol k n t x) (fun b => w.heap.size ≤ b) (Kp w) e w' := by
 have HP := hid hP
 have ST := hid (fun (W : World) (h : W.heap[P]? = some (pto k low high n t ks rd st hd kn so)) => step_any k low high n t ks rd st hd kn so P s bol x W h hx hN hk)
 have hN2 : x.In s.data.toList.length := by rw [show s.data.toList.length = s.size from Array.length_toList]; exact hN
 have HL := hid (fun v (h : stepP s.data.toList bol k n t x = some v) => step_le hx hN2 h)
 have HX := hid hx
 have HN := hid hN
 clear hP hx hN hk hN2
 go_enter Tryz.func53, Tryz.ntmps53
 go_upto_region 1 with fail
 refine opq (fun W0 => W0.heap[w.heap.size]? = some (.cells #[.string s, .bool bol] 70) ∧ W0.heap[(w.heap.size + 1)]? = some (spo x) ∧ W0.heap[P]? = some (pto k low high n t ks rd st hd kn so) ∧ Kp w W0) ⟨by exact bl_alloc (last_of _ _) _, by exact last_at _ _ _ (by simp), by exact bl_kp HP.out kpt, by exact kpt⟩ ?_
 rintro W0 ⟨xT0, xX0, xP0, xK0⟩
 have T0 := hid xT0
 have X0 := hid xX0
 have P0 := hid xP0
 have K0 := hid xK0
 clear xT0 xX0 xP0 xK0
 have b0 := bl_cell (T0.out) 0 _ rfl
 have b1 := bl_cell (T0.out) 1 _ rfl
 obtain ⟨x0, x1, x2, x3, x4, x5, x6⟩ := cells7 (X0.out)
 go_wp2_with fail
 refine (ST.out _ P0.out).mono ?_
 rintro e w1 ⟨⟨v, b, rfl, hst, k1⟩⟩
 have HST := hid hst
 have X1 := hid (bl_kp X0.out k1)
 have K1 := hid (K0.out.trans k1)
 clear k1 hst b0 b1 x0 x1 x2 x3 x4 x5 x6
 cases b with
 | false =>
  have HE : Hid (leafP s.data.toList bol k n t x = []) := by show _ = _; unfold leafP; rw [HST.out]; rfl
  go_wp2_with fail
  go_ret
  exact ⟨_, rfl, by rw [HE.out]; exact spl_nil _ _ _ _, K1.out⟩
 | true =>
  have HE : Hid (leafP s.data.toList bol k n t x = [x.moved v]) := by show _ = _; unfold leafP; rw [HST.out]; rfl
  have hv := HL.out v HST.out
  rw [show s.data.toList.length = s.size from Array.length_toList] at hv
  have HG := hid (moved_good h60 HX.out HN.out hv.1 hv.2)
  obtain ⟨m, rfl⟩ := Int.eq_ofNat_of_zero_le hv.1
  have HM := hid (fun W => moved_any x m HX.out (by omega) W)
  clear hv
  obtain ⟨x0, x1, x2, x3, x4, x5, x6⟩ := cells7 (X1.out)
  go_wp2_with fail
  refine (HM.out _).mono ?_
  rintro e w2 ⟨rfl, k2⟩
  have K2 := hid (K1.out.trans k2)
  clear k2 x0 x1 x2 x3 x4 x5 x6
  go_wp2_with fail
  go_ret
  exact ⟨_, rfl, by rw [HE.out]; exact spl_one w2 _ HG.out.1 _ K2.out.size, K2.out.alloc _⟩
end Go.Proofs.YtnajcnhgeggngaaGreat.Way

/-! ### Own7 -/

namespace Go.Proofs.YtnajcnhgeggngaaGreat.Way
open Go.RowKit Go.Proofs.YtnajcnhgeggngaaGreat

def spc (x : Sp) : List Value := [.int .i8 x.a, .int .i8 x.f0, .int .i8 x.t0, .int .i8 x.f1, .int .i8 x.t1, .int .i8 x.f2, .int .i8 x.t2]
def spcs : List Sp → List Value
 | [] => []
 | x :: xs => spc x ++ spcs xs
theorem spcs_append (a b : List Sp) : spcs (a ++ b) = spcs a ++ spcs b := by
 induction a with
 | nil => rfl
 | cons x xs ih => rw [List.cons_append, spcs, spcs, ih, List.append_assoc]
theorem spcs_one (x : Sp) : spcs [x] = spc x := by rw [spcs, spcs, List.append_nil]
theorem spcs_length (a : List Sp) : (spcs a).length = a.length * 7 := by
 induction a with
 | nil => rfl
 | cons x xs ih => rw [spcs, List.length_append, ih, List.length_cons]; show 7 + xs.length * 7 = _; omega
theorem spcs_get (a : List Sp) : ∀ (j : Nat) x, a[j]? = some x → ∀ (i : Nat) u, (spc x)[i]? = some u → (spcs a)[j * 7 + i]? = some u := by
 induction a with
 | nil => intro j x hj; simp at hj
 | cons y ys ih =>
  intro j x hj i u hi
  have hi7 : i < 7 := (List.getElem?_eq_some_iff.1 hi).1
  match j, hj with
  | 0, hj =>
   obtain rfl : y = x := by simpa using hj
   rw [spcs, Nat.zero_mul, Nat.zero_add, List.getElem?_append_left (by show i < 7; exact hi7)]
   exact hi
  | j + 1, hj =>
   rw [spcs, List.getElem?_append_right (by show 7 ≤ _; omega), show (j + 1) * 7 + i - (spc y).length = j * 7 + i by show (j + 1) * 7 + i - 7 = _; omega]
   exact ih j x (by simpa using hj) i u hi
theorem spc_one (x : Sp) : ∀ u ∈ spc x, u.oneCell' = true := by
 intro u hu
 simp [spc] at hu
 rcases hu with rfl | rfl | rfl | rfl | rfl | rfl | rfl <;> rfl
abbrev spz : Value := .agg #[.int .i8 0, .int .i8 0, .int .i8 0, .int .i8 0, .int .i8 0, .int .i8 0, .int .i8 0]
theorem info83 : ∃ i, Tryz.prog.info? 83 = some i ∧ i.zero = some spz ∧ i.size = 7 ∧ i.bytes = 7 := by
 obtain ⟨i, hi, h0, h1, h2⟩ := info_parts (P := Tryz.prog) (e := 83) (z := spz) (size := 7) (bytes := 7) (by kernel_rfl)
 exact ⟨i, hi, h0, h1, h2⟩
structure SpR (base : Nat) (w : World) (v : Value) (xs : List Sp) : Prop where
 good : ∀ x ∈ xs, x.Ok
 own : w.ownsRow base 83 7 v xs.length (spcs xs)
theorem SpR.nil (base : Nat) (w : World) : SpR base w (.slice none 0 0) [] := ⟨(fun x hx => by cases hx), World.ownsRow_nil _ _ _ _⟩
theorem SpR.block {base : Nat} {w : World} {v : Value} {xs : List Sp} (h : SpR base w v xs) : ∀ b, v.ownBlock = some b → base ≤ b ∧ b < w.heap.size := h.own.lt
theorem SpR.turn {base : Nat} {w w' : World} {v : Value} {xs : List Sp} (h : SpR base w v xs) (hk : ∀ b, v.ownBlock = some b → b < w.heap.size → w'.heap[b]? = w.heap[b]?) : SpR base w' v xs := ⟨h.good, owns_same h.own hk⟩
theorem SpR.kp {base : Nat} {w w' : World} {v : Value} {xs : List Sp} (h : SpR base w v xs) (k : Kp w w') : SpR base w' v xs := h.turn (fun b _ hl => k.block b hl)
theorem SpR.form {base : Nat} {w : World} {v : Value} {xs : List Sp} (h : SpR base w v xs) : ∃ ad c, v = .slice ad xs.length c ∧ xs.length ≤ c := by
 rcases h.own.2 with ⟨rfl, h0⟩ | ⟨g, cap, cur, hv, _, _, hc, _⟩
 ·
  exact ⟨none, 0, by rw [h0], by omega⟩
 ·
  exact ⟨_, cap, hv, hc⟩
theorem SpR.spl {base : Nat} {w : World} {v : Value} {xs : List Sp} (h : SpR base w v xs) {ok : Nat → Prop} (hok : ∀ b, v.ownBlock = some b → ok b) : SpL w ok v xs := by
 refine ⟨h.good, ?_⟩
 have hown := h.own
 rcases h.own.2 with ⟨rfl, h0⟩ | ⟨g, cap, cur, rfl, hb, hg, hc, _⟩
 ·
  exact ⟨none, 0, by rw [h0], by omega, fun hl => absurd hl (by omega)⟩
 ·
  refine ⟨_, cap, rfl, hc, fun _ => ⟨g, rfl, hok g rfl, bl_lt hg, fun j x hj => ?_⟩⟩
  have hj' : j < xs.length := (List.getElem?_eq_some_iff.1 hj).1
  have hcell : ∀ i u, (spc x)[i]? = some u → w.cell? ⟨g, j * 7 + i, none⟩ = some u := fun i u hi => by
   have hi7 : i < 7 := (List.getElem?_eq_some_iff.1 hi).1
   rw [World.ownsRow.cellAt hown (j * 7 + i) (by omega)]
   exact spcs_get xs j x hj i u hi
  exact ⟨hcell 0 _ rfl, hcell 1 _ rfl, hcell 2 _ rfl, hcell 3 _ rfl, hcell 4 _ rfl, hcell 5 _ rfl, hcell 6 _ rfl⟩
structure MoreD (base : Nat) (w : World) (v : Value) (xs : List Sp) (x : Sp) (v' : Value) (w' : World) : Prop where
 row : SpR base w' v' (xs ++ [x])
 grown : w.grownBy w' v.ownBlock
 block : v'.ownBlock = v.ownBlock ∨ v'.ownBlock = some w.heap.size
theorem run_append_sp (w : World) (base : Nat) (v : Value) (xs : List Sp) (x : Sp) (ty : TypeId) (hG : SpR base w v xs) (hx : x.Ok) (B : Nat) (hB : w.heap[B]? = some (spo x)) (hn : xs.length ≤ 5000000000000) (hb : base ≤ w.heap.size) :
  ∃ v' w', (Builtin.append_ #[68, 68] ty #[v, .slice (some ⟨B, 0, none⟩) 1 1]).run Tryz.prog w = .ok v' w' ∧ MoreD base w v xs x v' w' := by
 obtain ⟨i, hi, hz, hsz, hby⟩ := info83
 obtain ⟨v', w', hr, h2, h3, _, h5⟩ := run_append_own_at (P := Tryz.prog) w base 68 ty 83 i spz 7 7 Tryz.underlying68 hi hz hsz hby rfl (by omega) v xs.length (spcs xs) hG.own ⟨B, 0, none⟩ 1 1 (spc x) rfl (fun j u hj => by
  rw [Go.WideShapes.add_plain, Nat.zero_add]
  refine bl_cell hB j u ?_
  rw [← Array.getElem?_toList]
  exact hj) (spc_one x) (by unfold maxLen; omega) (by omega) hb
 refine ⟨v', w', hr, ⟨⟨fun y hy => ?_, ?_⟩, h3, h5⟩⟩
 ·
  rcases List.mem_append.1 hy with hy | hy
  ·
   exact hG.good y hy
  ·
   rw [List.mem_singleton.1 hy]; exact hx
 ·
  rw [List.length_append, spcs_append, spcs_one]
  exact h2
theorem wpList_append_sp {ops : Array Oper} {rest : List Oper} {o : Oper} {a : Act} {Q : Exit → Act → World → Prop} (w : World) (hgd : o.guard = none) (s y : Operand)
  (ho : o.op = .call { callee := .builtin .append, args := #[s, y], argTypes := #[68, 68] })
  (base : Nat) (v : Value) (xs : List Sp) (x : Sp) (hs : a.eval s = v) (B : Nat) (hy : a.eval y = .slice (some ⟨B, 0, none⟩) 1 1) (hG : Hid (SpR base w v xs)) (hx : Hid x.Ok) (hB : w.heap[B]? = some (spo x)) (hn : xs.length ≤ 5000000000000) (hb : base ≤ w.heap.size)
  (h : ∀ v' w', MoreD base w v xs x v' w' → wpList Tryz.prog ops Q rest (a.put o.dst v') w') :
  wpList Tryz.prog ops Q (o :: rest) a w := by
 refine wpList_plain hgd fun K hK => ?_
 obtain ⟨v', w', hr, hg⟩ := run_append_sp w base v xs x o.type hG.out hx.out B hB hn hb
 unfold Oper.wp execOp
 simp only [ho, resolve, invoke, builtin, Sem.run_bind, Sem.run_pure, Result.andThen_ok, List.map_toArray, List.map_cons, List.map_nil, hs, hy, hr]
 exact hK _ _ (h v' w' hg)
theorem step_append_sp {ops : Array Oper} {o : Oper} {a : Act} {K : Act → World → Prop} {Q : Exit → Act → World → Prop} {E : Prop} (w : World)
  (hw : Region.wanted o (yielded ops a.tmps) = true) (s y : Operand) (ho : o.op = .call { callee := .builtin .append, args := #[s, y], argTypes := #[68, 68] })
  (base : Nat) (v : Value) (xs : List Sp) (x : Sp) (hs : a.eval s = v) (B : Nat) (hy : a.eval y = .slice (some ⟨B, 0, none⟩) 1 1) (hG : SpR base w v xs) (hx : x.Ok) (hB : w.heap[B]? = some (spo x)) (hn : xs.length ≤ 5000000000000) (hb : base ≤ w.heap.size)
  (h : ∀ v' w', MoreD base w v xs x v' w' → K (a.put o.dst v') w') :
  if Region.wanted o (yielded ops a.tmps) = true then Oper.wp Tryz.prog o a w K Q else E := by
 rw [if_pos hw]
 obtain ⟨v', w', hr, hg⟩ := run_append_sp w base v xs x o.type hG hx B hB hn hb
 unfold Oper.wp execOp
 simp only [ho, resolve, invoke, builtin, Sem.run_bind, Sem.run_pure, Result.andThen_ok, List.map_toArray, List.map_cons, List.map_nil, hs, hy, hr]
 exact h v' w' hg
end Go.Proofs.YtnajcnhgeggngaaGreat.Way

/-! ### Nu -/

namespace Go.Proofs.YtnajcnhgeggngaaGreat.Way
open Go.RowKit Go.Proofs.YtnajcnhgeggngaaGreat

abbrev nuc (n : Nat) : Value := .int .i64 (n : Int)
theorem info3 : ∃ i, Tryz.prog.info? 3 = some i ∧ i.zero = some (.int .i64 0) ∧ i.size = 1 ∧ i.bytes = 8 := by
 obtain ⟨i, hi, h0, h1, h2⟩ := info_parts (P := Tryz.prog) (e := 3) (z := .int .i64 0) (size := 1) (bytes := 8) (by kernel_rfl)
 exact ⟨i, hi, h0, h1, h2⟩
structure NuR (base : Nat) (w : World) (v : Value) (xs : List Nat) : Prop where
 own : w.ownsRow base 3 1 v xs.length (xs.map nuc)
theorem NuR.nil (base : Nat) (w : World) : NuR base w (.slice none 0 0) [] := ⟨World.ownsRow_nil _ _ _ _⟩
theorem NuR.block {base : Nat} {w : World} {v : Value} {xs : List Nat} (h : NuR base w v xs) : ∀ b, v.ownBlock = some b → base ≤ b ∧ b < w.heap.size := h.own.lt
theorem NuR.turn {base : Nat} {w w' : World} {v : Value} {xs : List Nat} (h : NuR base w v xs) (hk : ∀ b, v.ownBlock = some b → b < w.heap.size → w'.heap[b]? = w.heap[b]?) : NuR base w' v xs := ⟨owns_same h.own hk⟩
theorem NuR.kp {base : Nat} {w w' : World} {v : Value} {xs : List Nat} (h : NuR base w v xs) (k : Kp w w') : NuR base w' v xs := h.turn (fun b _ hl => k.block b hl)
theorem NuR.form {base : Nat} {w : World} {v : Value} {xs : List Nat} (h : NuR base w v xs) : ∃ ad c, v = .slice ad xs.length c ∧ xs.length ≤ c := by
 rcases h.own.2 with ⟨rfl, h0⟩ | ⟨g, cap, cur, hv, _, _, hc, _⟩
 ·
  exact ⟨none, 0, by rw [h0], by omega⟩
 ·
  exact ⟨_, cap, hv, hc⟩
theorem NuR.nul {base : Nat} {w : World} {v : Value} {xs : List Nat} (h : NuR base w v xs) {ok : Nat → Prop} (hok : ∀ b, v.ownBlock = some b → ok b) : NuL w ok v xs := by
 have hown := h.own
 rcases h.own.2 with ⟨rfl, h0⟩ | ⟨g, cap, cur, rfl, hb, hg, hc, _⟩
 ·
  exact ⟨none, 0, by rw [h0], by omega, fun hl => absurd hl (by omega)⟩
 ·
  refine ⟨_, cap, rfl, hc, fun _ => ⟨g, rfl, hok g rfl, bl_lt hg, fun j x hj => ?_⟩⟩
  have hj' : j < xs.length := (List.getElem?_eq_some_iff.1 hj).1
  rw [World.ownsRow.cellAt hown j (by omega), List.getElem?_map, hj]
  rfl
structure MoreN (base : Nat) (w : World) (v : Value) (xs ys : List Nat) (v' : Value) (w' : World) : Prop where
 row : NuR base w' v' (xs ++ ys)
 grown : w.grownBy w' v.ownBlock
 block : v'.ownBlock = v.ownBlock ∨ v'.ownBlock = some w.heap.size
theorem run_append_nu (w : World) (base : Nat) (v : Value) (xs ys : List Nat) (ty : TypeId) (hG : NuR base w v xs) (B c : Nat) (hB : ∀ (j : Nat) y, ys[j]? = some y → w.cell? ⟨B, j, none⟩ = some (nuc y)) (hn : xs.length + ys.length ≤ 5000000000000) (hb : base ≤ w.heap.size) :
  ∃ v' w', (Builtin.append_ #[40, 40] ty #[v, .slice (some ⟨B, 0, none⟩) ys.length c]).run Tryz.prog w = .ok v' w' ∧ MoreN base w v xs ys v' w' := by
 obtain ⟨i, hi, hz, hsz, hby⟩ := info3
 obtain ⟨v', w', hr, h2, h3, _, h5⟩ := run_append_own_at (P := Tryz.prog) w base 40 ty 3 i (.int .i64 0) 1 8 Tryz.underlying40 hi hz hsz hby rfl (by omega) v xs.length (xs.map nuc) hG.own ⟨B, 0, none⟩ ys.length c (ys.map nuc) (by simp) (fun j u hj => by
  rw [Go.WideShapes.add_plain, Nat.zero_add]
  rw [List.getElem?_map] at hj
  cases hy : ys[j]? with
  | none => rw [hy] at hj; cases hj
  | some y =>
   rw [hy] at hj
   cases hj
   exact hB j y hy) (fun u hu => by
  obtain ⟨y, _, rfl⟩ := List.mem_map.1 hu
  rfl) (by unfold maxLen; omega) (by omega) hb
 refine ⟨v', w', hr, ⟨⟨?_⟩, h3, h5⟩⟩
 rw [List.length_append, List.map_append]
 exact h2
theorem wpList_append_nu {ops : Array Oper} {rest : List Oper} {o : Oper} {a : Act} {Q : Exit → Act → World → Prop} (w : World) (hgd : o.guard = none) (s y : Operand)
  (ho : o.op = .call { callee := .builtin .append, args := #[s, y], argTypes := #[40, 40] })
  (base : Nat) (v : Value) (xs ys : List Nat) (hs : a.eval s = v) (B c : Nat) (hy : a.eval y = .slice (some ⟨B, 0, none⟩) ys.length c) (hG : Hid (NuR base w v xs)) (hB : Hid (∀ (j : Nat) y, ys[j]? = some y → w.cell? ⟨B, j, none⟩ = some (nuc y))) (hn : xs.length + ys.length ≤ 5000000000000) (hb : base ≤ w.heap.size)
  (h : ∀ v' w', MoreN base w v xs ys v' w' → wpList Tryz.prog ops Q rest (a.put o.dst v') w') :
  wpList Tryz.prog ops Q (o :: rest) a w := by
 refine wpList_plain hgd fun K hK => ?_
 obtain ⟨v', w', hr, hg⟩ := run_append_nu w base v xs ys o.type hG.out B c hB.out hn hb
 unfold Oper.wp execOp
 simp only [ho, resolve, invoke, builtin, Sem.run_bind, Sem.run_pure, Result.andThen_ok, List.map_toArray, List.map_cons, List.map_nil, hs, hy, hr]
 exact hK _ _ (h v' w' hg)
theorem step_append_nu {ops : Array Oper} {o : Oper} {a : Act} {K : Act → World → Prop} {Q : Exit → Act → World → Prop} {E : Prop} (w : World)
  (hw : Region.wanted o (yielded ops a.tmps) = true) (s y : Operand) (ho : o.op = .call { callee := .builtin .append, args := #[s, y], argTypes := #[40, 40] })
  (base : Nat) (v : Value) (xs : List Nat) (x : Nat) (hs : a.eval s = v) (B : Nat) (hy : a.eval y = .slice (some ⟨B, 0, none⟩) 1 1) (hG : NuR base w v xs) (hB : w.cell? ⟨B, 0, none⟩ = some (nuc x)) (hn : xs.length ≤ 4999999999999) (hb : base ≤ w.heap.size)
  (h : ∀ v' w', MoreN base w v xs [x] v' w' → K (a.put o.dst v') w') :
  if Region.wanted o (yielded ops a.tmps) = true then Oper.wp Tryz.prog o a w K Q else E := by
 rw [if_pos hw]
 obtain ⟨v', w', hr, hg⟩ := run_append_nu w base v xs [x] o.type hG B 1 (fun j y hj => by
  match j, hj with
  | 0, hj =>
   obtain rfl : x = y := by simpa using hj
   exact hB
  | j + 1, hj => simp at hj) (by simp; omega) hb
 unfold Oper.wp execOp
 rw [List.length_singleton] at hr
 simp only [ho, resolve, invoke, builtin, Sem.run_bind, Sem.run_pure, Result.andThen_ok, List.map_toArray, List.map_cons, List.map_nil, hs, hy, hr]
 exact h v' w' hg
def plq (hd : Nat) (all : List Sp) (q i : Nat) : List Nat := (List.range q).filter (fun j => match all[j]? with | some y => cls hd y == i | none => false)
theorem plq_all (hd : Nat) (all : List Sp) (i : Nat) : plq hd all all.length i = placesOf hd all i := rfl
theorem plq_len (hd : Nat) (all : List Sp) (q i : Nat) : (plq hd all q i).length ≤ q := by
 unfold plq
 refine Nat.le_trans (List.length_filter_le _ _) ?_
 rw [List.length_range]
 exact Nat.le_refl _
theorem plq_succ {hd : Nat} {all : List Sp} {q : Nat} {y : Sp} (hy : all[q]? = some y) (i : Nat) : plq hd all (q + 1) i = if i = cls hd y then plq hd all q i ++ [q] else plq hd all q i := by
 unfold plq
 rw [List.range_succ, List.filter_append]
 by_cases e : i = cls hd y
 ·
  rw [if_pos e, e]
  simp [hy]
 ·
  rw [if_neg e]
  have e2 : ¬ cls hd y = i := fun h => e h.symm
  simp [hy, e2]
theorem and_lt8 (a b : Nat) (hb : b < 8) : a &&& b < 8 := Nat.lt_of_le_of_lt Nat.and_le_right hb
def turnF (f : Nat → Value) (g : Nat) (v : Value) (i : Nat) : Value := if i = g then v else f i
abbrev sob (lv : Value) (f : Nat → Value) : Obj := .cells #[lv, f 0, f 1, f 2, f 3, f 4, f 5, f 6, f 7] 212
theorem lt8 {g : Nat} (h : g < 8) : g = 0 ∨ g = 1 ∨ g = 2 ∨ g = 3 ∨ g = 4 ∨ g = 5 ∨ g = 6 ∨ g = 7 := by omega
theorem sob_cell {w : World} {S : Nat} {lv : Value} {f : Nat → Value} (h : w.heap[S]? = some (sob lv f)) {g : Nat} (hg : g < 8) : w.cell? ⟨S, 1 + g, none⟩ = some (f g) := by
 rcases lt8 hg with rfl | rfl | rfl | rfl | rfl | rfl | rfl | rfl <;> exact bl_cell h _ _ rfl
theorem sob_put {w : World} {S : Nat} {lv : Value} {f : Nat → Value} (h : w.heap[S]? = some (sob lv f)) {g : Nat} (hg : g < 8) (v : Value) : (w.setCell ⟨S, 1 + g, none⟩ v).heap[S]? = some (sob lv (turnF f g v)) := by
 rcases lt8 hg with rfl | rfl | rfl | rfl | rfl | rfl | rfl | rfl <;> exact bl_put h v
structure SoW (S : Nat) (lv : Value) (hd : Nat) (all : List Sp) (q : Nat) (f : Nat → Value) (w : World) : Prop where
 b : w.heap[S]? = some (sob lv f)
 row : ∀ i, i < 8 → NuR (S + 1) w (f i) (plq hd all q i)
 apart : ∀ i j b, i < 8 → j < 8 → i ≠ j → (f i).ownBlock = some b → (f j).ownBlock ≠ some b
theorem SoW.start {w : World} {S : Nat} {lv : Value} (hd : Nat) (all : List Sp) (h : w.heap[S]? = some (sob lv (fun _ => .slice none 0 0))) : SoW S lv hd all 0 (fun _ => .slice none 0 0) w :=
 ⟨h, fun i _ => by rw [show plq hd all 0 i = [] from rfl]; exact NuR.nil _ _, fun i j b _ _ _ e => by cases e⟩
theorem SoW.kp {w w' : World} {S : Nat} {lv : Value} {hd : Nat} {all : List Sp} {q : Nat} {f : Nat → Value} (h : SoW S lv hd all q f w) (k : Kp w w') : SoW S lv hd all q f w' :=
 ⟨bl_kp h.b k, fun i hi => (h.row i hi).kp k, h.apart⟩
theorem SoW.step {w w1 w2 : World} {S : Nat} {lv : Value} {hd : Nat} {all : List Sp} {q g : Nat} {f : Nat → Value} {v : Value} {y : Sp} (h : SoW S lv hd all q f w) (hg : g < 8) (hy : all[q]? = some y) (hc : cls hd y = g) (m : MoreN (S + 1) w (f g) (plq hd all q g) [q] v w1) (h2 : w2 = w1.setCell ⟨S, 1 + g, none⟩ v) : SoW S lv hd all (q + 1) (turnF f g v) w2 := by
 have hS : (f g).ownBlock ≠ some S := fun e => by have := ((h.row g hg).block S e).1; omega
 have hb1 : w1.heap[S]? = some (sob lv f) := (m.grown.block S (bl_lt h.b) (fun e => hS e.symm)).trans h.b
 have hvS : v.ownBlock ≠ some S := fun e => by have := (m.row.block S e).1; omega
 have off : ∀ b, b ≠ S → w2.heap[b]? = w1.heap[b]? := fun b hb => by rw [h2]; exact Below.heap_setCell w1 ⟨S, 1 + g, none⟩ v b hb
 have own : ∀ b, v.ownBlock = some b → (f g).ownBlock = some b ∨ w.heap.size ≤ b := fun b e => by
  rcases m.block with q | q
  ·
   exact Or.inl (q ▸ e)
  ·
   rw [q] at e; injection e with e; exact Or.inr (by omega)
 refine ⟨by rw [h2]; exact sob_put hb1 hg v, fun i hi => ?_, fun i j b hi hj hne e1 e2 => ?_⟩
 ·
  rw [plq_succ hy]
  unfold turnF
  by_cases e : i = g
  ·
   subst e
   rw [if_pos rfl, if_pos hc.symm]
   exact m.row.turn (fun b hb _ => off b (fun e => by rw [e] at hb; exact hvS hb))
  ·
   rw [if_neg e, if_neg (by rw [hc]; exact e)]
   refine (h.row i hi).turn (fun b hb hl => ?_)
   refine (off b (fun e => by have := ((h.row i hi).block b hb).1; omega)).trans (m.grown.block b hl (fun e' => ?_))
   exact h.apart i g b hi hg e hb e'.symm
 ·
  unfold turnF at e1 e2
  by_cases ei : i = g
  ·
   have ej : ¬ j = g := fun e => hne (ei.trans e.symm)
   rw [if_pos ei] at e1
   rw [if_neg ej] at e2
   rcases own b e1 with o | o
   ·
    exact h.apart g j b hg hj (fun e => ej e.symm) o e2
   ·
    have := ((h.row j hj).block b e2).2; omega
  ·
   rw [if_neg ei] at e1
   by_cases ej : j = g
   ·
    rw [if_pos ej] at e2
    rcases own b e2 with o | o
    ·
     exact h.apart i g b hi hg ei e1 o
    ·
     have := ((h.row i hi).block b e1).2; omega
   ·
    rw [if_neg ej] at e2
    exact h.apart i j b hi hj hne e1 e2
theorem SoW.done {w : World} {S : Nat} {lv : Value} {hd : Nat} {all : List Sp} {f : Nat → Value} {ok : Nat → Prop} (h : SoW S lv hd all all.length f w) (hl : SpL w ok lv all) (hok : ∀ b, S ≤ b → ok b) : SoAt w ok (.pointer (some ⟨S, 0, none⟩)) hd all := by
 have r : ∀ i, i < 8 → NuL w ok (f i) (placesOf hd all i) := fun i hi => by
  rw [← plq_all]
  exact (h.row i hi).nul (fun b e => hok b (by have := ((h.row i hi).block b e).1; omega))
 exact ⟨S, lv, _, _, _, _, _, _, _, _, rfl, hok S (Nat.le_refl _), h.b, hl, ⟨r 0 (by omega), r 1 (by omega), r 2 (by omega), r 3 (by omega)⟩, r 4 (by omega), r 5 (by omega), r 6 (by omega), r 7 (by omega)⟩
end Go.Proofs.YtnajcnhgeggngaaGreat.Way
