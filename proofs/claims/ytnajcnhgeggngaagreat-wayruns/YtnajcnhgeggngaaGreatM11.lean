/-
  Texts of this claim: Spot, Spot2, Key.
-/
import Derived.Test.YtnajcnhgeggngaaGreatM3
import Derived.Maps.Own
import Derived.Maps.OwnOps
import Derived.Maps.OwnSet
import Derived.Maps.Views
import Derived.DeepKeys4
import Derived.LaidHandle

/-! ### Spot -/

namespace Go.Proofs.YtnajcnhgeggngaaGreat.Way
set_option maxHeartbeats 2000000
set_option maxRecDepth 100000
open Go.RowKit Go.Proofs.YtnajcnhgeggngaaGreat

structure Sp where
 a : Int
 f0 : Int
 t0 : Int
 f1 : Int
 t1 : Int
 f2 : Int
 t2 : Int
deriving DecidableEq
abbrev spv (x : Sp) : Value := .agg #[.int .i8 x.a, .int .i8 x.f0, .int .i8 x.t0, .int .i8 x.f1, .int .i8 x.t1, .int .i8 x.f2, .int .i8 x.t2]
abbrev spo (x : Sp) : Obj := .cells #[.int .i8 x.a, .int .i8 x.f0, .int .i8 x.t0, .int .i8 x.f1, .int .i8 x.t1, .int .i8 x.f2, .int .i8 x.t2] 83
def bit0 (g : Nat) : Bool := g % 2 == 1
def bit1 (g : Nat) : Bool := g / 2 % 2 == 1
def bit2 (g : Nat) : Bool := g / 4 % 2 == 1
def Sp.only (g : Nat) (x : Sp) : Sp := ⟨x.a, if bit0 g then x.f0 else -1, if bit0 g then x.t0 else -1, if bit1 g then x.f1 else -1, if bit1 g then x.t1 else -1, if bit2 g then x.f2 else -1, if bit2 g then x.t2 else -1⟩
def Sp.lacks (x : Sp) : Nat := (if x.f0 < 0 then 1 else 0) + (if x.f1 < 0 then 2 else 0) + (if x.f2 < 0 then 4 else 0)
def Sp.behind (x y : Sp) : Sp := ⟨x.a, if x.f0 < 0 then y.f0 else x.f0, if x.f0 < 0 then y.t0 else x.t0, if x.f1 < 0 then y.f1 else x.f1, if x.f1 < 0 then y.t1 else x.t1, if x.f2 < 0 then y.f2 else x.f2, if x.f2 < 0 then y.t2 else x.t2⟩
def Sp.moved (x : Sp) (n : Int) : Sp := ⟨x.a + n, x.f0, x.t0, x.f1, x.t1, x.f2, x.t2⟩
def Sp.at_ (a : Int) : Sp := ⟨a, -1, -1, -1, -1, -1, -1⟩
def Spn (f t : Int) : Prop := (f = -1 ∧ t = -1) ∨ (0 ≤ f ∧ f ≤ t ∧ t ≤ 60)
structure Sp.Ok (x : Sp) : Prop where
 a0 : 0 ≤ x.a
 a1 : x.a ≤ 60
 s0 : Spn x.f0 x.t0
 s1 : Spn x.f1 x.t1
 s2 : Spn x.f2 x.t2
theorem Sp.Ok.only {x : Sp} (h : x.Ok) (g : Nat) : (x.only g).Ok := by
 refine ⟨h.a0, h.a1, ?_, ?_, ?_⟩ <;> (unfold Sp.only; simp only) 
 ·
  cases bit0 g
  ·
   exact Or.inl ⟨rfl, rfl⟩
  ·
   exact h.s0
 ·
  cases bit1 g
  ·
   exact Or.inl ⟨rfl, rfl⟩
  ·
   exact h.s1
 ·
  cases bit2 g
  ·
   exact Or.inl ⟨rfl, rfl⟩
  ·
   exact h.s2
theorem Sp.Ok.behind {x y : Sp} (h : x.Ok) (k : y.Ok) : (x.behind y).Ok := by
 refine ⟨h.a0, h.a1, ?_, ?_, ?_⟩ <;> (unfold Sp.behind; simp only)
 ·
  by_cases q : x.f0 < 0
  ·
   rw [if_pos q, if_pos q]; exact k.s0
  ·
   rw [if_neg q, if_neg q]; exact h.s0
 ·
  by_cases q : x.f1 < 0
  ·
   rw [if_pos q, if_pos q]; exact k.s1
  ·
   rw [if_neg q, if_neg q]; exact h.s1
 ·
  by_cases q : x.f2 < 0
  ·
   rw [if_pos q, if_pos q]; exact k.s2
  ·
   rw [if_neg q, if_neg q]; exact h.s2
theorem bl_set7 {w : World} {B : Nat} {a0 a1 a2 a3 a4 a5 a6 : Value} {t : TypeId} (h : w.heap[B]? = some (.cells #[a0, a1, a2, a3, a4, a5, a6] t)) (x0 x1 x2 x3 x4 x5 x6 : Value) :
  (((((((w.setCell ⟨B, 0, none⟩ x0).setCell ⟨B, 1, none⟩ x1).setCell ⟨B, 2, none⟩ x2).setCell ⟨B, 3, none⟩ x3).setCell ⟨B, 4, none⟩ x4).setCell ⟨B, 5, none⟩ x5).setCell ⟨B, 6, none⟩ x6).heap[B]? = some (.cells #[x0, x1, x2, x3, x4, x5, x6] t) := by
 have h0 : (w.setCell ⟨B, 0, none⟩ x0).heap[B]? = some (.cells #[x0, a1, a2, a3, a4, a5, a6] t) := bl_put h x0
 have h1 : ((w.setCell ⟨B, 0, none⟩ x0).setCell ⟨B, 1, none⟩ x1).heap[B]? = some (.cells #[x0, x1, a2, a3, a4, a5, a6] t) := bl_put h0 x1
 have h2 : (((w.setCell ⟨B, 0, none⟩ x0).setCell ⟨B, 1, none⟩ x1).setCell ⟨B, 2, none⟩ x2).heap[B]? = some (.cells #[x0, x1, x2, a3, a4, a5, a6] t) := bl_put h1 x2
 have h3 : ((((w.setCell ⟨B, 0, none⟩ x0).setCell ⟨B, 1, none⟩ x1).setCell ⟨B, 2, none⟩ x2).setCell ⟨B, 3, none⟩ x3).heap[B]? = some (.cells #[x0, x1, x2, x3, a4, a5, a6] t) := bl_put h2 x3
 have h4 : (((((w.setCell ⟨B, 0, none⟩ x0).setCell ⟨B, 1, none⟩ x1).setCell ⟨B, 2, none⟩ x2).setCell ⟨B, 3, none⟩ x3).setCell ⟨B, 4, none⟩ x4).heap[B]? = some (.cells #[x0, x1, x2, x3, x4, a5, a6] t) := bl_put h3 x4
 have h5 : ((((((w.setCell ⟨B, 0, none⟩ x0).setCell ⟨B, 1, none⟩ x1).setCell ⟨B, 2, none⟩ x2).setCell ⟨B, 3, none⟩ x3).setCell ⟨B, 4, none⟩ x4).setCell ⟨B, 5, none⟩ x5).heap[B]? = some (.cells #[x0, x1, x2, x3, x4, x5, a6] t) := bl_put h4 x5
 have h6 : (((((((w.setCell ⟨B, 0, none⟩ x0).setCell ⟨B, 1, none⟩ x1).setCell ⟨B, 2, none⟩ x2).setCell ⟨B, 3, none⟩ x3).setCell ⟨B, 4, none⟩ x4).setCell ⟨B, 5, none⟩ x5).setCell ⟨B, 6, none⟩ x6).heap[B]? = some (.cells #[x0, x1, x2, x3, x4, x5, x6] t) := bl_put h5 x6
 exact h6
theorem ks_set7 {w : World} {B : Nat} (x0 x1 x2 x3 x4 x5 x6 : Value) : Ks B w (((((((w.setCell ⟨B, 0, none⟩ x0).setCell ⟨B, 1, none⟩ x1).setCell ⟨B, 2, none⟩ x2).setCell ⟨B, 3, none⟩ x3).setCell ⟨B, 4, none⟩ x4).setCell ⟨B, 5, none⟩ x5).setCell ⟨B, 6, none⟩ x6) :=
 ((((((((Ks.refl B w).set 0 x0).set 1 x1).set 2 x2).set 3 x3).set 4 x4).set 5 x5).set 6 x6)
theorem wrap_i8 (n : Int) : IntKind.i8.wrap n = (n + 128) % 256 - 128 := by
 simp [IntKind.wrap, IntKind.bits, IntKind.signed]
 split <;> omega
theorem sp_ret {fn : Func} {p : Tmp} (h : fn.results = #[.cell p 83]) (tmps : Array Value) (w : World) (S : Nat) (cs : Array Value) (hp : tmps.getD p undef = .pointer (some ⟨S, 0, none⟩)) (hA : w.heap[S]? = some (.cells cs 83)) (hc : cs.size = 7) : (results fn tmps).run Tryz.prog w = .ok (.agg cs) w :=
 results_cell_row h tmps w S 83 _ (0, 0) _ hp hA Tryz.underlying83 rfl (by rw [hc]; kernel_rfl)
theorem Kp.set {w W : World} (k : Kp w W) {B : Nat} (hB : w.heap.size ≤ B) (j : Nat) (u : Value) : Kp w (W.setCell ⟨B, j, none⟩ u) := k.setCell hB u

theorem oneGroup_any (n : Int) (h1 : n = 1 ∨ n = 2 ∨ n = 3) (w : World) : Calls Tryz.prog 52 #[.int .i64 n] w fun e w' => e = .returned (.int .u8 (if n = 1 then 1 else if n = 2 then 2 else 4)) ∧ w' = w := by
 go_enter Tryz.func52, Tryz.ntmps52
 rcases h1 with rfl | rfl | rfl
 ·
  go_wp2_with fail
  go_ret
  exact ⟨rfl, rfl⟩
 ·
  go_wp2_with fail
  go_ret
  exact ⟨rfl, rfl⟩
 ·
  go_wp2_with fail
  go_ret
  exact ⟨rfl, rfl⟩
theorem and_bit (g : Nat) (h : g < 8) : bits .and .u8 (g : Int) 1 = (if bit0 g then 1 else 0) ∧ bits .and .u8 (g : Int) 2 = (if bit1 g then 2 else 0) ∧ bits .and .u8 (g : Int) 4 = (if bit2 g then 4 else 0) := by
 match g, h with
 | 0, _ => decide
 | 1, _ => decide
 | 2, _ => decide
 | 3, _ => decide
 | 4, _ => decide
 | 5, _ => decide
 | 6, _ => decide
 | 7, _ => decide
def bitN (g : Nat) (i : Nat) : Bool := if i = 1 then bit0 g else if i = 2 then bit1 g else bit2 g
theorem has_any (g : Nat) (hg : g < 8) (n : Int) (h1 : n = 1 ∨ n = 2 ∨ n = 3) (w : World) : Calls Tryz.prog 86 #[.int .u8 (g : Int), .int .i64 n] w fun e w' => e = .returned (.bool (bitN g n.toNat)) ∧ w' = w := by
 have HA := and_bit g hg
 go_enter Tryz.func86, Tryz.ntmps86
 go_wp2_with fail
 refine (oneGroup_any n h1 _).mono ?_
 rintro e w1 ⟨rfl, rfl⟩
 rcases h1 with rfl | rfl | rfl
 ·
  have e1 := HA.1
  cases hb : bit0 g
  ·
   rw [hb] at e1
   go_wp2_with fail
   go_ret
   exact ⟨by unfold bitN; simp [hb], rfl⟩
  ·
   rw [hb] at e1
   go_wp2_with fail
   go_ret
   exact ⟨by unfold bitN; simp [hb], rfl⟩
 ·
  have e1 := HA.2.1
  cases hb : bit1 g
  ·
   rw [hb] at e1
   go_wp2_with fail
   go_ret
   exact ⟨by unfold bitN; simp [hb], rfl⟩
  ·
   rw [hb] at e1
   go_wp2_with fail
   go_ret
   exact ⟨by unfold bitN; simp [hb], rfl⟩
 ·
  have e1 := HA.2.2
  cases hb : bit2 g
  ·
   rw [hb] at e1
   go_wp2_with fail
   go_ret
   exact ⟨by unfold bitN; simp [hb], rfl⟩
  ·
   rw [hb] at e1
   go_wp2_with fail
   go_ret
   exact ⟨by unfold bitN; simp [hb], rfl⟩
theorem none_any (f t : Int) (w : World) : Calls Tryz.prog 107 #[.agg #[.int .i8 f, .int .i8 t]] w fun e w' => e = .returned (.bool (decide (f < 0))) ∧ Kp w w' := by
 go_enter Tryz.func107, Tryz.ntmps107
 go_wp2_with fail
 go_ret
 exact ⟨rfl, (Kp.refl _).alloc _⟩
theorem moved_any (x : Sp) (n : Nat) (hx : x.Ok) (hn : x.a + n ≤ 60) (w : World) : Calls Tryz.prog 81 #[spv x, .int .i64 (n : Int)] w fun e w' => e = .returned (spv (x.moved n)) ∧ Kp w w' := by
 have h0 := hx.a0
 have c1 : IntKind.i8.wrap (n : Int) = (n : Int) := by rw [wrap_i8]; omega
 have c2 : IntKind.i8.wrap (x.a + (n : Int)) = x.a + (n : Int) := by rw [wrap_i8]; omega
 have hE : Hid (spv (x.moved n) = spv (x.moved n)) := rfl
 obtain ⟨a, f0, t0, f1, t1, f2, t2⟩ := x
 simp only at h0 c2
 clear hx hn h0 hE
 go_enter Tryz.func81, Tryz.ntmps81
 go_upto_region 1 with fail
 refine opq (fun W0 => W0.heap[w.heap.size]? = some (spo ⟨a, f0, t0, f1, t1, f2, t2⟩) ∧ W0.heap[(w.heap.size + 1)]? = some (.cells #[.int .i8 0, .int .i8 0, .int .i8 0, .int .i8 0, .int .i8 0, .int .i8 0, .int .i8 0] 83) ∧ Kp w W0) ⟨by exact bl_alloc (last_of _ _) _, by exact last_at _ _ _ (by simp), by exact kpt⟩ ?_
 rintro W0 ⟨xA0, xB0, xK0⟩
 have A0 := hid xA0
 have B0 := hid xB0
 have K0 := hid xK0
 clear xA0 xB0 xK0
 obtain ⟨p0, fp0, p1, fp1, p2, fp2, p3, fp3, p4, fp4, p5, fp5, p6, fp6⟩ := cellf7 (A0.out)
 go_upto_region 2 with fail
 refine opq (fun W1 => W1.heap[w.heap.size]? = some (spo ⟨a + (n : Int), f0, t0, f1, t1, f2, t2⟩) ∧ W1.heap[(w.heap.size + 1)]? = some (.cells #[.int .i8 0, .int .i8 0, .int .i8 0, .int .i8 0, .int .i8 0, .int .i8 0, .int .i8 0] 83) ∧ Kp w W1) ⟨by exact bl_put A0.out _, by exact bl_set B0.out (by omega) _, by exact Ks.up (P := w.heap.size) ((Ks.refl _ _).set _ _) K0.out (by omega)⟩ ?_
 rintro W1 ⟨xA1, xB1, xK1⟩
 have A1 := hid xA1
 have B1 := hid xB1
 have K1 := hid xK1
 clear xA1 xB1 xK1
 clear p0 p1 p2 p3 p4 p5 p6 fp0 fp1 fp2 fp3 fp4 fp5 fp6
 obtain ⟨q0, q1, q2, q3, q4, q5, q6⟩ := cells7 (A1.out)
 obtain ⟨z0, fz0, z1, fz1, z2, fz2, z3, fz3, z4, fz4, z5, fz5, z6, fz6⟩ := cellf7 (B1.out)
 go_wp2_with fail
 exact bodyPost_ret (v := .agg _) (sp_ret rfl _ _ _ _ rfl (bl_set7 B1.out _ _ _ _ _ _ _) rfl) rfl ⟨rfl, Ks.up (P := w.heap.size + 1) (ks_set7 _ _ _ _ _ _ _) K1.out (by omega)⟩
def onlyN (q g : Nat) (x : Sp) : Sp := ⟨x.a, if q < 1 ∨ bit0 g then x.f0 else -1, if q < 1 ∨ bit0 g then x.t0 else -1, if q < 2 ∨ bit1 g then x.f1 else -1, if q < 2 ∨ bit1 g then x.t1 else -1, if q < 3 ∨ bit2 g then x.f2 else -1, if q < 3 ∨ bit2 g then x.t2 else -1⟩
theorem onlyN_z (g : Nat) (x : Sp) : onlyN 0 g x = x := by
 unfold onlyN
 simp
theorem onlyN_3 (g : Nat) (x : Sp) : onlyN 3 g x = x.only g := by
 unfold onlyN Sp.only
 simp
theorem only_any (x : Sp) (g : Nat) (hg : g < 8) (w : World) : Calls Tryz.prog 55 #[spv x, .int .u8 (g : Int)] w fun e w' => e = .returned (spv (x.only g)) ∧ Kp w w' := by
 go_enter Tryz.func55, Tryz.ntmps55
 go_upto_region 1 with fail
 refine opq (fun W0 => W0.heap[w.heap.size]? = some (spo x) ∧ W0.heap[(w.heap.size + 1)]? = some (.cells #[.int .i8 0, .int .i8 0, .int .i8 0, .int .i8 0, .int .i8 0, .int .i8 0, .int .i8 0] 83) ∧ Kp w W0) ⟨by exact bl_alloc (last_of _ _) _, by exact last_at _ _ _ (by simp), by exact kpt⟩ ?_
 rintro W0 ⟨xA0, xB0, xK0⟩
 have A0 := hid xA0
 have B0 := hid xB0
 have K0 := hid xK0
 clear xA0 xB0 xK0
 by_cases h7 : g = 7
 ·
  subst h7
  obtain ⟨p0, p1, p2, p3, p4, p5, p6⟩ := cells7 (A0.out)
  obtain ⟨z0, fz0, z1, fz1, z2, fz2, z3, fz3, z4, fz4, z5, fz5, z6, fz6⟩ := cellf7 (B0.out)
  go_wp2_with fail
  exact bodyPost_ret (v := .agg _) (sp_ret rfl _ _ _ _ rfl (bl_set7 B0.out _ _ _ _ _ _ _) rfl) rfl ⟨rfl, Ks.up (P := w.heap.size + 1) (ks_set7 _ _ _ _ _ _ _) K0.out (by omega)⟩
 have h7b : ((g : Int) == 7) = false := by rw [beq_eq_false_iff_ne]; omega
 have h7c : ¬ (g : Int) = 7 := by omega
 go_wp2_with fail
 go_loopg [9] 3 (fun gg i wr => ∃ q : Nat, q + gg = 3 ∧ i = .int .i64 (q : Int) ∧ wr.heap[w.heap.size]? = some (spo (onlyN q g x)) ∧ wr.heap[w.heap.size + 1]? = some (.cells #[.int .i8 0, .int .i8 0, .int .i8 0, .int .i8 0, .int .i8 0, .int .i8 0, .int .i8 0] 83) ∧ Kp w wr)
 case atStart => exact ⟨0, by omega, rfl, by rw [onlyN_z]; exact A0.out, B0.out, K0.out⟩
 case round =>
  obtain ⟨q, hq, rfl, hA, hB, hK⟩ := hrel
  have A := hid hA
  have B := hid hB
  have K := hid hK
  clear hA hB hK A0 B0 K0 h7b h7c
  have hs : w.heap.size < wr.heap.size := bl_lt A.out
  match q, hq with
  | 0, hq =>
   obtain rfl : gk = 3 := by omega
   cases hb : bit0 g with
   | true =>
    have HB : Hid (bitN g 1 = true) := by show _ = _; unfold bitN; simp [hb]
    have HE : Hid (onlyN 1 g x = onlyN 0 g x) := by show _ = _; unfold onlyN; simp [hb]
    clear hb
    go_wp2_with fail
    refine (has_any g hg 1 (by omega) _).mono ?_
    rintro e w1 ⟨rfl, rfl⟩
    rw [show (1 : Int).toNat = 1 from rfl, HB.out]
    go_wp2_with fail
    go_roundg 2
    case measure => omega
    case rel => exact ⟨1, by omega, rfl, by rw [HE.out]; exact A.out, B.out, K.out⟩
   | false =>
    have HB : Hid (bitN g 1 = false) := by show _ = _; unfold bitN; simp [hb]
    have HE : Hid (onlyN 1 g x = ⟨x.a, -1, -1, (onlyN 0 g x).f1, (onlyN 0 g x).t1, (onlyN 0 g x).f2, (onlyN 0 g x).t2⟩) := by show _ = _; unfold onlyN; simp [hb]
    clear hb
    obtain ⟨p0, fp0, p1, fp1, p2, fp2, p3, fp3, p4, fp4, p5, fp5, p6, fp6⟩ := cellf7 (A.out)
    go_wp2_with fail
    refine (has_any g hg 1 (by omega) _).mono ?_
    rintro e w1 ⟨rfl, rfl⟩
    rw [show (1 : Int).toNat = 1 from rfl, HB.out]
    go_wp2_with fail
    go_roundg 2
    case measure => omega
    case rel => exact ⟨1, by omega, rfl, by rw [HE.out]; exact bl_put (bl_put A.out _) _, bl_set (bl_set B.out (by omega) _) (by omega) _, Ks.up (P := w.heap.size) (((Ks.refl _ _).set _ _).set _ _) K.out (by omega)⟩
  | 1, hq =>
   obtain rfl : gk = 2 := by omega
   cases hb : bit1 g with
   | true =>
    have HB : Hid (bitN g 2 = true) := by show _ = _; unfold bitN; simp [hb]
    have HE : Hid (onlyN 2 g x = onlyN 1 g x) := by show _ = _; unfold onlyN; simp [hb]
    clear hb
    go_wp2_with fail
    refine (has_any g hg 2 (by omega) _).mono ?_
    rintro e w1 ⟨rfl, rfl⟩
    rw [show (2 : Int).toNat = 2 from rfl, HB.out]
    go_wp2_with fail
    go_roundg 1
    case measure => omega
    case rel => exact ⟨2, by omega, rfl, by rw [HE.out]; exact A.out, B.out, K.out⟩
   | false =>
    have HB : Hid (bitN g 2 = false) := by show _ = _; unfold bitN; simp [hb]
    have HE : Hid (onlyN 2 g x = ⟨x.a, (onlyN 1 g x).f0, (onlyN 1 g x).t0, -1, -1, (onlyN 1 g x).f2, (onlyN 1 g x).t2⟩) := by show _ = _; unfold onlyN; simp [hb]
    clear hb
    obtain ⟨p0, fp0, p1, fp1, p2, fp2, p3, fp3, p4, fp4, p5, fp5, p6, fp6⟩ := cellf7 (A.out)
    go_wp2_with fail
    refine (has_any g hg 2 (by omega) _).mono ?_
    rintro e w1 ⟨rfl, rfl⟩
    rw [show (2 : Int).toNat = 2 from rfl, HB.out]
    go_wp2_with fail
    go_roundg 1
    case measure => omega
    case rel => exact ⟨2, by omega, rfl, by rw [HE.out]; exact bl_put (bl_put A.out _) _, bl_set (bl_set B.out (by omega) _) (by omega) _, Ks.up (P := w.heap.size) (((Ks.refl _ _).set _ _).set _ _) K.out (by omega)⟩
  | 2, hq =>
   obtain rfl : gk = 1 := by omega
   cases hb : bit2 g with
   | true =>
    have HB : Hid (bitN g 3 = true) := by show _ = _; unfold bitN; simp [hb]
    have HE : Hid (onlyN 3 g x = onlyN 2 g x) := by show _ = _; unfold onlyN; simp [hb]
    clear hb
    go_wp2_with fail
    refine (has_any g hg 3 (by omega) _).mono ?_
    rintro e w1 ⟨rfl, rfl⟩
    rw [show (3 : Int).toNat = 3 from rfl, HB.out]
    go_wp2_with fail
    go_roundg 0
    case measure => omega
    case rel => exact ⟨3, by omega, rfl, by rw [HE.out]; exact A.out, B.out, K.out⟩
   | false =>
    have HB : Hid (bitN g 3 = false) := by show _ = _; unfold bitN; simp [hb]
    have HE : Hid (onlyN 3 g x = ⟨x.a, (onlyN 2 g x).f0, (onlyN 2 g x).t0, (onlyN 2 g x).f1, (onlyN 2 g x).t1, -1, -1⟩) := by show _ = _; unfold onlyN; simp [hb]
    clear hb
    obtain ⟨p0, fp0, p1, fp1, p2, fp2, p3, fp3, p4, fp4, p5, fp5, p6, fp6⟩ := cellf7 (A.out)
    go_wp2_with fail
    refine (has_any g hg 3 (by omega) _).mono ?_
    rintro e w1 ⟨rfl, rfl⟩
    rw [show (3 : Int).toNat = 3 from rfl, HB.out]
    go_wp2_with fail
    go_roundg 0
    case measure => omega
    case rel => exact ⟨3, by omega, rfl, by rw [HE.out]; exact bl_put (bl_put A.out _) _, bl_set (bl_set B.out (by omega) _) (by omega) _, Ks.up (P := w.heap.size) (((Ks.refl _ _).set _ _).set _ _) K.out (by omega)⟩
  | 3, hq =>
   obtain rfl : gk = 0 := by omega
   rw [onlyN_3] at A
   obtain ⟨p0, p1, p2, p3, p4, p5, p6⟩ := cells7 (A.out)
   obtain ⟨z0, fz0, z1, fz1, z2, fz2, z3, fz3, z4, fz4, z5, fz5, z6, fz6⟩ := cellf7 (B.out)
   go_wp2_with fail
   exact bodyPost_ret (v := .agg _) (sp_ret rfl _ _ _ _ rfl (bl_set7 B.out _ _ _ _ _ _ _) rfl) rfl ⟨rfl, Ks.up (P := w.heap.size + 1) (ks_set7 _ _ _ _ _ _ _) K.out (by omega)⟩
  | q + 4, hq => omega
end Go.Proofs.YtnajcnhgeggngaaGreat.Way

/-! ### Spot2 -/

namespace Go.Proofs.YtnajcnhgeggngaaGreat.Way
set_option maxHeartbeats 2000000
set_option maxRecDepth 100000
open Go.RowKit Go.Proofs.YtnajcnhgeggngaaGreat

def behN (q : Nat) (x y : Sp) : Sp := ⟨x.a, if 0 < q ∧ x.f0 < 0 then y.f0 else x.f0, if 0 < q ∧ x.f0 < 0 then y.t0 else x.t0, if 1 < q ∧ x.f1 < 0 then y.f1 else x.f1, if 1 < q ∧ x.f1 < 0 then y.t1 else x.t1, if 2 < q ∧ x.f2 < 0 then y.f2 else x.f2, if 2 < q ∧ x.f2 < 0 then y.t2 else x.t2⟩
theorem behN_z (x y : Sp) : behN 0 x y = x := by
 unfold behN
 simp
theorem behN_3 (x y : Sp) : behN 3 x y = x.behind y := by
 unfold behN Sp.behind
 simp
theorem behind_any (x y : Sp) (w : World) : Calls Tryz.prog 127 #[spv x, spv y] w fun e w' => e = .returned (spv (x.behind y)) ∧ Kp w w' := by
 go_enter Tryz.func127, Tryz.ntmps127
 go_upto_region 1 with fail
 refine opq (fun W0 => W0.heap[w.heap.size]? = some (spo x) ∧ W0.heap[(w.heap.size + 1)]? = some (spo y) ∧ W0.heap[(w.heap.size + 1 + 1)]? = some (.cells #[.int .i8 0, .int .i8 0, .int .i8 0, .int .i8 0, .int .i8 0, .int .i8 0, .int .i8 0] 83) ∧ Kp w W0) ⟨by exact bl_alloc (bl_alloc (last_of _ _) _) _, by exact bl_alloc (last_at _ _ _ (by simp)) _, by exact last_at _ _ _ (by simp), by exact kpt⟩ ?_
 rintro W0 ⟨xA0, xY0, xB0, xK0⟩
 have A0 := hid xA0
 have Y0 := hid xY0
 have B0 := hid xB0
 have K0 := hid xK0
 clear xA0 xY0 xB0 xK0
 go_wp2_with fail
 go_loopg [6] 3 (fun gg i wr => ∃ q : Nat, q + gg = 3 ∧ i = .int .i64 (q : Int) ∧ wr.heap[w.heap.size]? = some (spo (behN q x y)) ∧ wr.heap[w.heap.size + 1]? = some (spo y) ∧ wr.heap[w.heap.size + 1 + 1]? = some (.cells #[.int .i8 0, .int .i8 0, .int .i8 0, .int .i8 0, .int .i8 0, .int .i8 0, .int .i8 0] 83) ∧ Kp w wr)
 case atStart => exact ⟨0, by omega, rfl, by rw [behN_z]; exact A0.out, Y0.out, B0.out, K0.out⟩
 case round =>
  obtain ⟨q, hq, rfl, hA, hY, hB, hK⟩ := hrel
  have A := hid hA
  have Y := hid hY
  have B := hid hB
  have K := hid hK
  clear hA hY hB hK A0 Y0 B0 K0
  have hs : w.heap.size + 1 + 1 < wr.heap.size := bl_lt B.out
  match q, hq with
  | 0, hq =>
   obtain rfl : gk = 3 := by omega
   have HF : Hid ((behN 0 x y).f0 = x.f0) := by show _ = _; unfold behN; simp
   obtain ⟨p0, p1, p2, p3, p4, p5, p6⟩ := cells7 (A.out)
   by_cases hf : x.f0 < 0
   ·
    have HB : Hid (decide ((behN 0 x y).f0 < 0) = true) := by show _ = _; rw [HF.out]; exact decide_eq_true hf
    have HE : Hid (behN 1 x y = ⟨x.a, y.f0, y.t0, (behN 0 x y).f1, (behN 0 x y).t1, (behN 0 x y).f2, (behN 0 x y).t2⟩) := by show _ = _; unfold behN; simp [hf]
    clear hf
    go_wp2_with fail
    refine (none_any _ _ _).mono ?_
    rintro e w1 ⟨rfl, k1⟩
    rw [HB.out]
    clear p0 p1 p2 p3 p4 p5 p6
    have A1 := hid (bl_kp A.out k1)
    have Y1 := hid (bl_kp Y.out k1)
    have B1 := hid (bl_kp B.out k1)
    have K1 := hid (K.out.trans k1)
    clear k1 A Y B K
    obtain ⟨p0, fp0, p1, fp1, p2, fp2, p3, fp3, p4, fp4, p5, fp5, p6, fp6⟩ := cellf7 (A1.out)
    obtain ⟨y0, y1, y2, y3, y4, y5, y6⟩ := cells7 (Y1.out)
    go_wp2_with fail
    go_roundg 2
    case measure => omega
    case rel => exact ⟨1, by omega, rfl, by rw [HE.out]; exact bl_put (bl_put A1.out _) _, bl_set (bl_set Y1.out (by omega) _) (by omega) _, bl_set (bl_set B1.out (by omega) _) (by omega) _, Ks.up (P := w.heap.size) (((Ks.refl _ _).set _ _).set _ _) K1.out (by omega)⟩
   ·
    have HB : Hid (decide ((behN 0 x y).f0 < 0) = false) := by show _ = _; rw [HF.out]; exact decide_eq_false hf
    have HE : Hid (behN 1 x y = behN 0 x y) := by show _ = _; unfold behN; simp [hf]
    clear hf
    go_wp2_with fail
    refine (none_any _ _ _).mono ?_
    rintro e w1 ⟨rfl, k1⟩
    rw [HB.out]
    clear p0 p1 p2 p3 p4 p5 p6
    have A1 := hid (bl_kp A.out k1)
    have Y1 := hid (bl_kp Y.out k1)
    have B1 := hid (bl_kp B.out k1)
    have K1 := hid (K.out.trans k1)
    clear k1 A Y B K
    go_wp2_with fail
    go_roundg 2
    case measure => omega
    case rel => exact ⟨1, by omega, rfl, by rw [HE.out]; exact A1.out, Y1.out, B1.out, K1.out⟩
  | 1, hq =>
   obtain rfl : gk = 2 := by omega
   have HF : Hid ((behN 1 x y).f1 = x.f1) := by show _ = _; unfold behN; simp
   obtain ⟨p0, p1, p2, p3, p4, p5, p6⟩ := cells7 (A.out)
   by_cases hf : x.f1 < 0
   ·
    have HB : Hid (decide ((behN 1 x y).f1 < 0) = true) := by show _ = _; rw [HF.out]; exact decide_eq_true hf
    have HE : Hid (behN 2 x y = ⟨x.a, (behN 1 x y).f0, (behN 1 x y).t0, y.f1, y.t1, (behN 1 x y).f2, (behN 1 x y).t2⟩) := by show _ = _; unfold behN; simp [hf]
    clear hf
    go_wp2_with fail
    refine (none_any _ _ _).mono ?_
    rintro e w1 ⟨rfl, k1⟩
    rw [HB.out]
    clear p0 p1 p2 p3 p4 p5 p6
    have A1 := hid (bl_kp A.out k1)
    have Y1 := hid (bl_kp Y.out k1)
    have B1 := hid (bl_kp B.out k1)
    have K1 := hid (K.out.trans k1)
    clear k1 A Y B K
    obtain ⟨p0, fp0, p1, fp1, p2, fp2, p3, fp3, p4, fp4, p5, fp5, p6, fp6⟩ := cellf7 (A1.out)
    obtain ⟨y0, y1, y2, y3, y4, y5, y6⟩ := cells7 (Y1.out)
    go_wp2_with fail
    go_roundg 1
    case measure => omega
    case rel => exact ⟨2, by omega, rfl, by rw [HE.out]; exact bl_put (bl_put A1.out _) _, bl_set (bl_set Y1.out (by omega) _) (by omega) _, bl_set (bl_set B1.out (by omega) _) (by omega) _, Ks.up (P := w.heap.size) (((Ks.refl _ _).set _ _).set _ _) K1.out (by omega)⟩
   ·
    have HB : Hid (decide ((behN 1 x y).f1 < 0) = false) := by show _ = _; rw [HF.out]; exact decide_eq_false hf
    have HE : Hid (behN 2 x y = behN 1 x y) := by show _ = _; unfold behN; simp [hf]
    clear hf
    go_wp2_with fail
    refine (none_any _ _ _).mono ?_
    rintro e w1 ⟨rfl, k1⟩
    rw [HB.out]
    clear p0 p1 p2 p3 p4 p5 p6
    have A1 := hid (bl_kp A.out k1)
    have Y1 := hid (bl_kp Y.out k1)
    have B1 := hid (bl_kp B.out k1)
    have K1 := hid (K.out.trans k1)
    clear k1 A Y B K
    go_wp2_with fail
    go_roundg 1
    case measure => omega
    case rel => exact ⟨2, by omega, rfl, by rw [HE.out]; exact A1.out, Y1.out, B1.out, K1.out⟩
  | 2, hq =>
   obtain rfl : gk = 1 := by omega
   have HF : Hid ((behN 2 x y).f2 = x.f2) := by show _ = _; unfold behN; simp
   obtain ⟨p0, p1, p2, p3, p4, p5, p6⟩ := cells7 (A.out)
   by_cases hf : x.f2 < 0
   ·
    have HB : Hid (decide ((behN 2 x y).f2 < 0) = true) := by show _ = _; rw [HF.out]; exact decide_eq_true hf
    have HE : Hid (behN 3 x y = ⟨x.a, (behN 2 x y).f0, (behN 2 x y).t0, (behN 2 x y).f1, (behN 2 x y).t1, y.f2, y.t2⟩) := by show _ = _; unfold behN; simp [hf]
    clear hf
    go_wp2_with fail
    refine (none_any _ _ _).mono ?_
    rintro e w1 ⟨rfl, k1⟩
    rw [HB.out]
    clear p0 p1 p2 p3 p4 p5 p6
    have A1 := hid (bl_kp A.out k1)
    have Y1 := hid (bl_kp Y.out k1)
    have B1 := hid (bl_kp B.out k1)
    have K1 := hid (K.out.trans k1)
    clear k1 A Y B K
    obtain ⟨p0, fp0, p1, fp1, p2, fp2, p3, fp3, p4, fp4, p5, fp5, p6, fp6⟩ := cellf7 (A1.out)
    obtain ⟨y0, y1, y2, y3, y4, y5, y6⟩ := cells7 (Y1.out)
    go_wp2_with fail
    go_roundg 0
    case measure => omega
    case rel => exact ⟨3, by omega, rfl, by rw [HE.out]; exact bl_put (bl_put A1.out _) _, bl_set (bl_set Y1.out (by omega) _) (by omega) _, bl_set (bl_set B1.out (by omega) _) (by omega) _, Ks.up (P := w.heap.size) (((Ks.refl _ _).set _ _).set _ _) K1.out (by omega)⟩
   ·
    have HB : Hid (decide ((behN 2 x y).f2 < 0) = false) := by show _ = _; rw [HF.out]; exact decide_eq_false hf
    have HE : Hid (behN 3 x y = behN 2 x y) := by show _ = _; unfold behN; simp [hf]
    clear hf
    go_wp2_with fail
    refine (none_any _ _ _).mono ?_
    rintro e w1 ⟨rfl, k1⟩
    rw [HB.out]
    clear p0 p1 p2 p3 p4 p5 p6
    have A1 := hid (bl_kp A.out k1)
    have Y1 := hid (bl_kp Y.out k1)
    have B1 := hid (bl_kp B.out k1)
    have K1 := hid (K.out.trans k1)
    clear k1 A Y B K
    go_wp2_with fail
    go_roundg 0
    case measure => omega
    case rel => exact ⟨3, by omega, rfl, by rw [HE.out]; exact A1.out, Y1.out, B1.out, K1.out⟩
  | 3, hq =>
   obtain rfl : gk = 0 := by omega
   rw [behN_3] at A
   obtain ⟨p0, p1, p2, p3, p4, p5, p6⟩ := cells7 (A.out)
   obtain ⟨z0, fz0, z1, fz1, z2, fz2, z3, fz3, z4, fz4, z5, fz5, z6, fz6⟩ := cellf7 (B.out)
   go_wp2_with fail
   exact bodyPost_ret (v := .agg _) (sp_ret rfl _ _ _ _ rfl (bl_set7 B.out _ _ _ _ _ _ _) rfl) rfl ⟨rfl, Ks.up (P := w.heap.size + 1 + 1) (ks_set7 _ _ _ _ _ _ _) K.out (by omega)⟩
  | q + 4, hq => omega
def lackN (q : Nat) (x : Sp) : Nat := (if 0 < q ∧ x.f0 < 0 then 1 else 0) + (if 1 < q ∧ x.f1 < 0 then 2 else 0) + (if 2 < q ∧ x.f2 < 0 then 4 else 0)
theorem lackN_3 (x : Sp) : lackN 3 x = x.lacks := by
 unfold lackN Sp.lacks
 simp
theorem lacks_lt (x : Sp) : x.lacks < 8 := by
 unfold Sp.lacks
 repeat' split
 all_goals omega
theorem lacks_any (x : Sp) (w : World) : Calls Tryz.prog 141 #[spv x] w fun e w' => e = .returned (.int .u8 (x.lacks : Int)) ∧ Kp w w' := by
 go_enter Tryz.func141, Tryz.ntmps141
 go_upto_region 1 with fail
 refine opq (fun W0 => W0.heap[w.heap.size]? = some (spo x) ∧ Kp w W0) ⟨by exact last_of _ _, by exact kpt⟩ ?_
 rintro W0 ⟨xA0, xK0⟩
 have A0 := hid xA0
 have K0 := hid xK0
 clear xA0 xK0
 go_wp2_with fail
 go_loopg [3, 5] 3 (fun gg v i wr => ∃ (q G : Nat), q + gg = 3 ∧ i = .int .i64 (q : Int) ∧ lackN q x = G ∧ v = .int .u8 (G : Int) ∧ wr.heap[w.heap.size]? = some (spo x) ∧ Kp w wr)
 case atStart => exact ⟨0, 0, by omega, rfl, by unfold lackN; simp, rfl, A0.out, K0.out⟩
 case round =>
  obtain ⟨q, G, hq, rfl, hG, rfl, hA, hK⟩ := hrel
  have A := hid hA
  have K := hid hK
  have HG := hid hG
  clear hA hK hG A0 K0
  obtain ⟨p0, p1, p2, p3, p4, p5, p6⟩ := cells7 (A.out)
  match q, hq with
  | 0, hq =>
   obtain rfl : gk = 3 := by omega
   have hv : G = 0 := by
    have h := HG.out
    unfold lackN at h
    simp at h
    skip
    all_goals omega
   by_cases hf : x.f0 < 0
   ·
    have HB : Hid (decide (x.f0 < 0) = true) := decide_eq_true hf
    have HE : Hid (lackN 1 x = G + 1) := by show _ = _; rw [← HG.out]; unfold lackN; simp [hf]
    clear hf
    go_wp2_with fail
    refine (none_any _ _ _).mono ?_
    rintro e w1 ⟨rfl, k1⟩
    rw [HB.out]
    have A1 := hid (bl_kp A.out k1)
    have K1 := hid (K.out.trans k1)
    clear p0 p1 p2 p3 p4 p5 p6
    clear k1 A K
    go_wp2_with fail
    refine (oneGroup_any 1 (by omega) _).mono ?_
    rintro e w2 ⟨rfl, rfl⟩
    rcases hv with rfl
    ·
     go_wp2_with fail
     go_roundg 2
     case measure => omega
     case rel => exact ⟨1, 1, by omega, rfl, by rw [HE.out], rfl, A1.out, K1.out⟩
   ·
    have HB : Hid (decide (x.f0 < 0) = false) := decide_eq_false hf
    have HE : Hid (lackN 1 x = G) := by show _ = _; rw [← HG.out]; unfold lackN; simp [hf]
    clear hf hv
    go_wp2_with fail
    refine (none_any _ _ _).mono ?_
    rintro e w1 ⟨rfl, k1⟩
    rw [HB.out]
    have A1 := hid (bl_kp A.out k1)
    have K1 := hid (K.out.trans k1)
    clear p0 p1 p2 p3 p4 p5 p6
    clear k1 A K
    go_wp2_with fail
    go_roundg 2
    case measure => omega
    case rel => exact ⟨1, G, by omega, rfl, by rw [HE.out], rfl, A1.out, K1.out⟩
  | 1, hq =>
   obtain rfl : gk = 2 := by omega
   have hv : G = 0 ∨ G = 1 := by
    have h := HG.out
    unfold lackN at h
    simp at h
    repeat' (split at h)
    all_goals omega
   by_cases hf : x.f1 < 0
   ·
    have HB : Hid (decide (x.f1 < 0) = true) := decide_eq_true hf
    have HE : Hid (lackN 2 x = G + 2) := by show _ = _; rw [← HG.out]; unfold lackN; simp [hf]
    clear hf
    go_wp2_with fail
    refine (none_any _ _ _).mono ?_
    rintro e w1 ⟨rfl, k1⟩
    rw [HB.out]
    have A1 := hid (bl_kp A.out k1)
    have K1 := hid (K.out.trans k1)
    clear p0 p1 p2 p3 p4 p5 p6
    clear k1 A K
    go_wp2_with fail
    refine (oneGroup_any 2 (by omega) _).mono ?_
    rintro e w2 ⟨rfl, rfl⟩
    rcases hv with rfl | rfl
    ·
     go_wp2_with fail
     go_roundg 1
     case measure => omega
     case rel => exact ⟨2, 2, by omega, rfl, by rw [HE.out], rfl, A1.out, K1.out⟩
    ·
     go_wp2_with fail
     go_roundg 1
     case measure => omega
     case rel => exact ⟨2, 3, by omega, rfl, by rw [HE.out], rfl, A1.out, K1.out⟩
   ·
    have HB : Hid (decide (x.f1 < 0) = false) := decide_eq_false hf
    have HE : Hid (lackN 2 x = G) := by show _ = _; rw [← HG.out]; unfold lackN; simp [hf]
    clear hf hv
    go_wp2_with fail
    refine (none_any _ _ _).mono ?_
    rintro e w1 ⟨rfl, k1⟩
    rw [HB.out]
    have A1 := hid (bl_kp A.out k1)
    have K1 := hid (K.out.trans k1)
    clear p0 p1 p2 p3 p4 p5 p6
    clear k1 A K
    go_wp2_with fail
    go_roundg 1
    case measure => omega
    case rel => exact ⟨2, G, by omega, rfl, by rw [HE.out], rfl, A1.out, K1.out⟩
  | 2, hq =>
   obtain rfl : gk = 1 := by omega
   have hv : G = 0 ∨ G = 1 ∨ G = 2 ∨ G = 3 := by
    have h := HG.out
    unfold lackN at h
    simp at h
    repeat' (split at h)
    all_goals omega
   by_cases hf : x.f2 < 0
   ·
    have HB : Hid (decide (x.f2 < 0) = true) := decide_eq_true hf
    have HE : Hid (lackN 3 x = G + 4) := by show _ = _; rw [← HG.out]; unfold lackN; simp [hf]
    clear hf
    go_wp2_with fail
    refine (none_any _ _ _).mono ?_
    rintro e w1 ⟨rfl, k1⟩
    rw [HB.out]
    have A1 := hid (bl_kp A.out k1)
    have K1 := hid (K.out.trans k1)
    clear p0 p1 p2 p3 p4 p5 p6
    clear k1 A K
    go_wp2_with fail
    refine (oneGroup_any 3 (by omega) _).mono ?_
    rintro e w2 ⟨rfl, rfl⟩
    rcases hv with rfl | rfl | rfl | rfl
    ·
     go_wp2_with fail
     go_roundg 0
     case measure => omega
     case rel => exact ⟨3, 4, by omega, rfl, by rw [HE.out], rfl, A1.out, K1.out⟩
    ·
     go_wp2_with fail
     go_roundg 0
     case measure => omega
     case rel => exact ⟨3, 5, by omega, rfl, by rw [HE.out], rfl, A1.out, K1.out⟩
    ·
     go_wp2_with fail
     go_roundg 0
     case measure => omega
     case rel => exact ⟨3, 6, by omega, rfl, by rw [HE.out], rfl, A1.out, K1.out⟩
    ·
     go_wp2_with fail
     go_roundg 0
     case measure => omega
     case rel => exact ⟨3, 7, by omega, rfl, by rw [HE.out], rfl, A1.out, K1.out⟩
   ·
    have HB : Hid (decide (x.f2 < 0) = false) := decide_eq_false hf
    have HE : Hid (lackN 3 x = G) := by show _ = _; rw [← HG.out]; unfold lackN; simp [hf]
    clear hf hv
    go_wp2_with fail
    refine (none_any _ _ _).mono ?_
    rintro e w1 ⟨rfl, k1⟩
    rw [HB.out]
    have A1 := hid (bl_kp A.out k1)
    have K1 := hid (K.out.trans k1)
    clear p0 p1 p2 p3 p4 p5 p6
    clear k1 A K
    go_wp2_with fail
    go_roundg 0
    case measure => omega
    case rel => exact ⟨3, G, by omega, rfl, by rw [HE.out], rfl, A1.out, K1.out⟩
  | 3, hq =>
   obtain rfl : gk = 0 := by omega
   have HX : Hid (G = x.lacks) := by show _ = _; rw [← HG.out, lackN_3]
   go_wp2_with fail
   go_ret
   exact ⟨by rw [HX.out]; rfl, K.out⟩
  | q + 4, hq => omega
theorem start_any (a : Nat) (ha : a ≤ 60) (w : World) : Calls Tryz.prog 35 #[.int .i64 (a : Int)] w fun e w' => e = .returned (spv (Sp.at_ (a : Int))) ∧ Kp w w' := by
 have c1 : IntKind.i8.wrap (a : Int) = (a : Int) := by rw [wrap_i8]; omega
 have HE : Hid (spv (Sp.only 0 ⟨(a : Int), 0, 0, 0, 0, 0, 0⟩) = spv (Sp.at_ (a : Int))) := rfl
 go_enter Tryz.func35, Tryz.ntmps35
 go_upto_region 1 with fail
 refine opq (fun W0 => W0.heap[w.heap.size]? = some (.cells #[.int .i8 0, .int .i8 0, .int .i8 0, .int .i8 0, .int .i8 0, .int .i8 0, .int .i8 0] 83) ∧ Kp w W0) ⟨by exact last_of _ _, by exact kpt⟩ ?_
 rintro W0 ⟨xB0, xK0⟩
 have B0 := hid xB0
 have K0 := hid xK0
 clear xB0 xK0
 go_wp2_with fail
 refine (only_any ⟨(a : Int), 0, 0, 0, 0, 0, 0⟩ 0 (by omega) _).mono ?_
 rintro e w1 ⟨rfl, k1⟩
 rw [HE.out]
 have B1 := hid (bl_kp B0.out k1)
 have K1 := hid (K0.out.trans k1)
 clear k1 B0 K0
 obtain ⟨z0, fz0, z1, fz1, z2, fz2, z3, fz3, z4, fz4, z5, fz5, z6, fz6⟩ := cellf7 (B1.out)
 go_wp2_with fail
 exact bodyPost_ret (v := .agg _) (sp_ret rfl _ _ _ _ rfl (bl_set7 B1.out _ _ _ _ _ _ _) rfl) rfl ⟨rfl, Ks.up (P := w.heap.size) (ks_set7 _ _ _ _ _ _ _) K1.out (by omega)⟩
end Go.Proofs.YtnajcnhgeggngaaGreat.Way

/-! ### Key -/

namespace Go.Proofs.YtnajcnhgeggngaaGreat.Way
open Go.RowKit Go.Proofs.YtnajcnhgeggngaaGreat Go.Maps

theorem wlaid : laidOutB Tryz.prog = true := by kernel_rfl
theorem types_size : ∃ m, Tryz.prog.types.size + 1 = m + 6 := ⟨Tryz.prog.types.size - 5, by kernel_rfl⟩
theorem law83 : WideMaps.KeyLaw Tryz.prog 83 := deep_law_laid wlaid (m := 8) (by decide) (of_decide_eq_true (by kernel_rfl)) (by kernel_rfl) (by kernel_rfl)
theorem keyed83 : Keyed Tryz.prog 83 := Keyed.of_law law83
theorem law220 : WideMaps.KeyLaw Tryz.prog 220 := deep_law_laid wlaid (m := 8) (by decide) (of_decide_eq_true (by kernel_rfl)) (by kernel_rfl) (by kernel_rfl)
theorem keyed220 : Keyed Tryz.prog 220 := Keyed.of_law law220

theorem lit78 (d : Nat) (n : Int) (h : (Lit.int .i8 n).wf = true) : Tryz.prog.keyLits (d + 1) 78 [.int .i8 n] = some [.int .i8 n] := by
 unfold Program.keyLits
 simp [Tryz.underlying78, h]
theorem cells78 : Tryz.prog.cellsOf 78 = 1 := by kernel_rfl
theorem cells80 : Tryz.prog.cellsOf 80 = 2 := by kernel_rfl
theorem cells81 : Tryz.prog.cellsOf 81 = 6 := by kernel_rfl
theorem cells83 : Tryz.prog.cellsOf 83 = 7 := by kernel_rfl
theorem lit80 (d : Nat) (f t : Int) (hf : (Lit.int .i8 f).wf = true) (ht : (Lit.int .i8 t).wf = true) : Tryz.prog.keyLits (d + 2) 80 [.int .i8 f, .int .i8 t] = some [.int .i8 f, .int .i8 t] := by
 unfold Program.keyLits
 simp [Tryz.underlying80, cells80, cells78, lit78 _ _ hf, lit78 _ _ ht]
theorem lit81 (d : Nat) (f t g u k v : Int) (h1 : (Lit.int .i8 f).wf = true) (h2 : (Lit.int .i8 t).wf = true) (h3 : (Lit.int .i8 g).wf = true) (h4 : (Lit.int .i8 u).wf = true) (h5 : (Lit.int .i8 k).wf = true) (h6 : (Lit.int .i8 v).wf = true) :
  Tryz.prog.keyLits (d + 3) 81 [.int .i8 f, .int .i8 t, .int .i8 g, .int .i8 u, .int .i8 k, .int .i8 v] = some [.int .i8 f, .int .i8 t, .int .i8 g, .int .i8 u, .int .i8 k, .int .i8 v] := by
 unfold Program.keyLits
 simp [Tryz.underlying81, cells81, cells80, show List.range 3 = [0, 1, 2] from rfl, lit80 _ _ _ h1 h2, lit80 _ _ _ h3 h4, lit80 _ _ _ h5 h6]
theorem wf8 (n : Int) (h : -1 ≤ n) (h2 : n ≤ 60) : (Lit.int .i8 n).wf = true := by
 simp [Lit.wf, IntKind.min, IntKind.max, IntKind.signed, IntKind.bits]; omega
theorem Sp.Ok.wf {x : Sp} (h : x.Ok) : ((Lit.int .i8 x.a).wf = true ∧ (Lit.int .i8 x.f0).wf = true ∧ (Lit.int .i8 x.t0).wf = true) ∧ (Lit.int .i8 x.f1).wf = true ∧ (Lit.int .i8 x.t1).wf = true ∧ (Lit.int .i8 x.f2).wf = true ∧ (Lit.int .i8 x.t2).wf = true := by
 have h0 := h.a0
 have h1 := h.a1
 have s0 := h.s0
 have s1 := h.s1
 have s2 := h.s2
 unfold Spn at s0 s1 s2
 exact ⟨⟨wf8 _ (by omega) (by omega), wf8 _ (by omega) (by omega), wf8 _ (by omega) (by omega)⟩, wf8 _ (by omega) (by omega), wf8 _ (by omega) (by omega), wf8 _ (by omega) (by omega), wf8 _ (by omega) (by omega)⟩
theorem lit83 (d : Nat) (x : Sp) (h : x.Ok) : Tryz.prog.keyLits (d + 4) 83 [.int .i8 x.a, .int .i8 x.f0, .int .i8 x.t0, .int .i8 x.f1, .int .i8 x.t1, .int .i8 x.f2, .int .i8 x.t2] = some [.int .i8 x.a, .int .i8 x.f0, .int .i8 x.t0, .int .i8 x.f1, .int .i8 x.t1, .int .i8 x.f2, .int .i8 x.t2] := by
 obtain ⟨⟨q0, q1, q2⟩, q3, q4, q5, q6⟩ := h.wf
 unfold Program.keyLits
 simp [Tryz.underlying83, cells83, cells81, cells78, lit78 _ _ q0, lit81 _ _ _ _ _ _ _ q1 q2 q3 q4 q5 q6]
theorem keytype83 : Tryz.prog.keyType 83 = true := by kernel_rfl
theorem key_sp (x : Sp) (h : x.Ok) : ∃ kl, keyOf Tryz.prog 83 (spv x) = some kl := by
 obtain ⟨m, hm⟩ := types_size
 refine ⟨.string (keyBytes [.int .i8 x.a, .int .i8 x.f0, .int .i8 x.t0, .int .i8 x.f1, .int .i8 x.t1, .int .i8 x.f2, .int .i8 x.t2]), ?_⟩
 unfold keyOf
 simp only [Tryz.underlying83]
 rw [if_pos (by rw [keytype83]; simp [Value.formed, Tryz.underlying83, cells83]), hm]
 simp only [Value.cells]
 rw [lit83 (m + 2) x h]
 rfl
end Go.Proofs.YtnajcnhgeggngaaGreat.Way
