/-
  Texts of this claim: Spot, Spot2, Wp, Key, MapW, Wm, Used, InRow, InAlt, Use50, Leaf, Step, StepB, WLeaf, Own7.
-/
import Derived.Test.YtnajcnhgeggngaaGreatM2
import Derived.Test.YtnajcnhgeggngaaGreatM5
import Derived.Maps.Own
import Derived.Maps.OwnOps
import Derived.Maps.OwnSet
import Derived.Maps.Views
import Derived.DeepKeys4
import Derived.LaidHandle
import Derived.Shelf.Strings.Prefix
import Derived.Maps.AppendAt
import Derived.OwnWalk
import Derived.Laws.OwnMore

/-! ### Spot -/

namespace Go.Proofs.YtnajcnhgeggngaaGreat.Way
set_option maxHeartbeats 2000000
set_option maxRecDepth 100000
open Go.RowKit Go.Proofs.YtnajcnhgeggngaaGreat

structure Sp where
 a : Int
 f0 : Int
 t0 : Int
 f1 : Int
 t1 : Int
 f2 : Int
 t2 : Int
deriving DecidableEq
abbrev spv (x : Sp) : Value := .agg #[.int .i8 x.a, .int .i8 x.f0, .int .i8 x.t0, .int .i8 x.f1, .int .i8 x.t1, .int .i8 x.f2, .int .i8 x.t2]
abbrev spo (x : Sp) : Obj := .cells #[.int .i8 x.a, .int .i8 x.f0, .int .i8 x.t0, .int .i8 x.f1, .int .i8 x.t1, .int .i8 x.f2, .int .i8 x.t2] 83
def bit0 (g : Nat) : Bool := g % 2 == 1
def bit1 (g : Nat) : Bool := g / 2 % 2 == 1
def bit2 (g : Nat) : Bool := g / 4 % 2 == 1
def Sp.only (g : Nat) (x : Sp) : Sp := ⟨x.a, if bit0 g then x.f0 else -1, if bit0 g then x.t0 else -1, if bit1 g then x.f1 else -1, if bit1 g then x.t1 else -1, if bit2 g then x.f2 else -1, if bit2 g then x.t2 else -1⟩
def Sp.lacks (x : Sp) : Nat := (if x.f0 < 0 then 1 else 0) + (if x.f1 < 0 then 2 else 0) + (if x.f2 < 0 then 4 else 0)
def Sp.behind (x y : Sp) : Sp := ⟨x.a, if x.f0 < 0 then y.f0 else x.f0, if x.f0 < 0 then y.t0 else x.t0, if x.f1 < 0 then y.f1 else x.f1, if x.f1 < 0 then y.t1 else x.t1, if x.f2 < 0 then y.f2 else x.f2, if x.f2 < 0 then y.t2 else x.t2⟩
def Sp.moved (x : Sp) (n : Int) : Sp := ⟨x.a + n, x.f0, x.t0, x.f1, x.t1, x.f2, x.t2⟩
def Sp.at_ (a : Int) : Sp := ⟨a, -1, -1, -1, -1, -1, -1⟩
def Spn (f t : Int) : Prop := (f = -1 ∧ t = -1) ∨ (0 ≤ f ∧ f ≤ t ∧ t ≤ 60)
structure Sp.Ok (x : Sp) : Prop where
 a0 : 0 ≤ x.a
 a1 : x.a ≤ 60
 s0 : Spn x.f0 x.t0
 s1 : Spn x.f1 x.t1
 s2 : Spn x.f2 x.t2
theorem Sp.Ok.only {x : Sp} (h : x.Ok) (g : Nat) : (x.only g).Ok := by
 refine ⟨h.a0, h.a1, ?_, ?_, ?_⟩ <;> (unfold Sp.only; simp only) 
 ·
  cases bit0 g
  ·
   exact Or.inl ⟨rfl, rfl⟩
  ·
   exact h.s0
 ·
  cases bit1 g
  ·
   exact Or.inl ⟨rfl, rfl⟩
  ·
   exact h.s1
 ·
  cases bit2 g
  ·
   exact Or.inl ⟨rfl, rfl⟩
  ·
   exact h.s2
theorem Sp.Ok.behind {x y : Sp} (h : x.Ok) (k : y.Ok) : (x.behind y).Ok := by
 refine ⟨h.a0, h.a1, ?_, ?_, ?_⟩ <;> (unfold Sp.behind; simp only)
 ·
  by_cases q : x.f0 < 0
  ·
   rw [if_pos q, if_pos q]; exact k.s0
  ·
   rw [if_neg q, if_neg q]; exact h.s0
 ·
  by_cases q : x.f1 < 0
  ·
   rw [if_pos q, if_pos q]; exact k.s1
  ·
   rw [if_neg q, if_neg q]; exact h.s1
 ·
  by_cases q : x.f2 < 0
  ·
   rw [if_pos q, if_pos q]; exact k.s2
  ·
   rw [if_neg q, if_neg q]; exact h.s2
theorem bl_set7 {w : World} {B : Nat} {a0 a1 a2 a3 a4 a5 a6 : Value} {t : TypeId} (h : w.heap[B]? = some (.cells #[a0, a1, a2, a3, a4, a5, a6] t)) (x0 x1 x2 x3 x4 x5 x6 : Value) :
  (((((((w.setCell ⟨B, 0, none⟩ x0).setCell ⟨B, 1, none⟩ x1).setCell ⟨B, 2, none⟩ x2).setCell ⟨B, 3, none⟩ x3).setCell ⟨B, 4, none⟩ x4).setCell ⟨B, 5, none⟩ x5).setCell ⟨B, 6, none⟩ x6).heap[B]? = some (.cells #[x0, x1, x2, x3, x4, x5, x6] t) := by
 have h0 : (w.setCell ⟨B, 0, none⟩ x0).heap[B]? = some (.cells #[x0, a1, a2, a3, a4, a5, a6] t) := bl_put h x0
 have h1 : ((w.setCell ⟨B, 0, none⟩ x0).setCell ⟨B, 1, none⟩ x1).heap[B]? = some (.cells #[x0, x1, a2, a3, a4, a5, a6] t) := bl_put h0 x1
 have h2 : (((w.setCell ⟨B, 0, none⟩ x0).setCell ⟨B, 1, none⟩ x1).setCell ⟨B, 2, none⟩ x2).heap[B]? = some (.cells #[x0, x1, x2, a3, a4, a5, a6] t) := bl_put h1 x2
 have h3 : ((((w.setCell ⟨B, 0, none⟩ x0).setCell ⟨B, 1, none⟩ x1).setCell ⟨B, 2, none⟩ x2).setCell ⟨B, 3, none⟩ x3).heap[B]? = some (.cells #[x0, x1, x2, x3, a4, a5, a6] t) := bl_put h2 x3
 have h4 : (((((w.setCell ⟨B, 0, none⟩ x0).setCell ⟨B, 1, none⟩ x1).setCell ⟨B, 2, none⟩ x2).setCell ⟨B, 3, none⟩ x3).setCell ⟨B, 4, none⟩ x4).heap[B]? = some (.cells #[x0, x1, x2, x3, x4, a5, a6] t) := bl_put h3 x4
 have h5 : ((((((w.setCell ⟨B, 0, none⟩ x0).setCell ⟨B, 1, none⟩ x1).setCell ⟨B, 2, none⟩ x2).setCell ⟨B, 3, none⟩ x3).setCell ⟨B, 4, none⟩ x4).setCell ⟨B, 5, none⟩ x5).heap[B]? = some (.cells #[x0, x1, x2, x3, x4, x5, a6] t) := bl_put h4 x5
 have h6 : (((((((w.setCell ⟨B, 0, none⟩ x0).setCell ⟨B, 1, none⟩ x1).setCell ⟨B, 2, none⟩ x2).setCell ⟨B, 3, none⟩ x3).setCell ⟨B, 4, none⟩ x4).setCell ⟨B, 5, none⟩ x5).setCell ⟨B, 6, none⟩ x6).heap[B]? = some (.cells #[x0, x1, x2, x3, x4, x5, x6] t) := bl_put h5 x6
 exact h6
theorem ks_set7 {w : World} {B : Nat} (x0 x1 x2 x3 x4 x5 x6 : Value) : Ks B w (((((((w.setCell ⟨B, 0, none⟩ x0).setCell ⟨B, 1, none⟩ x1).setCell ⟨B, 2, none⟩ x2).setCell ⟨B, 3, none⟩ x3).setCell ⟨B, 4, none⟩ x4).setCell ⟨B, 5, none⟩ x5).setCell ⟨B, 6, none⟩ x6) :=
 ((((((((Ks.refl B w).set 0 x0).set 1 x1).set 2 x2).set 3 x3).set 4 x4).set 5 x5).set 6 x6)
theorem wrap_i8 (n : Int) : IntKind.i8.wrap n = (n + 128) % 256 - 128 := by
 simp [IntKind.wrap, IntKind.bits, IntKind.signed]
 split <;> omega
theorem sp_ret {fn : Func} {p : Tmp} (h : fn.results = #[.cell p 83]) (tmps : Array Value) (w : World) (S : Nat) (cs : Array Value) (hp : tmps.getD p undef = .pointer (some ⟨S, 0, none⟩)) (hA : w.heap[S]? = some (.cells cs 83)) (hc : cs.size = 7) : (results fn tmps).run Tryz.prog w = .ok (.agg cs) w :=
 results_cell_row h tmps w S 83 _ (0, 0) _ hp hA Tryz.underlying83 rfl (by rw [hc]; kernel_rfl)
theorem Kp.set {w W : World} (k : Kp w W) {B : Nat} (hB : w.heap.size ≤ B) (j : Nat) (u : Value) : Kp w (W.setCell ⟨B, j, none⟩ u) := k.setCell hB u

theorem oneGroup_any (n : Int) (h1 : n = 1 ∨ n = 2 ∨ n = 3) (w : World) : Calls Tryz.prog 52 #[.int .i64 n] w fun e w' => e = .returned (.int .u8 (if n = 1 then 1 else if n = 2 then 2 else 4)) ∧ w' = w := by
 go_enter Tryz.func52, Tryz.ntmps52
 rcases h1 with rfl | rfl | rfl
 ·
  go_wp2_with fail
  go_ret
  exact ⟨rfl, rfl⟩
 ·
  go_wp2_with fail
  go_ret
  exact ⟨rfl, rfl⟩
 ·
  go_wp2_with fail
  go_ret
  exact ⟨rfl, rfl⟩
theorem and_bit (g : Nat) (h : g < 8) : bits .and .u8 (g : Int) 1 = (if bit0 g then 1 else 0) ∧ bits .and .u8 (g : Int) 2 = (if bit1 g then 2 else 0) ∧ bits .and .u8 (g : Int) 4 = (if bit2 g then 4 else 0) := by
 match g, h with
 | 0, _ => decide
 | 1, _ => decide
 | 2, _ => decide
 | 3, _ => decide
 | 4, _ => decide
 | 5, _ => decide
 | 6, _ => decide
 | 7, _ => decide
def bitN (g : Nat) (i : Nat) : Bool := if i = 1 then bit0 g else if i = 2 then bit1 g else bit2 g
theorem has_any (g : Nat) (hg : g < 8) (n : Int) (h1 : n = 1 ∨ n = 2 ∨ n = 3) (w : World) : Calls Tryz.prog 86 #[.int .u8 (g : Int), .int .i64 n] w fun e w' => e = .returned (.bool (bitN g n.toNat)) ∧ w' = w := by
 have HA := and_bit g hg
 go_enter Tryz.func86, Tryz.ntmps86
 go_wp2_with fail
 refine (oneGroup_any n h1 _).mono ?_
 rintro e w1 ⟨rfl, rfl⟩
 rcases h1 with rfl | rfl | rfl
 ·
  have e1 := HA.1
  cases hb : bit0 g
  ·
   rw [hb] at e1
   go_wp2_with fail
   go_ret
   exact ⟨by unfold bitN; simp [hb], rfl⟩
  ·
   rw [hb] at e1
   go_wp2_with fail
   go_ret
   exact ⟨by unfold bitN; simp [hb], rfl⟩
 ·
  have e1 := HA.2.1
  cases hb : bit1 g
  ·
   rw [hb] at e1
   go_wp2_with fail
   go_ret
   exact ⟨by unfold bitN; simp [hb], rfl⟩
  ·
   rw [hb] at e1
   go_wp2_with fail
   go_ret
   exact ⟨by unfold bitN; simp [hb], rfl⟩
 ·
  have e1 := HA.2.2
  cases hb : bit2 g
  ·
   rw [hb] at e1
   go_wp2_with fail
   go_ret
   exact ⟨by unfold bitN; simp [hb], rfl⟩
  ·
   rw [hb] at e1
   go_wp2_with fail
   go_ret
   exact ⟨by unfold bitN; simp [hb], rfl⟩
theorem none_any (f t : Int) (w : World) : Calls Tryz.prog 107 #[.agg #[.int .i8 f, .int .i8 t]] w fun e w' => e = .returned (.bool (decide (f < 0))) ∧ Kp w w' := by
 go_enter Tryz.func107, Tryz.ntmps107
 go_wp2_with fail
 go_ret
 exact ⟨rfl, (Kp.refl _).alloc _⟩
theorem moved_any (x : Sp) (n : Nat) (hx : x.Ok) (hn : x.a + n ≤ 60) (w : World) : Calls Tryz.prog 81 #[spv x, .int .i64 (n : Int)] w fun e w' => e = .returned (spv (x.moved n)) ∧ Kp w w' := by
 have h0 := hx.a0
 have c1 : IntKind.i8.wrap (n : Int) = (n : Int) := by rw [wrap_i8]; omega
 have c2 : IntKind.i8.wrap (x.a + (n : Int)) = x.a + (n : Int) := by rw [wrap_i8]; omega
 have hE : Hid (spv (x.moved n) = spv (x.moved n)) := rfl
 obtain ⟨a, f0, t0, f1, t1, f2, t2⟩ := x
 simp only at h0 c2
 clear hx hn h0 hE
 go_enter Tryz.func81, Tryz.ntmps81
 go_upto_region 1 with fail
 refine opq (fun W0 => W0.heap[w.heap.size]? = some (spo ⟨a, f0, t0, f1, t1, f2, t2⟩) ∧ W0.heap[(w.heap.size + 1)]? = some (.cells #[.int .i8 0, .int .i8 0, .int .i8 0, .int .i8 0, .int .i8 0, .int .i8 0, .int .i8 0] 83) ∧ Kp w W0) ⟨by exact bl_alloc (last_of _ _) _, by exact last_at _ _ _ (by simp), by exact kpt⟩ ?_
 rintro W0 ⟨xA0, xB0, xK0⟩
 have A0 := hid xA0
 have B0 := hid xB0
 have K0 := hid xK0
 clear xA0 xB0 xK0
 obtain ⟨p0, fp0, p1, fp1, p2, fp2, p3, fp3, p4, fp4, p5, fp5, p6, fp6⟩ := cellf7 (A0.out)
 go_upto_region 2 with fail
 refine opq (fun W1 => W1.heap[w.heap.size]? = some (spo ⟨a + (n : Int), f0, t0, f1, t1, f2, t2⟩) ∧ W1.heap[(w.heap.size + 1)]? = some (.cells #[.int .i8 0, .int .i8 0, .int .i8 0, .int .i8 0, .int .i8 0, .int .i8 0, .int .i8 0] 83) ∧ Kp w W1) ⟨by exact bl_put A0.out _, by exact bl_set B0.out (by omega) _, by exact Ks.up (P := w.heap.size) ((Ks.refl _ _).set _ _) K0.out (by omega)⟩ ?_
 rintro W1 ⟨xA1, xB1, xK1⟩
 have A1 := hid xA1
 have B1 := hid xB1
 have K1 := hid xK1
 clear xA1 xB1 xK1
 clear p0 p1 p2 p3 p4 p5 p6 fp0 fp1 fp2 fp3 fp4 fp5 fp6
 obtain ⟨q0, q1, q2, q3, q4, q5, q6⟩ := cells7 (A1.out)
 obtain ⟨z0, fz0, z1, fz1, z2, fz2, z3, fz3, z4, fz4, z5, fz5, z6, fz6⟩ := cellf7 (B1.out)
 go_wp2_with fail
 exact bodyPost_ret (v := .agg _) (sp_ret rfl _ _ _ _ rfl (bl_set7 B1.out _ _ _ _ _ _ _) rfl) rfl ⟨rfl, Ks.up (P := w.heap.size + 1) (ks_set7 _ _ _ _ _ _ _) K1.out (by omega)⟩
def onlyN (q g : Nat) (x : Sp) : Sp := ⟨x.a, if q < 1 ∨ bit0 g then x.f0 else -1, if q < 1 ∨ bit0 g then x.t0 else -1, if q < 2 ∨ bit1 g then x.f1 else -1, if q < 2 ∨ bit1 g then x.t1 else -1, if q < 3 ∨ bit2 g then x.f2 else -1, if q < 3 ∨ bit2 g then x.t2 else -1⟩
theorem onlyN_z (g : Nat) (x : Sp) : onlyN 0 g x = x := by
 unfold onlyN
 simp
theorem onlyN_3 (g : Nat) (x : Sp) : onlyN 3 g x = x.only g := by
 unfold onlyN Sp.only
 simp
theorem only_any (x : Sp) (g : Nat) (hg : g < 8) (w : World) : Calls Tryz.prog 55 #[spv x, .int .u8 (g : Int)] w fun e w' => e = .returned (spv (x.only g)) ∧ Kp w w' := by
 go_enter Tryz.func55, Tryz.ntmps55
 go_upto_region 1 with fail
 refine opq (fun W0 => W0.heap[w.heap.size]? = some (spo x) ∧ W0.heap[(w.heap.size + 1)]? = some (.cells #[.int .i8 0, .int .i8 0, .int .i8 0, .int .i8 0, .int .i8 0, .int .i8 0, .int .i8 0] 83) ∧ Kp w W0) ⟨by exact bl_alloc (last_of _ _) _, by exact last_at _ _ _ (by simp), by exact kpt⟩ ?_
 rintro W0 ⟨xA0, xB0, xK0⟩
 have A0 := hid xA0
 have B0 := hid xB0
 have K0 := hid xK0
 clear xA0 xB0 xK0
 by_cases h7 : g = 7
 ·
  subst h7
  obtain ⟨p0, p1, p2, p3, p4, p5, p6⟩ := cells7 (A0.out)
  obtain ⟨z0, fz0, z1, fz1, z2, fz2, z3, fz3, z4, fz4, z5, fz5, z6, fz6⟩ := cellf7 (B0.out)
  go_wp2_with fail
  exact bodyPost_ret (v := .agg _) (sp_ret rfl _ _ _ _ rfl (bl_set7 B0.out _ _ _ _ _ _ _) rfl) rfl ⟨rfl, Ks.up (P := w.heap.size + 1) (ks_set7 _ _ _ _ _ _ _) K0.out (by omega)⟩
 have h7b : ((g : Int) == 7) = false := by rw [beq_eq_false_iff_ne]; omega
 have h7c : ¬ (g : Int) = 7 := by omega
 go_wp2_with fail
 go_loopg [9] 3 (fun gg i wr => ∃ q : Nat, q + gg = 3 ∧ i = .int .i64 (q : Int) ∧ wr.heap[w.heap.size]? = some (spo (onlyN q g x)) ∧ wr.heap[w.heap.size + 1]? = some (.cells #[.int .i8 0, .int .i8 0, .int .i8 0, .int .i8 0, .int .i8 0, .int .i8 0, .int .i8 0] 83) ∧ Kp w wr)
 case atStart => exact ⟨0, by omega, rfl, by rw [onlyN_z]; exact A0.out, B0.out, K0.out⟩
 case round =>
  obtain ⟨q, hq, rfl, hA, hB, hK⟩ := hrel
  have A := hid hA
  have B := hid hB
  have K := hid hK
  clear hA hB hK A0 B0 K0 h7b h7c
  have hs : w.heap.size < wr.heap.size := bl_lt A.out
  match q, hq with
  | 0, hq =>
   obtain rfl : gk = 3 := by omega
   cases hb : bit0 g with
   | true =>
    have HB : Hid (bitN g 1 = true) := by show _ = _; unfold bitN; simp [hb]
    have HE : Hid (onlyN 1 g x = onlyN 0 g x) := by show _ = _; unfold onlyN; simp [hb]
    clear hb
    go_wp2_with fail
    refine (has_any g hg 1 (by omega) _).mono ?_
    rintro e w1 ⟨rfl, rfl⟩
    rw [show (1 : Int).toNat = 1 from rfl, HB.out]
    go_wp2_with fail
    go_roundg 2
    case measure => omega
    case rel => exact ⟨1, by omega, rfl, by rw [HE.out]; exact A.out, B.out, K.out⟩
   | false =>
    have HB : Hid (bitN g 1 = false) := by show _ = _; unfold bitN; simp [hb]
    have HE : Hid (onlyN 1 g x = ⟨x.a, -1, -1, (onlyN 0 g x).f1, (onlyN 0 g x).t1, (onlyN 0 g x).f2, (onlyN 0 g x).t2⟩) := by show _ = _; unfold onlyN; simp [hb]
    clear hb
    obtain ⟨p0, fp0, p1, fp1, p2, fp2, p3, fp3, p4, fp4, p5, fp5, p6, fp6⟩ := cellf7 (A.out)
    go_wp2_with fail
    refine (has_any g hg 1 (by omega) _).mono ?_
    rintro e w1 ⟨rfl, rfl⟩
    rw [show (1 : Int).toNat = 1 from rfl, HB.out]
    go_wp2_with fail
    go_roundg 2
    case measure => omega
    case rel => exact ⟨1, by omega, rfl, by rw [HE.out]; exact bl_put (bl_put A.out _) _, bl_set (bl_set B.out (by omega) _) (by omega) _, Ks.up (P := w.heap.size) (((Ks.refl _ _).set _ _).set _ _) K.out (by omega)⟩
  | 1, hq =>
   obtain rfl : gk = 2 := by omega
   cases hb : bit1 g with
   | true =>
    have HB : Hid (bitN g 2 = true) := by show _ = _; unfold bitN; simp [hb]
    have HE : Hid (onlyN 2 g x = onlyN 1 g x) := by show _ = _; unfold onlyN; simp [hb]
    clear hb
    go_wp2_with fail
    refine (has_any g hg 2 (by omega) _).mono ?_
    rintro e w1 ⟨rfl, rfl⟩
    rw [show (2 : Int).toNat = 2 from rfl, HB.out]
    go_wp2_with fail
    go_roundg 1
    case measure => omega
    case rel => exact ⟨2, by omega, rfl, by rw [HE.out]; exact A.out, B.out, K.out⟩
   | false =>
    have HB : Hid (bitN g 2 = false) := by show _ = _; unfold bitN; simp [hb]
    have HE : Hid (onlyN 2 g x = ⟨x.a, (onlyN 1 g x).f0, (onlyN 1 g x).t0, -1, -1, (onlyN 1 g x).f2, (onlyN 1 g x).t2⟩) := by show _ = _; unfold onlyN; simp [hb]
    clear hb
    obtain ⟨p0, fp0, p1, fp1, p2, fp2, p3, fp3, p4, fp4, p5, fp5, p6, fp6⟩ := cellf7 (A.out)
    go_wp2_with fail
    refine (has_any g hg 2 (by omega) _).mono ?_
    rintro e w1 ⟨rfl, rfl⟩
    rw [show (2 : Int).toNat = 2 from rfl, HB.out]
    go_wp2_with fail
    go_roundg 1
    case measure => omega
    case rel => exact ⟨2, by omega, rfl, by rw [HE.out]; exact bl_put (bl_put A.out _) _, bl_set (bl_set B.out (by omega) _) (by omega) _, Ks.up (P := w.heap.size) (((Ks.refl _ _).set _ _).set _ _) K.out (by omega)⟩
  | 2, hq =>
   obtain rfl : gk = 1 := by omega
   cases hb : bit2 g with
   | true =>
    have HB : Hid (bitN g 3 = true) := by show _ = _; unfold bitN; simp [hb]
    have HE : Hid (onlyN 3 g x = onlyN 2 g x) := by show _ = _; unfold onlyN; simp [hb]
    clear hb
    go_wp2_with fail
    refine (has_any g hg 3 (by omega) _).mono ?_
    rintro e w1 ⟨rfl, rfl⟩
    rw [show (3 : Int).toNat = 3 from rfl, HB.out]
    go_wp2_with fail
    go_roundg 0
    case measure => omega
    case rel => exact ⟨3, by omega, rfl, by rw [HE.out]; exact A.out, B.out, K.out⟩
   | false =>
    have HB : Hid (bitN g 3 = false) := by show _ = _; unfold bitN; simp [hb]
    have HE : Hid (onlyN 3 g x = ⟨x.a, (onlyN 2 g x).f0, (onlyN 2 g x).t0, (onlyN 2 g x).f1, (onlyN 2 g x).t1, -1, -1⟩) := by show _ = _; unfold onlyN; simp [hb]
    clear hb
    obtain ⟨p0, fp0, p1, fp1, p2, fp2, p3, fp3, p4, fp4, p5, fp5, p6, fp6⟩ := cellf7 (A.out)
    go_wp2_with fail
    refine (has_any g hg 3 (by omega) _).mono ?_
    rintro e w1 ⟨rfl, rfl⟩
    rw [show (3 : Int).toNat = 3 from rfl, HB.out]
    go_wp2_with fail
    go_roundg 0
    case measure => omega
    case rel => exact ⟨3, by omega, rfl, by rw [HE.out]; exact bl_put (bl_put A.out _) _, bl_set (bl_set B.out (by omega) _) (by omega) _, Ks.up (P := w.heap.size) (((Ks.refl _ _).set _ _).set _ _) K.out (by omega)⟩
  | 3, hq =>
   obtain rfl : gk = 0 := by omega
   rw [onlyN_3] at A
   obtain ⟨p0, p1, p2, p3, p4, p5, p6⟩ := cells7 (A.out)
   obtain ⟨z0, fz0, z1, fz1, z2, fz2, z3, fz3, z4, fz4, z5, fz5, z6, fz6⟩ := cellf7 (B.out)
   go_wp2_with fail
   exact bodyPost_ret (v := .agg _) (sp_ret rfl _ _ _ _ rfl (bl_set7 B.out _ _ _ _ _ _ _) rfl) rfl ⟨rfl, Ks.up (P := w.heap.size + 1) (ks_set7 _ _ _ _ _ _ _) K.out (by omega)⟩
  | q + 4, hq => omega
end Go.Proofs.YtnajcnhgeggngaaGreat.Way

/-! ### Spot2 -/

namespace Go.Proofs.YtnajcnhgeggngaaGreat.Way
set_option maxHeartbeats 2000000
set_option maxRecDepth 100000
open Go.RowKit Go.Proofs.YtnajcnhgeggngaaGreat

def behN (q : Nat) (x y : Sp) : Sp := ⟨x.a, if 0 < q ∧ x.f0 < 0 then y.f0 else x.f0, if 0 < q ∧ x.f0 < 0 then y.t0 else x.t0, if 1 < q ∧ x.f1 < 0 then y.f1 else x.f1, if 1 < q ∧ x.f1 < 0 then y.t1 else x.t1, if 2 < q ∧ x.f2 < 0 then y.f2 else x.f2, if 2 < q ∧ x.f2 < 0 then y.t2 else x.t2⟩
theorem behN_z (x y : Sp) : behN 0 x y = x := by
 unfold behN
 simp
theorem behN_3 (x y : Sp) : behN 3 x y = x.behind y := by
 unfold behN Sp.behind
 simp
theorem behind_any (x y : Sp) (w : World) : Calls Tryz.prog 127 #[spv x, spv y] w fun e w' => e = .returned (spv (x.behind y)) ∧ Kp w w' := by
 go_enter Tryz.func127, Tryz.ntmps127
 go_upto_region 1 with fail
 refine opq (fun W0 => W0.heap[w.heap.size]? = some (spo x) ∧ W0.heap[(w.heap.size + 1)]? = some (spo y) ∧ W0.heap[(w.heap.size + 1 + 1)]? = some (.cells #[.int .i8 0, .int .i8 0, .int .i8 0, .int .i8 0, .int .i8 0, .int .i8 0, .int .i8 0] 83) ∧ Kp w W0) ⟨by exact bl_alloc (bl_alloc (last_of _ _) _) _, by exact bl_alloc (last_at _ _ _ (by simp)) _, by exact last_at _ _ _ (by simp), by exact kpt⟩ ?_
 rintro W0 ⟨xA0, xY0, xB0, xK0⟩
 have A0 := hid xA0
 have Y0 := hid xY0
 have B0 := hid xB0
 have K0 := hid xK0
 clear xA0 xY0 xB0 xK0
 go_wp2_with fail
 go_loopg [6] 3 (fun gg i wr => ∃ q : Nat, q + gg = 3 ∧ i = .int .i64 (q : Int) ∧ wr.heap[w.heap.size]? = some (spo (behN q x y)) ∧ wr.heap[w.heap.size + 1]? = some (spo y) ∧ wr.heap[w.heap.size + 1 + 1]? = some (.cells #[.int .i8 0, .int .i8 0, .int .i8 0, .int .i8 0, .int .i8 0, .int .i8 0, .int .i8 0] 83) ∧ Kp w wr)
 case atStart => exact ⟨0, by omega, rfl, by rw [behN_z]; exact A0.out, Y0.out, B0.out, K0.out⟩
 case round =>
  obtain ⟨q, hq, rfl, hA, hY, hB, hK⟩ := hrel
  have A := hid hA
  have Y := hid hY
  have B := hid hB
  have K := hid hK
  clear hA hY hB hK A0 Y0 B0 K0
  have hs : w.heap.size + 1 + 1 < wr.heap.size := bl_lt B.out
  match q, hq with
  | 0, hq =>
   obtain rfl : gk = 3 := by omega
   have HF : Hid ((behN 0 x y).f0 = x.f0) := by show _ = _; unfold behN; simp
   obtain ⟨p0, p1, p2, p3, p4, p5, p6⟩ := cells7 (A.out)
   by_cases hf : x.f0 < 0
   ·
    have HB : Hid (decide ((behN 0 x y).f0 < 0) = true) := by show _ = _; rw [HF.out]; exact decide_eq_true hf
    have HE : Hid (behN 1 x y = ⟨x.a, y.f0, y.t0, (behN 0 x y).f1, (behN 0 x y).t1, (behN 0 x y).f2, (behN 0 x y).t2⟩) := by show _ = _; unfold behN; simp [hf]
    clear hf
    go_wp2_with fail
    refine (none_any _ _ _).mono ?_
    rintro e w1 ⟨rfl, k1⟩
    rw [HB.out]
    clear p0 p1 p2 p3 p4 p5 p6
    have A1 := hid (bl_kp A.out k1)
    have Y1 := hid (bl_kp Y.out k1)
    have B1 := hid (bl_kp B.out k1)
    have K1 := hid (K.out.trans k1)
    clear k1 A Y B K
    obtain ⟨p0, fp0, p1, fp1, p2, fp2, p3, fp3, p4, fp4, p5, fp5, p6, fp6⟩ := cellf7 (A1.out)
    obtain ⟨y0, y1, y2, y3, y4, y5, y6⟩ := cells7 (Y1.out)
    go_wp2_with fail
    go_roundg 2
    case measure => omega
    case rel => exact ⟨1, by omega, rfl, by rw [HE.out]; exact bl_put (bl_put A1.out _) _, bl_set (bl_set Y1.out (by omega) _) (by omega) _, bl_set (bl_set B1.out (by omega) _) (by omega) _, Ks.up (P := w.heap.size) (((Ks.refl _ _).set _ _).set _ _) K1.out (by omega)⟩
   ·
    have HB : Hid (decide ((behN 0 x y).f0 < 0) = false) := by show _ = _; rw [HF.out]; exact decide_eq_false hf
    have HE : Hid (behN 1 x y = behN 0 x y) := by show _ = _; unfold behN; simp [hf]
    clear hf
    go_wp2_with fail
    refine (none_any _ _ _).mono ?_
    rintro e w1 ⟨rfl, k1⟩
    rw [HB.out]
    clear p0 p1 p2 p3 p4 p5 p6
    have A1 := hid (bl_kp A.out k1)
    have Y1 := hid (bl_kp Y.out k1)
    have B1 := hid (bl_kp B.out k1)
    have K1 := hid (K.out.trans k1)
    clear k1 A Y B K
    go_wp2_with fail
    go_roundg 2
    case measure => omega
    case rel => exact ⟨1, by omega, rfl, by rw [HE.out]; exact A1.out, Y1.out, B1.out, K1.out⟩
  | 1, hq =>
   obtain rfl : gk = 2 := by omega
   have HF : Hid ((behN 1 x y).f1 = x.f1) := by show _ = _; unfold behN; simp
   obtain ⟨p0, p1, p2, p3, p4, p5, p6⟩ := cells7 (A.out)
   by_cases hf : x.f1 < 0
   ·
    have HB : Hid (decide ((behN 1 x y).f1 < 0) = true) := by show _ = _; rw [HF.out]; exact decide_eq_true hf
    have HE : Hid (behN 2 x y = ⟨x.a, (behN 1 x y).f0, (behN 1 x y).t0, y.f1, y.t1, (behN 1 x y).f2, (behN 1 x y).t2⟩) := by show _ = _; unfold behN; simp [hf]
    clear hf
    go_wp2_with fail
    refine (none_any _ _ _).mono ?_
    rintro e w1 ⟨rfl, k1⟩
    rw [HB.out]
    clear p0 p1 p2 p3 p4 p5 p6
    have A1 := hid (bl_kp A.out k1)
    have Y1 := hid (bl_kp Y.out k1)
    have B1 := hid (bl_kp B.out k1)
    have K1 := hid (K.out.trans k1)
    clear k1 A Y B K
    obtain ⟨p0, fp0, p1, fp1, p2, fp2, p3, fp3, p4, fp4, p5, fp5, p6, fp6⟩ := cellf7 (A1.out)
    obtain ⟨y0, y1, y2, y3, y4, y5, y6⟩ := cells7 (Y1.out)
    go_wp2_with fail
    go_roundg 1
    case measure => omega
    case rel => exact ⟨2, by omega, rfl, by rw [HE.out]; exact bl_put (bl_put A1.out _) _, bl_set (bl_set Y1.out (by omega) _) (by omega) _, bl_set (bl_set B1.out (by omega) _) (by omega) _, Ks.up (P := w.heap.size) (((Ks.refl _ _).set _ _).set _ _) K1.out (by omega)⟩
   ·
    have HB : Hid (decide ((behN 1 x y).f1 < 0) = false) := by show _ = _; rw [HF.out]; exact decide_eq_false hf
    have HE : Hid (behN 2 x y = behN 1 x y) := by show _ = _; unfold behN; simp [hf]
    clear hf
    go_wp2_with fail
    refine (none_any _ _ _).mono ?_
    rintro e w1 ⟨rfl, k1⟩
    rw [HB.out]
    clear p0 p1 p2 p3 p4 p5 p6
    have A1 := hid (bl_kp A.out k1)
    have Y1 := hid (bl_kp Y.out k1)
    have B1 := hid (bl_kp B.out k1)
    have K1 := hid (K.out.trans k1)
    clear k1 A Y B K
    go_wp2_with fail
    go_roundg 1
    case measure => omega
    case rel => exact ⟨2, by omega, rfl, by rw [HE.out]; exact A1.out, Y1.out, B1.out, K1.out⟩
  | 2, hq =>
   obtain rfl : gk = 1 := by omega
   have HF : Hid ((behN 2 x y).f2 = x.f2) := by show _ = _; unfold behN; simp
   obtain ⟨p0, p1, p2, p3, p4, p5, p6⟩ := cells7 (A.out)
   by_cases hf : x.f2 < 0
   ·
    have HB : Hid (decide ((behN 2 x y).f2 < 0) = true) := by show _ = _; rw [HF.out]; exact decide_eq_true hf
    have HE : Hid (behN 3 x y = ⟨x.a, (behN 2 x y).f0, (behN 2 x y).t0, (behN 2 x y).f1, (behN 2 x y).t1, y.f2, y.t2⟩) := by show _ = _; unfold behN; simp [hf]
    clear hf
    go_wp2_with fail
    refine (none_any _ _ _).mono ?_
    rintro e w1 ⟨rfl, k1⟩
    rw [HB.out]
    clear p0 p1 p2 p3 p4 p5 p6
    have A1 := hid (bl_kp A.out k1)
    have Y1 := hid (bl_kp Y.out k1)
    have B1 := hid (bl_kp B.out k1)
    have K1 := hid (K.out.trans k1)
    clear k1 A Y B K
    obtain ⟨p0, fp0, p1, fp1, p2, fp2, p3, fp3, p4, fp4, p5, fp5, p6, fp6⟩ := cellf7 (A1.out)
    obtain ⟨y0, y1, y2, y3, y4, y5, y6⟩ := cells7 (Y1.out)
    go_wp2_with fail
    go_roundg 0
    case measure => omega
    case rel => exact ⟨3, by omega, rfl, by rw [HE.out]; exact bl_put (bl_put A1.out _) _, bl_set (bl_set Y1.out (by omega) _) (by omega) _, bl_set (bl_set B1.out (by omega) _) (by omega) _, Ks.up (P := w.heap.size) (((Ks.refl _ _).set _ _).set _ _) K1.out (by omega)⟩
   ·
    have HB : Hid (decide ((behN 2 x y).f2 < 0) = false) := by show _ = _; rw [HF.out]; exact decide_eq_false hf
    have HE : Hid (behN 3 x y = behN 2 x y) := by show _ = _; unfold behN; simp [hf]
    clear hf
    go_wp2_with fail
    refine (none_any _ _ _).mono ?_
    rintro e w1 ⟨rfl, k1⟩
    rw [HB.out]
    clear p0 p1 p2 p3 p4 p5 p6
    have A1 := hid (bl_kp A.out k1)
    have Y1 := hid (bl_kp Y.out k1)
    have B1 := hid (bl_kp B.out k1)
    have K1 := hid (K.out.trans k1)
    clear k1 A Y B K
    go_wp2_with fail
    go_roundg 0
    case measure => omega
    case rel => exact ⟨3, by omega, rfl, by rw [HE.out]; exact A1.out, Y1.out, B1.out, K1.out⟩
  | 3, hq =>
   obtain rfl : gk = 0 := by omega
   rw [behN_3] at A
   obtain ⟨p0, p1, p2, p3, p4, p5, p6⟩ := cells7 (A.out)
   obtain ⟨z0, fz0, z1, fz1, z2, fz2, z3, fz3, z4, fz4, z5, fz5, z6, fz6⟩ := cellf7 (B.out)
   go_wp2_with fail
   exact bodyPost_ret (v := .agg _) (sp_ret rfl _ _ _ _ rfl (bl_set7 B.out _ _ _ _ _ _ _) rfl) rfl ⟨rfl, Ks.up (P := w.heap.size + 1 + 1) (ks_set7 _ _ _ _ _ _ _) K.out (by omega)⟩
  | q + 4, hq => omega
def lackN (q : Nat) (x : Sp) : Nat := (if 0 < q ∧ x.f0 < 0 then 1 else 0) + (if 1 < q ∧ x.f1 < 0 then 2 else 0) + (if 2 < q ∧ x.f2 < 0 then 4 else 0)
theorem lackN_3 (x : Sp) : lackN 3 x = x.lacks := by
 unfold lackN Sp.lacks
 simp
theorem lacks_lt (x : Sp) : x.lacks < 8 := by
 unfold Sp.lacks
 repeat' split
 all_goals omega
theorem lacks_any (x : Sp) (w : World) : Calls Tryz.prog 141 #[spv x] w fun e w' => e = .returned (.int .u8 (x.lacks : Int)) ∧ Kp w w' := by
 go_enter Tryz.func141, Tryz.ntmps141
 go_upto_region 1 with fail
 refine opq (fun W0 => W0.heap[w.heap.size]? = some (spo x) ∧ Kp w W0) ⟨by exact last_of _ _, by exact kpt⟩ ?_
 rintro W0 ⟨xA0, xK0⟩
 have A0 := hid xA0
 have K0 := hid xK0
 clear xA0 xK0
 go_wp2_with fail
 go_loopg [3, 5] 3 (fun gg v i wr => ∃ (q G : Nat), q + gg = 3 ∧ i = .int .i64 (q : Int) ∧ lackN q x = G ∧ v = .int .u8 (G : Int) ∧ wr.heap[w.heap.size]? = some (spo x) ∧ Kp w wr)
 case atStart => exact ⟨0, 0, by omega, rfl, by unfold lackN; simp, rfl, A0.out, K0.out⟩
 case round =>
  obtain ⟨q, G, hq, rfl, hG, rfl, hA, hK⟩ := hrel
  have A := hid hA
  have K := hid hK
  have HG := hid hG
  clear hA hK hG A0 K0
  obtain ⟨p0, p1, p2, p3, p4, p5, p6⟩ := cells7 (A.out)
  match q, hq with
  | 0, hq =>
   obtain rfl : gk = 3 := by omega
   have hv : G = 0 := by
    have h := HG.out
    unfold lackN at h
    simp at h
    skip
    all_goals omega
   by_cases hf : x.f0 < 0
   ·
    have HB : Hid (decide (x.f0 < 0) = true) := decide_eq_true hf
    have HE : Hid (lackN 1 x = G + 1) := by show _ = _; rw [← HG.out]; unfold lackN; simp [hf]
    clear hf
    go_wp2_with fail
    refine (none_any _ _ _).mono ?_
    rintro e w1 ⟨rfl, k1⟩
    rw [HB.out]
    have A1 := hid (bl_kp A.out k1)
    have K1 := hid (K.out.trans k1)
    clear p0 p1 p2 p3 p4 p5 p6
    clear k1 A K
    go_wp2_with fail
    refine (oneGroup_any 1 (by omega) _).mono ?_
    rintro e w2 ⟨rfl, rfl⟩
    rcases hv with rfl
    ·
     go_wp2_with fail
     go_roundg 2
     case measure => omega
     case rel => exact ⟨1, 1, by omega, rfl, by rw [HE.out], rfl, A1.out, K1.out⟩
   ·
    have HB : Hid (decide (x.f0 < 0) = false) := decide_eq_false hf
    have HE : Hid (lackN 1 x = G) := by show _ = _; rw [← HG.out]; unfold lackN; simp [hf]
    clear hf hv
    go_wp2_with fail
    refine (none_any _ _ _).mono ?_
    rintro e w1 ⟨rfl, k1⟩
    rw [HB.out]
    have A1 := hid (bl_kp A.out k1)
    have K1 := hid (K.out.trans k1)
    clear p0 p1 p2 p3 p4 p5 p6
    clear k1 A K
    go_wp2_with fail
    go_roundg 2
    case measure => omega
    case rel => exact ⟨1, G, by omega, rfl, by rw [HE.out], rfl, A1.out, K1.out⟩
  | 1, hq =>
   obtain rfl : gk = 2 := by omega
   have hv : G = 0 ∨ G = 1 := by
    have h := HG.out
    unfold lackN at h
    simp at h
    repeat' (split at h)
    all_goals omega
   by_cases hf : x.f1 < 0
   ·
    have HB : Hid (decide (x.f1 < 0) = true) := decide_eq_true hf
    have HE : Hid (lackN 2 x = G + 2) := by show _ = _; rw [← HG.out]; unfold lackN; simp [hf]
    clear hf
    go_wp2_with fail
    refine (none_any _ _ _).mono ?_
    rintro e w1 ⟨rfl, k1⟩
    rw [HB.out]
    have A1 := hid (bl_kp A.out k1)
    have K1 := hid (K.out.trans k1)
    clear p0 p1 p2 p3 p4 p5 p6
    clear k1 A K
    go_wp2_with fail
    refine (oneGroup_any 2 (by omega) _).mono ?_
    rintro e w2 ⟨rfl, rfl⟩
    rcases hv with rfl | rfl
    ·
     go_wp2_with fail
     go_roundg 1
     case measure => omega
     case rel => exact ⟨2, 2, by omega, rfl, by rw [HE.out], rfl, A1.out, K1.out⟩
    ·
     go_wp2_with fail
     go_roundg 1
     case measure => omega
     case rel => exact ⟨2, 3, by omega, rfl, by rw [HE.out], rfl, A1.out, K1.out⟩
   ·
    have HB : Hid (decide (x.f1 < 0) = false) := decide_eq_false hf
    have HE : Hid (lackN 2 x = G) := by show _ = _; rw [← HG.out]; unfold lackN; simp [hf]
    clear hf hv
    go_wp2_with fail
    refine (none_any _ _ _).mono ?_
    rintro e w1 ⟨rfl, k1⟩
    rw [HB.out]
    have A1 := hid (bl_kp A.out k1)
    have K1 := hid (K.out.trans k1)
    clear p0 p1 p2 p3 p4 p5 p6
    clear k1 A K
    go_wp2_with fail
    go_roundg 1
    case measure => omega
    case rel => exact ⟨2, G, by omega, rfl, by rw [HE.out], rfl, A1.out, K1.out⟩
  | 2, hq =>
   obtain rfl : gk = 1 := by omega
   have hv : G = 0 ∨ G = 1 ∨ G = 2 ∨ G = 3 := by
    have h := HG.out
    unfold lackN at h
    simp at h
    repeat' (split at h)
    all_goals omega
   by_cases hf : x.f2 < 0
   ·
    have HB : Hid (decide (x.f2 < 0) = true) := decide_eq_true hf
    have HE : Hid (lackN 3 x = G + 4) := by show _ = _; rw [← HG.out]; unfold lackN; simp [hf]
    clear hf
    go_wp2_with fail
    refine (none_any _ _ _).mono ?_
    rintro e w1 ⟨rfl, k1⟩
    rw [HB.out]
    have A1 := hid (bl_kp A.out k1)
    have K1 := hid (K.out.trans k1)
    clear p0 p1 p2 p3 p4 p5 p6
    clear k1 A K
    go_wp2_with fail
    refine (oneGroup_any 3 (by omega) _).mono ?_
    rintro e w2 ⟨rfl, rfl⟩
    rcases hv with rfl | rfl | rfl | rfl
    ·
     go_wp2_with fail
     go_roundg 0
     case measure => omega
     case rel => exact ⟨3, 4, by omega, rfl, by rw [HE.out], rfl, A1.out, K1.out⟩
    ·
     go_wp2_with fail
     go_roundg 0
     case measure => omega
     case rel => exact ⟨3, 5, by omega, rfl, by rw [HE.out], rfl, A1.out, K1.out⟩
    ·
     go_wp2_with fail
     go_roundg 0
     case measure => omega
     case rel => exact ⟨3, 6, by omega, rfl, by rw [HE.out], rfl, A1.out, K1.out⟩
    ·
     go_wp2_with fail
     go_roundg 0
     case measure => omega
     case rel => exact ⟨3, 7, by omega, rfl, by rw [HE.out], rfl, A1.out, K1.out⟩
   ·
    have HB : Hid (decide (x.f2 < 0) = false) := decide_eq_false hf
    have HE : Hid (lackN 3 x = G) := by show _ = _; rw [← HG.out]; unfold lackN; simp [hf]
    clear hf hv
    go_wp2_with fail
    refine (none_any _ _ _).mono ?_
    rintro e w1 ⟨rfl, k1⟩
    rw [HB.out]
    have A1 := hid (bl_kp A.out k1)
    have K1 := hid (K.out.trans k1)
    clear p0 p1 p2 p3 p4 p5 p6
    clear k1 A K
    go_wp2_with fail
    go_roundg 0
    case measure => omega
    case rel => exact ⟨3, G, by omega, rfl, by rw [HE.out], rfl, A1.out, K1.out⟩
  | 3, hq =>
   obtain rfl : gk = 0 := by omega
   have HX : Hid (G = x.lacks) := by show _ = _; rw [← HG.out, lackN_3]
   go_wp2_with fail
   go_ret
   exact ⟨by rw [HX.out]; rfl, K.out⟩
  | q + 4, hq => omega
theorem start_any (a : Nat) (ha : a ≤ 60) (w : World) : Calls Tryz.prog 35 #[.int .i64 (a : Int)] w fun e w' => e = .returned (spv (Sp.at_ (a : Int))) ∧ Kp w w' := by
 have c1 : IntKind.i8.wrap (a : Int) = (a : Int) := by rw [wrap_i8]; omega
 have HE : Hid (spv (Sp.only 0 ⟨(a : Int), 0, 0, 0, 0, 0, 0⟩) = spv (Sp.at_ (a : Int))) := rfl
 go_enter Tryz.func35, Tryz.ntmps35
 go_upto_region 1 with fail
 refine opq (fun W0 => W0.heap[w.heap.size]? = some (.cells #[.int .i8 0, .int .i8 0, .int .i8 0, .int .i8 0, .int .i8 0, .int .i8 0, .int .i8 0] 83) ∧ Kp w W0) ⟨by exact last_of _ _, by exact kpt⟩ ?_
 rintro W0 ⟨xB0, xK0⟩
 have B0 := hid xB0
 have K0 := hid xK0
 clear xB0 xK0
 go_wp2_with fail
 refine (only_any ⟨(a : Int), 0, 0, 0, 0, 0, 0⟩ 0 (by omega) _).mono ?_
 rintro e w1 ⟨rfl, k1⟩
 rw [HE.out]
 have B1 := hid (bl_kp B0.out k1)
 have K1 := hid (K0.out.trans k1)
 clear k1 B0 K0
 obtain ⟨z0, fz0, z1, fz1, z2, fz2, z3, fz3, z4, fz4, z5, fz5, z6, fz6⟩ := cellf7 (B1.out)
 go_wp2_with fail
 exact bodyPost_ret (v := .agg _) (sp_ret rfl _ _ _ _ rfl (bl_set7 B1.out _ _ _ _ _ _ _) rfl) rfl ⟨rfl, Ks.up (P := w.heap.size) (ks_set7 _ _ _ _ _ _ _) K1.out (by omega)⟩
end Go.Proofs.YtnajcnhgeggngaaGreat.Way

/-! ### Wp -/

namespace Go.Proofs.YtnajcnhgeggngaaGreat.Way
open Go Go.Proofs.YtnajcnhgeggngaaGreat

inductive Pt where
 | mk (k low high n : Int) (set : W4) (P : Nat) (kn so : Option Nat) (rd st hd : Nat) (kids : List Pt)
def Pt.k : Pt → Int | .mk k _ _ _ _ _ _ _ _ _ _ _ => k
def Pt.P : Pt → Nat | .mk _ _ _ _ _ P _ _ _ _ _ _ => P
def Pt.rd : Pt → Nat | .mk _ _ _ _ _ _ _ _ r _ _ _ => r
def Pt.st : Pt → Nat | .mk _ _ _ _ _ _ _ _ _ s _ _ => s
def Pt.hd : Pt → Nat | .mk _ _ _ _ _ _ _ _ _ _ h _ => h
def Pt.kids : Pt → List Pt | .mk _ _ _ _ _ _ _ _ _ _ _ ks => ks
def leafK (k : Int) : Bool := !(k == 2 || k == 3 || k == 5 || k == 4)
def Sp.span (n : Int) (x : Sp) : Int × Int := if n = 1 then (x.f0, x.t0) else if n = 2 then (x.f1, x.t1) else (x.f2, x.t2)
def Sp.put (n f t : Int) (x : Sp) : Sp := if n = 1 then ⟨x.a, f, t, x.f1, x.t1, x.f2, x.t2⟩ else if n = 2 then ⟨x.a, x.f0, x.t0, f, t, x.f2, x.t2⟩ else ⟨x.a, x.f0, x.t0, x.f1, x.t1, f, t⟩
def stepP (L : List UInt8) (bol : Bool) (k n : Int) (set : W4) (x : Sp) : Option Int :=
 if k = 1 then (match L[x.a.toNat]? with | some c => if W4.bit set c.toNat then some 1 else none | none => none)
 else if k = 7 then (if x.a = 0 ∧ bol = true then some 0 else none)
 else if k = 8 then (if x.a.toNat = L.length then some 0 else none)
 else if (x.span n).1 < 0 then none
 else if ((L.drop (x.span n).1.toNat).take ((x.span n).2 - (x.span n).1).toNat).isPrefixOf (L.drop x.a.toNat) then some ((x.span n).2 - (x.span n).1) else none
def leafP (L : List UInt8) (bol : Bool) (k n : Int) (set : W4) (x : Sp) : List Sp :=
 match stepP L bol k n set x with
 | some m => [x.moved m]
 | none => []
def addL (h : Nat) (l : List Sp) (x : Sp) : List Sp := if l.any (fun y => y.only h == x.only h) then l else l ++ [x]
def walkF (W : Sp → List Sp) (rd h : Nat) (acc : List Sp) (y : Sp) : List Sp := (W (y.only rd)).foldl (fun a z => addL h a (z.behind y)) acc
structure Turn where
 n : Int
 lv : Nat
 x : Sp
deriving DecidableEq
def cls (hd : Nat) (y : Sp) : Nat := y.lacks &&& hd
def begS (rdp : Nat) (all : List Sp) (hd : Nat) (n : Int) (x : Sp) (st : List Nat × List Turn) (i : Nat) : List Nat × List Turn :=
 if all.any (fun y => cls hd y == i) then (if st.2.contains ⟨n, i, x.only (i ||| rdp)⟩ then st else (st.1 ++ [i], st.2 ++ [⟨n, i, x.only (i ||| rdp)⟩])) else st
def newCls (rdp : Nat) (all : List Sp) (hd : Nat) (n : Int) (x : Sp) (bg : List Turn) : List Nat × List Turn := (List.range 8).foldl (begS rdp all hd n x) ([], bg)
def nextP (leaf : Bool) (W : Sp → List Sp) (krd khd rdp : Nat) (low high : Int) (n : Int) (x : Sp) (bg : List Turn) : List Sp × List Turn :=
 if n = high then ([], bg)
 else if leaf then (W x, bg)
 else (((W (x.only krd)).filter (fun y => (newCls rdp (W (x.only krd)) khd (if high < 0 then min n low else n) x bg).1.contains (cls khd y))).map (fun y => y.behind x), (newCls rdp (W (x.only krd)) khd (if high < 0 then min n low else n) x bg).2)
def behindP (NX : Int → Sp → List Turn → List Sp × List Turn) (low : Int) (h : Nat) : Nat → Int → Sp → List Turn × List Sp → List Turn × List Sp
 | 0, _, _, st => st
 | f + 1, n, x, st =>
  let r := NX n x st.1
  let s := r.1.foldl (fun s y => if n < low ∨ ¬ y.a = x.a then behindP NX low h f (n + 1) y s else s) (r.2, st.2)
  if n < low then s else (s.1, addL h s.2 x)
def repP (leaf : Bool) (W : Sp → List Sp) (krd khd rdp : Nat) (low high : Int) (h : Nat) (x : Sp) : List Sp :=
 (behindP (nextP leaf W krd khd rdp low high) low h 90 0 x ([], [])).2
def fstK : List Pt → Int | [] => 0 | p :: _ => p.k
def fstR : List Pt → Nat | [] => 0 | p :: _ => p.rd
def fstH : List Pt → Nat | [] => 0 | p :: _ => p.hd
mutual
def ways (L : List UInt8) (bol : Bool) : Pt → Sp → List Sp
 | .mk k low high n set _ _ _ rd _ hd kids, x =>
  if k = 2 then catW L bol kids [x]
  else if k = 3 then altW L bol hd kids x []
  else if k = 5 then (fstW L bol kids x).map (fun y => y.put n x.a y.a)
  else if k = 4 then repP (leafK (fstK kids)) (fstW L bol kids) (fstR kids) (fstH kids) rd low high hd x
  else leafP L bol k n set x
def fstW (L : List UInt8) (bol : Bool) : List Pt → Sp → List Sp
 | [], _ => []
 | p :: _, x => ways L bol p x
def catW (L : List UInt8) (bol : Bool) : List Pt → List Sp → List Sp
 | [], l => l
 | p :: ps, l => catW L bol ps (l.foldl (walkF (ways L bol p) p.rd p.hd) [])
def altW (L : List UInt8) (bol : Bool) (h : Nat) : List Pt → Sp → List Sp → List Sp
 | [], _, acc => acc
 | p :: ps, x, acc => altW L bol h ps x (walkF (ways L bol p) p.rd h acc x)
end
def inRowF (u : Nat × Nat) (p : Pt) : Nat × Nat := (u.1 ||| (p.rd &&& (7 - u.2)), u.2 ||| p.st)
def inAltF (u : Nat × Nat) (p : Pt) : Nat × Nat := (u.1 ||| p.rd, u.2 &&& p.st)
def grpB (n : Int) : Nat := if n = 1 then 1 else if n = 2 then 2 else 4
def usedP (k low n : Int) (kids : List Pt) : Nat × Nat :=
 if k = 6 then (grpB n, 0)
 else if k = 5 then (match kids with | [] => (0, 0) | p :: _ => (p.rd, p.st ||| grpB n))
 else if k = 2 then kids.foldl inRowF (0, 0)
 else if k = 3 then kids.foldl inAltF (0, 7)
 else if k = 4 then (match kids with | [] => (0, 0) | p :: _ => (p.rd, if low = 0 then 0 else p.st))
 else (0, 0)
def heedG (g : Nat) (p : Pt) : Nat := (g &&& (7 - p.st)) ||| p.rd
mutual
def heed : Nat → Pt → Pt
 | g, .mk k low high n set P kn so rd st _ kids =>
  .mk k low high n set P kn so rd st g (if k = 2 then (heedR g kids).1 else if k = 3 then heedA g kids else if k = 5 then heedA (g &&& (7 - grpB n)) kids else if k = 4 then heedA (g ||| rd) kids else kids)
def heedR : Nat → List Pt → List Pt × Nat
 | g, [] => ([], g)
 | g, p :: ps => (heed (heedR g ps).2 p :: (heedR g ps).1, heedG (heedR g ps).2 p)
def heedA : Nat → List Pt → List Pt
 | _, [] => []
 | g, p :: ps => heed g p :: heedA g ps
end
end Go.Proofs.YtnajcnhgeggngaaGreat.Way

/-! ### Key -/

namespace Go.Proofs.YtnajcnhgeggngaaGreat.Way
open Go.RowKit Go.Proofs.YtnajcnhgeggngaaGreat Go.Maps

theorem wlaid : laidOutB Tryz.prog = true := by kernel_rfl
theorem types_size : ∃ m, Tryz.prog.types.size + 1 = m + 6 := ⟨Tryz.prog.types.size - 5, by kernel_rfl⟩
theorem law83 : WideMaps.KeyLaw Tryz.prog 83 := deep_law_laid wlaid (m := 8) (by decide) (of_decide_eq_true (by kernel_rfl)) (by kernel_rfl) (by kernel_rfl)
theorem keyed83 : Keyed Tryz.prog 83 := Keyed.of_law law83
theorem law220 : WideMaps.KeyLaw Tryz.prog 220 := deep_law_laid wlaid (m := 8) (by decide) (of_decide_eq_true (by kernel_rfl)) (by kernel_rfl) (by kernel_rfl)
theorem keyed220 : Keyed Tryz.prog 220 := Keyed.of_law law220

theorem lit78 (d : Nat) (n : Int) (h : (Lit.int .i8 n).wf = true) : Tryz.prog.keyLits (d + 1) 78 [.int .i8 n] = some [.int .i8 n] := by
 unfold Program.keyLits
 simp [Tryz.underlying78, h]
theorem cells78 : Tryz.prog.cellsOf 78 = 1 := by kernel_rfl
theorem cells80 : Tryz.prog.cellsOf 80 = 2 := by kernel_rfl
theorem cells81 : Tryz.prog.cellsOf 81 = 6 := by kernel_rfl
theorem cells83 : Tryz.prog.cellsOf 83 = 7 := by kernel_rfl
theorem lit80 (d : Nat) (f t : Int) (hf : (Lit.int .i8 f).wf = true) (ht : (Lit.int .i8 t).wf = true) : Tryz.prog.keyLits (d + 2) 80 [.int .i8 f, .int .i8 t] = some [.int .i8 f, .int .i8 t] := by
 unfold Program.keyLits
 simp [Tryz.underlying80, cells80, cells78, lit78 _ _ hf, lit78 _ _ ht]
theorem lit81 (d : Nat) (f t g u k v : Int) (h1 : (Lit.int .i8 f).wf = true) (h2 : (Lit.int .i8 t).wf = true) (h3 : (Lit.int .i8 g).wf = true) (h4 : (Lit.int .i8 u).wf = true) (h5 : (Lit.int .i8 k).wf = true) (h6 : (Lit.int .i8 v).wf = true) :
  Tryz.prog.keyLits (d + 3) 81 [.int .i8 f, .int .i8 t, .int .i8 g, .int .i8 u, .int .i8 k, .int .i8 v] = some [.int .i8 f, .int .i8 t, .int .i8 g, .int .i8 u, .int .i8 k, .int .i8 v] := by
 unfold Program.keyLits
 simp [Tryz.underlying81, cells81, cells80, show List.range 3 = [0, 1, 2] from rfl, lit80 _ _ _ h1 h2, lit80 _ _ _ h3 h4, lit80 _ _ _ h5 h6]
theorem wf8 (n : Int) (h : -1 ≤ n) (h2 : n ≤ 60) : (Lit.int .i8 n).wf = true := by
 simp [Lit.wf, IntKind.min, IntKind.max, IntKind.signed, IntKind.bits]; omega
theorem Sp.Ok.wf {x : Sp} (h : x.Ok) : ((Lit.int .i8 x.a).wf = true ∧ (Lit.int .i8 x.f0).wf = true ∧ (Lit.int .i8 x.t0).wf = true) ∧ (Lit.int .i8 x.f1).wf = true ∧ (Lit.int .i8 x.t1).wf = true ∧ (Lit.int .i8 x.f2).wf = true ∧ (Lit.int .i8 x.t2).wf = true := by
 have h0 := h.a0
 have h1 := h.a1
 have s0 := h.s0
 have s1 := h.s1
 have s2 := h.s2
 unfold Spn at s0 s1 s2
 exact ⟨⟨wf8 _ (by omega) (by omega), wf8 _ (by omega) (by omega), wf8 _ (by omega) (by omega)⟩, wf8 _ (by omega) (by omega), wf8 _ (by omega) (by omega), wf8 _ (by omega) (by omega), wf8 _ (by omega) (by omega)⟩
theorem lit83 (d : Nat) (x : Sp) (h : x.Ok) : Tryz.prog.keyLits (d + 4) 83 [.int .i8 x.a, .int .i8 x.f0, .int .i8 x.t0, .int .i8 x.f1, .int .i8 x.t1, .int .i8 x.f2, .int .i8 x.t2] = some [.int .i8 x.a, .int .i8 x.f0, .int .i8 x.t0, .int .i8 x.f1, .int .i8 x.t1, .int .i8 x.f2, .int .i8 x.t2] := by
 obtain ⟨⟨q0, q1, q2⟩, q3, q4, q5, q6⟩ := h.wf
 unfold Program.keyLits
 simp [Tryz.underlying83, cells83, cells81, cells78, lit78 _ _ q0, lit81 _ _ _ _ _ _ _ q1 q2 q3 q4 q5 q6]
theorem keytype83 : Tryz.prog.keyType 83 = true := by kernel_rfl
theorem key_sp (x : Sp) (h : x.Ok) : ∃ kl, keyOf Tryz.prog 83 (spv x) = some kl := by
 obtain ⟨m, hm⟩ := types_size
 refine ⟨.string (keyBytes [.int .i8 x.a, .int .i8 x.f0, .int .i8 x.t0, .int .i8 x.f1, .int .i8 x.t1, .int .i8 x.f2, .int .i8 x.t2]), ?_⟩
 unfold keyOf
 simp only [Tryz.underlying83]
 rw [if_pos (by rw [keytype83]; simp [Value.formed, Tryz.underlying83, cells83]), hm]
 simp only [Value.cells]
 rw [lit83 (m + 2) x h]
 rfl
end Go.Proofs.YtnajcnhgeggngaaGreat.Way

/-! ### MapW -/

namespace Go.Proofs.YtnajcnhgeggngaaGreat.Way
open Go.RowKit Go.Proofs.YtnajcnhgeggngaaGreat Go.Maps Go.WideElems Go.ChangeMaps Go.MapKept

theorem nodup_lt : ∀ (N : Nat) (l : List Nat), l.Nodup → (∀ a ∈ l, a < N) → l.length ≤ N
 | 0, [], _, _ => Nat.le_refl _
 | 0, a :: l, _, h => absurd (h a List.mem_cons_self) (by omega)
 | N + 1, l, hd, h => by
  by_cases hm : N ∈ l
  ·
   have h1 := nodup_lt N (l.erase N) (hd.erase N) (fun a ha => by
    have h2 := (hd.mem_erase_iff).1 ha
    have := h a h2.2
    omega)
   have h3 := List.length_erase_of_mem hm
   omega
  ·
   have h1 := nodup_lt N l hd (fun a ha => by
    have := h a ha
    have : a ≠ N := fun e => hm (e ▸ ha)
    omega)
   omega
theorem pairwise_map_inj {α : Type} (f : α → Nat) (l : List α) (h : l.Pairwise (fun a b => f a ≠ f b)) : (l.map f).Nodup := by
 unfold List.Nodup
 rw [List.pairwise_map]
 exact h
def Sp.code (x : Sp) : Nat := (x.a + 1).toNat + 64 * ((x.f0 + 1).toNat + 64 * ((x.t0 + 1).toNat + 64 * ((x.f1 + 1).toNat + 64 * ((x.t1 + 1).toNat + 64 * ((x.f2 + 1).toNat + 64 * (x.t2 + 1).toNat)))))
theorem Sp.Ok.rng {x : Sp} (h : x.Ok) : (-1 ≤ x.a ∧ x.a ≤ 60) ∧ (-1 ≤ x.f0 ∧ x.f0 ≤ 60) ∧ (-1 ≤ x.t0 ∧ x.t0 ≤ 60) ∧ (-1 ≤ x.f1 ∧ x.f1 ≤ 60) ∧ (-1 ≤ x.t1 ∧ x.t1 ≤ 60) ∧ (-1 ≤ x.f2 ∧ x.f2 ≤ 60) ∧ (-1 ≤ x.t2 ∧ x.t2 ≤ 60) := by
 have h0 := h.a0
 have h1 := h.a1
 have s0 := h.s0
 have s1 := h.s1
 have s2 := h.s2
 unfold Spn at s0 s1 s2
 omega
theorem Sp.code_lt {x : Sp} (h : x.Ok) : x.code < 4398046511104 := by
 have := h.rng
 unfold Sp.code
 omega
theorem dig {n m n' m' : Nat} (h : n + 64 * m = n' + 64 * m') (a : n < 64) (b : n' < 64) : n = n' ∧ m = m' := by omega
theorem comp {a b : Int} (h : (a + 1).toNat = (b + 1).toNat) (ha : -1 ≤ a) (hb : -1 ≤ b) : a = b := by omega
theorem lt64 {a : Int} (h : -1 ≤ a ∧ a ≤ 60) : (a + 1).toNat < 64 := by omega
theorem Sp.code_inj {x y : Sp} (h : x.Ok) (k : y.Ok) (e : x.code = y.code) : x = y := by
 obtain ⟨h0, h1, h2, h3, h4, h5, h6⟩ := h.rng
 obtain ⟨k0, k1, k2, k3, k4, k5, k6⟩ := k.rng
 clear h k
 unfold Sp.code at e
 obtain ⟨e0, e⟩ := dig e (lt64 h0) (lt64 k0)
 obtain ⟨e1, e⟩ := dig e (lt64 h1) (lt64 k1)
 obtain ⟨e2, e⟩ := dig e (lt64 h2) (lt64 k2)
 obtain ⟨e3, e⟩ := dig e (lt64 h3) (lt64 k3)
 obtain ⟨e4, e⟩ := dig e (lt64 h4) (lt64 k4)
 obtain ⟨e5, e6⟩ := dig e (lt64 h5) (lt64 k5)
 have g0 := comp e0 h0.1 k0.1
 have g1 := comp e1 h1.1 k1.1
 have g2 := comp e2 h2.1 k2.1
 have g3 := comp e3 h3.1 k3.1
 have g4 := comp e4 h4.1 k4.1
 have g5 := comp e5 h5.1 k5.1
 have g6 := comp e6 h6.1 k6.1
 cases x
 cases y
 simp only at g0 g1 g2 g3 g4 g5 g6
 subst g0 g1 g2 g3 g4 g5 g6
 rfl
theorem few_entries {es : Array MapEntry} {clock : Nat} (hs : Stamped es clock) (h : ∀ e ∈ es.toList, ∃ x : Sp, x.Ok ∧ e.key = spv x) : es.size ≤ 4398046511104 := by
 have hp := ((stamped_iff es clock).1 hs).2.2
 let dec : MapEntry → Nat := fun e => match e.key with
  | .agg ⟨[.int _ a, .int _ b, .int _ c, .int _ d, .int _ f, .int _ g, .int _ i]⟩ => Sp.code ⟨a, b, c, d, f, g, i⟩
  | _ => 0
 have hdec : ∀ e x, e.key = spv x → dec e = x.code := fun e x he => by
  show (match e.key with
  | .agg ⟨[.int _ a, .int _ b, .int _ c, .int _ d, .int _ f, .int _ g, .int _ i]⟩ => Sp.code ⟨a, b, c, d, f, g, i⟩
  | _ => 0) = _
  rw [he]
 have h1 : (es.toList.map dec).Nodup := by
  refine pairwise_map_inj dec _ (hp.imp_of_mem (fun {a b} ha hb hne he => ?_))
  obtain ⟨x, hx, kx⟩ := h a ha
  obtain ⟨y, hy, ky⟩ := h b hb
  rw [hdec a x kx, hdec b y ky] at he
  exact hne (by rw [kx, ky, Sp.code_inj hx hy he])
 have h2 := nodup_lt 4398046511104 (es.toList.map dec) h1 (fun a ha => by
  obtain ⟨e, he, rfl⟩ := List.mem_map.1 ha
  obtain ⟨x, hx, kx⟩ := h e he
  rw [hdec e x kx]
  exact Sp.code_lt hx)
 simpa using h2
def RV (v : Value) : Option (DataW Value × List MemPlace) := some (.held v, [])
structure MapAt (w : World) (b : Nat) (G : Sp → Value → Prop) : Prop where
 ex : ∃ es clock, w.heap[b]? = some (.map es clock) ∧ Stamped es clock ∧ ∀ e ∈ es.toList, ∃ x : Sp, x.Ok ∧ e.key = spv x ∧ G x e.val
theorem MapAt.lt {w : World} {b : Nat} {G : Sp → Value → Prop} (h : MapAt w b G) : b < w.heap.size := by
 obtain ⟨es, clock, hb, _⟩ := h.ex
 exact bl_lt hb
theorem MapAt.imp {w w' : World} {b : Nat} {G G' : Sp → Value → Prop} (h : MapAt w b G) (hb : w'.heap[b]? = w.heap[b]?) (hg : ∀ x v, G x v → G' x v) : MapAt w' b G' := by
 obtain ⟨es, clock, h1, h2, h3⟩ := h.ex
 exact ⟨es, clock, hb.trans h1, h2, fun e he => by
  obtain ⟨x, a1, a2, a3⟩ := h3 e he
  exact ⟨x, a1, a2, hg _ _ a3⟩⟩
theorem fit_of {es : Array MapEntry} {clock : Nat} (hs : Stamped es clock) (h : ∀ e ∈ es.toList, ∃ x : Sp, x.Ok ∧ e.key = spv x) : Fit (H := Value) Tryz.prog 83 RV es clock ∧ es.size < maxLen := by
 have := few_entries hs h
 refine ⟨⟨by unfold maxLen; omega, hs, fun e he => ?_⟩, by unfold maxLen; omega⟩
 obtain ⟨x, hx, kx⟩ := h e he
 obtain ⟨kl, hk⟩ := key_sp x hx
 exact ⟨(kl, .held e.val), by unfold WideElems.rd; rw [kx, hk]; rfl⟩
theorem spv_inj {x y : Sp} (h : spv x = spv y) : x = y := by
 obtain ⟨a, b, c, d, f, g, i⟩ := x
 obtain ⟨a', b', c', d', f', g', i'⟩ := y
 simp [spv] at h
 obtain ⟨rfl, rfl, rfl, rfl, rfl, rfl, rfl⟩ := h
 rfl
theorem MapAt.look {w : World} {b : Nat} {G : Sp → Value → Prop} (h : MapAt w b G) {t e : TypeId} (ht : Tryz.prog.underlying t = some (.map 83 e)) {z : Value} (hz : (zeroValue e).run Tryz.prog w = .ok z w) (x : Sp) (hx : x.Ok) :
  (Instr.lookup t (.map (some b)) (spv x) true).run Tryz.prog w = .ok (.tuple #[z, .bool false]) w ∨ ∃ v, (Instr.lookup t (.map (some b)) (spv x) true).run Tryz.prog w = .ok (.tuple #[v, .bool true]) w ∧ G x v := by
 obtain ⟨es, clock, h1, h2, h3⟩ := h.ex
 obtain ⟨F, _⟩ := fit_of h2 (fun e he => by obtain ⟨x, a1, a2, _⟩ := h3 e he; exact ⟨x, a1, a2⟩)
 obtain ⟨kl, hk⟩ := key_sp x hx
 rcases fit_look true keyed83 ht hz h1 F hk with ⟨g1, _, _⟩ | ⟨e0, y, g1, g2, g3, _⟩
 ·
  exact Or.inl g1
 ·
  refine Or.inr ⟨e0.val, g3, ?_⟩
  obtain ⟨x', _, a2, a3⟩ := h3 e0 g1
  obtain rfl := spv_inj (g2.symm.trans a2)
  exact a3
theorem MapAt.put {w : World} {b : Nat} {G : Sp → Value → Prop} (h : MapAt w b G) {t e : TypeId} (ht : Tryz.prog.underlying t = some (.map 83 e)) (x : Sp) (hx : x.Ok) (v : Value) (hv : G x v) :
  ∃ w', (Instr.mapUpdate t (.map (some b)) (spv x) v).run Tryz.prog w = .ok () w' ∧ MapAt w' b G ∧ w.grownBy w' (some b) := by
 obtain ⟨es, clock, h1, h2, h3⟩ := h.ex
 obtain ⟨F, hroom⟩ := fit_of h2 (fun e he => by obtain ⟨x, a1, a2, _⟩ := h3 e he; exact ⟨x, a1, a2⟩)
 obtain ⟨kl, hk⟩ := key_sp x hx
 obtain ⟨es', clock', hrun, F', _, _, _, hent⟩ := fit_store (R' := RV) keyed83 ht h1 F hroom (fun _ _ _ _ hz => hz) hk (val := v) (yv := (.held v, [])) rfl
 refine ⟨_, hrun, ⟨es', clock', heap_setBlock_same h1 _, F'.stamped, fun e he => ?_⟩, ⟨rfl, rfl, rfl, by simp [setBlock], fun i _ hi => heap_setBlock_other h1 _ (fun e => hi (by rw [e]))⟩⟩
 rcases hent e he with ⟨a1, _⟩ | ⟨a1, a2⟩
 ·
  exact h3 e a1
 ·
  exact ⟨x, hx, a1, a2 ▸ hv⟩
theorem MapAt.made (w : World) (G : Sp → Value → Prop) : MapAt (w.alloc (.map #[] 0)) w.heap.size G := ⟨#[], 0, last_of _ _, stamped_empty 0, fun e he => by simp at he⟩
end Go.Proofs.YtnajcnhgeggngaaGreat.Way

/-! ### Wm -/

namespace Go.Proofs.YtnajcnhgeggngaaGreat.Way
open Go.RowKit Go.Proofs.YtnajcnhgeggngaaGreat

structure Kx (S : Nat → Prop) (w w' : World) : Prop where
 lo : Below 0 w w'
 block : ∀ k, k < w.heap.size → ¬ S k → w'.heap[k]? = w.heap[k]?
theorem Kx.refl (S : Nat → Prop) (w : World) : Kx S w w := ⟨Below.refl _ _, fun _ _ _ => rfl⟩
theorem Kx.size {S : Nat → Prop} {a b : World} (h : Kx S a b) : a.heap.size ≤ b.heap.size := h.lo.size
theorem Kx.trans {S : Nat → Prop} {a b c : World} (h : Kx S a b) (g : Kx S b c) : Kx S a c := ⟨h.lo.trans g.lo, fun k hk hn => (g.block k (Nat.lt_of_lt_of_le hk h.size) hn).trans (h.block k hk hn)⟩
theorem Kx.mono {S S' : Nat → Prop} {a b : World} (h : Kx S a b) (hs : ∀ k, k < a.heap.size → S k → S' k) : Kx S' a b := ⟨h.lo, fun k hk hn => h.block k hk (fun q => hn (hs k hk q))⟩
theorem Kp.kx {S : Nat → Prop} {a b : World} (h : Kp a b) : Kx S a b := ⟨Below.mono h (Nat.zero_le _), fun k hk _ => h.block k hk⟩
theorem Kx.kp {a b : World} (h : Kx (fun _ => False) a b) : Kp a b := ⟨h.lo.os, h.lo.tape, h.lo.output, h.size, fun k hk => h.block k hk (fun q => q)⟩
theorem Kx.then {S : Nat → Prop} {a b c : World} (h : Kx S a b) (g : Kp b c) : Kx S a c := h.trans (Kp.kx g)
theorem Kx.alloc {S : Nat → Prop} {a b : World} (h : Kx S a b) (o : Obj) : Kx S a (b.alloc o) := h.then ((Kp.refl _).alloc _)
theorem Kx.drew {S : Nat → Prop} {a b : World} (h : Kx S a b) : Kx S a b.drew := h.then ((Kp.refl _).drew)
theorem Kx.set {S : Nat → Prop} {a b : World} (h : Kx S a b) {P : Nat} (hP : P < a.heap.size → S P) (j : Nat) (u : Value) : Kx S a (b.setCell ⟨P, j, none⟩ u) := by
 refine ⟨h.lo.setCell (Nat.zero_le _) u, fun k hk hn => ?_⟩
 have hne : k ≠ P := fun e => hn (e ▸ hP (e ▸ hk))
 exact (Below.heap_setCell b ⟨P, j, none⟩ u k hne).trans (h.block k hk hn)
theorem Kx.grown {S : Nat → Prop} {a b c : World} {row : Option Nat} (h : Kx S a b) (g : b.grownBy c row) (hr : ∀ k, row = some k → k < a.heap.size → S k) : Kx S a c := by
 refine ⟨⟨g.os.trans h.lo.os, g.tape.trans h.lo.tape, g.output.trans h.lo.output, Nat.le_trans h.size g.size, fun k hk => absurd hk (Nat.not_lt_zero _)⟩, fun k hk hn => ?_⟩
 exact (g.block k (Nat.lt_of_lt_of_le hk h.size) (fun e => hn (hr k e.symm hk))).trans (h.block k hk hn)
theorem bl_kx {S : Nat → Prop} {a b : World} {B : Nat} {o : Obj} (h : a.heap[B]? = some o) (hk : Kx S a b) (hn : ¬ S B) : b.heap[B]? = some o := (hk.block B (bl_lt h) hn).trans h

structure SpAt (w : World) (b o : Nat) (x : Sp) : Prop where
 c0 : w.cell? ⟨b, o, none⟩ = some (.int .i8 x.a)
 c1 : w.cell? ⟨b, o + 1, none⟩ = some (.int .i8 x.f0)
 c2 : w.cell? ⟨b, o + 2, none⟩ = some (.int .i8 x.t0)
 c3 : w.cell? ⟨b, o + 3, none⟩ = some (.int .i8 x.f1)
 c4 : w.cell? ⟨b, o + 4, none⟩ = some (.int .i8 x.t1)
 c5 : w.cell? ⟨b, o + 5, none⟩ = some (.int .i8 x.f2)
 c6 : w.cell? ⟨b, o + 6, none⟩ = some (.int .i8 x.t2)
theorem cell_same {w w' : World} {b : Nat} (h : w'.heap[b]? = w.heap[b]?) (o : Nat) : w'.cell? ⟨b, o, none⟩ = w.cell? ⟨b, o, none⟩ := by
 simp [World.cell?, h]
theorem SpAt.same {w w' : World} {b o : Nat} {x : Sp} (h : SpAt w b o x) (e : w'.heap[b]? = w.heap[b]?) : SpAt w' b o x :=
 ⟨(cell_same e _).trans h.c0, (cell_same e _).trans h.c1, (cell_same e _).trans h.c2, (cell_same e _).trans h.c3, (cell_same e _).trans h.c4, (cell_same e _).trans h.c5, (cell_same e _).trans h.c6⟩
structure SpL (w : World) (ok : Nat → Prop) (v : Value) (xs : List Sp) : Prop where
 good : ∀ x ∈ xs, x.Ok
 ex : ∃ ad c, v = .slice ad xs.length c ∧ xs.length ≤ c ∧ (0 < xs.length → ∃ b, ad = some ⟨b, 0, none⟩ ∧ ok b ∧ b < w.heap.size ∧ ∀ (j : Nat) x, xs[j]? = some x → SpAt w b (j * 7) x)
theorem SpL.keep {w w' : World} {ok ok' : Nat → Prop} {v : Value} {xs : List Sp} (h : SpL w ok v xs) (hs : w.heap.size ≤ w'.heap.size) (hk : ∀ b, ok b → b < w.heap.size → ok' b ∧ w'.heap[b]? = w.heap[b]?) : SpL w' ok' v xs := by
 obtain ⟨ad, c, h1, h2, h3⟩ := h.ex
 refine ⟨h.good, ad, c, h1, h2, fun hl => ?_⟩
 obtain ⟨b, e, hb, hlt, hc⟩ := h3 hl
 exact ⟨b, e, (hk b hb hlt).1, by omega, fun j x hj => (hc j x hj).same (hk b hb hlt).2⟩
structure NuL (w : World) (ok : Nat → Prop) (v : Value) (xs : List Nat) : Prop where
 ex : ∃ ad c, v = .slice ad xs.length c ∧ xs.length ≤ c ∧ (0 < xs.length → ∃ b, ad = some ⟨b, 0, none⟩ ∧ ok b ∧ b < w.heap.size ∧ ∀ (j : Nat) x, xs[j]? = some x → w.cell? ⟨b, j, none⟩ = some (.int .i64 (x : Int)))
theorem NuL.keep {w w' : World} {ok ok' : Nat → Prop} {v : Value} {xs : List Nat} (h : NuL w ok v xs) (hs : w.heap.size ≤ w'.heap.size) (hk : ∀ b, ok b → b < w.heap.size → ok' b ∧ w'.heap[b]? = w.heap[b]?) : NuL w' ok' v xs := by
 obtain ⟨ad, c, h1, h2, h3⟩ := h.ex
 refine ⟨ad, c, h1, h2, fun hl => ?_⟩
 obtain ⟨b, e, hb, hlt, hc⟩ := h3 hl
 exact ⟨b, e, (hk b hb hlt).1, by omega, fun j x hj => (cell_same (hk b hb hlt).2 _).trans (hc j x hj)⟩
def placesOf (hd : Nat) (all : List Sp) (i : Nat) : List Nat := (List.range all.length).filter (fun j => match all[j]? with | some y => cls hd y == i | none => false)
structure SoAt (w : World) (ok : Nat → Prop) (v : Value) (hd : Nat) (all : List Sp) : Prop where
 ex : ∃ S lv p0 p1 p2 p3 p4 p5 p6 p7, v = .pointer (some ⟨S, 0, none⟩) ∧ ok S ∧ w.heap[S]? = some (.cells #[lv, p0, p1, p2, p3, p4, p5, p6, p7] 212) ∧ SpL w ok lv all ∧
  (NuL w ok p0 (placesOf hd all 0) ∧ NuL w ok p1 (placesOf hd all 1) ∧ NuL w ok p2 (placesOf hd all 2) ∧ NuL w ok p3 (placesOf hd all 3)) ∧ NuL w ok p4 (placesOf hd all 4) ∧ NuL w ok p5 (placesOf hd all 5) ∧ NuL w ok p6 (placesOf hd all 6) ∧ NuL w ok p7 (placesOf hd all 7)
theorem SoAt.keep {w w' : World} {ok ok' : Nat → Prop} {v : Value} {hd : Nat} {all : List Sp} (h : SoAt w ok v hd all) (hs : w.heap.size ≤ w'.heap.size) (hk : ∀ b, ok b → b < w.heap.size → ok' b ∧ w'.heap[b]? = w.heap[b]?) : SoAt w' ok' v hd all := by
 obtain ⟨S, lv, p0, p1, p2, p3, p4, p5, p6, p7, h1, h2, h3, h4, ⟨a0, a1, a2, a3⟩, a4, a5, a6, a7⟩ := h.ex
 have hS := hk S h2 (bl_lt h3)
 exact ⟨S, lv, p0, p1, p2, p3, p4, p5, p6, p7, h1, hS.1, hS.2.trans h3, h4.keep hs hk, ⟨a0.keep hs hk, a1.keep hs hk, a2.keep hs hk, a3.keep hs hk⟩, a4.keep hs hk, a5.keep hs hk, a6.keep hs hk, a7.keep hs hk⟩
inductive Memo where
 | kn (W : Sp → List Sp)
 | so (W : Sp → List Sp) (hd : Nat)
abbrev okB (M : Nat → Option Memo) (O : Nat → Prop) (b : Nat) : Prop := ¬ O b ∧ M b = none
def MemoAt (w : World) (ok : Nat → Prop) (b : Nat) : Memo → Prop
 | .kn W => MapAt w b (fun x v => SpL w ok v (W x))
 | .so W hd => MapAt w b (fun x v => SoAt w ok v hd (W x))
theorem MemoAt.keep {w w' : World} {ok ok' : Nat → Prop} {b : Nat} {m : Memo} (h : MemoAt w ok b m) (hb : w'.heap[b]? = w.heap[b]?) (hs : w.heap.size ≤ w'.heap.size) (hk : ∀ b, ok b → b < w.heap.size → ok' b ∧ w'.heap[b]? = w.heap[b]?) : MemoAt w' ok' b m := by
 cases m with
 | kn W => exact MapAt.imp h hb (fun x v q => q.keep hs hk)
 | so W hd => exact MapAt.imp h hb (fun x v q => q.keep hs hk)
theorem MemoAt.lt {w : World} {ok : Nat → Prop} {b : Nat} {m : Memo} (h : MemoAt w ok b m) : b < w.heap.size := by
 cases m with
 | kn W => exact MapAt.lt h
 | so W hd => exact MapAt.lt h
structure MemOk (M : Nat → Option Memo) (O : Nat → Prop) (w : World) : Prop where
 at_ : ∀ b m, M b = some m → MemoAt w (okB M O) b m
 own : ∀ b, O b → M b = none
theorem MemOk.lt {M : Nat → Option Memo} {O : Nat → Prop} {w : World} (h : MemOk M O w) {b : Nat} (hb : w.heap.size ≤ b) : M b = none := by
 cases hm : M b with
 | none => rfl
 | some m => exact absurd (h.at_ b m hm).lt (by omega)
theorem MemOk.keep {M : Nat → Option Memo} {O O' S : Nat → Prop} {w w' : World} (h : MemOk M O w) (k : Kx S w w') (hS : ∀ b, b < w.heap.size → S b → O b) (hO : ∀ b, b < w.heap.size → O' b → O b) (hN : ∀ b, O' b → M b = none) : MemOk M O' w' := by
 refine ⟨fun b m hm => ?_, hN⟩
 have hat := h.at_ b m hm
 have hlt := hat.lt
 have hnS : ¬ S b := fun q => by have := h.own b (hS b hlt q); rw [hm] at this; cases this
 exact hat.keep (k.block b hlt hnS) k.size (fun c hc hl => ⟨⟨fun q => hc.1 (hO c hl q), hc.2⟩, k.block c hl (fun q => hc.1 (hS c hl q))⟩)
theorem MemOk.more {M : Nat → Option Memo} {O O' : Nat → Prop} {w : World} (h : MemOk M O w) (hO : ∀ b, b < w.heap.size → O' b → O b) (hN : ∀ b, O' b → M b = none) : MemOk M O' w := h.keep (Kx.refl (fun _ => False) w) (fun _ _ q => q.elim) hO hN
abbrev ptv (P : Nat) : Value := .pointer (some ⟨P, 0, none⟩)
abbrev pto (k low high n : Int) (t : W4) (ks : Value) (rd st hd : Nat) (kn so : Option Nat) : Obj := .cells #[.int .i64 k, .int .i64 low, .int .i64 high, .int .i64 n, .int .u64 (t.a : Int), .int .u64 (t.b : Int), .int .u64 (t.c : Int), .int .u64 (t.d : Int), ks, .int .u8 (rd : Int), .int .u8 (st : Int), .int .u8 (hd : Int), .map kn, .map so] 130
mutual
def PtAt (w : World) (ok : Nat → Prop) : Pt → Prop
 | .mk k low high n t P kn so rd st hd kids => ok P ∧ (∃ ad c, w.heap[P]? = some (pto k low high n t (.slice ad kids.length c) rd st hd kn so) ∧ kids.length ≤ c ∧ (0 < kids.length → ∃ b, ad = some ⟨b, 0, none⟩ ∧ ok b ∧ b < w.heap.size ∧ ∀ (j : Nat) q, kids[j]? = some q → w.cell? ⟨b, j, none⟩ = some (ptv q.P))) ∧ PtsAt w ok kids
def PtsAt (w : World) (ok : Nat → Prop) : List Pt → Prop
 | [] => True
 | p :: ps => PtAt w ok p ∧ PtsAt w ok ps
end
mutual
theorem PtAt.keep {w w' : World} {ok ok' : Nat → Prop} (hs : w.heap.size ≤ w'.heap.size) (hk : ∀ b, ok b → b < w.heap.size → ok' b ∧ w'.heap[b]? = w.heap[b]?) : ∀ (p : Pt), PtAt w ok p → PtAt w' ok' p
 | .mk k low high n t P kn so rd st hd kids, h => by
  unfold PtAt at h ⊢
  obtain ⟨h1, ⟨ad, c, h2, h3, h4⟩, h5⟩ := h
  have hP := hk P h1 (bl_lt h2)
  refine ⟨hP.1, ⟨ad, c, hP.2.trans h2, h3, fun hl => ?_⟩, PtsAt.keep hs hk kids h5⟩
  obtain ⟨b, e, hb, hlt, hc⟩ := h4 hl
  exact ⟨b, e, (hk b hb hlt).1, by omega, fun j q hj => (cell_same (hk b hb hlt).2 _).trans (hc j q hj)⟩
theorem PtsAt.keep {w w' : World} {ok ok' : Nat → Prop} (hs : w.heap.size ≤ w'.heap.size) (hk : ∀ b, ok b → b < w.heap.size → ok' b ∧ w'.heap[b]? = w.heap[b]?) : ∀ (ps : List Pt), PtsAt w ok ps → PtsAt w' ok' ps
 | [], _ => by unfold PtsAt; trivial
 | p :: ps, h => by
  unfold PtsAt at h ⊢
  exact ⟨PtAt.keep hs hk p h.1, PtsAt.keep hs hk ps h.2⟩
end
theorem PtsAt.get {w : World} {ok : Nat → Prop} : ∀ {ps : List Pt}, PtsAt w ok ps → ∀ (j : Nat) p, ps[j]? = some p → PtAt w ok p
 | [], _, j, p, hj => by simp at hj
 | q :: qs, h, 0, p, hj => by
  unfold PtsAt at h
  simp at hj
  subst hj
  exact h.1
 | q :: qs, h, j + 1, p, hj => by
  unfold PtsAt at h
  simp at hj
  exact h.2.get j p hj
end Go.Proofs.YtnajcnhgeggngaaGreat.Way

/-! ### Used -/

namespace Go.Proofs.YtnajcnhgeggngaaGreat.Way
open Go.RowKit Go.Proofs.YtnajcnhgeggngaaGreat

abbrev uso (r s : Nat) : Obj := .cells #[.int .u8 (r : Int), .int .u8 (s : Int)] 126
theorem u8_or (a b : Nat) (ha : a < 8) (hb : b < 8) : bits .or .u8 (a : Int) (b : Int) = ((a ||| b : Nat) : Int) := by
 have h : ∀ x : Fin 8, ∀ y : Fin 8, bits .or .u8 (x.val : Int) (y.val : Int) = ((x.val ||| y.val : Nat) : Int) := by decide
 exact h ⟨a, ha⟩ ⟨b, hb⟩
theorem u8_and (a b : Nat) (ha : a < 8) (hb : b < 8) : bits .and .u8 (a : Int) (b : Int) = ((a &&& b : Nat) : Int) := by
 have h : ∀ x : Fin 8, ∀ y : Fin 8, bits .and .u8 (x.val : Int) (y.val : Int) = ((x.val &&& y.val : Nat) : Int) := by decide
 exact h ⟨a, ha⟩ ⟨b, hb⟩
theorem u8_not (a b : Nat) (ha : a < 8) (hb : b < 8) : bits .andNot .u8 (a : Int) (b : Int) = ((a &&& (7 - b) : Nat) : Int) := by
 have h : ∀ x : Fin 8, ∀ y : Fin 8, bits .andNot .u8 (x.val : Int) (y.val : Int) = ((x.val &&& (7 - y.val) : Nat) : Int) := by decide
 exact h ⟨a, ha⟩ ⟨b, hb⟩
theorem or8 (a b : Nat) (ha : a < 8) (hb : b < 8) : a ||| b < 8 := Nat.or_lt_two_pow (n := 3) ha hb
theorem and8 (a b : Nat) (ha : a < 8) : a &&& b < 8 := Nat.lt_of_le_of_lt Nat.and_le_left ha
structure KidS (w : World) (ok : Nat → Prop) (ad : Option Addr) (c : Nat) (kids : List Pt) : Prop where
 cap : kids.length ≤ c
 at_ : 0 < kids.length → ∃ b, ad = some ⟨b, 0, none⟩ ∧ ok b ∧ b < w.heap.size ∧ ∀ (j : Nat) q, kids[j]? = some q → w.cell? ⟨b, j, none⟩ = some (ptv q.P)
theorem KidS.keep {w w' : World} {ok ok' : Nat → Prop} {ad : Option Addr} {c : Nat} {kids : List Pt} (h : KidS w ok ad c kids) (hs : w.heap.size ≤ w'.heap.size) (hk : ∀ b, ok b → b < w.heap.size → ok' b ∧ w'.heap[b]? = w.heap[b]?) : KidS w' ok' ad c kids := by
 refine ⟨h.cap, fun hl => ?_⟩
 obtain ⟨b, e, hb, hlt, hc⟩ := h.at_ hl
 exact ⟨b, e, (hk b hb hlt).1, by omega, fun j q hj => (cell_same (hk b hb hlt).2 _).trans (hc j q hj)⟩
theorem KidS.kp {w w' : World} {ok : Nat → Prop} {ad : Option Addr} {c : Nat} {kids : List Pt} (h : KidS w ok ad c kids) (k : Kp w w') : KidS w' ok ad c kids := h.keep k.size (fun b hb hl => ⟨hb, k.block b hl⟩)
theorem PtAt.kp {w w' : World} {ok : Nat → Prop} {p : Pt} (h : PtAt w ok p) (k : Kp w w') : PtAt w' ok p := PtAt.keep k.size (fun b hb hl => ⟨hb, k.block b hl⟩) p h
theorem PtsAt.kp {w w' : World} {ok : Nat → Prop} {ps : List Pt} (h : PtsAt w ok ps) (k : Kp w w') : PtsAt w' ok ps := PtsAt.keep k.size (fun b hb hl => ⟨hb, k.block b hl⟩) ps h
theorem PtAt.form {w : World} {ok : Nat → Prop} {p : Pt} (h : PtAt w ok p) : ∃ k low high n t kn so kids ad c, p = .mk k low high n t p.P kn so p.rd p.st p.hd kids ∧ ok p.P ∧ w.heap[p.P]? = some (pto k low high n t (.slice ad kids.length c) p.rd p.st p.hd kn so) ∧ KidS w ok ad c kids ∧ PtsAt w ok kids := by
 obtain ⟨k, low, high, n, t, P, kn, so, rd, st, hd, kids⟩ := p
 unfold PtAt at h
 obtain ⟨h1, ⟨ad, c, h2, h3, h4⟩, h5⟩ := h
 exact ⟨k, low, high, n, t, kn, so, kids, ad, c, rfl, h1, h2, ⟨h3, h4⟩, h5⟩
def WdOk : List Pt → Prop
 | [] => True
 | p :: ps => (p.rd < 8 ∧ p.st < 8) ∧ WdOk ps
theorem WdOk.get : ∀ {ps : List Pt}, WdOk ps → ∀ (j : Nat) p, ps[j]? = some p → p.rd < 8 ∧ p.st < 8
 | [], _, j, p, hj => by simp at hj
 | q :: qs, h, 0, p, hj => by
  simp at hj
  subst hj
  exact h.1
 | q :: qs, h, j + 1, p, hj => by
  simp at hj
  exact WdOk.get h.2 j p hj
theorem row_lt : ∀ (ps : List Pt) (u : Nat × Nat), WdOk ps → u.1 < 8 → u.2 < 8 → (ps.foldl inRowF u).1 < 8 ∧ (ps.foldl inRowF u).2 < 8
 | [], _, _, h1, h2 => ⟨h1, h2⟩
 | p :: ps, u, h, h1, h2 => row_lt ps (inRowF u p) h.2 (or8 _ _ h1 (and8 _ _ h.1.1)) (or8 _ _ h2 h.1.2)
theorem alt_lt : ∀ (ps : List Pt) (u : Nat × Nat), WdOk ps → u.1 < 8 → u.2 < 8 → (ps.foldl inAltF u).1 < 8 ∧ (ps.foldl inAltF u).2 < 8
 | [], _, _, h1, h2 => ⟨h1, h2⟩
 | p :: ps, u, h, h1, h2 => alt_lt ps (inAltF u p) h.2 (or8 _ _ h1 h.1.1) (and8 _ _ h2)
theorem WdOk.take : ∀ (ps : List Pt) (q : Nat), WdOk ps → WdOk (ps.take q)
 | [], q, _ => by simp [WdOk]
 | p :: ps, 0, _ => by simp [WdOk]
 | p :: ps, q + 1, h => ⟨h.1, WdOk.take ps q h.2⟩
theorem us_ret {fn : Func} {p : Tmp} (h : fn.results = #[.cell p 126]) (tmps : Array Value) (w : World) (S : Nat) (cs : Array Value) (hp : tmps.getD p undef = .pointer (some ⟨S, 0, none⟩)) (hA : w.heap[S]? = some (.cells cs 126)) (hc : cs.size = 2) : (results fn tmps).run Tryz.prog w = .ok (.agg cs) w :=
 results_cell_row h tmps w S 126 _ (0, 0) _ hp hA Tryz.underlying126 rfl (by rw [hc]; kernel_rfl)
end Go.Proofs.YtnajcnhgeggngaaGreat.Way

/-! ### InRow -/

namespace Go.Proofs.YtnajcnhgeggngaaGreat.Way
set_option maxHeartbeats 2000000
set_option maxRecDepth 100000
open Go.RowKit Go.Proofs.YtnajcnhgeggngaaGreat

theorem row_any (ok : Nat → Prop) (ad : Option Addr) (c : Nat) (kids : List Pt) (w : World) (hK : KidS w ok ad c kids) (hP : PtsAt w ok kids) (hW : WdOk kids) (hL : kids.length ≤ 1000000) :
  Calls Tryz.prog 77 #[.slice ad kids.length c] w fun e w' => e = .returned (.agg #[.int .u8 ((kids.foldl inRowF (0, 0)).1 : Int), .int .u8 ((kids.foldl inRowF (0, 0)).2 : Int)]) ∧ Kp w w' := by
 obtain ⟨L, hLL⟩ : ∃ L, kids.length = L := ⟨_, rfl⟩
 have HL := hid hLL
 have HK := hid hK
 have HP := hid hP
 have HW := hid hW
 have hcap := hK.cap
 obtain ⟨G, hG⟩ : ∃ G, kids.foldl inRowF (0, 0) = G := ⟨_, rfl⟩
 have HG := hid hG
 rw [hG]
 rw [hLL] at hL hcap ⊢
 clear hK hP hW hLL hG
 go_enter Tryz.func77, Tryz.ntmps77
 go_upto_region 2 with fail
 refine opq (fun W0 => W0.heap[w.heap.size]? = some (uso 0 0) ∧ W0.heap[(w.heap.size + 1)]? = some (uso 0 0) ∧ Kp w W0) ⟨by exact bl_alloc (last_of _ _) _, by exact last_at _ _ _ (by simp), by exact kpt⟩ ?_
 rintro W0 ⟨xA0, xB0, xK0⟩
 have A0 := hid xA0
 have B0 := hid xB0
 have K0 := hid xK0
 clear xA0 xB0 xK0
 go_wp2_with fail
 go_loopg [8] L (fun gg i wr => ∃ (q u1 u2 : Nat), q + gg = L ∧ i = .int .i64 (q : Int) ∧ (kids.take q).foldl inRowF (0, 0) = (u1, u2) ∧ wr.heap[w.heap.size]? = some (uso 0 0) ∧ wr.heap[(w.heap.size + 1)]? = some (uso u1 u2) ∧ Kp w wr)
 case atStart => exact ⟨0, 0, 0, by omega, rfl, rfl, A0.out, B0.out, K0.out⟩
 case round =>
  obtain ⟨q, u1, u2, hq, rfl, hU, hA, hB, hK⟩ := hrel
  have HU := hid hU
  have A := hid hA
  have U := hid hB
  have K := hid hK
  clear hU hA hB hK A0 B0 K0
  by_cases hlt : q < L
  ·
   have gkw : IntKind.i64.wrap ((q : Int) + 1) = (q : Int) + 1 := by rw [IntKind.wrap_i64]; omega
   have ga : (q : Int) < (L : Int) := by omega
   have g0 : (0 : Int) ≤ (q : Int) := by omega
   obtain ⟨p, hp0⟩ : ∃ p, kids[q]? = some p := ⟨_, List.getElem?_eq_getElem (by rw [HL.out]; exact hlt)⟩
   obtain ⟨bb, rfl, -, hbb, hce⟩ := (HK.out.kp K.out).at_ (by rw [HL.out]; omega)
   have cp := hce q p hp0
   obtain ⟨k', lo', hi', n', t', kn', so', ks', ad', c', -, -, hblk, -, -⟩ := ((HP.out.get q p hp0).kp K.out).form
   have Q := hid hblk
   have hp := HW.out.get q p hp0
   have hlt2 := row_lt (kids.take q) (0, 0) (WdOk.take kids q HW.out) (by decide) (by decide)
   rw [HU.out] at hlt2
   have HE5 : Hid (bits .or .u8 (u1 : Int) (bits .andNot .u8 (p.rd : Int) (u2 : Int)) = (((u1 ||| (p.rd &&& (7 - u2))) : Nat) : Int)) := by show _ = _; rw [u8_not _ _ hp.1 hlt2.2, u8_or _ _ hlt2.1 (and8 _ _ hp.1)]
   have HE6 : Hid (bits .or .u8 (u2 : Int) (p.st : Int) = (((u2 ||| p.st) : Nat) : Int)) := by show _ = _; rw [u8_or _ _ hlt2.2 hp.2]
   have HTK : Hid ((kids.take (q + 1)).foldl inRowF (0, 0) = ((u1 ||| (p.rd &&& (7 - u2))), (u2 ||| p.st))) := by
    show _ = _
    rw [List.take_succ_eq_append_getElem (by rw [HL.out]; exact hlt), List.foldl_append, HU.out, (List.getElem?_eq_some_iff.1 hp0).2]
    rfl
   have HPB : Hid (p.P ≠ (w.heap.size + 1)) := by
    show _ ≠ _
    obtain ⟨_, _, _, _, _, _, _, _, _, _, -, -, hb0, -, -⟩ := (HP.out.get q p hp0).form
    have := bl_lt hb0
    omega
   clear hp hlt2 hce hblk hp0
   go_upto_region 5 with fail
   clear cp
   go_cut [] (fun wc => wc.heap[(w.heap.size + 1)]? = some (uso (u1 ||| (p.rd &&& (7 - u2))) u2) ∧ Ks (w.heap.size + 1) wr wc)
   case first =>
    have Q0 : Ks (w.heap.size + 1) wr wr.drew := (Ks.refl _ _).drew
    have MK : Hid (∀ W, Ks (w.heap.size + 1) wr W → W.cell? ⟨p.P, 9, none⟩ = some (.int .u8 (p.rd : Int)) ∧ W.cell? ⟨p.P, 10, none⟩ = some (.int .u8 (p.st : Int)) ∧ Hid (Ks (w.heap.size + 1) wr W)) := fun W k => ⟨bl_cell (bl_ks Q.out HPB.out k) 9 _ rfl, bl_cell (bl_ks Q.out HPB.out k) 10 _ rfl, k⟩
    refine wp_region_noPanic ?_
    refine hdrewZ 12 MK Q0 (fun hH => ?_)
    have KQ := Q0
    refine zk 12 0 [] (some 12) (Op.fieldAddr 126 (Operand.tmp 3) 0) 0 (v := ?v0a1) rfl ?h0a1 hH ?_
    case h0a1 => intro _ _; go_simp; try with_reducible rfl
    try simp only [ps]
    refine zk 12 2 [] (some 14) (Op.move (Operand.tmp 5)) 71 (v := ?v2a2) rfl ?h2a2 hH ?_
    case h2a2 => intro _ _; go_simp; try with_reducible rfl
    try simp only [ps]
    refine zk 12 3 [] (some 15) (Op.nilCheck (Operand.tmp 14)) 0 (v := ?v3a3) rfl ?h3a3 hH ?_
    case h3a3 => intro _ _; go_simp; try with_reducible rfl
    try simp only [ps]
    refine zk 12 4 [] (some 16) (Op.fieldAddr 130 (Operand.tmp 15) 6) 0 (v := ?v4a4) rfl ?h4a4 hH ?_
    case h4a4 => intro _ _; go_simp; try with_reducible rfl
    try simp only [ps]
    refine zk 12 5 [] (some 17) (Op.fieldAddr 126 (Operand.tmp 16) 0) 0 (v := ?v5a5) rfl ?h5a5 hH ?_
    case h5a5 => intro _ _; go_simp; try with_reducible rfl
    try simp only [ps]
    refine zk 12 6 [] (some 18) (Op.load 75 (Operand.tmp 17)) 75 (v := ?v6a6) rfl ?h6a6 hH ?_
    case h6a6 => intro _ _; go_simp; try with_reducible rfl
    try simp only [ps]
    refine zk 12 7 [] (some 19) (Op.fieldAddr 126 (Operand.tmp 3) 1) 0 (v := ?v7a7) rfl ?h7a7 hH ?_
    case h7a7 => intro _ _; go_simp; try with_reducible rfl
    try simp only [ps]
    refine anyZ_ready (rs := [1, 8]) (by kernel_rfl) (by simp) ?_
    refine AllZ.cons (o := { dst := some 13, op := Op.load 75 (Operand.tmp 12), type := 75, pos := "part.go:112", after := #[{ on := 0, ground := Ground.data }], guard := none }) rfl (fun K hKq => ?_) ?_
    ·
     have l0 := bl_cell (bl_drew U.out) 0 _ rfl
     go_simp
     refine hKq.out _ _ (MK.out _ KQ) (fun hN => ?_)
     clear l0
     clear hKq K hH KQ
     have hH := hN
     clear hN
     have KQ := hH.2.2.out
     try simp only [ps]
     refine anyZ_ready (rs := [8]) (by kernel_rfl) (by simp) ?_
     refine AllZ.cons (o := { dst := some 20, op := Op.load 75 (Operand.tmp 19), type := 75, pos := "part.go:112", after := #[{ on := 7, ground := Ground.data }], guard := none }) rfl (fun K hKq => ?_) AllZ.nil
     have l1 := bl_cell (bl_drew U.out) 1 _ rfl
     go_simp
     refine hKq.out _ _ (MK.out _ KQ) (fun hN => ?_)
     clear l1
     clear hKq K hH KQ
     have hH := hN
     clear hN
     have KQ := hH.2.2.out
     try simp only [ps]
     refine zk 12 9 [] (some 21) (Op.binOp BinOp.andNot 75 (Operand.tmp 18) (Operand.tmp 20) 75) 75 (v := ?v9a8) rfl ?h9a8 hH ?_
     case h9a8 => intro _ _; go_simp; try with_reducible rfl
     try simp only [ps]
     refine zk 12 10 [] (some 22) (Op.binOp BinOp.or 75 (Operand.tmp 13) (Operand.tmp 21) 75) 75 (v := ?v10a9) rfl ?h10a9 hH ?_
     case h10a9 => intro _ _; go_simp; try with_reducible rfl
     try simp only [ps]
     refine zk 12 11 [] (some 23) (Op.fieldAddr 126 (Operand.tmp 3) 0) 0 (v := ?v11a10) rfl ?h11a10 hH ?_
     case h11a10 => intro _ _; go_simp; try with_reducible rfl
     try simp only [ps]
     refine anyZ_ready (rs := [12]) (by kernel_rfl) (by simp) ?_
     refine AllZ.last (o := { dst := none, op := Op.store 75 (Operand.tmp 23) (Operand.tmp 22), type := 0, pos := "part.go:112", after := #[{ on := 11, ground := Ground.data }, { on := 10, ground := Ground.data }, { on := 0, ground := Ground.phase }, { on := 1, ground := Ground.phase }, { on := 2, ground := Ground.phase }, { on := 3, ground := Ground.phase }, { on := 4, ground := Ground.phase }, { on := 5, ground := Ground.phase }, { on := 6, ground := Ground.phase }, { on := 7, ground := Ground.phase }, { on := 8, ground := Ground.phase }, { on := 9, ground := Ground.phase }, { on := 10, ground := Ground.phase }], guard := none }) rfl (Or.inl rfl) (fun K hKq => ?_) AllZ.nil
     have l0 := bl_cell (bl_drew U.out) 0 _ rfl
     have fl0 := bl_frozen (bl_drew U.out) 0
     go_simp
     refine hKq.out _ _ ?_
     clear l0 fl0
     clear hKq K
     try simp only [ps]
     refine anyZ_done (by kernel_rfl) ?_ _
     refine NoPanic.normal ?_
     go_wp2_with fail
     go_meet
     case rel => exact ⟨by rw [HE5.out]; exact bl_put U.out _, ((Ks.refl _ _).set _ _).drew⟩
    refine AllZ.cons (o := { dst := some 20, op := Op.load 75 (Operand.tmp 19), type := 75, pos := "part.go:112", after := #[{ on := 7, ground := Ground.data }], guard := none }) rfl (fun K hKq => ?_) ?_
    ·
     have l1 := bl_cell (bl_drew U.out) 1 _ rfl
     go_simp
     refine hKq.out _ _ (MK.out _ KQ) (fun hN => ?_)
     clear l1
     clear hKq K hH KQ
     have hH := hN
     clear hN
     have KQ := hH.2.2.out
     try simp only [ps]
     refine zk 12 9 [] (some 21) (Op.binOp BinOp.andNot 75 (Operand.tmp 18) (Operand.tmp 20) 75) 75 (v := ?v9a11) rfl ?h9a11 hH ?_
     case h9a11 => intro _ _; go_simp; try with_reducible rfl
     try simp only [ps]
     refine anyZ_ready (rs := [1]) (by kernel_rfl) (by simp) ?_
     refine AllZ.cons (o := { dst := some 13, op := Op.load 75 (Operand.tmp 12), type := 75, pos := "part.go:112", after := #[{ on := 0, ground := Ground.data }], guard := none }) rfl (fun K hKq => ?_) AllZ.nil
     have l0 := bl_cell (bl_drew U.out) 0 _ rfl
     go_simp
     refine hKq.out _ _ (MK.out _ KQ) (fun hN => ?_)
     clear l0
     clear hKq K hH KQ
     have hH := hN
     clear hN
     have KQ := hH.2.2.out
     try simp only [ps]
     refine zk 12 10 [] (some 22) (Op.binOp BinOp.or 75 (Operand.tmp 13) (Operand.tmp 21) 75) 75 (v := ?v10a12) rfl ?h10a12 hH ?_
     case h10a12 => intro _ _; go_simp; try with_reducible rfl
     try simp only [ps]
     refine zk 12 11 [] (some 23) (Op.fieldAddr 126 (Operand.tmp 3) 0) 0 (v := ?v11a13) rfl ?h11a13 hH ?_
     case h11a13 => intro _ _; go_simp; try with_reducible rfl
     try simp only [ps]
     refine anyZ_ready (rs := [12]) (by kernel_rfl) (by simp) ?_
     refine AllZ.last (o := { dst := none, op := Op.store 75 (Operand.tmp 23) (Operand.tmp 22), type := 0, pos := "part.go:112", after := #[{ on := 11, ground := Ground.data }, { on := 10, ground := Ground.data }, { on := 0, ground := Ground.phase }, { on := 1, ground := Ground.phase }, { on := 2, ground := Ground.phase }, { on := 3, ground := Ground.phase }, { on := 4, ground := Ground.phase }, { on := 5, ground := Ground.phase }, { on := 6, ground := Ground.phase }, { on := 7, ground := Ground.phase }, { on := 8, ground := Ground.phase }, { on := 9, ground := Ground.phase }, { on := 10, ground := Ground.phase }], guard := none }) rfl (Or.inl rfl) (fun K hKq => ?_) AllZ.nil
     have l0 := bl_cell (bl_drew U.out) 0 _ rfl
     have fl0 := bl_frozen (bl_drew U.out) 0
     go_simp
     refine hKq.out _ _ ?_
     clear l0 fl0
     clear hKq K
     try simp only [ps]
     refine anyZ_done (by kernel_rfl) ?_ _
     refine NoPanic.normal ?_
     go_wp2_with fail
     go_meet
     case rel => exact ⟨by rw [HE5.out]; exact bl_put U.out _, ((Ks.refl _ _).set _ _).drew⟩
    exact AllZ.nil
   case rest =>
   obtain ⟨hu4, hk4⟩ := hcut
   rename World => W4x
   have U4 := hid hu4
   have Q4 := hid (bl_ks Q.out HPB.out hk4)
   have A4 := hid (bl_ks A.out (by omega) hk4)
   have K4 := hid (hk4.up K.out (by omega))
   clear hu4 hk4 U Q A K
   go_upto_region 6 with fail
   have Q0 : Ks (w.heap.size + 1) W4x W4x.drew := (Ks.refl _ _).drew
   have MK : Hid (∀ W, Ks (w.heap.size + 1) W4x W → W.cell? ⟨p.P, 9, none⟩ = some (.int .u8 (p.rd : Int)) ∧ W.cell? ⟨p.P, 10, none⟩ = some (.int .u8 (p.st : Int)) ∧ Hid (Ks (w.heap.size + 1) W4x W)) := fun W k => ⟨bl_cell (bl_ks Q4.out HPB.out k) 9 _ rfl, bl_cell (bl_ks Q4.out HPB.out k) 10 _ rfl, k⟩
   refine wp_region_noPanic ?_
   refine hdrewZ 9 MK Q0 (fun hH => ?_)
   have KQ := Q0
   refine zk 9 0 [] (some 24) (Op.fieldAddr 126 (Operand.tmp 3) 1) 0 (v := ?v0b1) rfl ?h0b1 hH ?_
   case h0b1 => intro _ _; go_simp; try with_reducible rfl
   try simp only [ps]
   refine zk 9 2 [] (some 26) (Op.move (Operand.tmp 5)) 71 (v := ?v2b2) rfl ?h2b2 hH ?_
   case h2b2 => intro _ _; go_simp; try with_reducible rfl
   try simp only [ps]
   refine zk 9 3 [] (some 27) (Op.nilCheck (Operand.tmp 26)) 0 (v := ?v3b3) rfl ?h3b3 hH ?_
   case h3b3 => intro _ _; go_simp; try with_reducible rfl
   try simp only [ps]
   refine zk 9 4 [] (some 28) (Op.fieldAddr 130 (Operand.tmp 27) 6) 0 (v := ?v4b4) rfl ?h4b4 hH ?_
   case h4b4 => intro _ _; go_simp; try with_reducible rfl
   try simp only [ps]
   refine zk 9 5 [] (some 29) (Op.fieldAddr 126 (Operand.tmp 28) 1) 0 (v := ?v5b5) rfl ?h5b5 hH ?_
   case h5b5 => intro _ _; go_simp; try with_reducible rfl
   try simp only [ps]
   refine zk 9 6 [] (some 30) (Op.load 75 (Operand.tmp 29)) 75 (v := ?v6b6) rfl ?h6b6 hH ?_
   case h6b6 => intro _ _; go_simp; try with_reducible rfl
   try simp only [ps]
   refine anyZ_ready (rs := [1]) (by kernel_rfl) (by simp) ?_
   refine AllZ.cons (o := { dst := some 25, op := Op.load 75 (Operand.tmp 24), type := 75, pos := "part.go:113", after := #[{ on := 0, ground := Ground.data }], guard := none }) rfl (fun K hKq => ?_) AllZ.nil
   have l1 := bl_cell (bl_drew U4.out) 1 _ rfl
   go_simp
   refine hKq.out _ _ (MK.out _ KQ) (fun hN => ?_)
   clear l1
   clear hKq K hH KQ
   have hH := hN
   clear hN
   have KQ := hH.2.2.out
   try simp only [ps]
   refine zk 9 7 [] (some 31) (Op.binOp BinOp.or 75 (Operand.tmp 25) (Operand.tmp 30) 75) 75 (v := ?v7b7) rfl ?h7b7 hH ?_
   case h7b7 => intro _ _; go_simp; try with_reducible rfl
   try simp only [ps]
   refine zk 9 8 [] (some 32) (Op.fieldAddr 126 (Operand.tmp 3) 1) 0 (v := ?v8b8) rfl ?h8b8 hH ?_
   case h8b8 => intro _ _; go_simp; try with_reducible rfl
   try simp only [ps]
   refine anyZ_ready (rs := [9]) (by kernel_rfl) (by simp) ?_
   refine AllZ.last (o := { dst := none, op := Op.store 75 (Operand.tmp 32) (Operand.tmp 31), type := 0, pos := "part.go:113", after := #[{ on := 8, ground := Ground.data }, { on := 7, ground := Ground.data }, { on := 0, ground := Ground.phase }, { on := 1, ground := Ground.phase }, { on := 2, ground := Ground.phase }, { on := 3, ground := Ground.phase }, { on := 4, ground := Ground.phase }, { on := 5, ground := Ground.phase }, { on := 6, ground := Ground.phase }, { on := 7, ground := Ground.phase }], guard := none }) rfl (Or.inl rfl) (fun K hKq => ?_) AllZ.nil
   have l1 := bl_cell (bl_drew U4.out) 1 _ rfl
   have fl1 := bl_frozen (bl_drew U4.out) 1
   go_simp
   refine hKq.out _ _ ?_
   clear l1 fl1
   clear hKq K
   try simp only [ps]
   refine anyZ_done (by kernel_rfl) ?_ _
   refine NoPanic.normal ?_
   go_wp2_with fail
   go_roundg (gk - 1)
   case measure => omega
   case rel => exact ⟨q + 1, _, _, by omega, by go_num, HTK.out, bl_set A4.out (by omega) _, by rw [HE6.out]; exact bl_put U4.out _, Ks.up (P := (w.heap.size + 1)) (((Ks.refl _ _).set _ _).drew) K4.out (by omega)⟩
  ·
   have ga : ¬ (q : Int) < (L : Int) := by omega
   have E : Hid (G = (u1, u2)) := by
    show _ = _
    rw [← HG.out, ← HU.out, List.take_of_length_le (by rw [HL.out]; omega)]
   obtain ⟨a0, fa0, a1, fa1⟩ := cellf2 (A.out)
   have u0 := bl_cell (U.out) 0 _ rfl
   have u1 := bl_cell (U.out) 1 _ rfl
   go_wp2_with fail
   rw [E.out]
   exact bodyPost_ret (v := .agg _) (us_ret rfl _ _ _ _ rfl (bl_put (bl_put A.out _) _) rfl) rfl ⟨rfl, Ks.up (P := w.heap.size) (((Ks.refl _ _).set _ _).set _ _) K.out (by omega)⟩
end Go.Proofs.YtnajcnhgeggngaaGreat.Way

/-! ### InAlt -/

namespace Go.Proofs.YtnajcnhgeggngaaGreat.Way
set_option maxHeartbeats 2000000
set_option maxRecDepth 100000
open Go.RowKit Go.Proofs.YtnajcnhgeggngaaGreat

theorem alt_any (ok : Nat → Prop) (ad : Option Addr) (c : Nat) (kids : List Pt) (w : World) (hK : KidS w ok ad c kids) (hP : PtsAt w ok kids) (hW : WdOk kids) (hL : kids.length ≤ 1000000) :
  Calls Tryz.prog 78 #[.slice ad kids.length c] w fun e w' => e = .returned (.agg #[.int .u8 ((kids.foldl inAltF (0, 7)).1 : Int), .int .u8 ((kids.foldl inAltF (0, 7)).2 : Int)]) ∧ Kp w w' := by
 obtain ⟨L, hLL⟩ : ∃ L, kids.length = L := ⟨_, rfl⟩
 have HL := hid hLL
 have HK := hid hK
 have HP := hid hP
 have HW := hid hW
 have hcap := hK.cap
 obtain ⟨G, hG⟩ : ∃ G, kids.foldl inAltF (0, 7) = G := ⟨_, rfl⟩
 have HG := hid hG
 rw [hG]
 rw [hLL] at hL hcap ⊢
 clear hK hP hW hLL hG
 go_enter Tryz.func78, Tryz.ntmps78
 go_upto_region 2 with fail
 refine opq (fun W0 => W0.heap[w.heap.size]? = some (uso 0 0) ∧ W0.heap[(w.heap.size + 1)]? = some (uso 0 7) ∧ Kp w W0) ⟨by exact bl_alloc (last_of _ _) _, by exact last_at _ _ _ (by simp), by exact kpt⟩ ?_
 rintro W0 ⟨xA0, xB0, xK0⟩
 have A0 := hid xA0
 have B0 := hid xB0
 have K0 := hid xK0
 clear xA0 xB0 xK0
 go_wp2_with fail
 go_loopg [9] L (fun gg i wr => ∃ (q u1 u2 : Nat), q + gg = L ∧ i = .int .i64 (q : Int) ∧ (kids.take q).foldl inAltF (0, 7) = (u1, u2) ∧ wr.heap[w.heap.size]? = some (uso 0 0) ∧ wr.heap[(w.heap.size + 1)]? = some (uso u1 u2) ∧ Kp w wr)
 case atStart => exact ⟨0, 0, 7, by omega, rfl, rfl, A0.out, B0.out, K0.out⟩
 case round =>
  obtain ⟨q, u1, u2, hq, rfl, hU, hA, hB, hK⟩ := hrel
  have HU := hid hU
  have A := hid hA
  have U := hid hB
  have K := hid hK
  clear hU hA hB hK A0 B0 K0
  by_cases hlt : q < L
  ·
   have gkw : IntKind.i64.wrap ((q : Int) + 1) = (q : Int) + 1 := by rw [IntKind.wrap_i64]; omega
   have ga : (q : Int) < (L : Int) := by omega
   have g0 : (0 : Int) ≤ (q : Int) := by omega
   obtain ⟨p, hp0⟩ : ∃ p, kids[q]? = some p := ⟨_, List.getElem?_eq_getElem (by rw [HL.out]; exact hlt)⟩
   obtain ⟨bb, rfl, -, hbb, hce⟩ := (HK.out.kp K.out).at_ (by rw [HL.out]; omega)
   have cp := hce q p hp0
   obtain ⟨k', lo', hi', n', t', kn', so', ks', ad', c', -, -, hblk, -, -⟩ := ((HP.out.get q p hp0).kp K.out).form
   have Q := hid hblk
   have hp := HW.out.get q p hp0
   have hlt2 := alt_lt (kids.take q) (0, 7) (WdOk.take kids q HW.out) (by decide) (by decide)
   rw [HU.out] at hlt2
   have HE5 : Hid (bits .or .u8 (u1 : Int) (p.rd : Int) = (((u1 ||| p.rd) : Nat) : Int)) := by show _ = _; rw [u8_or _ _ hlt2.1 hp.1]
   have HE6 : Hid (bits .and .u8 (u2 : Int) (p.st : Int) = (((u2 &&& p.st) : Nat) : Int)) := by show _ = _; rw [u8_and _ _ hlt2.2 hp.2]
   have HTK : Hid ((kids.take (q + 1)).foldl inAltF (0, 7) = ((u1 ||| p.rd), (u2 &&& p.st))) := by
    show _ = _
    rw [List.take_succ_eq_append_getElem (by rw [HL.out]; exact hlt), List.foldl_append, HU.out, (List.getElem?_eq_some_iff.1 hp0).2]
    rfl
   have HPB : Hid (p.P ≠ (w.heap.size + 1)) := by
    show _ ≠ _
    obtain ⟨_, _, _, _, _, _, _, _, _, _, -, -, hb0, -, -⟩ := (HP.out.get q p hp0).form
    have := bl_lt hb0
    omega
   clear hp hlt2 hce hblk hp0
   go_upto_region 5 with fail
   clear cp
   go_cut [] (fun wc => wc.heap[(w.heap.size + 1)]? = some (uso (u1 ||| p.rd) u2) ∧ Ks (w.heap.size + 1) wr wc)
   case first =>
    have Q0 : Ks (w.heap.size + 1) wr wr.drew := (Ks.refl _ _).drew
    have MK : Hid (∀ W, Ks (w.heap.size + 1) wr W → W.cell? ⟨p.P, 9, none⟩ = some (.int .u8 (p.rd : Int)) ∧ W.cell? ⟨p.P, 10, none⟩ = some (.int .u8 (p.st : Int)) ∧ Hid (Ks (w.heap.size + 1) wr W)) := fun W k => ⟨bl_cell (bl_ks Q.out HPB.out k) 9 _ rfl, bl_cell (bl_ks Q.out HPB.out k) 10 _ rfl, k⟩
    refine wp_region_noPanic ?_
    refine hdrewZ 9 MK Q0 (fun hH => ?_)
    have KQ := Q0
    refine zk 9 0 [] (some 13) (Op.fieldAddr 126 (Operand.tmp 3) 0) 0 (v := ?v0a1) rfl ?h0a1 hH ?_
    case h0a1 => intro _ _; go_simp; try with_reducible rfl
    try simp only [ps]
    refine zk 9 2 [] (some 15) (Op.move (Operand.tmp 5)) 71 (v := ?v2a2) rfl ?h2a2 hH ?_
    case h2a2 => intro _ _; go_simp; try with_reducible rfl
    try simp only [ps]
    refine zk 9 3 [] (some 16) (Op.nilCheck (Operand.tmp 15)) 0 (v := ?v3a3) rfl ?h3a3 hH ?_
    case h3a3 => intro _ _; go_simp; try with_reducible rfl
    try simp only [ps]
    refine zk 9 4 [] (some 17) (Op.fieldAddr 130 (Operand.tmp 16) 6) 0 (v := ?v4a4) rfl ?h4a4 hH ?_
    case h4a4 => intro _ _; go_simp; try with_reducible rfl
    try simp only [ps]
    refine zk 9 5 [] (some 18) (Op.fieldAddr 126 (Operand.tmp 17) 0) 0 (v := ?v5a5) rfl ?h5a5 hH ?_
    case h5a5 => intro _ _; go_simp; try with_reducible rfl
    try simp only [ps]
    refine zk 9 6 [] (some 19) (Op.load 75 (Operand.tmp 18)) 75 (v := ?v6a6) rfl ?h6a6 hH ?_
    case h6a6 => intro _ _; go_simp; try with_reducible rfl
    try simp only [ps]
    refine anyZ_ready (rs := [1]) (by kernel_rfl) (by simp) ?_
    refine AllZ.cons (o := { dst := some 14, op := Op.load 75 (Operand.tmp 13), type := 75, pos := "part.go:121", after := #[{ on := 0, ground := Ground.data }], guard := none }) rfl (fun K hKq => ?_) AllZ.nil
    have l0 := bl_cell (bl_drew U.out) 0 _ rfl
    go_simp
    refine hKq.out _ _ (MK.out _ KQ) (fun hN => ?_)
    clear l0
    clear hKq K hH KQ
    have hH := hN
    clear hN
    have KQ := hH.2.2.out
    try simp only [ps]
    refine zk 9 7 [] (some 20) (Op.binOp BinOp.or 75 (Operand.tmp 14) (Operand.tmp 19) 75) 75 (v := ?v7a7) rfl ?h7a7 hH ?_
    case h7a7 => intro _ _; go_simp; try with_reducible rfl
    try simp only [ps]
    refine zk 9 8 [] (some 21) (Op.fieldAddr 126 (Operand.tmp 3) 0) 0 (v := ?v8a8) rfl ?h8a8 hH ?_
    case h8a8 => intro _ _; go_simp; try with_reducible rfl
    try simp only [ps]
    refine anyZ_ready (rs := [9]) (by kernel_rfl) (by simp) ?_
    refine AllZ.last (o := { dst := none, op := Op.store 75 (Operand.tmp 21) (Operand.tmp 20), type := 0, pos := "part.go:121", after := #[{ on := 8, ground := Ground.data }, { on := 7, ground := Ground.data }, { on := 0, ground := Ground.phase }, { on := 1, ground := Ground.phase }, { on := 2, ground := Ground.phase }, { on := 3, ground := Ground.phase }, { on := 4, ground := Ground.phase }, { on := 5, ground := Ground.phase }, { on := 6, ground := Ground.phase }, { on := 7, ground := Ground.phase }], guard := none }) rfl (Or.inl rfl) (fun K hKq => ?_) AllZ.nil
    have l0 := bl_cell (bl_drew U.out) 0 _ rfl
    have fl0 := bl_frozen (bl_drew U.out) 0
    go_simp
    refine hKq.out _ _ ?_
    clear l0 fl0
    clear hKq K
    try simp only [ps]
    refine anyZ_done (by kernel_rfl) ?_ _
    refine NoPanic.normal ?_
    go_wp2_with fail
    go_meet
    case rel => exact ⟨by rw [HE5.out]; exact bl_put U.out _, ((Ks.refl _ _).set _ _).drew⟩
   case rest =>
   obtain ⟨hu4, hk4⟩ := hcut
   rename World => W4x
   have U4 := hid hu4
   have Q4 := hid (bl_ks Q.out HPB.out hk4)
   have A4 := hid (bl_ks A.out (by omega) hk4)
   have K4 := hid (hk4.up K.out (by omega))
   clear hu4 hk4 U Q A K
   go_upto_region 6 with fail
   have Q0 : Ks (w.heap.size + 1) W4x W4x.drew := (Ks.refl _ _).drew
   have MK : Hid (∀ W, Ks (w.heap.size + 1) W4x W → W.cell? ⟨p.P, 9, none⟩ = some (.int .u8 (p.rd : Int)) ∧ W.cell? ⟨p.P, 10, none⟩ = some (.int .u8 (p.st : Int)) ∧ Hid (Ks (w.heap.size + 1) W4x W)) := fun W k => ⟨bl_cell (bl_ks Q4.out HPB.out k) 9 _ rfl, bl_cell (bl_ks Q4.out HPB.out k) 10 _ rfl, k⟩
   refine wp_region_noPanic ?_
   refine hdrewZ 9 MK Q0 (fun hH => ?_)
   have KQ := Q0
   refine zk 9 0 [] (some 22) (Op.fieldAddr 126 (Operand.tmp 3) 1) 0 (v := ?v0b1) rfl ?h0b1 hH ?_
   case h0b1 => intro _ _; go_simp; try with_reducible rfl
   try simp only [ps]
   refine zk 9 2 [] (some 24) (Op.move (Operand.tmp 5)) 71 (v := ?v2b2) rfl ?h2b2 hH ?_
   case h2b2 => intro _ _; go_simp; try with_reducible rfl
   try simp only [ps]
   refine zk 9 3 [] (some 25) (Op.nilCheck (Operand.tmp 24)) 0 (v := ?v3b3) rfl ?h3b3 hH ?_
   case h3b3 => intro _ _; go_simp; try with_reducible rfl
   try simp only [ps]
   refine zk 9 4 [] (some 26) (Op.fieldAddr 130 (Operand.tmp 25) 6) 0 (v := ?v4b4) rfl ?h4b4 hH ?_
   case h4b4 => intro _ _; go_simp; try with_reducible rfl
   try simp only [ps]
   refine zk 9 5 [] (some 27) (Op.fieldAddr 126 (Operand.tmp 26) 1) 0 (v := ?v5b5) rfl ?h5b5 hH ?_
   case h5b5 => intro _ _; go_simp; try with_reducible rfl
   try simp only [ps]
   refine zk 9 6 [] (some 28) (Op.load 75 (Operand.tmp 27)) 75 (v := ?v6b6) rfl ?h6b6 hH ?_
   case h6b6 => intro _ _; go_simp; try with_reducible rfl
   try simp only [ps]
   refine anyZ_ready (rs := [1]) (by kernel_rfl) (by simp) ?_
   refine AllZ.cons (o := { dst := some 23, op := Op.load 75 (Operand.tmp 22), type := 75, pos := "part.go:122", after := #[{ on := 0, ground := Ground.data }], guard := none }) rfl (fun K hKq => ?_) AllZ.nil
   have l1 := bl_cell (bl_drew U4.out) 1 _ rfl
   go_simp
   refine hKq.out _ _ (MK.out _ KQ) (fun hN => ?_)
   clear l1
   clear hKq K hH KQ
   have hH := hN
   clear hN
   have KQ := hH.2.2.out
   try simp only [ps]
   refine zk 9 7 [] (some 29) (Op.binOp BinOp.and 75 (Operand.tmp 23) (Operand.tmp 28) 75) 75 (v := ?v7b7) rfl ?h7b7 hH ?_
   case h7b7 => intro _ _; go_simp; try with_reducible rfl
   try simp only [ps]
   refine zk 9 8 [] (some 30) (Op.fieldAddr 126 (Operand.tmp 3) 1) 0 (v := ?v8b8) rfl ?h8b8 hH ?_
   case h8b8 => intro _ _; go_simp; try with_reducible rfl
   try simp only [ps]
   refine anyZ_ready (rs := [9]) (by kernel_rfl) (by simp) ?_
   refine AllZ.last (o := { dst := none, op := Op.store 75 (Operand.tmp 30) (Operand.tmp 29), type := 0, pos := "part.go:122", after := #[{ on := 8, ground := Ground.data }, { on := 7, ground := Ground.data }, { on := 0, ground := Ground.phase }, { on := 1, ground := Ground.phase }, { on := 2, ground := Ground.phase }, { on := 3, ground := Ground.phase }, { on := 4, ground := Ground.phase }, { on := 5, ground := Ground.phase }, { on := 6, ground := Ground.phase }, { on := 7, ground := Ground.phase }], guard := none }) rfl (Or.inl rfl) (fun K hKq => ?_) AllZ.nil
   have l1 := bl_cell (bl_drew U4.out) 1 _ rfl
   have fl1 := bl_frozen (bl_drew U4.out) 1
   go_simp
   refine hKq.out _ _ ?_
   clear l1 fl1
   clear hKq K
   try simp only [ps]
   refine anyZ_done (by kernel_rfl) ?_ _
   refine NoPanic.normal ?_
   go_wp2_with fail
   go_roundg (gk - 1)
   case measure => omega
   case rel => exact ⟨q + 1, _, _, by omega, by go_num, HTK.out, bl_set A4.out (by omega) _, by rw [HE6.out]; exact bl_put U4.out _, Ks.up (P := (w.heap.size + 1)) (((Ks.refl _ _).set _ _).drew) K4.out (by omega)⟩
  ·
   have ga : ¬ (q : Int) < (L : Int) := by omega
   have E : Hid (G = (u1, u2)) := by
    show _ = _
    rw [← HG.out, ← HU.out, List.take_of_length_le (by rw [HL.out]; omega)]
   obtain ⟨a0, fa0, a1, fa1⟩ := cellf2 (A.out)
   have u0 := bl_cell (U.out) 0 _ rfl
   have u1 := bl_cell (U.out) 1 _ rfl
   go_wp2_with fail
   rw [E.out]
   exact bodyPost_ret (v := .agg _) (us_ret rfl _ _ _ _ rfl (bl_put (bl_put A.out _) _) rfl) rfl ⟨rfl, Ks.up (P := w.heap.size) (((Ks.refl _ _).set _ _).set _ _) K.out (by omega)⟩
end Go.Proofs.YtnajcnhgeggngaaGreat.Way

/-! ### Use50 -/

namespace Go.Proofs.YtnajcnhgeggngaaGreat.Way
set_option maxHeartbeats 2000000
set_option maxRecDepth 100000
open Go.RowKit Go.Proofs.YtnajcnhgeggngaaGreat

structure UseD (u : Nat × Nat) (w : World) (e : Ending) (w' : World) : Prop where
 ex : e = .returned (.agg #[.int .u8 (u.1 : Int), .int .u8 (u.2 : Int)]) ∧ Kp w w'
theorem grp_any (n : Int) (h1 : n = 1 ∨ n = 2 ∨ n = 3) (w : World) : Calls Tryz.prog 52 #[.int .i64 n] w fun e w' => e = .returned (.int .u8 (grpB n : Int)) ∧ w' = w := by
 refine (oneGroup_any n h1 w).mono ?_
 rintro e w' ⟨rfl, rfl⟩
 unfold grpB
 rcases h1 with rfl | rfl | rfl <;> exact ⟨rfl, rfl⟩
theorem grp_lt (n : Int) : grpB n < 8 := by
 unfold grpB
 split
 ·
  omega
 ·
  split <;> omega
theorem used_any (ok : Nat → Prop) (k low high n : Int) (t : W4) (P rd st hd : Nat) (kn so : Option Nat) (ad : Option Addr) (c : Nat) (kids : List Pt) (w : World) (hP : w.heap[P]? = some (pto k low high n t (.slice ad kids.length c) rd st hd kn so)) (hK : KidS w ok ad c kids) (hpts : PtsAt w ok kids) (hW : WdOk kids) (hL : kids.length ≤ 1000000) (hn : k = 6 ∨ k = 5 → n = 1 ∨ n = 2 ∨ n = 3) (hne : k = 5 ∨ k = 4 → kids ≠ []) :
  Calls Tryz.prog 50 #[ptv P] w fun e w' => UseD (usedP k low n kids) w e w' := by
 obtain ⟨L, hLL⟩ : ∃ L, kids.length = L := ⟨_, rfl⟩
 rw [hLL] at hP
 have HP := hid hP
 have HKW := hid (fun (W : World) (k0 : Kp w W) => hK.kp k0)
 have HPW := hid (fun (W : World) (k0 : Kp w W) => PtsAt.kp hpts k0)
 have HW := hid hW
 have HL := hid hL
 have HLL := hid hLL
 have HN := hid hn
 have HNE := hid hne
 obtain ⟨U, hU⟩ : ∃ U, usedP k low n kids = U := ⟨_, rfl⟩
 have HU := hid hU
 rw [hU]
 have RA := hid (fun (W : World) (k0 : Kp w W) => row_any ok ad c kids W (hK.kp k0) (PtsAt.kp hpts k0) hW hL)
 have AA := hid (fun (W : World) (k0 : Kp w W) => alt_any ok ad c kids W (hK.kp k0) (PtsAt.kp hpts k0) hW hL)
 rw [hLL] at RA AA
 clear hP hK hpts hW hL hn hne hU hLL
 go_enter Tryz.func50, Tryz.ntmps50
 go_upto_region 1 with fail
 refine opq (fun W0 => W0.heap[w.heap.size]? = some (uso 0 0) ∧ W0.heap[P]? = some (pto k low high n t (.slice ad L c) rd st hd kn so) ∧ Kp w W0 ∧ w.heap.size < W0.heap.size) ⟨by exact last_of _ _, by exact bl_kp HP.out kpt, by exact kpt, by simp⟩ ?_
 rintro W0 ⟨xA0, xP0, xK0, xZ0⟩
 have A0 := hid xA0
 have P0 := hid xP0
 have K0 := hid xK0
 have Z0 := hid xZ0
 clear xA0 xP0 xK0 xZ0
 clear HP
 obtain ⟨a0, fa0, a1, fa1⟩ := cellf2 (A0.out)
 obtain ⟨p0, p1, p2, p3, p4, p5, p6, p7, p8, p9, p10, p11, p12, p13⟩ := cells14 (P0.out)
 by_cases k6 : k = 6
 ·
  subst k6
  have GB := hid (fun W => grp_any n (HN.out (Or.inl rfl)) W)
  have HE : Hid (U = (grpB n, 0)) := by show _ = _; rw [← HU.out]; unfold usedP; rw [if_pos rfl]
  go_wp2_with fail
  refine (GB.out _).mono ?_
  rintro e w1 ⟨rfl, hw⟩
  rw [hw]
  clear hw w1
  go_wp2_with fail
  exact bodyPost_ret (v := .agg _) (us_ret rfl _ _ _ _ rfl (bl_put (bl_put A0.out _) _) rfl) rfl ⟨by rw [HE.out]; rfl, Ks.up (P := w.heap.size) (((Ks.refl _ _).set _ _).set _ _) K0.out (Nat.le_refl _)⟩
 have k6b : (k == 6) = false := by simp [k6]
 by_cases k2 : k = 2
 ·
  subst k2
  have HE : Hid (U = kids.foldl inRowF (0, 0)) := by show _ = _; rw [← HU.out]; unfold usedP; rw [if_neg (by decide), if_neg (by decide), if_pos rfl]
  have R0 := hid (RA.out W0 K0.out)
  clear a0 a1 fa0 fa1
  go_wp2_with fail
  refine (R0.out).mono ?_
  rintro e w1 ⟨rfl, hk⟩
  have A3 := hid (bl_kp A0.out hk)
  have K3 := hid (K0.out.trans hk)
  clear hk p0 p1 p2 p3 p4 p5 p6 p7 p8 p9 p10 p11 p12 p13
  obtain ⟨a0, fa0, a1, fa1⟩ := cellf2 (A3.out)
  go_wp2_with fail
  exact bodyPost_ret (v := .agg _) (us_ret rfl _ _ _ _ rfl (bl_put (bl_put A3.out _) _) rfl) rfl ⟨by rw [HE.out]; rfl, Ks.up (P := w.heap.size) (((Ks.refl _ _).set _ _).set _ _) K3.out (Nat.le_refl _)⟩
 have k2b : (k == 2) = false := by simp [k2]
 by_cases k3 : k = 3
 ·
  subst k3
  have HE : Hid (U = kids.foldl inAltF (0, 7)) := by show _ = _; rw [← HU.out]; unfold usedP; rw [if_neg (by decide), if_neg (by decide), if_neg (by decide), if_pos rfl]
  have R0 := hid (AA.out W0 K0.out)
  clear a0 a1 fa0 fa1
  go_wp2_with fail
  refine (R0.out).mono ?_
  rintro e w1 ⟨rfl, hk⟩
  have A3 := hid (bl_kp A0.out hk)
  have K3 := hid (K0.out.trans hk)
  clear hk p0 p1 p2 p3 p4 p5 p6 p7 p8 p9 p10 p11 p12 p13
  obtain ⟨a0, fa0, a1, fa1⟩ := cellf2 (A3.out)
  go_wp2_with fail
  exact bodyPost_ret (v := .agg _) (us_ret rfl _ _ _ _ rfl (bl_put (bl_put A3.out _) _) rfl) rfl ⟨by rw [HE.out]; rfl, Ks.up (P := w.heap.size) (((Ks.refl _ _).set _ _).set _ _) K3.out (Nat.le_refl _)⟩
 have k3b : (k == 3) = false := by simp [k3]
 by_cases k54 : k = 5 ∨ k = 4
 ·
  obtain ⟨kid, ks, hkk⟩ : ∃ kid ks, kids = kid :: ks := by
   cases hh : kids with
   | nil => exact absurd hh (HNE.out k54)
   | cons kid ks => exact ⟨kid, ks, rfl⟩
  subst hkk
  have hL0 : 0 < L := by rw [← HLL.out]; simp
  obtain ⟨bb, rfl, -, -, hce⟩ := (HKW.out W0 K0.out).at_ (by simp)
  have cp := hce 0 kid rfl
  obtain ⟨k', lo', hi', n', t', kn', so', ks', ad', c', -, -, hblk, -, -⟩ := ((HPW.out W0 K0.out).get 0 kid rfl).form
  have q9 := bl_cell hblk 9 _ rfl
  have q10 := bl_cell hblk 10 _ rfl
  have HWD := hid (HW.out.get 0 kid rfl)
  clear hce hblk HKW HPW RA AA
  rcases k54 with rfl | rfl
  ·
   have GB := hid (fun W => grp_any n (HN.out (Or.inr rfl)) W)
   have HE : Hid (U = (kid.rd, kid.st ||| grpB n)) := by show _ = _; rw [← HU.out]; unfold usedP; rw [if_neg (by decide), if_pos rfl]
   have gor : bits .or .u8 (kid.st : Int) (grpB n : Int) = ((kid.st ||| grpB n : Nat) : Int) := u8_or kid.st (grpB n) HWD.out.2 (grp_lt n)
   obtain ⟨G, hG⟩ : ∃ G, grpB n = G := ⟨_, rfl⟩
   rw [hG] at HE gor GB
   clear hG
   go_upto_region 6 with fail
   refine opq (fun W2 => W2.heap[w.heap.size]? = some (uso 0 0) ∧ W2.heap[P]? = some (pto 5 low high n t (.slice (some ⟨bb, 0, none⟩) L c) rd st hd kn so) ∧ W2.heap[W0.heap.size]? = some (uso kid.rd kid.st) ∧ Kp w W2) ⟨by exact bl_alloc A0.out _, by exact bl_alloc P0.out _, by exact last_of _ _, by exact K0.out.alloc _⟩ ?_
   rintro W2 ⟨xA2, xP2, xU2, xK2⟩
   have A2 := hid xA2
   have P2 := hid xP2
   have U2 := hid xU2
   have K2 := hid xK2
   clear xA2 xP2 xU2 xK2
   clear a0 a1 fa0 fa1 p0 p1 p2 p3 p4 p5 p6 p7 p8 p9 p10 p11 p12 p13 cp q9 q10
   go_cut [] (fun wc => wc.heap[W0.heap.size]? = some (uso kid.rd (kid.st ||| G)) ∧ Ks W0.heap.size W2 wc)
   case first =>
    have Q0 : Kp W2 W2.drew := (Kp.refl _).drew
    have MK : Hid (∀ W, Kp W2 W → W.cell? ⟨W0.heap.size, 1, none⟩ = some (.int .u8 (kid.st : Int)) ∧ W.cell? ⟨P, 3, none⟩ = some (.int .i64 n) ∧ Hid (Kp W2 W)) := fun W k => ⟨bl_cell (bl_kp U2.out k) 1 _ rfl, bl_cell (bl_kp P2.out k) 3 _ rfl, k⟩
    refine wp_region_noPanic ?_
    refine hdrewZ 9 MK Q0 (fun hH => ?_)
    have KQ := Q0
    refine zk 9 0 [] (some 28) (Op.fieldAddr 126 (Operand.tmp 3) 1) 0 (v := ?v0a1) rfl ?h0a1 hH ?_
    case h0a1 => intro _ _; go_simp; try with_reducible rfl
    try simp only [ps]
    refine zk 9 1 [] (some 29) (Op.load 75 (Operand.tmp 28)) 75 (v := ?v1a2) rfl ?h1a2 hH ?_
    case h1a2 => intro _ _; go_simp; try with_reducible rfl
    try simp only [ps]
    refine zk 9 2 [] (some 30) (Op.move (Operand.tmp 0)) 71 (v := ?v2a3) rfl ?h2a3 hH ?_
    case h2a3 => intro _ _; go_simp; try with_reducible rfl
    try simp only [ps]
    refine zk 9 3 [] (some 31) (Op.nilCheck (Operand.tmp 30)) 0 (v := ?v3a4) rfl ?h3a4 hH ?_
    case h3a4 => intro _ _; go_simp; try with_reducible rfl
    try simp only [ps]
    refine zk 9 4 [] (some 32) (Op.fieldAddr 130 (Operand.tmp 31) 3) 0 (v := ?v4a5) rfl ?h4a5 hH ?_
    case h4a5 => intro _ _; go_simp; try with_reducible rfl
    try simp only [ps]
    refine zk 9 5 [] (some 33) (Op.load 3 (Operand.tmp 32)) 3 (v := ?v5a6) rfl ?h5a6 hH ?_
    case h5a6 => intro _ _; go_simp; try with_reducible rfl
    try simp only [ps]
    refine anyZ_ready (rs := [6]) (by kernel_rfl) (by simp) ?_
    refine AllZ.cons (o := { dst := some 34, op := Op.call { callee := Callee.value (Operand.func 52), args := #[Operand.tmp 33], argTypes := #[3] }, type := 75, pos := "part.go:93", after := #[{ on := 5, ground := Ground.data }], guard := none }) rfl (fun K hKq => ?_) AllZ.nil
    go_simp
    refine (GB.out _).mono ?_
    rintro e yy ⟨rfl, rfl⟩
    refine hKq.out _ _ (MK.out _ KQ) (fun hN => ?_)
    clear hKq K hH KQ
    have hH := hN
    clear hN
    have KQ := hH.2.2.out
    try simp only [ps]
    refine zk 9 7 [] (some 35) (Op.binOp BinOp.or 75 (Operand.tmp 29) (Operand.tmp 34) 75) 75 (v := ?v7a7) rfl ?h7a7 hH ?_
    case h7a7 => intro _ _; go_simp; try with_reducible rfl
    try simp only [ps]
    refine zk 9 8 [] (some 36) (Op.fieldAddr 126 (Operand.tmp 3) 1) 0 (v := ?v8a8) rfl ?h8a8 hH ?_
    case h8a8 => intro _ _; go_simp; try with_reducible rfl
    try simp only [ps]
    refine anyZ_ready (rs := [9]) (by kernel_rfl) (by simp) ?_
    refine AllZ.last (o := { dst := none, op := Op.store 75 (Operand.tmp 36) (Operand.tmp 35), type := 0, pos := "part.go:93", after := #[{ on := 8, ground := Ground.data }, { on := 7, ground := Ground.data }, { on := 6, ground := Ground.chain }, { on := 0, ground := Ground.phase }, { on := 1, ground := Ground.phase }, { on := 2, ground := Ground.phase }, { on := 3, ground := Ground.phase }, { on := 4, ground := Ground.phase }, { on := 5, ground := Ground.phase }, { on := 6, ground := Ground.phase }, { on := 7, ground := Ground.phase }], guard := none }) rfl (Or.inl rfl) (fun K hKq => ?_) AllZ.nil
    have u1 := bl_cell (bl_drew U2.out) 1 _ rfl
    have fu1 := bl_frozen (bl_drew U2.out) 1
    go_simp
    refine hKq.out _ _ ?_
    clear u1 fu1
    clear hKq K
    try simp only [ps]
    refine anyZ_done (by kernel_rfl) ?_ _
    refine NoPanic.normal ?_
    go_wp2_with fail
    go_meet
    case rel => exact ⟨bl_put (bl_drew U2.out) _, (Ks.refl _ _).drew.set _ _⟩
   case rest =>
   obtain ⟨hu, hk⟩ := hcut
   rename World => W3
   have U3 := hid hu
   have A3 := hid (bl_ks A2.out (by have := Z0.out; omega) hk)
   have K3 := hid (hk.up K2.out (by have := Z0.out; omega))
   clear hu hk
   obtain ⟨a0, fa0, a1, fa1⟩ := cellf2 (A3.out)
   have u0 := bl_cell (U3.out) 0 _ rfl
   have u1 := bl_cell (U3.out) 1 _ rfl
   go_wp2_with fail
   exact bodyPost_ret (v := .agg _) (us_ret rfl _ _ _ _ rfl (bl_put (bl_put A3.out _) _) rfl) rfl ⟨by rw [HE.out]; rfl, Ks.up (P := w.heap.size) (((Ks.refl _ _).set _ _).set _ _) K3.out (Nat.le_refl _)⟩
  ·
   have HE : Hid (U = (kid.rd, if low = 0 then 0 else kid.st)) := by show _ = _; rw [← HU.out]; unfold usedP; rw [if_neg (by decide), if_neg (by decide), if_neg (by decide), if_neg (by decide), if_pos rfl]
   go_upto_region 14 with fail
   refine opq (fun W2 => W2.heap[w.heap.size]? = some (uso 0 0) ∧ W2.heap[P]? = some (pto 4 low high n t (.slice (some ⟨bb, 0, none⟩) L c) rd st hd kn so) ∧ W2.heap[W0.heap.size]? = some (uso kid.rd kid.st) ∧ Kp w W2) ⟨by exact bl_alloc A0.out _, by exact bl_alloc P0.out _, by exact last_of _ _, by exact K0.out.alloc _⟩ ?_
   rintro W2 ⟨xA2, xP2, xU2, xK2⟩
   have A2 := hid xA2
   have P2 := hid xP2
   have U2 := hid xU2
   have K2 := hid xK2
   clear xA2 xP2 xU2 xK2
   clear a0 a1 fa0 fa1 p0 p1 p2 p3 p4 p5 p6 p7 p8 p9 p10 p11 p12 p13 cp q9 q10
   have p1 := bl_cell (P2.out) 1 _ rfl
   by_cases hlow : low = 0
   ·
    subst hlow
    have u0 := bl_cell (U2.out) 0 _ rfl
    have u1 := bl_cell (U2.out) 1 _ rfl
    have fu1 := bl_frozen (U2.out) 1
    go_upto_region 16 with fail
    refine opq (fun W3 => W3.heap[W0.heap.size]? = some (uso kid.rd 0) ∧ W3.heap[w.heap.size]? = some (uso 0 0) ∧ Kp w W3) ⟨by exact bl_put U2.out _, by exact bl_ks A2.out (by have := Z0.out; omega) ((Ks.refl W0.heap.size W2).set _ _), by exact Ks.up (P := W0.heap.size) ((Ks.refl _ _).set _ _) K2.out (by have := Z0.out; omega)⟩ ?_
    rintro W3 ⟨xU3, xA3, xK3⟩
    have U3 := hid xU3
    have A3 := hid xA3
    have K3 := hid xK3
    clear xU3 xA3 xK3
    clear u0 u1 fu1 p1
    obtain ⟨a0, fa0, a1, fa1⟩ := cellf2 (A3.out)
    have u0 := bl_cell (U3.out) 0 _ rfl
    have u1 := bl_cell (U3.out) 1 _ rfl
    go_wp2_with fail
    exact bodyPost_ret (v := .agg _) (us_ret rfl _ _ _ _ rfl (bl_put (bl_put A3.out _) _) rfl) rfl ⟨by rw [HE.out]; rfl, Ks.up (P := w.heap.size) (((Ks.refl _ _).set _ _).set _ _) K3.out (Nat.le_refl _)⟩
   ·
    have hlb : (low == 0) = false := by simp [hlow]
    have HE2 : Hid (U = (kid.rd, kid.st)) := by show _ = _; rw [HE.out, if_neg hlow]
    have A3 := A2
    have K3 := K2
    obtain ⟨a0, fa0, a1, fa1⟩ := cellf2 (A3.out)
    have u0 := bl_cell (U2.out) 0 _ rfl
    have u1 := bl_cell (U2.out) 1 _ rfl
    go_wp2_with fail
    exact bodyPost_ret (v := .agg _) (us_ret rfl _ _ _ _ rfl (bl_put (bl_put A3.out _) _) rfl) rfl ⟨by rw [HE2.out]; rfl, Ks.up (P := w.heap.size) (((Ks.refl _ _).set _ _).set _ _) K3.out (Nat.le_refl _)⟩
 ·
  have k5 : ¬ k = 5 := fun e => k54 (Or.inl e)
  have k4 : ¬ k = 4 := fun e => k54 (Or.inr e)
  have k5b : (k == 5) = false := by simp [k5]
  have k4b : (k == 4) = false := by simp [k4]
  have HE : Hid (U = (0, 0)) := by show _ = _; rw [← HU.out]; unfold usedP; rw [if_neg k6, if_neg k5, if_neg k2, if_neg k3, if_neg k4]
  go_wp2_with fail
  exact bodyPost_ret (v := .agg _) (us_ret rfl _ _ _ _ rfl (bl_put (bl_put A0.out _) _) rfl) rfl ⟨by rw [HE.out]; rfl, Ks.up (P := w.heap.size) (((Ks.refl _ _).set _ _).set _ _) K0.out (Nat.le_refl _)⟩
end Go.Proofs.YtnajcnhgeggngaaGreat.Way

/-! ### Leaf -/

namespace Go.Proofs.YtnajcnhgeggngaaGreat.Way
set_option maxHeartbeats 2000000
set_option maxRecDepth 100000
open Go.RowKit Go.Proofs.YtnajcnhgeggngaaGreat

theorem leaf_any (k low high n : Int) (t : W4) (ks : Value) (rd st hd : Nat) (kn so : Option Nat) (P : Nat) (w : World) (hP : w.heap[P]? = some (pto k low high n t ks rd st hd kn so)) : Calls Tryz.prog 49 #[ptv P] w fun e w' => e = .returned (.bool (leafK k)) ∧ w' = w := by
 have HP := hid hP
 have c0 := bl_cell hP 0 _ rfl
 clear hP
 go_enter Tryz.func49, Tryz.ntmps49
 by_cases k2 : k = 2
 ·
  subst k2
  go_wp2_with fail
  go_ret
  exact ⟨rfl, rfl⟩
 have k2b : (k == 2) = false := by simp [k2]
 by_cases k3 : k = 3
 ·
  subst k3
  go_wp2_with fail
  go_ret
  exact ⟨rfl, rfl⟩
 have k3b : (k == 3) = false := by simp [k3]
 by_cases k5 : k = 5
 ·
  subst k5
  go_wp2_with fail
  go_ret
  exact ⟨rfl, rfl⟩
 have k5b : (k == 5) = false := by simp [k5]
 by_cases k4 : k = 4
 ·
  subst k4
  go_wp2_with fail
  go_ret
  exact ⟨rfl, rfl⟩
 have k4b : (k == 4) = false := by simp [k4]
 have HE : Hid (leafK k = true) := by show _ = _; unfold leafK; simp [k2, k3, k5, k4]
 go_wp2_with fail
 go_ret
 exact ⟨by rw [HE.out]; rfl, rfl⟩
end Go.Proofs.YtnajcnhgeggngaaGreat.Way

/-! ### Step -/

namespace Go.Proofs.YtnajcnhgeggngaaGreat.Way
set_option maxHeartbeats 2000000
set_option maxRecDepth 100000
open Go.RowKit Go.Proofs.YtnajcnhgeggngaaGreat

structure Sp.In (N : Nat) (x : Sp) : Prop where
 a : x.a ≤ N
 t0 : x.t0 ≤ N
 t1 : x.t1 ≤ N
 t2 : x.t2 ≤ N
structure StepD (s : ByteArray) (bol : Bool) (k n : Int) (t : W4) (x : Sp) (w : World) (e : Ending) (w' : World) : Prop where
 ex : ∃ (v : Int) (b : Bool), e = .returned (.tuple #[.int .i64 v, .bool b]) ∧ stepP s.data.toList bol k n t x = (if b then some v else none) ∧ Kp w w'
theorem slice8 (s : ByteArray) (a : Int) (h0 : 0 ≤ a) (h : a ≤ s.size) (w : World) : (Instr.slice 9 (.string s) (some (.int .i8 a)) none none).run Tryz.prog w = .ok (.string (s.extract a.toNat s.size)) w := by
 rw [run_slice_string_from_if w 9 s .i8 a (by kernel_rfl), if_pos ⟨by omega, by omega⟩]
theorem get_ch (s : ByteArray) (a : Nat) (h : a < s.size) : s.data.toList[a]? = some (UInt8.ofNat (ch s a)) := by
 unfold ch
 rw [Array.getElem?_toList, show s.data[a]? = some (s.data[a]'h) from Array.getElem?_eq_getElem h]
 simp
theorem get_no (s : ByteArray) (a : Nat) (h : ¬ a < s.size) : s.data.toList[a]? = none := by
 rw [Array.getElem?_toList, Array.getElem?_eq_none_iff]
 exact Nat.le_of_not_lt h
theorem ch_u8 (s : ByteArray) (a : Nat) : (UInt8.ofNat (ch s a)).toNat = ch s a := by
 rw [UInt8.toNat_ofNat']
 have := ch_lt s a
 omega
theorem has_w4 (t : W4) (ht : t.a < 18446744073709551616 ∧ t.b < 18446744073709551616 ∧ t.c < 18446744073709551616 ∧ t.d < 18446744073709551616) (c : Nat) (hc : c < 256) (w : World) :
  Calls Tryz.prog 106 #[.agg #[.int .u64 (t.a : Int), .int .u64 (t.b : Int), .int .u64 (t.c : Int), .int .u64 (t.d : Int)], .int .u8 (c : Int)] w fun e w' => e = .returned (.bool (W4.bit t c)) ∧ Kp w w' := by
 have h := Go.Proofs.YtnajcnhgeggngaaGreat.has_any (W4.bit t) c w hc
 rw [show sv (W4.bit t) = vv t.a t.b t.c t.d from (vv_sv t.a t.b t.c t.d ht.1 ht.2.1 ht.2.2.1 ht.2.2.2).symm] at h
 exact h
theorem step_set (n : Int) (low high : Int) (t : W4) (ks : Value) (rd st hd : Nat) (kn so : Option Nat) (P : Nat) (s : ByteArray) (bol : Bool) (x : Sp) (w : World) (hP : w.heap[P]? = some (pto 1 low high n t ks rd st hd kn so)) (hx : x.Ok) (hN : x.In s.size) (ht : t.a < 18446744073709551616 ∧ t.b < 18446744073709551616 ∧ t.c < 18446744073709551616 ∧ t.d < 18446744073709551616) : Calls Tryz.prog 80 #[.agg #[.string s, .bool bol], ptv P, spv x] w fun e w' => StepD s bol 1 n t x w e w' := by
 have HP := hid hP
 have ha0 := hx.a0
 have haN := hN.a
 have es := slice8 s x.a ha0 haN
 obtain ⟨a, ha⟩ : ∃ a : Nat, x.a.toNat = a := ⟨_, rfl⟩
 have hai : x.a = (a : Int) := by omega
 rw [ha] at es
 clear hP ha0
 by_cases hlt : a < s.size
 ·
  have HW := hid (fun w => has_w4 t ht (ch s a) (ch_lt s a) w)
  have e1 : ∀ w, (Instr.index 9 (.string (s.extract a s.size)) (.int .i64 0)).run Tryz.prog w = .ok (.int .u8 (ch s a : Nat)) w := fun w => by
   have := run_ch (s.extract a s.size) 0 (by rw [ext_size s a (by omega)]; omega) w
   rw [ch_ext s a 0 (by omega)] at this
   exact this
  have hsz : (s.extract a s.size).size ≠ 0 := by rw [ext_size s a (by omega)]; omega
  have HS : Hid (stepP s.data.toList bol 1 n t x = if W4.bit t (ch s a) then some 1 else none) := by
   show _ = _
   unfold stepP
   rw [if_pos rfl, ha, get_ch s a hlt]
   simp only [ch_u8]
  obtain ⟨q, hq⟩ : ∃ q, W4.bit t (ch s a) = q := ⟨_, rfl⟩
  rw [hq] at HW HS
  obtain ⟨r, hr⟩ : ∃ r, s.extract a s.size = r := ⟨_, rfl⟩
  rw [hr] at es e1 hsz
  have hne : r.toList.isEmpty = false := by rw [str_nil]; exact decide_eq_false hsz
  have hnl : ¬ r.toList = [] := by intro e; rw [e] at hne; cases hne
  clear hsz hr hq ht hx hN hlt haN ha hai
  go_enter Tryz.func80, Tryz.ntmps80
  go_upto_region 1 with fail
  refine opq (fun W0 => W0.heap[w.heap.size]? = some (.cells #[.string s, .bool bol] 70) ∧ W0.heap[(w.heap.size + 1)]? = some (spo x) ∧ W0.heap[P]? = some (pto 1 low high n t ks rd st hd kn so) ∧ Kp w W0) ⟨by exact bl_alloc (last_of _ _) _, by exact last_at _ _ _ (by simp), by exact bl_kp HP.out kpt, by exact kpt⟩ ?_
  rintro W0 ⟨xT0, xX0, xP0, xK0⟩
  have T0 := hid xT0
  have X0 := hid xX0
  have P0 := hid xP0
  have K0 := hid xK0
  clear xT0 xX0 xP0 xK0
  have b0 := bl_cell (T0.out) 0 _ rfl
  have b1 := bl_cell (T0.out) 1 _ rfl
  obtain ⟨x0, x1, x2, x3, x4, x5, x6⟩ := cells7 (X0.out)
  obtain ⟨p0, p1, p2, p3, p4, p5, p6, p7, p8, p9, p10, p11, p12, p13⟩ := cells14 (P0.out)
  go_upto_region 4 with fail
  clear b0 b1 x0 x1 x2 x3 x4 x5 x6 p0 p1 p2 p3 p4 p5 p6 p7 p8 p9 p10 p11 p12 p13
  have Q0 : Kp W0 W0.drew := (Kp.refl _).drew
  have MK : Hid (∀ W, Kp W0 W → W.cell? ⟨P, 4, none⟩ = some (.int .u64 (t.a : Int)) ∧ W.cell? ⟨P, 5, none⟩ = some (.int .u64 (t.b : Int)) ∧ W.cell? ⟨P, 6, none⟩ = some (.int .u64 (t.c : Int)) ∧ W.cell? ⟨P, 7, none⟩ = some (.int .u64 (t.d : Int)) ∧ Hid (Kp W0 W)) := fun W k => ⟨bl_cell (bl_kp P0.out k) 4 _ rfl, bl_cell (bl_kp P0.out k) 5 _ rfl, bl_cell (bl_kp P0.out k) 6 _ rfl, bl_cell (bl_kp P0.out k) 7 _ rfl, k⟩
  refine wp_region_noPanic ?_
  refine hdrew MK Q0 (fun hH => ?_)
  have KQ := Q0
  refine tk 0 (some 22) (Op.move (Operand.tmp 8)) 9 (v := ?v0a1) rfl ?h0a1 hH ?_
  case h0a1 => intro _ _; go_simp; try with_reducible rfl
  try simp only [ps]
  refine tk 1 (some 23) (Op.binOp BinOp.neq 9 (Operand.tmp 22) (Operand.const (Value.string { data := #[] })) 9) 4 (v := ?v1a2) rfl ?h1a2 hH ?_
  case h1a2 => intro _ _; go_simp; try with_reducible rfl
  try simp only [ps]
  refine tk 2 (some 24) (Op.move (Operand.tmp 23)) 4 (v := ?v2a3) rfl ?h2a3 hH ?_
  case h2a3 => intro _ _; go_simp; try with_reducible rfl
  try simp only [ps]
  refine tk 3 (some 25) (Op.move (Operand.tmp 1)) 71 (v := ?v3a4) rfl ?h3a4 hH ?_
  case h3a4 => intro _ _; go_simp; try with_reducible rfl
  try simp only [ps]
  refine tk 4 (some 26) (Op.nilCheck (Operand.tmp 25)) 0 (v := ?v4a5) rfl ?h4a5 hH ?_
  case h4a5 => intro _ _; go_simp; try with_reducible rfl
  try simp only [ps]
  refine tk 5 (some 27) (Op.fieldAddr 130 (Operand.tmp 26) 4) 0 (v := ?v5a6) rfl ?h5a6 hH ?_
  case h5a6 => intro _ _; go_simp; try with_reducible rfl
  try simp only [ps]
  refine tk 6 (some 28) (Op.load 24 (Operand.tmp 27)) 24 (v := ?v6a7) rfl ?h6a7 hH ?_
  case h6a7 => intro _ _; go_simp; try with_reducible rfl
  try simp only [ps]
  refine tk 7 (some 29) (Op.move (Operand.tmp 8)) 9 (v := ?v7a8) rfl ?h7a8 hH ?_
  case h7a8 => intro _ _; go_simp; try with_reducible rfl
  try simp only [ps]
  refine tk 8 (some 30) (Op.index 9 (Operand.tmp 29) (Operand.const (Value.int IntKind.i64 0))) 5 (v := ?v8a9) rfl ?h8a9 hH ?_
  case h8a9 => intro _ _; go_simp; try with_reducible rfl
  try simp only [ps]
  refine wpAnyH_ready (rs := [9]) (by kernel_rfl) (by simp) ?_
  refine AllReadyH.cons (o := { dst := some 31, op := Op.call { callee := Callee.value (Operand.func 106), args := #[Operand.tmp 28, Operand.tmp 30], argTypes := #[24, 5] }, type := 4, pos := "walk.go:61", after := #[{ on := 6, ground := Ground.data }, { on := 8, ground := Ground.data }, { on := 2, ground := Ground.chain }, { on := 2, ground := Ground.guard }], guard := some (2, true) }) rfl (fun K hKq => ?_) AllReadyH.nil
  go_simp
  refine (HW.out _).mono ?_
  rintro e y1 ⟨rfl, kq⟩
  refine hKq.out _ _ (MK.out _ (KQ.trans kq)) (fun hN => ?_)
  clear kq
  clear hKq K hH KQ
  have hH := hN
  clear hN
  have KQ := hH.2.2.2.2.out
  try simp only [ps]
  refine tk 10 (some 32) (Op.pick (Operand.tmp 24) (Operand.tmp 31) (Operand.const (Value.bool false))) 4 (v := ?v10a10) rfl ?h10a10 hH ?_
  case h10a10 => intro _ _; go_simp; try with_reducible rfl
  try simp only [ps]
  refine tk 11 (some 6) (Op.assign (Operand.const (Value.int IntKind.i64 1))) 3 (v := ?v11a11) rfl ?h11a11 hH ?_
  case h11a11 => intro _ _; go_simp; try with_reducible rfl
  try simp only [ps]
  refine tk 12 (some 7) (Op.assign (Operand.tmp 32)) 4 (v := ?v12a12) rfl ?h12a12 hH ?_
  case h12a12 => intro _ _; go_simp; try with_reducible rfl
  try simp only [ps]
  refine wpAnyH_done (by kernel_rfl) ?_ _
  refine NoPanic.normal ?_
  go_wp2_with fail
  go_ret2
  exact ⟨1, q, rfl, HS.out, K0.out.trans KQ⟩
 ·
  have hsz : s.extract a s.size = ⟨#[]⟩ := by
   have h0 : (s.extract a s.size).size = 0 := by rw [ext_size s a (by omega)]; omega
   cases h : s.extract a s.size with
   | mk d => rw [h] at h0; exact congrArg ByteArray.mk (Array.size_eq_zero_iff.1 h0)
  rw [hsz] at es
  have HS : Hid (stepP s.data.toList bol 1 n t x = none) := by
   show _ = _
   unfold stepP
   rw [if_pos rfl, ha, get_no s a hlt]
  clear hsz ht hx hN hlt haN ha hai
  go_enter Tryz.func80, Tryz.ntmps80
  go_upto_region 1 with fail
  refine opq (fun W0 => W0.heap[w.heap.size]? = some (.cells #[.string s, .bool bol] 70) ∧ W0.heap[(w.heap.size + 1)]? = some (spo x) ∧ W0.heap[P]? = some (pto 1 low high n t ks rd st hd kn so) ∧ Kp w W0) ⟨by exact bl_alloc (last_of _ _) _, by exact last_at _ _ _ (by simp), by exact bl_kp HP.out kpt, by exact kpt⟩ ?_
  rintro W0 ⟨xT0, xX0, xP0, xK0⟩
  have T0 := hid xT0
  have X0 := hid xX0
  have P0 := hid xP0
  have K0 := hid xK0
  clear xT0 xX0 xP0 xK0
  have b0 := bl_cell (T0.out) 0 _ rfl
  have b1 := bl_cell (T0.out) 1 _ rfl
  obtain ⟨x0, x1, x2, x3, x4, x5, x6⟩ := cells7 (X0.out)
  obtain ⟨p0, p1, p2, p3, p4, p5, p6, p7, p8, p9, p10, p11, p12, p13⟩ := cells14 (P0.out)
  go_upto_region 4 with fail
  clear b0 b1 x0 x1 x2 x3 x4 x5 x6 p0 p1 p2 p3 p4 p5 p6 p7 p8 p9 p10 p11 p12 p13
  have Q0 : Kp W0 W0.drew := (Kp.refl _).drew
  have MK : Hid (∀ W, Kp W0 W → W.cell? ⟨P, 4, none⟩ = some (.int .u64 (t.a : Int)) ∧ W.cell? ⟨P, 5, none⟩ = some (.int .u64 (t.b : Int)) ∧ W.cell? ⟨P, 6, none⟩ = some (.int .u64 (t.c : Int)) ∧ W.cell? ⟨P, 7, none⟩ = some (.int .u64 (t.d : Int)) ∧ Hid (Kp W0 W)) := fun W k => ⟨bl_cell (bl_kp P0.out k) 4 _ rfl, bl_cell (bl_kp P0.out k) 5 _ rfl, bl_cell (bl_kp P0.out k) 6 _ rfl, bl_cell (bl_kp P0.out k) 7 _ rfl, k⟩
  refine wp_region_noPanic ?_
  refine hdrew MK Q0 (fun hH => ?_)
  have KQ := Q0
  refine tk 0 (some 22) (Op.move (Operand.tmp 8)) 9 (v := ?v0b1) rfl ?h0b1 hH ?_
  case h0b1 => intro _ _; go_simp; try with_reducible rfl
  try simp only [ps]
  refine tk 1 (some 23) (Op.binOp BinOp.neq 9 (Operand.tmp 22) (Operand.const (Value.string { data := #[] })) 9) 4 (v := ?v1b2) rfl ?h1b2 hH ?_
  case h1b2 => intro _ _; go_simp; try with_reducible rfl
  try simp only [ps]
  refine tk 2 (some 24) (Op.move (Operand.tmp 23)) 4 (v := ?v2b3) rfl ?h2b3 hH ?_
  case h2b3 => intro _ _; go_simp; try with_reducible rfl
  try simp only [ps]
  refine tn 3 (some 25) (Op.move (Operand.tmp 1)) 71 rfl hH ?_
  try simp only [ps]
  refine tn 4 (some 26) (Op.nilCheck (Operand.tmp 25)) 0 rfl hH ?_
  try simp only [ps]
  refine tn 5 (some 27) (Op.fieldAddr 130 (Operand.tmp 26) 4) 0 rfl hH ?_
  try simp only [ps]
  refine tn 6 (some 28) (Op.load 24 (Operand.tmp 27)) 24 rfl hH ?_
  try simp only [ps]
  refine tn 7 (some 29) (Op.move (Operand.tmp 8)) 9 rfl hH ?_
  try simp only [ps]
  refine tn 8 (some 30) (Op.index 9 (Operand.tmp 29) (Operand.const (Value.int IntKind.i64 0))) 5 rfl hH ?_
  try simp only [ps]
  refine tn 9 (some 31) (Op.call { callee := Callee.value (Operand.func 106), args := #[Operand.tmp 28, Operand.tmp 30], argTypes := #[24, 5] }) 4 rfl hH ?_
  try simp only [ps]
  refine tk 10 (some 32) (Op.pick (Operand.tmp 24) (Operand.tmp 31) (Operand.const (Value.bool false))) 4 (v := ?v10b11) rfl ?h10b11 hH ?_
  case h10b11 => intro _ _; go_simp; try with_reducible rfl
  try simp only [ps]
  refine tk 11 (some 6) (Op.assign (Operand.const (Value.int IntKind.i64 1))) 3 (v := ?v11b12) rfl ?h11b12 hH ?_
  case h11b12 => intro _ _; go_simp; try with_reducible rfl
  try simp only [ps]
  refine tk 12 (some 7) (Op.assign (Operand.tmp 32)) 4 (v := ?v12b13) rfl ?h12b13 hH ?_
  case h12b13 => intro _ _; go_simp; try with_reducible rfl
  try simp only [ps]
  refine wpAnyH_done (by kernel_rfl) ?_ _
  refine NoPanic.normal ?_
  go_wp2_with fail
  go_ret2
  exact ⟨1, false, rfl, HS.out, K0.out.trans KQ⟩
theorem step_begin (n : Int) (low high : Int) (t : W4) (ks : Value) (rd st hd : Nat) (kn so : Option Nat) (P : Nat) (s : ByteArray) (bol : Bool) (x : Sp) (w : World) (hP : w.heap[P]? = some (pto 7 low high n t ks rd st hd kn so)) (hx : x.Ok) (hN : x.In s.size) : Calls Tryz.prog 80 #[.agg #[.string s, .bool bol], ptv P, spv x] w fun e w' => StepD s bol 7 n t x w e w' := by
 have HP := hid hP
 have ha0 := hx.a0
 have haN := hN.a
 have es := slice8 s x.a ha0 haN
 obtain ⟨a, ha⟩ : ∃ a : Nat, x.a.toNat = a := ⟨_, rfl⟩
 have hai : x.a = (a : Int) := by omega
 rw [ha] at es
 clear hP ha0
 have HS : Hid (stepP s.data.toList bol 7 n t x = if x.a = 0 ∧ bol = true then some 0 else none) := by
  show _ = _
  unfold stepP
  rw [if_neg (by decide), if_pos rfl]
 clear hx hN haN
 by_cases h0 : x.a = 0
 ·
  have h0b : (x.a == 0) = true := by simp [h0]
  have HS2 : Hid (stepP s.data.toList bol 7 n t x = if bol then some 0 else none) := by show _ = _; rw [HS.out]; simp [h0]
  clear HS h0 ha hai
  go_enter Tryz.func80, Tryz.ntmps80
  go_upto_region 1 with fail
  refine opq (fun W0 => W0.heap[w.heap.size]? = some (.cells #[.string s, .bool bol] 70) ∧ W0.heap[(w.heap.size + 1)]? = some (spo x) ∧ W0.heap[P]? = some (pto 7 low high n t ks rd st hd kn so) ∧ Kp w W0) ⟨by exact bl_alloc (last_of _ _) _, by exact last_at _ _ _ (by simp), by exact bl_kp HP.out kpt, by exact kpt⟩ ?_
  rintro W0 ⟨xT0, xX0, xP0, xK0⟩
  have T0 := hid xT0
  have X0 := hid xX0
  have P0 := hid xP0
  have K0 := hid xK0
  clear xT0 xX0 xP0 xK0
  have b0 := bl_cell (T0.out) 0 _ rfl
  have b1 := bl_cell (T0.out) 1 _ rfl
  obtain ⟨x0, x1, x2, x3, x4, x5, x6⟩ := cells7 (X0.out)
  obtain ⟨p0, p1, p2, p3, p4, p5, p6, p7, p8, p9, p10, p11, p12, p13⟩ := cells14 (P0.out)
  go_upto_region 6 with fail
  have Q0 : Kp W0 W0.drew := (Kp.refl _).drew
  have MK : Hid (∀ W, Kp W0 W → W.cell? ⟨(w.heap.size + 1), 0, none⟩ = some (.int .i8 x.a) ∧ W.cell? ⟨w.heap.size, 1, none⟩ = some (.bool bol) ∧ Hid (Kp W0 W)) := fun W k => ⟨bl_cell (bl_kp X0.out k) 0 _ rfl, bl_cell (bl_kp T0.out k) 1 _ rfl, k⟩
  refine wp_region_noPanic ?_
  refine hdrew MK Q0 (fun hH => ?_)
  have KQ := Q0
  refine tk 0 (some 35) (Op.fieldAddr 83 (Operand.tmp 5) 0) 0 (v := ?v0c1) rfl ?h0c1 hH ?_
  case h0c1 => intro _ _; go_simp; try with_reducible rfl
  try simp only [ps]
  refine tk 1 (some 36) (Op.load 78 (Operand.tmp 35)) 78 (v := ?v1c2) rfl ?h1c2 hH ?_
  case h1c2 => intro _ _; go_simp; try with_reducible rfl
  try simp only [ps]
  refine tk 2 (some 37) (Op.binOp BinOp.eql 78 (Operand.tmp 36) (Operand.const (Value.int IntKind.i8 0)) 78) 4 (v := ?v2c3) rfl ?h2c3 hH ?_
  case h2c3 => intro _ _; go_simp; try with_reducible rfl
  try simp only [ps]
  refine tk 3 (some 38) (Op.move (Operand.tmp 37)) 4 (v := ?v3c4) rfl ?h3c4 hH ?_
  case h3c4 => intro _ _; go_simp; try with_reducible rfl
  try simp only [ps]
  refine tk 4 (some 39) (Op.fieldAddr 70 (Operand.tmp 3) 1) 0 (v := ?v4c5) rfl ?h4c5 hH ?_
  case h4c5 => intro _ _; go_simp; try with_reducible rfl
  try simp only [ps]
  refine tk 5 (some 40) (Op.load 4 (Operand.tmp 39)) 4 (v := ?v5c6) rfl ?h5c6 hH ?_
  case h5c6 => intro _ _; go_simp; try with_reducible rfl
  try simp only [ps]
  refine tk 6 (some 41) (Op.pick (Operand.tmp 38) (Operand.tmp 40) (Operand.const (Value.bool false))) 4 (v := ?v6c7) rfl ?h6c7 hH ?_
  case h6c7 => intro _ _; go_simp; try with_reducible rfl
  try simp only [ps]
  refine tk 7 (some 6) (Op.assign (Operand.const (Value.int IntKind.i64 0))) 3 (v := ?v7c8) rfl ?h7c8 hH ?_
  case h7c8 => intro _ _; go_simp; try with_reducible rfl
  try simp only [ps]
  refine tk 8 (some 7) (Op.assign (Operand.tmp 41)) 4 (v := ?v8c9) rfl ?h8c9 hH ?_
  case h8c9 => intro _ _; go_simp; try with_reducible rfl
  try simp only [ps]
  refine wpAnyH_done (by kernel_rfl) ?_ _
  refine NoPanic.normal ?_
  go_wp2_with fail
  go_ret2
  exact ⟨0, bol, rfl, HS2.out, K0.out.trans KQ⟩
 ·
  have h0b : (x.a == 0) = false := by simp [h0]
  have HS2 : Hid (stepP s.data.toList bol 7 n t x = none) := by show _ = _; rw [HS.out]; simp [h0]
  clear HS ha hai
  go_enter Tryz.func80, Tryz.ntmps80
  go_upto_region 1 with fail
  refine opq (fun W0 => W0.heap[w.heap.size]? = some (.cells #[.string s, .bool bol] 70) ∧ W0.heap[(w.heap.size + 1)]? = some (spo x) ∧ W0.heap[P]? = some (pto 7 low high n t ks rd st hd kn so) ∧ Kp w W0) ⟨by exact bl_alloc (last_of _ _) _, by exact last_at _ _ _ (by simp), by exact bl_kp HP.out kpt, by exact kpt⟩ ?_
  rintro W0 ⟨xT0, xX0, xP0, xK0⟩
  have T0 := hid xT0
  have X0 := hid xX0
  have P0 := hid xP0
  have K0 := hid xK0
  clear xT0 xX0 xP0 xK0
  have b0 := bl_cell (T0.out) 0 _ rfl
  have b1 := bl_cell (T0.out) 1 _ rfl
  obtain ⟨x0, x1, x2, x3, x4, x5, x6⟩ := cells7 (X0.out)
  obtain ⟨p0, p1, p2, p3, p4, p5, p6, p7, p8, p9, p10, p11, p12, p13⟩ := cells14 (P0.out)
  go_upto_region 6 with fail
  have Q0 : Kp W0 W0.drew := (Kp.refl _).drew
  have MK : Hid (∀ W, Kp W0 W → W.cell? ⟨(w.heap.size + 1), 0, none⟩ = some (.int .i8 x.a) ∧ W.cell? ⟨w.heap.size, 1, none⟩ = some (.bool bol) ∧ Hid (Kp W0 W)) := fun W k => ⟨bl_cell (bl_kp X0.out k) 0 _ rfl, bl_cell (bl_kp T0.out k) 1 _ rfl, k⟩
  refine wp_region_noPanic ?_
  refine hdrew MK Q0 (fun hH => ?_)
  have KQ := Q0
  refine tk 0 (some 35) (Op.fieldAddr 83 (Operand.tmp 5) 0) 0 (v := ?v0d1) rfl ?h0d1 hH ?_
  case h0d1 => intro _ _; go_simp; try with_reducible rfl
  try simp only [ps]
  refine tk 1 (some 36) (Op.load 78 (Operand.tmp 35)) 78 (v := ?v1d2) rfl ?h1d2 hH ?_
  case h1d2 => intro _ _; go_simp; try with_reducible rfl
  try simp only [ps]
  refine tk 2 (some 37) (Op.binOp BinOp.eql 78 (Operand.tmp 36) (Operand.const (Value.int IntKind.i8 0)) 78) 4 (v := ?v2d3) rfl ?h2d3 hH ?_
  case h2d3 => intro _ _; go_simp; try with_reducible rfl
  try simp only [ps]
  refine tk 3 (some 38) (Op.move (Operand.tmp 37)) 4 (v := ?v3d4) rfl ?h3d4 hH ?_
  case h3d4 => intro _ _; go_simp; try with_reducible rfl
  try simp only [ps]
  refine tn 4 (some 39) (Op.fieldAddr 70 (Operand.tmp 3) 1) 0 rfl hH ?_
  try simp only [ps]
  refine tn 5 (some 40) (Op.load 4 (Operand.tmp 39)) 4 rfl hH ?_
  try simp only [ps]
  refine tk 6 (some 41) (Op.pick (Operand.tmp 38) (Operand.tmp 40) (Operand.const (Value.bool false))) 4 (v := ?v6d7) rfl ?h6d7 hH ?_
  case h6d7 => intro _ _; go_simp; try with_reducible rfl
  try simp only [ps]
  refine tk 7 (some 6) (Op.assign (Operand.const (Value.int IntKind.i64 0))) 3 (v := ?v7d8) rfl ?h7d8 hH ?_
  case h7d8 => intro _ _; go_simp; try with_reducible rfl
  try simp only [ps]
  refine tk 8 (some 7) (Op.assign (Operand.tmp 41)) 4 (v := ?v8d9) rfl ?h8d9 hH ?_
  case h8d9 => intro _ _; go_simp; try with_reducible rfl
  try simp only [ps]
  refine wpAnyH_done (by kernel_rfl) ?_ _
  refine NoPanic.normal ?_
  go_wp2_with fail
  go_ret2
  exact ⟨0, false, rfl, HS2.out, K0.out.trans KQ⟩
theorem step_end (n : Int) (low high : Int) (t : W4) (ks : Value) (rd st hd : Nat) (kn so : Option Nat) (P : Nat) (s : ByteArray) (bol : Bool) (x : Sp) (w : World) (hP : w.heap[P]? = some (pto 8 low high n t ks rd st hd kn so)) (hx : x.Ok) (hN : x.In s.size) : Calls Tryz.prog 80 #[.agg #[.string s, .bool bol], ptv P, spv x] w fun e w' => StepD s bol 8 n t x w e w' := by
 have HP := hid hP
 have ha0 := hx.a0
 have haN := hN.a
 have es := slice8 s x.a ha0 haN
 obtain ⟨a, ha⟩ : ∃ a : Nat, x.a.toNat = a := ⟨_, rfl⟩
 have hai : x.a = (a : Int) := by omega
 rw [ha] at es
 clear hP ha0
 have HS : Hid (stepP s.data.toList bol 8 n t x = if a = s.size then some 0 else none) := by
  show _ = _
  unfold stepP
  rw [if_neg (by decide), if_neg (by decide), if_pos rfl, ha, show s.data.toList.length = s.size from Array.length_toList]
 by_cases h0 : a = s.size
 ·
  have hsz : s.extract a s.size = ⟨#[]⟩ := by
   have h0 : (s.extract a s.size).size = 0 := by rw [ext_size s a (by omega)]; omega
   cases h : s.extract a s.size with
   | mk d => rw [h] at h0; exact congrArg ByteArray.mk (Array.size_eq_zero_iff.1 h0)
  rw [hsz] at es
  have HS2 : Hid (stepP s.data.toList bol 8 n t x = some 0) := by show _ = _; rw [HS.out, if_pos h0]
  clear HS h0 hsz hx hN haN ha hai
  go_enter Tryz.func80, Tryz.ntmps80
  go_upto_region 1 with fail
  refine opq (fun W0 => W0.heap[w.heap.size]? = some (.cells #[.string s, .bool bol] 70) ∧ W0.heap[(w.heap.size + 1)]? = some (spo x) ∧ W0.heap[P]? = some (pto 8 low high n t ks rd st hd kn so) ∧ Kp w W0) ⟨by exact bl_alloc (last_of _ _) _, by exact last_at _ _ _ (by simp), by exact bl_kp HP.out kpt, by exact kpt⟩ ?_
  rintro W0 ⟨xT0, xX0, xP0, xK0⟩
  have T0 := hid xT0
  have X0 := hid xX0
  have P0 := hid xP0
  have K0 := hid xK0
  clear xT0 xX0 xP0 xK0
  have b0 := bl_cell (T0.out) 0 _ rfl
  have b1 := bl_cell (T0.out) 1 _ rfl
  obtain ⟨x0, x1, x2, x3, x4, x5, x6⟩ := cells7 (X0.out)
  obtain ⟨p0, p1, p2, p3, p4, p5, p6, p7, p8, p9, p10, p11, p12, p13⟩ := cells14 (P0.out)
  go_wp2_with fail
  go_ret2
  exact ⟨0, true, rfl, HS2.out, K0.out⟩
 ·
  have hsz : (s.extract a s.size).size ≠ 0 := by rw [ext_size s a (by omega)]; omega
  have HS2 : Hid (stepP s.data.toList bol 8 n t x = none) := by show _ = _; rw [HS.out, if_neg h0]
  obtain ⟨r, hr⟩ : ∃ r, s.extract a s.size = r := ⟨_, rfl⟩
  rw [hr] at es hsz
  have hne : r.toList.isEmpty = false := by rw [str_nil]; exact decide_eq_false hsz
  have hnl : ¬ r.toList = [] := by intro e; rw [e] at hne; cases hne
  clear HS hsz hr hx hN haN ha hai h0
  go_enter Tryz.func80, Tryz.ntmps80
  go_upto_region 1 with fail
  refine opq (fun W0 => W0.heap[w.heap.size]? = some (.cells #[.string s, .bool bol] 70) ∧ W0.heap[(w.heap.size + 1)]? = some (spo x) ∧ W0.heap[P]? = some (pto 8 low high n t ks rd st hd kn so) ∧ Kp w W0) ⟨by exact bl_alloc (last_of _ _) _, by exact last_at _ _ _ (by simp), by exact bl_kp HP.out kpt, by exact kpt⟩ ?_
  rintro W0 ⟨xT0, xX0, xP0, xK0⟩
  have T0 := hid xT0
  have X0 := hid xX0
  have P0 := hid xP0
  have K0 := hid xK0
  clear xT0 xX0 xP0 xK0
  have b0 := bl_cell (T0.out) 0 _ rfl
  have b1 := bl_cell (T0.out) 1 _ rfl
  obtain ⟨x0, x1, x2, x3, x4, x5, x6⟩ := cells7 (X0.out)
  obtain ⟨p0, p1, p2, p3, p4, p5, p6, p7, p8, p9, p10, p11, p12, p13⟩ := cells14 (P0.out)
  go_wp2_with fail
  go_ret2
  exact ⟨0, false, rfl, HS2.out, K0.out⟩
end Go.Proofs.YtnajcnhgeggngaaGreat.Way

/-! ### StepB -/

namespace Go.Proofs.YtnajcnhgeggngaaGreat.Way
set_option maxHeartbeats 2000000
set_option maxRecDepth 100000
open Go.RowKit Go.Proofs.YtnajcnhgeggngaaGreat

theorem slice88 (s : ByteArray) (f t : Int) (h0 : 0 ≤ f) (h : f ≤ t) (h2 : t ≤ s.size) (w : World) : (Instr.slice 9 (.string s) (some (.int .i8 f)) (some (.int .i8 t)) none).run Tryz.prog w = .ok (.string (s.extract f.toNat t.toNat)) w := by
 rw [run_slice_string_if w 9 s .i8 .i8 f t (by kernel_rfl), if_pos ⟨by omega, by omega⟩, if_pos ⟨by omega, by omega⟩]
theorem ext_list (s : ByteArray) (f t : Nat) : (s.extract f t).data.toList = (s.data.toList.drop f).take (t - f) := by
 rw [ByteArray.data_extract, Array.toList_extract, List.extract_eq_take_drop]
theorem step_back1 (low high : Int) (t : W4) (ks : Value) (rd st hd : Nat) (kn so : Option Nat) (P : Nat) (s : ByteArray) (bol : Bool) (x : Sp) (w : World) (hP : w.heap[P]? = some (pto 6 low high 1 t ks rd st hd kn so)) (hx : x.Ok) (hN : x.In s.size) : Calls Tryz.prog 80 #[.agg #[.string s, .bool bol], ptv P, spv x] w fun e w' => StepD s bol 6 1 t x w e w' := by
 have HP := hid hP
 have ha0 := hx.a0
 have haN := hN.a
 have es := slice8 s x.a ha0 haN
 obtain ⟨a, ha⟩ : ∃ a : Nat, x.a.toNat = a := ⟨_, rfl⟩
 have hai : x.a = (a : Int) := by omega
 rw [ha] at es
 clear hP ha0
 have hs := hx.s0
 have hT := hN.t0
 unfold Spn at hs
 have HSP : x.span 1 = (x.f0, x.t0) := by unfold Sp.span; simp
 by_cases h0 : x.f0 < 0
 ·
  have HS : Hid (stepP s.data.toList bol 6 1 t x = none) := by
   show _ = _
   unfold stepP
   rw [if_neg (by decide), if_neg (by decide), if_neg (by decide), HSP, if_pos h0]
  have HB : Hid (decide (x.f0 < 0) = true) := decide_eq_true h0
  clear hs hT HSP h0 hx hN haN ha hai
  go_enter Tryz.func80, Tryz.ntmps80
  go_upto_region 1 with fail
  refine opq (fun W0 => W0.heap[w.heap.size]? = some (.cells #[.string s, .bool bol] 70) ∧ W0.heap[(w.heap.size + 1)]? = some (spo x) ∧ W0.heap[P]? = some (pto 6 low high 1 t ks rd st hd kn so) ∧ Kp w W0) ⟨by exact bl_alloc (last_of _ _) _, by exact last_at _ _ _ (by simp), by exact bl_kp HP.out kpt, by exact kpt⟩ ?_
  rintro W0 ⟨xT0, xX0, xP0, xK0⟩
  have T0 := hid xT0
  have X0 := hid xX0
  have P0 := hid xP0
  have K0 := hid xK0
  clear xT0 xX0 xP0 xK0
  have b0 := bl_cell (T0.out) 0 _ rfl
  have b1 := bl_cell (T0.out) 1 _ rfl
  obtain ⟨x0, x1, x2, x3, x4, x5, x6⟩ := cells7 (X0.out)
  obtain ⟨p0, p1, p2, p3, p4, p5, p6, p7, p8, p9, p10, p11, p12, p13⟩ := cells14 (P0.out)
  go_upto_region 10 with fail
  clear b0 b1 x0 x1 x2 x3 x4 x5 x6 p0 p1 p2 p3 p4 p5 p6 p7 p8 p9 p10 p11 p12 p13
  refine opq (fun WG => WG.heap[W0.heap.size]? = some (.cells #[.int .i8 x.f0, .int .i8 x.t0] 80) ∧ WG.heap[w.heap.size]? = some (.cells #[.string s, .bool bol] 70) ∧ Kp w WG) ⟨by exact last_at _ _ _ rfl, by exact bl_alloc T0.out _, by exact K0.out.alloc _⟩ ?_
  rintro WG ⟨xGG, xTG, xKG⟩
  have GG := hid xGG
  have TG := hid xTG
  have KG := hid xKG
  clear xGG xTG xKG
  have g0 := bl_cell (GG.out) 0 _ rfl
  have g1 := bl_cell (GG.out) 1 _ rfl
  go_wp2_with fail
  refine (none_any _ _ _).mono ?_
  rintro e w1 ⟨rfl, k1⟩
  rw [HB.out]
  have K1 := hid (KG.out.trans k1)
  clear k1 g0 g1
  go_wp2_with fail
  go_ret2
  exact ⟨0, false, rfl, HS.out, K1.out⟩
 ·
  have hf0 : 0 ≤ x.f0 := by omega
  have hft : x.f0 ≤ x.t0 := by omega
  have es2 := slice88 s x.f0 x.t0 hf0 hft hT
  have HS : Hid (stepP s.data.toList bol 6 1 t x = if Lib.hasPrefix (s.extract a s.size).data.toList (s.extract x.f0.toNat x.t0.toNat).data.toList then some ((s.extract x.f0.toNat x.t0.toNat).size : Int) else none) := by
   show _ = _
   unfold stepP
   rw [if_neg (by decide), if_neg (by decide), if_neg (by decide), HSP, if_neg h0, pfx_lib, ha, ext_list, ByteArray.size_extract]
   unfold pfx
   rw [show (x.t0 - x.f0).toNat = x.t0.toNat - x.f0.toNat by omega, show ((min x.t0.toNat s.size - x.f0.toNat : Nat) : Int) = x.t0 - x.f0 by omega]
  have HB : Hid (decide (x.f0 < 0) = false) := decide_eq_false h0
  have hz : (s.extract x.f0.toNat x.t0.toNat).size ≤ 1000000000 := by rw [ByteArray.size_extract]; omega
  obtain ⟨r, hr⟩ : ∃ r, s.extract a s.size = r := ⟨_, rfl⟩
  obtain ⟨u, hu⟩ : ∃ u, s.extract x.f0.toNat x.t0.toNat = u := ⟨_, rfl⟩
  rw [hr] at es HS
  rw [hu] at es2 HS hz
  have HLP := hid (fun W => Tryz.strings_HasPrefix r u W)
  obtain ⟨b, hb⟩ : ∃ b, Lib.hasPrefix r.data.toList u.data.toList = b := ⟨_, rfl⟩
  rw [hb] at HS HLP
  clear hs hT HSP h0 hx hN haN ha hai hf0 hft hr hu hb
  go_enter Tryz.func80, Tryz.ntmps80
  go_upto_region 1 with fail
  refine opq (fun W0 => W0.heap[w.heap.size]? = some (.cells #[.string s, .bool bol] 70) ∧ W0.heap[(w.heap.size + 1)]? = some (spo x) ∧ W0.heap[P]? = some (pto 6 low high 1 t ks rd st hd kn so) ∧ Kp w W0) ⟨by exact bl_alloc (last_of _ _) _, by exact last_at _ _ _ (by simp), by exact bl_kp HP.out kpt, by exact kpt⟩ ?_
  rintro W0 ⟨xT0, xX0, xP0, xK0⟩
  have T0 := hid xT0
  have X0 := hid xX0
  have P0 := hid xP0
  have K0 := hid xK0
  clear xT0 xX0 xP0 xK0
  have b0 := bl_cell (T0.out) 0 _ rfl
  have b1 := bl_cell (T0.out) 1 _ rfl
  obtain ⟨x0, x1, x2, x3, x4, x5, x6⟩ := cells7 (X0.out)
  obtain ⟨p0, p1, p2, p3, p4, p5, p6, p7, p8, p9, p10, p11, p12, p13⟩ := cells14 (P0.out)
  go_upto_region 10 with fail
  clear b0 b1 x0 x1 x2 x3 x4 x5 x6 p0 p1 p2 p3 p4 p5 p6 p7 p8 p9 p10 p11 p12 p13
  refine opq (fun WG => WG.heap[W0.heap.size]? = some (.cells #[.int .i8 x.f0, .int .i8 x.t0] 80) ∧ WG.heap[w.heap.size]? = some (.cells #[.string s, .bool bol] 70) ∧ Kp w WG) ⟨by exact last_at _ _ _ rfl, by exact bl_alloc T0.out _, by exact K0.out.alloc _⟩ ?_
  rintro WG ⟨xGG, xTG, xKG⟩
  have GG := hid xGG
  have TG := hid xTG
  have KG := hid xKG
  clear xGG xTG xKG
  have g0 := bl_cell (GG.out) 0 _ rfl
  have g1 := bl_cell (GG.out) 1 _ rfl
  go_wp2_with fail
  refine (none_any _ _ _).mono ?_
  rintro e w1 ⟨rfl, k1⟩
  rw [HB.out]
  have K1 := hid (KG.out.trans k1)
  have T1 := hid (bl_kp TG.out k1)
  have G1 := hid (bl_kp GG.out k1)
  clear k1 g0 g1
  have b0 := bl_cell (T1.out) 0 _ rfl
  have b1 := bl_cell (T1.out) 1 _ rfl
  have g0 := bl_cell (G1.out) 0 _ rfl
  have g1 := bl_cell (G1.out) 1 _ rfl
  go_upto_region 13 with fail
  clear b0 b1 g0 g1
  go_wp2_with fail
  refine (HLP.out _).mono ?_
  rintro e w2 ⟨rfl, rfl⟩
  go_wp2_with fail
  go_ret2
  exact ⟨_, b, rfl, HS.out, K1.out⟩
theorem step_back2 (low high : Int) (t : W4) (ks : Value) (rd st hd : Nat) (kn so : Option Nat) (P : Nat) (s : ByteArray) (bol : Bool) (x : Sp) (w : World) (hP : w.heap[P]? = some (pto 6 low high 2 t ks rd st hd kn so)) (hx : x.Ok) (hN : x.In s.size) : Calls Tryz.prog 80 #[.agg #[.string s, .bool bol], ptv P, spv x] w fun e w' => StepD s bol 6 2 t x w e w' := by
 have HP := hid hP
 have ha0 := hx.a0
 have haN := hN.a
 have es := slice8 s x.a ha0 haN
 obtain ⟨a, ha⟩ : ∃ a : Nat, x.a.toNat = a := ⟨_, rfl⟩
 have hai : x.a = (a : Int) := by omega
 rw [ha] at es
 clear hP ha0
 have hs := hx.s1
 have hT := hN.t1
 unfold Spn at hs
 have HSP : x.span 2 = (x.f1, x.t1) := by unfold Sp.span; simp
 by_cases h0 : x.f1 < 0
 ·
  have HS : Hid (stepP s.data.toList bol 6 2 t x = none) := by
   show _ = _
   unfold stepP
   rw [if_neg (by decide), if_neg (by decide), if_neg (by decide), HSP, if_pos h0]
  have HB : Hid (decide (x.f1 < 0) = true) := decide_eq_true h0
  clear hs hT HSP h0 hx hN haN ha hai
  go_enter Tryz.func80, Tryz.ntmps80
  go_upto_region 1 with fail
  refine opq (fun W0 => W0.heap[w.heap.size]? = some (.cells #[.string s, .bool bol] 70) ∧ W0.heap[(w.heap.size + 1)]? = some (spo x) ∧ W0.heap[P]? = some (pto 6 low high 2 t ks rd st hd kn so) ∧ Kp w W0) ⟨by exact bl_alloc (last_of _ _) _, by exact last_at _ _ _ (by simp), by exact bl_kp HP.out kpt, by exact kpt⟩ ?_
  rintro W0 ⟨xT0, xX0, xP0, xK0⟩
  have T0 := hid xT0
  have X0 := hid xX0
  have P0 := hid xP0
  have K0 := hid xK0
  clear xT0 xX0 xP0 xK0
  have b0 := bl_cell (T0.out) 0 _ rfl
  have b1 := bl_cell (T0.out) 1 _ rfl
  obtain ⟨x0, x1, x2, x3, x4, x5, x6⟩ := cells7 (X0.out)
  obtain ⟨p0, p1, p2, p3, p4, p5, p6, p7, p8, p9, p10, p11, p12, p13⟩ := cells14 (P0.out)
  go_upto_region 10 with fail
  clear b0 b1 x0 x1 x2 x3 x4 x5 x6 p0 p1 p2 p3 p4 p5 p6 p7 p8 p9 p10 p11 p12 p13
  refine opq (fun WG => WG.heap[W0.heap.size]? = some (.cells #[.int .i8 x.f1, .int .i8 x.t1] 80) ∧ WG.heap[w.heap.size]? = some (.cells #[.string s, .bool bol] 70) ∧ Kp w WG) ⟨by exact last_at _ _ _ rfl, by exact bl_alloc T0.out _, by exact K0.out.alloc _⟩ ?_
  rintro WG ⟨xGG, xTG, xKG⟩
  have GG := hid xGG
  have TG := hid xTG
  have KG := hid xKG
  clear xGG xTG xKG
  have g0 := bl_cell (GG.out) 0 _ rfl
  have g1 := bl_cell (GG.out) 1 _ rfl
  go_wp2_with fail
  refine (none_any _ _ _).mono ?_
  rintro e w1 ⟨rfl, k1⟩
  rw [HB.out]
  have K1 := hid (KG.out.trans k1)
  clear k1 g0 g1
  go_wp2_with fail
  go_ret2
  exact ⟨0, false, rfl, HS.out, K1.out⟩
 ·
  have hf0 : 0 ≤ x.f1 := by omega
  have hft : x.f1 ≤ x.t1 := by omega
  have es2 := slice88 s x.f1 x.t1 hf0 hft hT
  have HS : Hid (stepP s.data.toList bol 6 2 t x = if Lib.hasPrefix (s.extract a s.size).data.toList (s.extract x.f1.toNat x.t1.toNat).data.toList then some ((s.extract x.f1.toNat x.t1.toNat).size : Int) else none) := by
   show _ = _
   unfold stepP
   rw [if_neg (by decide), if_neg (by decide), if_neg (by decide), HSP, if_neg h0, pfx_lib, ha, ext_list, ByteArray.size_extract]
   unfold pfx
   rw [show (x.t1 - x.f1).toNat = x.t1.toNat - x.f1.toNat by omega, show ((min x.t1.toNat s.size - x.f1.toNat : Nat) : Int) = x.t1 - x.f1 by omega]
  have HB : Hid (decide (x.f1 < 0) = false) := decide_eq_false h0
  have hz : (s.extract x.f1.toNat x.t1.toNat).size ≤ 1000000000 := by rw [ByteArray.size_extract]; omega
  obtain ⟨r, hr⟩ : ∃ r, s.extract a s.size = r := ⟨_, rfl⟩
  obtain ⟨u, hu⟩ : ∃ u, s.extract x.f1.toNat x.t1.toNat = u := ⟨_, rfl⟩
  rw [hr] at es HS
  rw [hu] at es2 HS hz
  have HLP := hid (fun W => Tryz.strings_HasPrefix r u W)
  obtain ⟨b, hb⟩ : ∃ b, Lib.hasPrefix r.data.toList u.data.toList = b := ⟨_, rfl⟩
  rw [hb] at HS HLP
  clear hs hT HSP h0 hx hN haN ha hai hf0 hft hr hu hb
  go_enter Tryz.func80, Tryz.ntmps80
  go_upto_region 1 with fail
  refine opq (fun W0 => W0.heap[w.heap.size]? = some (.cells #[.string s, .bool bol] 70) ∧ W0.heap[(w.heap.size + 1)]? = some (spo x) ∧ W0.heap[P]? = some (pto 6 low high 2 t ks rd st hd kn so) ∧ Kp w W0) ⟨by exact bl_alloc (last_of _ _) _, by exact last_at _ _ _ (by simp), by exact bl_kp HP.out kpt, by exact kpt⟩ ?_
  rintro W0 ⟨xT0, xX0, xP0, xK0⟩
  have T0 := hid xT0
  have X0 := hid xX0
  have P0 := hid xP0
  have K0 := hid xK0
  clear xT0 xX0 xP0 xK0
  have b0 := bl_cell (T0.out) 0 _ rfl
  have b1 := bl_cell (T0.out) 1 _ rfl
  obtain ⟨x0, x1, x2, x3, x4, x5, x6⟩ := cells7 (X0.out)
  obtain ⟨p0, p1, p2, p3, p4, p5, p6, p7, p8, p9, p10, p11, p12, p13⟩ := cells14 (P0.out)
  go_upto_region 10 with fail
  clear b0 b1 x0 x1 x2 x3 x4 x5 x6 p0 p1 p2 p3 p4 p5 p6 p7 p8 p9 p10 p11 p12 p13
  refine opq (fun WG => WG.heap[W0.heap.size]? = some (.cells #[.int .i8 x.f1, .int .i8 x.t1] 80) ∧ WG.heap[w.heap.size]? = some (.cells #[.string s, .bool bol] 70) ∧ Kp w WG) ⟨by exact last_at _ _ _ rfl, by exact bl_alloc T0.out _, by exact K0.out.alloc _⟩ ?_
  rintro WG ⟨xGG, xTG, xKG⟩
  have GG := hid xGG
  have TG := hid xTG
  have KG := hid xKG
  clear xGG xTG xKG
  have g0 := bl_cell (GG.out) 0 _ rfl
  have g1 := bl_cell (GG.out) 1 _ rfl
  go_wp2_with fail
  refine (none_any _ _ _).mono ?_
  rintro e w1 ⟨rfl, k1⟩
  rw [HB.out]
  have K1 := hid (KG.out.trans k1)
  have T1 := hid (bl_kp TG.out k1)
  have G1 := hid (bl_kp GG.out k1)
  clear k1 g0 g1
  have b0 := bl_cell (T1.out) 0 _ rfl
  have b1 := bl_cell (T1.out) 1 _ rfl
  have g0 := bl_cell (G1.out) 0 _ rfl
  have g1 := bl_cell (G1.out) 1 _ rfl
  go_upto_region 13 with fail
  clear b0 b1 g0 g1
  go_wp2_with fail
  refine (HLP.out _).mono ?_
  rintro e w2 ⟨rfl, rfl⟩
  go_wp2_with fail
  go_ret2
  exact ⟨_, b, rfl, HS.out, K1.out⟩
theorem step_back3 (low high : Int) (t : W4) (ks : Value) (rd st hd : Nat) (kn so : Option Nat) (P : Nat) (s : ByteArray) (bol : Bool) (x : Sp) (w : World) (hP : w.heap[P]? = some (pto 6 low high 3 t ks rd st hd kn so)) (hx : x.Ok) (hN : x.In s.size) : Calls Tryz.prog 80 #[.agg #[.string s, .bool bol], ptv P, spv x] w fun e w' => StepD s bol 6 3 t x w e w' := by
 have HP := hid hP
 have ha0 := hx.a0
 have haN := hN.a
 have es := slice8 s x.a ha0 haN
 obtain ⟨a, ha⟩ : ∃ a : Nat, x.a.toNat = a := ⟨_, rfl⟩
 have hai : x.a = (a : Int) := by omega
 rw [ha] at es
 clear hP ha0
 have hs := hx.s2
 have hT := hN.t2
 unfold Spn at hs
 have HSP : x.span 3 = (x.f2, x.t2) := by unfold Sp.span; simp
 by_cases h0 : x.f2 < 0
 ·
  have HS : Hid (stepP s.data.toList bol 6 3 t x = none) := by
   show _ = _
   unfold stepP
   rw [if_neg (by decide), if_neg (by decide), if_neg (by decide), HSP, if_pos h0]
  have HB : Hid (decide (x.f2 < 0) = true) := decide_eq_true h0
  clear hs hT HSP h0 hx hN haN ha hai
  go_enter Tryz.func80, Tryz.ntmps80
  go_upto_region 1 with fail
  refine opq (fun W0 => W0.heap[w.heap.size]? = some (.cells #[.string s, .bool bol] 70) ∧ W0.heap[(w.heap.size + 1)]? = some (spo x) ∧ W0.heap[P]? = some (pto 6 low high 3 t ks rd st hd kn so) ∧ Kp w W0) ⟨by exact bl_alloc (last_of _ _) _, by exact last_at _ _ _ (by simp), by exact bl_kp HP.out kpt, by exact kpt⟩ ?_
  rintro W0 ⟨xT0, xX0, xP0, xK0⟩
  have T0 := hid xT0
  have X0 := hid xX0
  have P0 := hid xP0
  have K0 := hid xK0
  clear xT0 xX0 xP0 xK0
  have b0 := bl_cell (T0.out) 0 _ rfl
  have b1 := bl_cell (T0.out) 1 _ rfl
  obtain ⟨x0, x1, x2, x3, x4, x5, x6⟩ := cells7 (X0.out)
  obtain ⟨p0, p1, p2, p3, p4, p5, p6, p7, p8, p9, p10, p11, p12, p13⟩ := cells14 (P0.out)
  go_upto_region 10 with fail
  clear b0 b1 x0 x1 x2 x3 x4 x5 x6 p0 p1 p2 p3 p4 p5 p6 p7 p8 p9 p10 p11 p12 p13
  refine opq (fun WG => WG.heap[W0.heap.size]? = some (.cells #[.int .i8 x.f2, .int .i8 x.t2] 80) ∧ WG.heap[w.heap.size]? = some (.cells #[.string s, .bool bol] 70) ∧ Kp w WG) ⟨by exact last_at _ _ _ rfl, by exact bl_alloc T0.out _, by exact K0.out.alloc _⟩ ?_
  rintro WG ⟨xGG, xTG, xKG⟩
  have GG := hid xGG
  have TG := hid xTG
  have KG := hid xKG
  clear xGG xTG xKG
  have g0 := bl_cell (GG.out) 0 _ rfl
  have g1 := bl_cell (GG.out) 1 _ rfl
  go_wp2_with fail
  refine (none_any _ _ _).mono ?_
  rintro e w1 ⟨rfl, k1⟩
  rw [HB.out]
  have K1 := hid (KG.out.trans k1)
  clear k1 g0 g1
  go_wp2_with fail
  go_ret2
  exact ⟨0, false, rfl, HS.out, K1.out⟩
 ·
  have hf0 : 0 ≤ x.f2 := by omega
  have hft : x.f2 ≤ x.t2 := by omega
  have es2 := slice88 s x.f2 x.t2 hf0 hft hT
  have HS : Hid (stepP s.data.toList bol 6 3 t x = if Lib.hasPrefix (s.extract a s.size).data.toList (s.extract x.f2.toNat x.t2.toNat).data.toList then some ((s.extract x.f2.toNat x.t2.toNat).size : Int) else none) := by
   show _ = _
   unfold stepP
   rw [if_neg (by decide), if_neg (by decide), if_neg (by decide), HSP, if_neg h0, pfx_lib, ha, ext_list, ByteArray.size_extract]
   unfold pfx
   rw [show (x.t2 - x.f2).toNat = x.t2.toNat - x.f2.toNat by omega, show ((min x.t2.toNat s.size - x.f2.toNat : Nat) : Int) = x.t2 - x.f2 by omega]
  have HB : Hid (decide (x.f2 < 0) = false) := decide_eq_false h0
  have hz : (s.extract x.f2.toNat x.t2.toNat).size ≤ 1000000000 := by rw [ByteArray.size_extract]; omega
  obtain ⟨r, hr⟩ : ∃ r, s.extract a s.size = r := ⟨_, rfl⟩
  obtain ⟨u, hu⟩ : ∃ u, s.extract x.f2.toNat x.t2.toNat = u := ⟨_, rfl⟩
  rw [hr] at es HS
  rw [hu] at es2 HS hz
  have HLP := hid (fun W => Tryz.strings_HasPrefix r u W)
  obtain ⟨b, hb⟩ : ∃ b, Lib.hasPrefix r.data.toList u.data.toList = b := ⟨_, rfl⟩
  rw [hb] at HS HLP
  clear hs hT HSP h0 hx hN haN ha hai hf0 hft hr hu hb
  go_enter Tryz.func80, Tryz.ntmps80
  go_upto_region 1 with fail
  refine opq (fun W0 => W0.heap[w.heap.size]? = some (.cells #[.string s, .bool bol] 70) ∧ W0.heap[(w.heap.size + 1)]? = some (spo x) ∧ W0.heap[P]? = some (pto 6 low high 3 t ks rd st hd kn so) ∧ Kp w W0) ⟨by exact bl_alloc (last_of _ _) _, by exact last_at _ _ _ (by simp), by exact bl_kp HP.out kpt, by exact kpt⟩ ?_
  rintro W0 ⟨xT0, xX0, xP0, xK0⟩
  have T0 := hid xT0
  have X0 := hid xX0
  have P0 := hid xP0
  have K0 := hid xK0
  clear xT0 xX0 xP0 xK0
  have b0 := bl_cell (T0.out) 0 _ rfl
  have b1 := bl_cell (T0.out) 1 _ rfl
  obtain ⟨x0, x1, x2, x3, x4, x5, x6⟩ := cells7 (X0.out)
  obtain ⟨p0, p1, p2, p3, p4, p5, p6, p7, p8, p9, p10, p11, p12, p13⟩ := cells14 (P0.out)
  go_upto_region 10 with fail
  clear b0 b1 x0 x1 x2 x3 x4 x5 x6 p0 p1 p2 p3 p4 p5 p6 p7 p8 p9 p10 p11 p12 p13
  refine opq (fun WG => WG.heap[W0.heap.size]? = some (.cells #[.int .i8 x.f2, .int .i8 x.t2] 80) ∧ WG.heap[w.heap.size]? = some (.cells #[.string s, .bool bol] 70) ∧ Kp w WG) ⟨by exact last_at _ _ _ rfl, by exact bl_alloc T0.out _, by exact K0.out.alloc _⟩ ?_
  rintro WG ⟨xGG, xTG, xKG⟩
  have GG := hid xGG
  have TG := hid xTG
  have KG := hid xKG
  clear xGG xTG xKG
  have g0 := bl_cell (GG.out) 0 _ rfl
  have g1 := bl_cell (GG.out) 1 _ rfl
  go_wp2_with fail
  refine (none_any _ _ _).mono ?_
  rintro e w1 ⟨rfl, k1⟩
  rw [HB.out]
  have K1 := hid (KG.out.trans k1)
  have T1 := hid (bl_kp TG.out k1)
  have G1 := hid (bl_kp GG.out k1)
  clear k1 g0 g1
  have b0 := bl_cell (T1.out) 0 _ rfl
  have b1 := bl_cell (T1.out) 1 _ rfl
  have g0 := bl_cell (G1.out) 0 _ rfl
  have g1 := bl_cell (G1.out) 1 _ rfl
  go_upto_region 13 with fail
  clear b0 b1 g0 g1
  go_wp2_with fail
  refine (HLP.out _).mono ?_
  rintro e w2 ⟨rfl, rfl⟩
  go_wp2_with fail
  go_ret2
  exact ⟨_, b, rfl, HS.out, K1.out⟩
end Go.Proofs.YtnajcnhgeggngaaGreat.Way

/-! ### WLeaf -/

namespace Go.Proofs.YtnajcnhgeggngaaGreat.Way
set_option maxHeartbeats 2000000
set_option maxRecDepth 100000
open Go.RowKit Go.Proofs.YtnajcnhgeggngaaGreat

structure LeafOk (k n : Int) (t : W4) : Prop where
 k : k = 1 ∨ k = 7 ∨ k = 8 ∨ (k = 6 ∧ (n = 1 ∨ n = 2 ∨ n = 3))
 t : t.a < 18446744073709551616 ∧ t.b < 18446744073709551616 ∧ t.c < 18446744073709551616 ∧ t.d < 18446744073709551616
theorem step_any (k low high n : Int) (t : W4) (ks : Value) (rd st hd : Nat) (kn so : Option Nat) (P : Nat) (s : ByteArray) (bol : Bool) (x : Sp) (w : World) (hP : w.heap[P]? = some (pto k low high n t ks rd st hd kn so)) (hx : x.Ok) (hN : x.In s.size) (hk : LeafOk k n t) : Calls Tryz.prog 80 #[.agg #[.string s, .bool bol], ptv P, spv x] w fun e w' => StepD s bol k n t x w e w' := by
 rcases hk.k with rfl | rfl | rfl | ⟨rfl, rfl | rfl | rfl⟩
 ·
  exact step_set n low high t ks rd st hd kn so P s bol x w hP hx hN hk.t
 ·
  exact step_begin n low high t ks rd st hd kn so P s bol x w hP hx hN
 ·
  exact step_end n low high t ks rd st hd kn so P s bol x w hP hx hN
 ·
  exact step_back1 low high t ks rd st hd kn so P s bol x w hP hx hN
 ·
  exact step_back2 low high t ks rd st hd kn so P s bol x w hP hx hN
 ·
  exact step_back3 low high t ks rd st hd kn so P s bol x w hP hx hN
theorem span_in {N : Nat} {x : Sp} (hx : x.Ok) (hN : x.In N) (n : Int) : Spn (x.span n).1 (x.span n).2 ∧ (x.span n).2 ≤ N := by
 unfold Sp.span
 split
 ·
  exact ⟨hx.s0, hN.t0⟩
 ·
  split
  ·
   exact ⟨hx.s1, hN.t1⟩
  ·
   exact ⟨hx.s2, hN.t2⟩
theorem step_le {L : List UInt8} {bol : Bool} {k n v : Int} {t : W4} {x : Sp} (hx : x.Ok) (hN : x.In L.length) (h : stepP L bol k n t x = some v) : 0 ≤ v ∧ x.a + v ≤ L.length := by
 have ha := hN.a
 have h0 := hx.a0
 unfold stepP at h
 split at h
 ·
  split at h
  ·
   rename_i c hc
   have := (List.getElem?_eq_some_iff.1 hc).1
   split at h
   ·
    cases h; omega
   ·
    cases h
  ·
   cases h
 ·
  split at h
  ·
   split at h
   ·
    cases h; omega
   ·
    cases h
  ·
   split at h
   ·
    split at h
    ·
     cases h; omega
    ·
     cases h
   ·
    obtain ⟨hs, ht⟩ := span_in hx hN n
    unfold Spn at hs
    split at h
    ·
     cases h
    ·
     rename_i hf
     split at h
     ·
      rename_i hp
      have hl := (List.isPrefixOf_iff_prefix.1 hp).length_le
      rw [List.length_take, List.length_drop, List.length_drop] at hl
      cases h
      omega
     ·
      cases h
theorem moved_good {N : Nat} (h60 : N ≤ 60) {x : Sp} (hx : x.Ok) (hN : x.In N) {v : Int} (h0 : 0 ≤ v) (h1 : x.a + v ≤ N) : (x.moved v).Ok ∧ (x.moved v).In N := by
 have ha := hx.a0
 refine ⟨⟨?_, ?_, hx.s0, hx.s1, hx.s2⟩, ⟨h1, hN.t0, hN.t1, hN.t2⟩⟩
 ·
  show 0 ≤ x.a + v
  omega
 ·
  show x.a + v ≤ 60
  omega
theorem spl_one (w : World) (x : Sp) (hx : x.Ok) (ok : Nat → Prop) (hok : ok w.heap.size) : SpL (w.alloc (spo x)) ok (.slice (some ⟨w.heap.size, 0, none⟩) 1 1) [x] := by
 have hb : (w.alloc (spo x)).heap[w.heap.size]? = some (spo x) := last_of _ _
 refine ⟨fun y hy => by rw [List.mem_singleton.1 hy]; exact hx, _, 1, rfl, Nat.le_refl _, fun _ => ⟨w.heap.size, rfl, hok, bl_lt hb, fun j y hj => ?_⟩⟩
 match j, hj with
 | 0, hj =>
  obtain rfl : x = y := by simpa using hj
  exact ⟨bl_cell hb 0 _ rfl, bl_cell hb 1 _ rfl, bl_cell hb 2 _ rfl, bl_cell hb 3 _ rfl, bl_cell hb 4 _ rfl, bl_cell hb 5 _ rfl, bl_cell hb 6 _ rfl⟩
 | j + 1, hj => simp at hj
theorem spl_nil (w : World) (ok : Nat → Prop) (c : Nat) (ad : Option Addr) : SpL w ok (.slice ad 0 c) [] := ⟨(fun y hy => by cases hy), ad, c, rfl, Nat.zero_le _, fun h => absurd h (by simp)⟩
structure WaysD (W : List Sp) (ok : Nat → Prop) (R : World → Prop) (e : Ending) (w' : World) : Prop where
 ex : ∃ v, e = .returned v ∧ SpL w' ok v W ∧ R w'

theorem wleaf_any (k low high n : Int) (t : W4) (ks : Value) (rd st hd : Nat) (kn so : Option Nat) (P : Nat) (s : ByteArray) (bol : Bool) (x : Sp) (w : World) (hP : w.heap[P]? = some (pto k low high n t ks rd st hd kn so)) (h60 : s.size ≤ 60) (hx : x.Ok) (hN : x.In s.size) (hk : LeafOk k n t) :
  Calls Tryz.prog 53 #[.agg #[.string s, .bool bol], ptv P, spv x] w fun e w' => WaysD (leafP s.data.toList bol k n t x) (fun b => w.heap.size ≤ b) (Kp w) e w' := by
 have HP := hid hP
 have ST := hid (fun (W : World) (h : W.heap[P]? = some (pto k low high n t ks rd st hd kn so)) => step_any k low high n t ks rd st hd kn so P s bol x W h hx hN hk)
 have hN2 : x.In s.data.toList.length := by rw [show s.data.toList.length = s.size from Array.length_toList]; exact hN
 have HL := hid (fun v (h : stepP s.data.toList bol k n t x = some v) => step_le hx hN2 h)
 have HX := hid hx
 have HN := hid hN
 clear hP hx hN hk hN2
 go_enter Tryz.func53, Tryz.ntmps53
 go_upto_region 1 with fail
 refine opq (fun W0 => W0.heap[w.heap.size]? = some (.cells #[.string s, .bool bol] 70) ∧ W0.heap[(w.heap.size + 1)]? = some (spo x) ∧ W0.heap[P]? = some (pto k low high n t ks rd st hd kn so) ∧ Kp w W0) ⟨by exact bl_alloc (last_of _ _) _, by exact last_at _ _ _ (by simp), by exact bl_kp HP.out kpt, by exact kpt⟩ ?_
 rintro W0 ⟨xT0, xX0, xP0, xK0⟩
 have T0 := hid xT0
 have X0 := hid xX0
 have P0 := hid xP0
 have K0 := hid xK0
 clear xT0 xX0 xP0 xK0
 have b0 := bl_cell (T0.out) 0 _ rfl
 have b1 := bl_cell (T0.out) 1 _ rfl
 obtain ⟨x0, x1, x2, x3, x4, x5, x6⟩ := cells7 (X0.out)
 go_wp2_with fail
 refine (ST.out _ P0.out).mono ?_
 rintro e w1 ⟨⟨v, b, rfl, hst, k1⟩⟩
 have HST := hid hst
 have X1 := hid (bl_kp X0.out k1)
 have K1 := hid (K0.out.trans k1)
 clear k1 hst b0 b1 x0 x1 x2 x3 x4 x5 x6
 cases b with
 | false =>
  have HE : Hid (leafP s.data.toList bol k n t x = []) := by show _ = _; unfold leafP; rw [HST.out]; rfl
  go_wp2_with fail
  go_ret
  exact ⟨_, rfl, by rw [HE.out]; exact spl_nil _ _ _ _, K1.out⟩
 | true =>
  have HE : Hid (leafP s.data.toList bol k n t x = [x.moved v]) := by show _ = _; unfold leafP; rw [HST.out]; rfl
  have hv := HL.out v HST.out
  rw [show s.data.toList.length = s.size from Array.length_toList] at hv
  have HG := hid (moved_good h60 HX.out HN.out hv.1 hv.2)
  obtain ⟨m, rfl⟩ := Int.eq_ofNat_of_zero_le hv.1
  have HM := hid (fun W => moved_any x m HX.out (by omega) W)
  clear hv
  obtain ⟨x0, x1, x2, x3, x4, x5, x6⟩ := cells7 (X1.out)
  go_wp2_with fail
  refine (HM.out _).mono ?_
  rintro e w2 ⟨rfl, k2⟩
  have K2 := hid (K1.out.trans k2)
  clear k2 x0 x1 x2 x3 x4 x5 x6
  go_wp2_with fail
  go_ret
  exact ⟨_, rfl, by rw [HE.out]; exact spl_one w2 _ HG.out.1 _ K2.out.size, K2.out.alloc _⟩
end Go.Proofs.YtnajcnhgeggngaaGreat.Way

/-! ### Own7 -/

namespace Go.Proofs.YtnajcnhgeggngaaGreat.Way
open Go.RowKit Go.Proofs.YtnajcnhgeggngaaGreat

def spc (x : Sp) : List Value := [.int .i8 x.a, .int .i8 x.f0, .int .i8 x.t0, .int .i8 x.f1, .int .i8 x.t1, .int .i8 x.f2, .int .i8 x.t2]
def spcs : List Sp → List Value
 | [] => []
 | x :: xs => spc x ++ spcs xs
theorem spcs_append (a b : List Sp) : spcs (a ++ b) = spcs a ++ spcs b := by
 induction a with
 | nil => rfl
 | cons x xs ih => rw [List.cons_append, spcs, spcs, ih, List.append_assoc]
theorem spcs_one (x : Sp) : spcs [x] = spc x := by rw [spcs, spcs, List.append_nil]
theorem spcs_length (a : List Sp) : (spcs a).length = a.length * 7 := by
 induction a with
 | nil => rfl
 | cons x xs ih => rw [spcs, List.length_append, ih, List.length_cons]; show 7 + xs.length * 7 = _; omega
theorem spcs_get (a : List Sp) : ∀ (j : Nat) x, a[j]? = some x → ∀ (i : Nat) u, (spc x)[i]? = some u → (spcs a)[j * 7 + i]? = some u := by
 induction a with
 | nil => intro j x hj; simp at hj
 | cons y ys ih =>
  intro j x hj i u hi
  have hi7 : i < 7 := (List.getElem?_eq_some_iff.1 hi).1
  match j, hj with
  | 0, hj =>
   obtain rfl : y = x := by simpa using hj
   rw [spcs, Nat.zero_mul, Nat.zero_add, List.getElem?_append_left (by show i < 7; exact hi7)]
   exact hi
  | j + 1, hj =>
   rw [spcs, List.getElem?_append_right (by show 7 ≤ _; omega), show (j + 1) * 7 + i - (spc y).length = j * 7 + i by show (j + 1) * 7 + i - 7 = _; omega]
   exact ih j x (by simpa using hj) i u hi
theorem spc_one (x : Sp) : ∀ u ∈ spc x, u.oneCell' = true := by
 intro u hu
 simp [spc] at hu
 rcases hu with rfl | rfl | rfl | rfl | rfl | rfl | rfl <;> rfl
abbrev spz : Value := .agg #[.int .i8 0, .int .i8 0, .int .i8 0, .int .i8 0, .int .i8 0, .int .i8 0, .int .i8 0]
theorem info83 : ∃ i, Tryz.prog.info? 83 = some i ∧ i.zero = some spz ∧ i.size = 7 ∧ i.bytes = 7 := by
 obtain ⟨i, hi, h0, h1, h2⟩ := info_parts (P := Tryz.prog) (e := 83) (z := spz) (size := 7) (bytes := 7) (by kernel_rfl)
 exact ⟨i, hi, h0, h1, h2⟩
structure SpR (base : Nat) (w : World) (v : Value) (xs : List Sp) : Prop where
 good : ∀ x ∈ xs, x.Ok
 own : w.ownsRow base 83 7 v xs.length (spcs xs)
theorem SpR.nil (base : Nat) (w : World) : SpR base w (.slice none 0 0) [] := ⟨(fun x hx => by cases hx), World.ownsRow_nil _ _ _ _⟩
theorem SpR.block {base : Nat} {w : World} {v : Value} {xs : List Sp} (h : SpR base w v xs) : ∀ b, v.ownBlock = some b → base ≤ b ∧ b < w.heap.size := h.own.lt
theorem SpR.turn {base : Nat} {w w' : World} {v : Value} {xs : List Sp} (h : SpR base w v xs) (hk : ∀ b, v.ownBlock = some b → b < w.heap.size → w'.heap[b]? = w.heap[b]?) : SpR base w' v xs := ⟨h.good, owns_same h.own hk⟩
theorem SpR.kp {base : Nat} {w w' : World} {v : Value} {xs : List Sp} (h : SpR base w v xs) (k : Kp w w') : SpR base w' v xs := h.turn (fun b _ hl => k.block b hl)
theorem SpR.form {base : Nat} {w : World} {v : Value} {xs : List Sp} (h : SpR base w v xs) : ∃ ad c, v = .slice ad xs.length c ∧ xs.length ≤ c := by
 rcases h.own.2 with ⟨rfl, h0⟩ | ⟨g, cap, cur, hv, _, _, hc, _⟩
 ·
  exact ⟨none, 0, by rw [h0], by omega⟩
 ·
  exact ⟨_, cap, hv, hc⟩
theorem SpR.spl {base : Nat} {w : World} {v : Value} {xs : List Sp} (h : SpR base w v xs) {ok : Nat → Prop} (hok : ∀ b, v.ownBlock = some b → ok b) : SpL w ok v xs := by
 refine ⟨h.good, ?_⟩
 have hown := h.own
 rcases h.own.2 with ⟨rfl, h0⟩ | ⟨g, cap, cur, rfl, hb, hg, hc, _⟩
 ·
  exact ⟨none, 0, by rw [h0], by omega, fun hl => absurd hl (by omega)⟩
 ·
  refine ⟨_, cap, rfl, hc, fun _ => ⟨g, rfl, hok g rfl, bl_lt hg, fun j x hj => ?_⟩⟩
  have hj' : j < xs.length := (List.getElem?_eq_some_iff.1 hj).1
  have hcell : ∀ i u, (spc x)[i]? = some u → w.cell? ⟨g, j * 7 + i, none⟩ = some u := fun i u hi => by
   have hi7 : i < 7 := (List.getElem?_eq_some_iff.1 hi).1
   rw [World.ownsRow.cellAt hown (j * 7 + i) (by omega)]
   exact spcs_get xs j x hj i u hi
  exact ⟨hcell 0 _ rfl, hcell 1 _ rfl, hcell 2 _ rfl, hcell 3 _ rfl, hcell 4 _ rfl, hcell 5 _ rfl, hcell 6 _ rfl⟩
structure MoreD (base : Nat) (w : World) (v : Value) (xs : List Sp) (x : Sp) (v' : Value) (w' : World) : Prop where
 row : SpR base w' v' (xs ++ [x])
 grown : w.grownBy w' v.ownBlock
 block : v'.ownBlock = v.ownBlock ∨ v'.ownBlock = some w.heap.size
theorem run_append_sp (w : World) (base : Nat) (v : Value) (xs : List Sp) (x : Sp) (ty : TypeId) (hG : SpR base w v xs) (hx : x.Ok) (B : Nat) (hB : w.heap[B]? = some (spo x)) (hn : xs.length ≤ 5000000000000) (hb : base ≤ w.heap.size) :
  ∃ v' w', (Builtin.append_ #[68, 68] ty #[v, .slice (some ⟨B, 0, none⟩) 1 1]).run Tryz.prog w = .ok v' w' ∧ MoreD base w v xs x v' w' := by
 obtain ⟨i, hi, hz, hsz, hby⟩ := info83
 obtain ⟨v', w', hr, h2, h3, _, h5⟩ := run_append_own_at (P := Tryz.prog) w base 68 ty 83 i spz 7 7 Tryz.underlying68 hi hz hsz hby rfl (by omega) v xs.length (spcs xs) hG.own ⟨B, 0, none⟩ 1 1 (spc x) rfl (fun j u hj => by
  rw [Go.WideShapes.add_plain, Nat.zero_add]
  refine bl_cell hB j u ?_
  rw [← Array.getElem?_toList]
  exact hj) (spc_one x) (by unfold maxLen; omega) (by omega) hb
 refine ⟨v', w', hr, ⟨⟨fun y hy => ?_, ?_⟩, h3, h5⟩⟩
 ·
  rcases List.mem_append.1 hy with hy | hy
  ·
   exact hG.good y hy
  ·
   rw [List.mem_singleton.1 hy]; exact hx
 ·
  rw [List.length_append, spcs_append, spcs_one]
  exact h2
theorem wpList_append_sp {ops : Array Oper} {rest : List Oper} {o : Oper} {a : Act} {Q : Exit → Act → World → Prop} (w : World) (hgd : o.guard = none) (s y : Operand)
  (ho : o.op = .call { callee := .builtin .append, args := #[s, y], argTypes := #[68, 68] })
  (base : Nat) (v : Value) (xs : List Sp) (x : Sp) (hs : a.eval s = v) (B : Nat) (hy : a.eval y = .slice (some ⟨B, 0, none⟩) 1 1) (hG : Hid (SpR base w v xs)) (hx : Hid x.Ok) (hB : w.heap[B]? = some (spo x)) (hn : xs.length ≤ 5000000000000) (hb : base ≤ w.heap.size)
  (h : ∀ v' w', MoreD base w v xs x v' w' → wpList Tryz.prog ops Q rest (a.put o.dst v') w') :
  wpList Tryz.prog ops Q (o :: rest) a w := by
 refine wpList_plain hgd fun K hK => ?_
 obtain ⟨v', w', hr, hg⟩ := run_append_sp w base v xs x o.type hG.out hx.out B hB hn hb
 unfold Oper.wp execOp
 simp only [ho, resolve, invoke, builtin, Sem.run_bind, Sem.run_pure, Result.andThen_ok, List.map_toArray, List.map_cons, List.map_nil, hs, hy, hr]
 exact hK _ _ (h v' w' hg)
theorem step_append_sp {ops : Array Oper} {o : Oper} {a : Act} {K : Act → World → Prop} {Q : Exit → Act → World → Prop} {E : Prop} (w : World)
  (hw : Region.wanted o (yielded ops a.tmps) = true) (s y : Operand) (ho : o.op = .call { callee := .builtin .append, args := #[s, y], argTypes := #[68, 68] })
  (base : Nat) (v : Value) (xs : List Sp) (x : Sp) (hs : a.eval s = v) (B : Nat) (hy : a.eval y = .slice (some ⟨B, 0, none⟩) 1 1) (hG : SpR base w v xs) (hx : x.Ok) (hB : w.heap[B]? = some (spo x)) (hn : xs.length ≤ 5000000000000) (hb : base ≤ w.heap.size)
  (h : ∀ v' w', MoreD base w v xs x v' w' → K (a.put o.dst v') w') :
  if Region.wanted o (yielded ops a.tmps) = true then Oper.wp Tryz.prog o a w K Q else E := by
 rw [if_pos hw]
 obtain ⟨v', w', hr, hg⟩ := run_append_sp w base v xs x o.type hG hx B hB hn hb
 unfold Oper.wp execOp
 simp only [ho, resolve, invoke, builtin, Sem.run_bind, Sem.run_pure, Result.andThen_ok, List.map_toArray, List.map_cons, List.map_nil, hs, hy, hr]
 exact h v' w' hg
end Go.Proofs.YtnajcnhgeggngaaGreat.Way
