/-
  The law BsetLaws.
-/
import Derived.Test.YtfijmepkbflahaaJoined
import Derived.Test.YtfijmepkbflahaaWithout
import Derived.Deep.DeepCutAuto
import Derived.Deep.RegionHeld3
namespace Go.Proofs.Ytfijmepkbflahaa
open Go.RowKit

/-- From W on nothing has turned, and these blocks hold these sets. -/
def Keep4 (W : World) (B0 : Nat) (p0 : Nat → Bool) (B1 : Nat) (p1 : Nat → Bool) (B2 : Nat) (p2 : Nat → Bool) (B3 : Nat) (p3 : Nat → Bool) (W' : World) : Prop := At W' B0 p0 ∧ At W' B1 p1 ∧ At W' B2 p2 ∧ At W' B3 p3 ∧ Kp W W'

theorem Keep4.kp {W W1 W2 : World} {B0 B1 B2 B3 : Nat} {p0 p1 p2 p3 : Nat → Bool} (h : Keep4 W B0 p0 B1 p1 B2 p2 B3 p3 W1) (k : Kp W1 W2) : Keep4 W B0 p0 B1 p1 B2 p2 B3 p3 W2 := ⟨k.at h.1, k.at h.2.1, k.at h.2.2.1, k.at h.2.2.2.1, h.2.2.2.2.trans k⟩
theorem Keep4.alloc {W W1 : World} {B0 B1 B2 B3 : Nat} {p0 p1 p2 p3 : Nat → Bool} (h : Keep4 W B0 p0 B1 p1 B2 p2 B3 p3 W1) (o : Obj) : Keep4 W B0 p0 B1 p1 B2 p2 B3 p3 (W1.alloc o) := ⟨h.1.alloc o, h.2.1.alloc o, h.2.2.1.alloc o, h.2.2.2.1.alloc o, h.2.2.2.2.alloc o⟩
theorem Keep4.drew {W W1 : World} {B0 B1 B2 B3 : Nat} {p0 p1 p2 p3 : Nat → Bool} (h : Keep4 W B0 p0 B1 p1 B2 p2 B3 p3 W1) : Keep4 W B0 p0 B1 p1 B2 p2 B3 p3 W1.drew := ⟨h.1.drew, h.2.1.drew, h.2.2.1.drew, h.2.2.2.1.drew, h.2.2.2.2.drew⟩
theorem Keep4.mk {W W' : World} {B0 B1 B2 B3 : Nat} {p0 p1 p2 p3 : Nat → Bool} (h : Keep4 W B0 p0 B1 p1 B2 p2 B3 p3 W') :
    W'.cell? ⟨B0, 0, none⟩ = some (.int .u64 (wd p0 0 : Nat)) ∧ W'.cell? ⟨B0, 1, none⟩ = some (.int .u64 (wd p0 1 : Nat)) ∧ W'.cell? ⟨B0, 2, none⟩ = some (.int .u64 (wd p0 2 : Nat)) ∧ W'.cell? ⟨B0, 3, none⟩ = some (.int .u64 (wd p0 3 : Nat)) ∧ W'.cell? ⟨B1, 0, none⟩ = some (.int .u64 (wd p1 0 : Nat)) ∧ W'.cell? ⟨B1, 1, none⟩ = some (.int .u64 (wd p1 1 : Nat)) ∧ W'.cell? ⟨B1, 2, none⟩ = some (.int .u64 (wd p1 2 : Nat)) ∧ W'.cell? ⟨B1, 3, none⟩ = some (.int .u64 (wd p1 3 : Nat)) ∧ W'.cell? ⟨B2, 0, none⟩ = some (.int .u64 (wd p2 0 : Nat)) ∧ W'.cell? ⟨B2, 1, none⟩ = some (.int .u64 (wd p2 1 : Nat)) ∧ W'.cell? ⟨B2, 2, none⟩ = some (.int .u64 (wd p2 2 : Nat)) ∧ W'.cell? ⟨B2, 3, none⟩ = some (.int .u64 (wd p2 3 : Nat)) ∧ W'.cell? ⟨B3, 0, none⟩ = some (.int .u64 (wd p3 0 : Nat)) ∧ W'.cell? ⟨B3, 1, none⟩ = some (.int .u64 (wd p3 1 : Nat)) ∧ W'.cell? ⟨B3, 2, none⟩ = some (.int .u64 (wd p3 2 : Nat)) ∧ W'.cell? ⟨B3, 3, none⟩ = some (.int .u64 (wd p3 3 : Nat)) ∧ Hid (Keep4 W B0 p0 B1 p1 B2 p2 B3 p3 W') :=
  ⟨h.1.cells.1, h.1.cells.2.1, h.1.cells.2.2.1, h.1.cells.2.2.2, h.2.1.cells.1, h.2.1.cells.2.1, h.2.1.cells.2.2.1, h.2.1.cells.2.2.2, h.2.2.1.cells.1, h.2.2.1.cells.2.1, h.2.2.1.cells.2.2.1, h.2.2.1.cells.2.2.2, h.2.2.2.1.cells.1, h.2.2.2.1.cells.2.1, h.2.2.2.1.cells.2.2.1, h.2.2.2.1.cells.2.2.2, h⟩

def Keep3 (W : World) (B0 : Nat) (p0 : Nat → Bool) (B1 : Nat) (p1 : Nat → Bool) (B2 : Nat) (p2 : Nat → Bool) (W' : World) : Prop := At W' B0 p0 ∧ At W' B1 p1 ∧ At W' B2 p2 ∧ Kp W W'

theorem Keep3.kp {W W1 W2 : World} {B0 B1 B2 : Nat} {p0 p1 p2 : Nat → Bool} (h : Keep3 W B0 p0 B1 p1 B2 p2 W1) (k : Kp W1 W2) : Keep3 W B0 p0 B1 p1 B2 p2 W2 := ⟨k.at h.1, k.at h.2.1, k.at h.2.2.1, h.2.2.2.trans k⟩
theorem Keep3.alloc {W W1 : World} {B0 B1 B2 : Nat} {p0 p1 p2 : Nat → Bool} (h : Keep3 W B0 p0 B1 p1 B2 p2 W1) (o : Obj) : Keep3 W B0 p0 B1 p1 B2 p2 (W1.alloc o) := ⟨h.1.alloc o, h.2.1.alloc o, h.2.2.1.alloc o, h.2.2.2.alloc o⟩
theorem Keep3.drew {W W1 : World} {B0 B1 B2 : Nat} {p0 p1 p2 : Nat → Bool} (h : Keep3 W B0 p0 B1 p1 B2 p2 W1) : Keep3 W B0 p0 B1 p1 B2 p2 W1.drew := ⟨h.1.drew, h.2.1.drew, h.2.2.1.drew, h.2.2.2.drew⟩
theorem Keep3.mk {W W' : World} {B0 B1 B2 : Nat} {p0 p1 p2 : Nat → Bool} (h : Keep3 W B0 p0 B1 p1 B2 p2 W') :
    W'.cell? ⟨B0, 0, none⟩ = some (.int .u64 (wd p0 0 : Nat)) ∧ W'.cell? ⟨B0, 1, none⟩ = some (.int .u64 (wd p0 1 : Nat)) ∧ W'.cell? ⟨B0, 2, none⟩ = some (.int .u64 (wd p0 2 : Nat)) ∧ W'.cell? ⟨B0, 3, none⟩ = some (.int .u64 (wd p0 3 : Nat)) ∧ W'.cell? ⟨B1, 0, none⟩ = some (.int .u64 (wd p1 0 : Nat)) ∧ W'.cell? ⟨B1, 1, none⟩ = some (.int .u64 (wd p1 1 : Nat)) ∧ W'.cell? ⟨B1, 2, none⟩ = some (.int .u64 (wd p1 2 : Nat)) ∧ W'.cell? ⟨B1, 3, none⟩ = some (.int .u64 (wd p1 3 : Nat)) ∧ W'.cell? ⟨B2, 0, none⟩ = some (.int .u64 (wd p2 0 : Nat)) ∧ W'.cell? ⟨B2, 1, none⟩ = some (.int .u64 (wd p2 1 : Nat)) ∧ W'.cell? ⟨B2, 2, none⟩ = some (.int .u64 (wd p2 2 : Nat)) ∧ W'.cell? ⟨B2, 3, none⟩ = some (.int .u64 (wd p2 3 : Nat)) ∧ Hid (Keep3 W B0 p0 B1 p1 B2 p2 W') :=
  ⟨h.1.cells.1, h.1.cells.2.1, h.1.cells.2.2.1, h.1.cells.2.2.2, h.2.1.cells.1, h.2.1.cells.2.1, h.2.1.cells.2.2.1, h.2.1.cells.2.2.2, h.2.2.1.cells.1, h.2.2.1.cells.2.1, h.2.2.1.cells.2.2.1, h.2.2.1.cells.2.2.2, h⟩

def Keep2 (W : World) (B0 : Nat) (p0 : Nat → Bool) (B1 : Nat) (p1 : Nat → Bool) (W' : World) : Prop := At W' B0 p0 ∧ At W' B1 p1 ∧ Kp W W'

theorem Keep2.kp {W W1 W2 : World} {B0 B1 : Nat} {p0 p1 : Nat → Bool} (h : Keep2 W B0 p0 B1 p1 W1) (k : Kp W1 W2) : Keep2 W B0 p0 B1 p1 W2 := ⟨k.at h.1, k.at h.2.1, h.2.2.trans k⟩
theorem Keep2.alloc {W W1 : World} {B0 B1 : Nat} {p0 p1 : Nat → Bool} (h : Keep2 W B0 p0 B1 p1 W1) (o : Obj) : Keep2 W B0 p0 B1 p1 (W1.alloc o) := ⟨h.1.alloc o, h.2.1.alloc o, h.2.2.alloc o⟩
theorem Keep2.drew {W W1 : World} {B0 B1 : Nat} {p0 p1 : Nat → Bool} (h : Keep2 W B0 p0 B1 p1 W1) : Keep2 W B0 p0 B1 p1 W1.drew := ⟨h.1.drew, h.2.1.drew, h.2.2.drew⟩
theorem Keep2.mk {W W' : World} {B0 B1 : Nat} {p0 p1 : Nat → Bool} (h : Keep2 W B0 p0 B1 p1 W') :
    W'.cell? ⟨B0, 0, none⟩ = some (.int .u64 (wd p0 0 : Nat)) ∧ W'.cell? ⟨B0, 1, none⟩ = some (.int .u64 (wd p0 1 : Nat)) ∧ W'.cell? ⟨B0, 2, none⟩ = some (.int .u64 (wd p0 2 : Nat)) ∧ W'.cell? ⟨B0, 3, none⟩ = some (.int .u64 (wd p0 3 : Nat)) ∧ W'.cell? ⟨B1, 0, none⟩ = some (.int .u64 (wd p1 0 : Nat)) ∧ W'.cell? ⟨B1, 1, none⟩ = some (.int .u64 (wd p1 1 : Nat)) ∧ W'.cell? ⟨B1, 2, none⟩ = some (.int .u64 (wd p1 2 : Nat)) ∧ W'.cell? ⟨B1, 3, none⟩ = some (.int .u64 (wd p1 3 : Nat)) ∧ Hid (Keep2 W B0 p0 B1 p1 W') :=
  ⟨h.1.cells.1, h.1.cells.2.1, h.1.cells.2.2.1, h.1.cells.2.2.2, h.2.1.cells.1, h.2.1.cells.2.1, h.2.1.cells.2.2.1, h.2.1.cells.2.2.2, h⟩

theorem Keep2.set4 {W W1 : World} {B0 B1 : Nat} {p0 p1 : Nat → Bool} (h : Keep2 W B0 p0 B1 p1 W1) (h0 : B0 < W.heap.size) (h1 : B1 < W.heap.size) {B : Nat} (hB : W.heap.size ≤ B) {a b c d : Value} :
    Keep2 W B0 p0 B1 p1 ((((W1.setCell ⟨B, 0, none⟩ a).setCell ⟨B, 1, none⟩ b).setCell ⟨B, 2, none⟩ c).setCell ⟨B, 3, none⟩ d) :=
  ⟨(((h.1.setCell (by omega) _).setCell (by omega) _).setCell (by omega) _).setCell (by omega) _, (((h.2.1.setCell (by omega) _).setCell (by omega) _).setCell (by omega) _).setCell (by omega) _, set4_kp hB h.2.2 _ _ _ _⟩

set_option maxRecDepth 100000 in
set_option maxHeartbeats 4000000 in
theorem laws_any (p q r : Nat → Bool) (w : World) :
    Calls Try.prog 5 #[sv p, sv q, sv r] w fun e w' => e = .returned (.bool true) ∧ Kp w w' := by
  have A0 : Hid (At (((w.alloc (blk p)).alloc (blk q)).alloc (blk r)) w.heap.size p) := ((At.new w p).alloc _).alloc _
  have A1 : Hid (At (((w.alloc (blk p)).alloc (blk q)).alloc (blk r)) (w.heap.size + 1) q) := (At.new' _ _ _ (by simp)).alloc _
  have A2 : Hid (At (((w.alloc (blk p)).alloc (blk q)).alloc (blk r)) (w.heap.size + 1 + 1) r) := At.new' _ _ _ (by simp)
  obtain ⟨n1, N1⟩ : ∃ n, Hid (cnt p 256 = n) := ⟨_, rfl⟩
  obtain ⟨n2, N2⟩ : ∃ n, Hid (cnt (notB p) 256 = n) := ⟨_, rfl⟩
  have hn : (n1 : Int) + (n2 : Int) = 256 := by have := cnt_not p 256; have h1 := N1.out; have h2 := N2.out; omega
  go_enter Try.func5, Try.ntmps5
  go_wp2_with fail
  refine (join3 p q r _ _ (by simp) (by have h := last_of (((w.alloc (blk p)).alloc (blk q)).alloc (blk r)) (three p q r); rw [show (((w.alloc (blk p)).alloc (blk q)).alloc (blk r)).heap.size = w.heap.size + 1 + 1 + 1 by simp] at h; exact h)).mono ?_
  rintro e w1 ⟨rfl, k⟩
  have K1 : Hid (Kp (((w.alloc (blk p)).alloc (blk q)).alloc (blk r)) w1) := ((Kp.refl _).alloc _).trans k
  clear k
  have EQ1 := eq_self (orB (orB p q) r)
  have EQ2 := eq_self p
  have EQ3 := eq_self (notB (fun _ => false))
  have EQ4 := eq_zero
  go_upto_region 2 with fail
  obtain ⟨W0, hW0⟩ : ∃ W0, w1.alloc (.cells #[.int .u64 (wd (orB (orB p q) r) 0 : Nat), .int .u64 (wd (orB (orB p q) r) 1 : Nat), .int .u64 (wd (orB (orB p q) r) 2 : Nat), .int .u64 (wd (orB (orB p q) r) 3 : Nat)] 24) = W0 := ⟨_, rfl⟩
  have Q0 : Keep4 w1 w.heap.size p (w.heap.size + 1) q (w.heap.size + 1 + 1) r w1.heap.size (orB (orB p q) r) W0.drew := by subst hW0; exact ⟨((K1.out.at A0.out).alloc _).drew, ((K1.out.at A1.out).alloc _).drew, ((K1.out.at A2.out).alloc _).drew, (At.new _ _).drew, ((Kp.refl _).alloc _).drew⟩
  rw [hW0]
  clear hW0
  go_cut [53] (fun b wc => b = .bool false ∧ Keep4 w1 w.heap.size p (w.heap.size + 1) q (w.heap.size + 1 + 1) r w1.heap.size (orB (orB p q) r) wc)
  case first =>
    go_region_held3 (fun W => W.cell? ⟨w.heap.size, 0, none⟩ = some (.int .u64 (wd p 0 : Nat)) ∧ W.cell? ⟨w.heap.size, 1, none⟩ = some (.int .u64 (wd p 1 : Nat)) ∧ W.cell? ⟨w.heap.size, 2, none⟩ = some (.int .u64 (wd p 2 : Nat)) ∧ W.cell? ⟨w.heap.size, 3, none⟩ = some (.int .u64 (wd p 3 : Nat)) ∧ W.cell? ⟨(w.heap.size + 1), 0, none⟩ = some (.int .u64 (wd q 0 : Nat)) ∧ W.cell? ⟨(w.heap.size + 1), 1, none⟩ = some (.int .u64 (wd q 1 : Nat)) ∧ W.cell? ⟨(w.heap.size + 1), 2, none⟩ = some (.int .u64 (wd q 2 : Nat)) ∧ W.cell? ⟨(w.heap.size + 1), 3, none⟩ = some (.int .u64 (wd q 3 : Nat)) ∧ W.cell? ⟨(w.heap.size + 1 + 1), 0, none⟩ = some (.int .u64 (wd r 0 : Nat)) ∧ W.cell? ⟨(w.heap.size + 1 + 1), 1, none⟩ = some (.int .u64 (wd r 1 : Nat)) ∧ W.cell? ⟨(w.heap.size + 1 + 1), 2, none⟩ = some (.int .u64 (wd r 2 : Nat)) ∧ W.cell? ⟨(w.heap.size + 1 + 1), 3, none⟩ = some (.int .u64 (wd r 3 : Nat)) ∧ W.cell? ⟨w1.heap.size, 0, none⟩ = some (.int .u64 (wd (orB (orB p q) r) 0 : Nat)) ∧ W.cell? ⟨w1.heap.size, 1, none⟩ = some (.int .u64 (wd (orB (orB p q) r) 1 : Nat)) ∧ W.cell? ⟨w1.heap.size, 2, none⟩ = some (.int .u64 (wd (orB (orB p q) r) 2 : Nat)) ∧ W.cell? ⟨w1.heap.size, 3, none⟩ = some (.int .u64 (wd (orB (orB p q) r) 3 : Nat)) ∧ Hid (Keep4 w1 w.heap.size p (w.heap.size + 1) q (w.heap.size + 1 + 1) r w1.heap.size (orB (orB p q) r) W))
      (first | exact Keep4.mk Q11 | exact Keep4.mk (Q11.alloc _) | exact Keep4.mk Q10 | exact Keep4.mk (Q10.alloc _) | exact Keep4.mk Q9 | exact Keep4.mk (Q9.alloc _) | exact Keep4.mk Q8 | exact Keep4.mk (Q8.alloc _) | exact Keep4.mk Q7 | exact Keep4.mk (Q7.alloc _) | exact Keep4.mk Q6 | exact Keep4.mk (Q6.alloc _) | exact Keep4.mk Q5 | exact Keep4.mk (Q5.alloc _) | exact Keep4.mk Q4 | exact Keep4.mk (Q4.alloc _) | exact Keep4.mk Q3 | exact Keep4.mk (Q3.alloc _) | exact Keep4.mk Q2 | exact Keep4.mk (Q2.alloc _) | exact Keep4.mk Q1 | exact Keep4.mk (Q1.alloc _) | exact Keep4.mk Q0 | exact Keep4.mk (Q0.alloc _))
      (first
        | (go_at_call 10; have T := Q0; clear T; refine (join2 q p _ _ ?hs ?hX).mono ?_; (case hs => simp); (case hX => exact last_of _ _); rintro e v1 ⟨rfl, k⟩; have Q1 := (Q0.alloc _).kp k; clear k Q0)
        | (go_at_call 10; have T := Q1; clear T; refine (join2 r (orB q p) _ _ ?hs ?hX).mono ?_; (case hs => simp); (case hX => exact last_of _ _); rintro e v2 ⟨rfl, k⟩; rw [orB_comm3]; have Q2 := (Q1.alloc _).kp k; clear k Q1)
        | (go_at_call 13; have T := Q2; clear T; refine (not_any p _).mono ?_; rintro e v3 ⟨rfl, k⟩; have Q3 := Q2.kp k; clear k Q2)
        | (go_at_call 13; have T := Q3; clear T; refine (not_any (notB p) _).mono ?_; rintro e v4 ⟨rfl, k⟩; rw [notB_notB]; have Q4 := Q3.kp k; clear k Q3)
        | (go_at_call 9; have T := Q4; clear T; refine (count_any p _).mono ?_; rintro e v5 ⟨rfl, k⟩; rw [N1.out]; have Q5 := Q4.kp k; clear k Q4)
        | (go_at_call 13; have T := Q5; clear T; refine (not_any p _).mono ?_; rintro e v6 ⟨rfl, k⟩; have Q6 := Q5.kp k; clear k Q5)
        | (go_at_call 9; have T := Q6; clear T; refine (count_any (notB p) _).mono ?_; rintro e v7 ⟨rfl, k⟩; rw [N2.out]; have Q7 := Q6.kp k; clear k Q6)
        | (go_at_call 13; have T := Q7; clear T; refine (not_any p _).mono ?_; rintro e v8 ⟨rfl, k⟩; have Q8 := Q7.kp k; clear k Q7)
        | (go_at_call 10; have T := Q8; clear T; refine (join2 p (notB p) _ _ ?hs ?hX).mono ?_; (case hs => simp); (case hX => exact last_of _ _); rintro e v9 ⟨rfl, k⟩; rw [orB_notB]; have Q9 := (Q8.alloc _).kp k; clear k Q8)
        | (go_at_call 13; have T := Q9; clear T; refine (not_lit _).mono ?_; rintro e v10 ⟨rfl, k⟩; have Q10 := Q9.kp k; clear k Q9)
        | (go_at_call 10; have T := Q10; clear T; refine (join_zero _).mono ?_; rintro e v11 ⟨rfl, k⟩; have Q11 := Q10.kp k; clear k Q10))
    go_wp2_with fail
    go_meet
    case rel => exact ⟨rfl, Q11⟩
  case rest =>
    clear Q0
    obtain ⟨rfl, hK⟩ := hcut
    rename World => w2
    have K2 : Hid (Kp w w2) := ((((Kp.refl _).alloc _).alloc _).alloc _).trans (K1.out.trans hK.2.2.2.2)
    have hA0 := hK.1
    have hA1 := hK.2.1
    have Q0 : Keep2 w2 w.heap.size p (w.heap.size + 1) q w2 := ⟨hK.1, hK.2.1, Kp.refl _⟩
    clear hK K1 A0 A1 A2 EQ1 EQ3 EQ4 N1 N2 hn
    clear n1 n2
    have l0 : w.heap.size < w2.heap.size := hA0.lt
    have l1 : w.heap.size + 1 < w2.heap.size := hA1.lt
    clear hA0 hA1
    go_upto_region 4 with fail
    go_cut [8] (fun v wc => ∃ B8 : Nat, v = .pointer (some ⟨B8, 0, none⟩) ∧ At wc B8 (andB p q) ∧ Keep2 w2 w.heap.size p (w.heap.size + 1) q wc)
    case first =>
      go_region_held3 (fun W => W.cell? ⟨w.heap.size, 0, none⟩ = some (.int .u64 (wd p 0 : Nat)) ∧ W.cell? ⟨w.heap.size, 1, none⟩ = some (.int .u64 (wd p 1 : Nat)) ∧ W.cell? ⟨w.heap.size, 2, none⟩ = some (.int .u64 (wd p 2 : Nat)) ∧ W.cell? ⟨w.heap.size, 3, none⟩ = some (.int .u64 (wd p 3 : Nat)) ∧ W.cell? ⟨(w.heap.size + 1), 0, none⟩ = some (.int .u64 (wd q 0 : Nat)) ∧ W.cell? ⟨(w.heap.size + 1), 1, none⟩ = some (.int .u64 (wd q 1 : Nat)) ∧ W.cell? ⟨(w.heap.size + 1), 2, none⟩ = some (.int .u64 (wd q 2 : Nat)) ∧ W.cell? ⟨(w.heap.size + 1), 3, none⟩ = some (.int .u64 (wd q 3 : Nat)) ∧ Hid (Keep2 w2 w.heap.size p (w.heap.size + 1) q W))
        (first | (with_reducible exact Keep2.mk Q4) | (with_reducible exact Keep2.mk (Q4.alloc _)) | (with_reducible exact Keep2.mk (Q4.set4 l0 l1 (by omega))) | (with_reducible exact Keep2.mk Q3) | (with_reducible exact Keep2.mk (Q3.alloc _)) | (with_reducible exact Keep2.mk Q2) | (with_reducible exact Keep2.mk (Q2.alloc _)) | (with_reducible exact Keep2.mk ((Q2.alloc _).alloc _)) | (with_reducible exact Keep2.mk Q1) | (with_reducible exact Keep2.mk (Q1.alloc _)) | (with_reducible exact Keep2.mk Q0.drew) | (with_reducible exact Keep2.mk (Q0.alloc _).drew))
        (first
          | (go_at_call 13; have T := Q0; clear T; refine (not_any p _).mono ?_; rintro e x1 ⟨rfl, k⟩; have Q1 : Keep2 w2 w.heap.size p (w.heap.size + 1) q x1 := (by refine Keep2.kp ?_ k; first | (with_reducible exact Q0.drew) | (with_reducible exact (Q0.alloc _).drew)); have s1 := Q1.2.2.size; (try (have Z1 : At x1 w2.heap.size (fun _ => false) := k.at (by with_reducible exact (At.zero w2).drew))); clear k Q0)
          | (go_at_call 13; have T := Q1; clear T; refine (not_any q _).mono ?_; rintro e x2 ⟨rfl, k⟩; have Q2 : Keep2 w2 w.heap.size p (w.heap.size + 1) q x2 := (by refine Keep2.kp ?_ k; first | (with_reducible exact Q1) | (with_reducible exact Q1.alloc _)); have s2 := Q2.2.2.size; (try (first | (have Z2 : At x2 w2.heap.size (fun _ => false) := k.at (by with_reducible exact Z1)) | (have Z2 : At x2 x1.heap.size (fun _ => false) := k.at (by with_reducible exact At.zero x1)))); clear k Q1)
          | (go_at_call 10; have T := Q2; clear T; refine (join2g (notB p) (notB q) _ _ ?hX).mono ?_; (case hX => first | (with_reducible exact last_of _ _) | (with_reducible exact last_under _ _ _) | (with_reducible exact last_of' _ _ _)); rintro e x3 ⟨rfl, k⟩; have Q3 : Keep2 w2 w.heap.size p (w.heap.size + 1) q x3 := (by refine Keep2.kp ?_ k; first | (with_reducible exact Q2.alloc _) | (with_reducible exact (Q2.alloc _).alloc _)); have s3 := Q3.2.2.size; (try (first | (have Z3 : At x3 w2.heap.size (fun _ => false) := k.at (by with_reducible exact Z2.alloc _)) | (have Z3 : At x3 x1.heap.size (fun _ => false) := k.at (by with_reducible exact Z2.alloc _)) | (have Z3 : At x3 (x2.heap.size + 1) (fun _ => false) := k.at (by with_reducible exact At.zero1 x2 _)) | (have Z3 : At x3 x2.heap.size (fun _ => false) := k.at (by with_reducible exact (At.zero x2).alloc _)))); clear k Q2)
          | (go_at_call 13; have T := Q3; clear T; refine (not_any (orB (notB p) (notB q)) _).mono ?_; rintro e x4 ⟨rfl, k⟩; rw [show notB (orB (notB p) (notB q)) = andB p q from rfl]; have Q4 : Keep2 w2 w.heap.size p (w.heap.size + 1) q x4 := (by refine Keep2.kp ?_ k; first | (with_reducible exact Q3) | (with_reducible exact Q3.alloc _)); have s4 := Q4.2.2.size; (try (first | (have Z4 := k.at (by with_reducible exact Z3)) | (have Z4 : At x4 x3.heap.size (fun _ => false) := k.at (by with_reducible exact At.zero x3)))); (try (obtain ⟨c0, c1, c2, c3⟩ := Z4.cells; have f0 := Z4.frozen 0; have f1 := Z4.frozen 1; have f2 := Z4.frozen 2; have f3 := Z4.frozen 3)); clear k Q3))
      all_goals
        go_wp2_with fail
        go_meet
        case rel =>
          refine ⟨_, rfl, ?_, ?_⟩
          · first | (with_reducible exact At.new _ _) | (with_reducible exact Z4.set4 _)
          · first | (with_reducible exact Q4.alloc _) | (with_reducible exact Q4.set4 l0 l1 (by omega))
    case rest =>
      clear Q0
      obtain ⟨B8, rfl, hA8, hK8⟩ := hcut
      rename World => w3
      have K3 : Hid (Kp w w3) := K2.out.trans hK8.2.2
      have Q0 : Keep3 w3 w.heap.size p (w.heap.size + 1) q B8 (andB p q) w3.drew := ⟨hK8.1.drew, hK8.2.1.drew, hA8.drew, (Kp.refl _).drew⟩
      clear hA8 hK8 K2 l0 l1
      obtain ⟨m1, M1⟩ : ∃ n, Hid (cnt (orB p q) 256 = n) := ⟨_, rfl⟩
      obtain ⟨m2, M2⟩ : ∃ n, Hid (cnt (andB p q) 256 = n) := ⟨_, rfl⟩
      obtain ⟨m3, M3⟩ : ∃ n, Hid (cnt p 256 = n) := ⟨_, rfl⟩
      obtain ⟨m4, M4⟩ : ∃ n, Hid (cnt q 256 = n) := ⟨_, rfl⟩
      have b1 : m1 ≤ 256 := by have h := M1.out; have := cnt_le (orB p q) 256; omega
      have b2 : m2 ≤ 256 := by have h := M2.out; have := cnt_le (andB p q) 256; omega
      have b3 : m3 ≤ 256 := by have h := M3.out; have := cnt_le p 256; omega
      have b4 : m4 ≤ 256 := by have h := M4.out; have := cnt_le q 256; omega
      have hm : (m1 : Int) + (m2 : Int) = (m3 : Int) + (m4 : Int) := by
        have h1 := M1.out; have h2 := M2.out; have h3 := M3.out; have h4 := M4.out; have := cnt_or_and p q 256; omega
      go_wp2_with fail
      go_region_held3 (fun W => W.cell? ⟨w.heap.size, 0, none⟩ = some (.int .u64 (wd p 0 : Nat)) ∧ W.cell? ⟨w.heap.size, 1, none⟩ = some (.int .u64 (wd p 1 : Nat)) ∧ W.cell? ⟨w.heap.size, 2, none⟩ = some (.int .u64 (wd p 2 : Nat)) ∧ W.cell? ⟨w.heap.size, 3, none⟩ = some (.int .u64 (wd p 3 : Nat)) ∧ W.cell? ⟨(w.heap.size + 1), 0, none⟩ = some (.int .u64 (wd q 0 : Nat)) ∧ W.cell? ⟨(w.heap.size + 1), 1, none⟩ = some (.int .u64 (wd q 1 : Nat)) ∧ W.cell? ⟨(w.heap.size + 1), 2, none⟩ = some (.int .u64 (wd q 2 : Nat)) ∧ W.cell? ⟨(w.heap.size + 1), 3, none⟩ = some (.int .u64 (wd q 3 : Nat)) ∧ W.cell? ⟨B8, 0, none⟩ = some (.int .u64 (wd (andB p q) 0 : Nat)) ∧ W.cell? ⟨B8, 1, none⟩ = some (.int .u64 (wd (andB p q) 1 : Nat)) ∧ W.cell? ⟨B8, 2, none⟩ = some (.int .u64 (wd (andB p q) 2 : Nat)) ∧ W.cell? ⟨B8, 3, none⟩ = some (.int .u64 (wd (andB p q) 3 : Nat)) ∧ Hid (Keep3 w3 w.heap.size p (w.heap.size + 1) q B8 (andB p q) W))
        (first | exact Keep3.mk Q9 | exact Keep3.mk (Q9.alloc _) | exact Keep3.mk Q8 | exact Keep3.mk (Q8.alloc _) | exact Keep3.mk Q7 | exact Keep3.mk (Q7.alloc _) | exact Keep3.mk Q6 | exact Keep3.mk (Q6.alloc _) | exact Keep3.mk Q5 | exact Keep3.mk (Q5.alloc _) | exact Keep3.mk Q4 | exact Keep3.mk (Q4.alloc _) | exact Keep3.mk Q3 | exact Keep3.mk (Q3.alloc _) | exact Keep3.mk Q2 | exact Keep3.mk (Q2.alloc _) | exact Keep3.mk Q1 | exact Keep3.mk (Q1.alloc _) | exact Keep3.mk Q0 | exact Keep3.mk (Q0.alloc _))
        (first
          | (go_at_call 10; have T := Q0; clear T; refine (join2 p q _ _ ?hs ?hX).mono ?_; (case hs => simp); (case hX => exact last_of _ _); rintro e y1 ⟨rfl, k⟩; have Q1 := (Q0.alloc _).kp k; clear k Q0)
          | (go_at_call 9; have T := Q1; clear T; refine (count_any (orB p q) _).mono ?_; rintro e y2 ⟨rfl, k⟩; rw [M1.out]; have Q2 := Q1.kp k; clear k Q1)
          | (go_at_call 9; have T := Q2; clear T; refine (count_any (andB p q) _).mono ?_; rintro e y3 ⟨rfl, k⟩; rw [M2.out]; have Q3 := Q2.kp k; clear k Q2)
          | (go_at_call 9; have T := Q3; clear T; refine (count_any p _).mono ?_; rintro e y4 ⟨rfl, k⟩; rw [M3.out]; have Q4 := Q3.kp k; clear k Q3)
          | (go_at_call 9; have T := Q4; clear T; refine (count_any q _).mono ?_; rintro e y5 ⟨rfl, k⟩; rw [M4.out]; have Q5 := Q4.kp k; clear k Q4)
          | (go_at_call 16; have T := Q5; clear T; refine (bytes_any p _).mono ?_; rintro e y6 ⟨bv, rfl, hO, k⟩; have Q6 := Q5.kp k; have O6 : Hid (y6.ownsRow _ 5 1 bv (lst p 256).length ((lst p 256).map u8v)) := hO; clear k hO Q5)
          | (go_at_call 12; have T := Q6; clear T; refine (of_owned p _ _ _ O6.out).mono ?_; rintro e y7 ⟨rfl, k⟩; have Q7 := Q6.kp k; clear k Q6)
          | (go_at_call 10; have T := Q7; clear T; refine (join2 p p _ _ ?hs ?hX).mono ?_; (case hs => simp); (case hX => exact last_of _ _); rintro e y8 ⟨rfl, k⟩; rw [orB_self]; have Q8 := (Q7.alloc _).kp k; clear k Q7)
          | (go_at_call 3; have T := Q8; clear T; refine (runs_any _).mono ?_; rintro e y9 ⟨rfl, k⟩; have Q9 := Q8.kp k; clear k Q8))
      go_wp2
      go_ret
      exact ⟨rfl, K3.out.trans Q9.2.2.2⟩
end Go.Proofs.Ytfijmepkbflahaa
