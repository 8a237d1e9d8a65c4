/-
  What the functions of package mark, and the book's small ones, do on whole numbers below 2^53; worlds in which nothing that was there has turned.
-/
import Derived.Test.YtjphjnpcpbenlaaRows
import Derived.Test.YtjphjnpcpbenlaaFloat
import Derived.Test.YtjphjnpcpbenlaaTree
import Derived.WalkKit
import Derived.WalkSpells
import Derived.WalkLawsBesides
import Derived.Deep.QuietTactic
import Derived.BigQuiet
import Derived.Deep.RegionHeld3
import Derived.Deep.DeepCutAuto
namespace Go.Proofs.Ytjphjnpcpbenlaa
open Go.RowKit

/-- Nothing that was there has turned. -/
def Kp (w w' : World) : Prop := Below w.heap.size w w'

theorem Kp.refl (w : World) : Kp w w := Below.refl _ _
theorem Kp.trans {a b c : World} (h : Kp a b) (g : Kp b c) : Kp a c := Below.trans h (Below.mono g h.size)
theorem Kp.alloc {a b : World} (h : Kp a b) (o : Obj) : Kp a (b.alloc o) := Below.alloc h h.size o
theorem Kp.drew {a b : World} (h : Kp a b) : Kp a b.drew := Below.drew h
theorem Kp.drewN {a b : World} (n : Nat) (h : Kp a b) : Kp a (b.drewN n) := ⟨h.os, h.tape, h.output, h.size, h.block⟩
theorem Kp.setCell {a b : World} (h : Kp a b) {p : Addr} (hp : a.heap.size ≤ p.block) (u : Value) : Kp a (b.setCell p u) := Below.setCell h hp u
theorem Kp.cell {a b : World} (h : Kp a b) {p : Addr} (hp : p.block < a.heap.size) : b.cell? p = a.cell? p := Below.cell h hp
theorem Kp.size {a b : World} (h : Kp a b) : a.heap.size ≤ b.heap.size := Below.size h

theorem ret_i64 {a b : Int} (h : a = b) : Ending.returned (.int .i64 a) = .returned (.int .i64 b) := by rw [h]
theorem ret_bool {a b : Bool} (h : a = b) : Ending.returned (.bool a) = .returned (.bool b) := by rw [h]

theorem run_store_complex (P : Program) (w : World) (a : Addr) (m : Mode) (k : FloatKind) (x y : Nat) : (store a (.complex k x y) m).run P w = stored P w a (.complex k x y) m := run_store P w a _ m rfl
theorem last_of (w : World) (o : Obj) : (w.alloc o).heap[w.heap.size]? = some o := by
  show (w.heap.push o)[w.heap.size]? = some o
  simp

theorem last_at (w : World) (o : Obj) (B : Nat) (h : w.heap.size = B) : (w.alloc o).heap[B]? = some o := by subst h; exact last_of w o

/-- A block stays as it was; a cell of a block that is known. -/
theorem bl_kp {w w' : World} {B : Nat} {o : Obj} (h : w.heap[B]? = some o) (hk : Kp w w') : w'.heap[B]? = some o := (hk.block B (Array.getElem?_eq_some_iff.1 h).1).trans h
theorem bl_cell {w : World} {B : Nat} {cs : Array Value} {t : TypeId} (h : w.heap[B]? = some (.cells cs t)) (j : Nat) (v : Value) (hv : cs[j]? = some v) : w.cell? ⟨B, j, none⟩ = some v := by
  simp [World.cell?, h, hv]
theorem bl_lt {w : World} {B : Nat} {o : Obj} (h : w.heap[B]? = some o) : B < w.heap.size := (Array.getElem?_eq_some_iff.1 h).1
theorem bl_frozen {w : World} {B : Nat} {cs : Array Value} {t : TypeId} (h : w.heap[B]? = some (.cells cs t)) (j : Nat) : w.frozen? ⟨B, j, none⟩ = false := by
  simp [World.frozen?, h]
theorem bl_alloc {w : World} {B : Nat} {o : Obj} (h : w.heap[B]? = some o) (o' : Obj) : (w.alloc o').heap[B]? = some o := bl_kp h ((Kp.refl _).alloc _)

/-- A mark as the program has it; no mark. -/
abbrev cx (a b : Int) : Value := .complex .f64 (F a) (F b)
theorem cx_zero : Value.complex .f64 0 0 = cx 0 0 := by rw [cx, F_zero]

theorem run_cadd {P : Program} (t : TypeId) (a b c d : Int) (ha : a.natAbs < 2 ^ 53) (hb : b.natAbs < 2 ^ 53) (hc : c.natAbs < 2 ^ 53) (hd : d.natAbs < 2 ^ 53) (h1 : (a + c).natAbs < 2 ^ 53) (h2 : (b + d).natAbs < 2 ^ 53) (w : World) :
    (binOp .add t (.complex .f64 (F a) (F b)) (.complex .f64 (F c) (F d))).run P w = .ok (.complex .f64 (F (a + c)) (F (b + d))) w := by
  refine run_complex_sum w .add (Or.inl rfl) t .f64 _ _ _ _ _ _ ?_
  have e1 : floatBits .add .f64 (F a) (F c) = some (F (a + c)) := F_add a c ha hc h1
  have e2 : floatBits .add .f64 (F b) (F d) = some (F (b + d)) := F_add b d hb hd h2
  simp [cSumBits, e1, e2]

theorem run_csub {P : Program} (t : TypeId) (a b c d : Int) (ha : a.natAbs < 2 ^ 53) (hb : b.natAbs < 2 ^ 53) (hc : c.natAbs < 2 ^ 53) (hd : d.natAbs < 2 ^ 53) (h1 : (a - c).natAbs < 2 ^ 53) (h2 : (b - d).natAbs < 2 ^ 53) (w : World) :
    (binOp .sub t (.complex .f64 (F a) (F b)) (.complex .f64 (F c) (F d))).run P w = .ok (.complex .f64 (F (a - c)) (F (b - d))) w := by
  refine run_complex_sum w .sub (Or.inr rfl) t .f64 _ _ _ _ _ _ ?_
  have e1 : floatBits .sub .f64 (F a) (F c) = some (F (a - c)) := F_sub a c ha hc h1
  have e2 : floatBits .sub .f64 (F b) (F d) = some (F (b - d)) := F_sub b d hb hd h2
  simp [cSumBits, e1, e2]

theorem run_ceql {P : Program} (t : TypeId) (a b c d : Int) (ha : a.natAbs < 2 ^ 53) (hb : b.natAbs < 2 ^ 53) (hc : c.natAbs < 2 ^ 53) (hd : d.natAbs < 2 ^ 53) (w : World) :
    (binOp .eql t (.complex .f64 (F a) (F b)) (.complex .f64 (F c) (F d))).run P w = .ok (.bool (decide (a = c) && decide (b = d))) w := by
  rw [run_eql_complex]
  have e1 : FloatKind.f64.format.order (F a) (F c) = some (compare a c) := F_order a c ha hc
  have e2 : FloatKind.f64.format.order (F b) (F d) = some (compare b d) := F_order b d hb hd
  have q : ∀ x y : Int, (some (compare x y) == some Ordering.eq) = decide (x = y) := by
    intro x y
    by_cases h : x = y
    · subst h; simp
    · simp [h]
  rw [e1, e2, q, q]

theorem of_any (a b : Int) (w : World) :
    Calls Try.prog 9 #[.int .i64 a, .int .i64 b] w fun e w' => e = .returned (.complex .f64 (F a) (F b)) ∧ w' = w := by
  go_enter Try.func9, Try.ntmps9
  go_wp2
  go_ret
  exact ⟨rfl, rfl⟩

theorem lines_any (a b : Int) (w : World) (ha : a.natAbs < 2 ^ 53) :
    Calls Try.prog 22 #[.complex .f64 (F a) (F b)] w fun e w' => e = .returned (.int .i64 a) ∧ w' = w := by
  have hc := fun w => run_convert_float_int (P := Try.prog) w 56 3 .f64 .i64 (F a) a (by kernel_rfl) (by kernel_rfl) (F_int a ha)
  clear ha
  go_enter Try.func22, Try.ntmps22
  go_wp2
  go_ret
  exact ⟨rfl, rfl⟩

theorem less_any (a b c d : Int) (w : World) (ha : a.natAbs < 2 ^ 53) (hb : b.natAbs < 2 ^ 53) (hc : c.natAbs < 2 ^ 53) (hd : d.natAbs < 2 ^ 53) (h1 : (a - c).natAbs < 2 ^ 53) (h2 : (b - d).natAbs < 2 ^ 53) :
    Calls Try.prog 36 #[.complex .f64 (F a) (F b), .complex .f64 (F c) (F d)] w fun e w' => e = .returned (.complex .f64 (F (a - c)) (F (b - d))) ∧ w' = w := by
  have hs := run_csub (P := Try.prog) 26 a b c d ha hb hc hd h1 h2
  clear ha hb hc hd h1 h2
  go_enter Try.func36, Try.ntmps36
  go_wp2
  go_ret
  exact ⟨rfl, rfl⟩

theorem off_any (a b c d : Int) (w : World) (ha : a.natAbs < 2 ^ 53) (hb : b.natAbs < 2 ^ 53) (hc : c.natAbs < 2 ^ 53) (hd : d.natAbs < 2 ^ 53) (h1 : (a + c).natAbs < 2 ^ 53) (h2 : (b + d).natAbs < 2 ^ 53) :
    Calls Try.prog 31 #[.complex .f64 (F a) (F b), .complex .f64 (F c) (F d), .complex .f64 (F (a + c)) (F (b + d))] w fun e w' => e = .returned (.complex .f64 (F 0) (F 0)) ∧ w' = w := by
  have s1 := run_csub (P := Try.prog) 26 (a + c) (b + d) a b h1 h2 ha hb (by omega) (by omega)
  rw [show a + c - a = c by omega, show b + d - b = d by omega] at s1
  have s2 := run_csub (P := Try.prog) 26 (a + c) (b + d) c d h1 h2 hc hd (by omega) (by omega)
  rw [show a + c - c = a by omega, show b + d - d = b by omega] at s2
  have s3 := run_csub (P := Try.prog) 26 a b a b ha hb ha hb (by omega) (by omega)
  have s4 := run_csub (P := Try.prog) 26 c d c d hc hd hc hd (by omega) (by omega)
  have s5 := run_cadd (P := Try.prog) 26 0 0 0 0 (by decide) (by decide) (by decide) (by decide) (by decide) (by decide)
  rw [Int.sub_self, Int.sub_self] at s3 s4
  rw [show (0 : Int) + 0 = 0 from rfl] at s5
  clear ha hb hc hd h1 h2
  go_enter Try.func31, Try.ntmps31
  go_wp2
  go_ret
  exact ⟨rfl, rfl⟩

/-- The sum of the first k values of f. -/
def psum (f : Nat → Int) : Nat → Int
  | 0 => 0
  | k + 1 => psum f k + f k

theorem small {a : Int} (h0 : -9007199254740992 < a) (h : a < 9007199254740992) : a.natAbs < 2 ^ 53 := by
  have n53 : (2 : Nat) ^ 53 = 9007199254740992 := by decide
  rw [n53]; omega

set_option maxHeartbeats 400000 in
theorem sum_any (f g : Nat → Int) (b o n cap : Nat) (w : World) (hn : n ≤ 4000)
    (hcell : ∀ j, j < n → w.cell? ⟨b, o + j, none⟩ = some (.complex .f64 (F (f j)) (F (g j))))
    (hf : ∀ j, j < n → (f j).natAbs < 2 ^ 53) (hg : ∀ j, j < n → (g j).natAbs < 2 ^ 53) (h1 : ∀ j, j ≤ n → (psum f j).natAbs < 2 ^ 53) (h2 : ∀ j, j ≤ n → (psum g j).natAbs < 2 ^ 53) :
    Calls Try.prog 19 #[.slice (some ⟨b, o, none⟩) n cap] w fun e w' => e = .returned (.complex .f64 (F (psum f n)) (F (psum g n))) ∧ w' = w := by
  have HF : Hid (∀ j, j < n → (f j).natAbs < 2 ^ 53) := hf
  have HG : Hid (∀ j, j < n → (g j).natAbs < 2 ^ 53) := hg
  have H1 : Hid (∀ j, j ≤ n → (psum f j).natAbs < 2 ^ 53) := h1
  have H2 : Hid (∀ j, j ≤ n → (psum g j).natAbs < 2 ^ 53) := h2
  have HC : Hid (∀ j, j < n → w.cell? ⟨b, o + j, none⟩ = some (.complex .f64 (F (f j)) (F (g j)))) := hcell
  clear hf hg h1 h2 hcell
  go_enter Try.func19, Try.ntmps19
  go_wp2
  go_loop [3, 4, 10] (fun s l i => ∃ k : Nat, k ≤ n ∧ i = .int .i64 k ∧ s = .complex .f64 (F (psum f k)) (F (psum g k)) ∧ l = .complex .f64 (F 0) (F 0)) (fun _ _ i => n - (intOf i).toNat)
  case atStart => exact ⟨0, Nat.zero_le _, rfl, by simp [psum, F_zero], by simp [F_zero]⟩
  case round =>
    obtain ⟨k, hk, rfl, rfl, rfl⟩ := hrel
    by_cases hlt : k < n
    · have hc := HC.out k hlt
      have a1 := run_cadd (P := Try.prog) 26 (psum f k) (psum g k) (f k) (g k) (H1.out k hk) (H2.out k hk) (HF.out k hlt) (HG.out k hlt) (H1.out (k + 1) hlt) (H2.out (k + 1) hlt)
      have a2 := run_cadd (P := Try.prog) 26 0 0 0 0 (by decide) (by decide) (by decide) (by decide) (by decide) (by decide)
      have OFF : Hid (∀ w, Calls Try.prog 31 #[.complex .f64 (F (psum f k)) (F (psum g k)), .complex .f64 (F (f k)) (F (g k)), .complex .f64 (F (psum f k + f k)) (F (psum g k + g k))] w fun e w' => e = .returned (.complex .f64 (F 0) (F 0)) ∧ w' = w) := fun w => off_any (psum f k) (psum g k) (f k) (g k) w (H1.out k hk) (H2.out k hk) (HF.out k hlt) (HG.out k hlt) (H1.out (k + 1) hlt) (H2.out (k + 1) hlt)
      rw [show (0 : Int) + 0 = 0 from rfl] at a2
      clear HC HF HG H1 H2
      go_wp2_with (go_at_call 31; refine (OFF.out _).mono ?_; rintro e w' ⟨rfl, rfl⟩)
      go_round
      case rel => exact ⟨k + 1, hlt, by go_num, rfl, rfl⟩
      case measure => simp [intOf]; omega
    · have hkn : k = n := by omega
      subst hkn
      have a2 := run_cadd (P := Try.prog) 26 (psum f k) (psum g k) 0 0 (H1.out k hk) (H2.out k hk) (by decide) (by decide) (by rw [Int.add_zero]; exact H1.out k hk) (by rw [Int.add_zero]; exact H2.out k hk)
      rw [Int.add_zero, Int.add_zero] at a2
      clear HC HF HG H1 H2
      go_wp2
      go_ret
      exact ⟨rfl, rfl⟩

theorem cell_new (w : World) (cs : Array Value) (t : TypeId) (j : Nat) : (w.alloc (.cells cs t)).cell? ⟨w.heap.size, j, none⟩ = cs[j]? := by
  exact World.cell?_alloc_new w cs t j

theorem both_any (a b : Int) (w : World) (ha : 0 ≤ a) (ha' : a ≤ 1000000) (hb : 0 ≤ b) (hb' : b ≤ 1000000) :
    Calls Try.prog 30 #[.int .i64 a, .int .i64 b] w fun e w' => e = .returned (.int .i64 (a + b)) ∧ w' = w := by
  go_enter Try.func30, Try.ntmps30
  go_wp2
  go_ret
  exact ⟨rfl, rfl⟩

/-- The book's Within(n, lo, hi). -/
def wit (n lo hi : Int) : Int := if n.tmod (hi - lo + 1) < 0 then lo + (n.tmod (hi - lo + 1) + (hi - lo + 1)) else lo + n.tmod (hi - lo + 1)
theorem wit_le (n lo hi : Int) (h : lo ≤ hi) : lo ≤ wit n lo hi ∧ wit n lo hi ≤ hi := by
  have hm1 : -(hi - lo + 1) < n.tmod (hi - lo + 1) := by
    have h2 := Int.tmod_lt_of_pos (-n) (show 0 < hi - lo + 1 by omega)
    rw [Int.neg_tmod] at h2; omega
  have hm2 : n.tmod (hi - lo + 1) < hi - lo + 1 := Int.tmod_lt_of_pos n (by omega)
  unfold wit; split <;> omega
theorem within_any (n lo hi : Int) (w : World) (h : lo ≤ hi) (h0 : -10 ≤ lo) (h1 : hi ≤ 1000000) :
    Calls Try.prog 15 #[.int .i64 n, .int .i64 lo, .int .i64 hi] w fun e w' => e = .returned (.int .i64 (wit n lo hi)) ∧ w' = w := by
  have hm1 : -(hi - lo + 1) < n.tmod (hi - lo + 1) := by
    have h2 := Int.tmod_lt_of_pos (-n) (show 0 < hi - lo + 1 by omega)
    rw [Int.neg_tmod] at h2; omega
  have hm2 : n.tmod (hi - lo + 1) < hi - lo + 1 := Int.tmod_lt_of_pos n (by omega)
  by_cases hneg : n.tmod (hi - lo + 1) < 0
  · have E : Hid (wit n lo hi = lo + (n.tmod (hi - lo + 1) + (hi - lo + 1))) := by show _ = _; unfold wit; rw [if_pos hneg]
    go_enter Try.func15, Try.ntmps15
    go_wp2
    go_ret
    exact ⟨ret_i64 (by rw [E.out]; omega), rfl⟩
  · have E : Hid (wit n lo hi = lo + n.tmod (hi - lo + 1)) := by show _ = _; unfold wit; rw [if_neg hneg]
    go_enter Try.func15, Try.ntmps15
    go_wp2
    go_ret
    exact ⟨ret_i64 (by rw [E.out]), rfl⟩

/-- The book's Clamp(n, lo, hi). -/
def clp (n lo hi : Int) : Int := if n < lo then lo else if hi < n then hi else n
theorem clamp_any (n lo hi : Int) (w : World) :
    Calls Try.prog 16 #[.int .i64 n, .int .i64 lo, .int .i64 hi] w fun e w' => e = .returned (.int .i64 (clp n lo hi)) ∧ w' = w := by
  by_cases h1 : n < lo
  · have E : Hid (lo = clp n lo hi) := by show _ = _; unfold clp; rw [if_pos h1]
    go_enter Try.func16, Try.ntmps16
    go_wp2
    go_ret
    exact ⟨ret_i64 E.out, rfl⟩
  · by_cases h2 : hi < n
    · have E : Hid (hi = clp n lo hi) := by show _ = _; unfold clp; rw [if_neg h1, if_pos h2]
      go_enter Try.func16, Try.ntmps16
      go_wp2
      go_ret
      exact ⟨ret_i64 E.out, rfl⟩
    · have E : Hid (n = clp n lo hi) := by show _ = _; unfold clp; rw [if_neg h1, if_neg h2]
      go_enter Try.func16, Try.ntmps16
      go_wp2
      go_ret
      exact ⟨ret_i64 E.out, rfl⟩

end Go.Proofs.Ytjphjnpcpbenlaa
