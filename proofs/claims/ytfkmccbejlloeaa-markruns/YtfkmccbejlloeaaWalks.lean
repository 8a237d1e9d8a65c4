/-
  What each function of package mark, and the book's Within, does on whole numbers below 2^53.
-/
import Derived.Test.YtfkmccbejlloeaaRows
import Derived.Test.YtfkmccbejlloeaaFloat
import Derived.WalkKit
import Derived.WalkSpells
import Derived.WalkLawsBesides
import Derived.Lib.Bytealg
import Derived.Lib.Strings
namespace Go.Proofs.Ytfkmccbejlloeaa
open Go.RowKit

theorem run_cadd {P : Program} (t : TypeId) (a b c d : Int) (ha : a.natAbs < 2 ^ 53) (hb : b.natAbs < 2 ^ 53) (hc : c.natAbs < 2 ^ 53) (hd : d.natAbs < 2 ^ 53) (h1 : (a + c).natAbs < 2 ^ 53) (h2 : (b + d).natAbs < 2 ^ 53) (w : World) :
    (binOp .add t (.complex .f64 (F a) (F b)) (.complex .f64 (F c) (F d))).run P w = .ok (.complex .f64 (F (a + c)) (F (b + d))) w := by
  refine run_complex_sum w .add (Or.inl rfl) t .f64 _ _ _ _ _ _ ?_
  have e1 : floatBits .add .f64 (F a) (F c) = some (F (a + c)) := F_add a c ha hc h1
  have e2 : floatBits .add .f64 (F b) (F d) = some (F (b + d)) := F_add b d hb hd h2
  simp [cSumBits, e1, e2]

theorem run_csub {P : Program} (t : TypeId) (a b c d : Int) (ha : a.natAbs < 2 ^ 53) (hb : b.natAbs < 2 ^ 53) (hc : c.natAbs < 2 ^ 53) (hd : d.natAbs < 2 ^ 53) (h1 : (a - c).natAbs < 2 ^ 53) (h2 : (b - d).natAbs < 2 ^ 53) (w : World) :
    (binOp .sub t (.complex .f64 (F a) (F b)) (.complex .f64 (F c) (F d))).run P w = .ok (.complex .f64 (F (a - c)) (F (b - d))) w := by
  refine run_complex_sum w .sub (Or.inr rfl) t .f64 _ _ _ _ _ _ ?_
  have e1 : floatBits .sub .f64 (F a) (F c) = some (F (a - c)) := F_sub a c ha hc h1
  have e2 : floatBits .sub .f64 (F b) (F d) = some (F (b - d)) := F_sub b d hb hd h2
  simp [cSumBits, e1, e2]

theorem run_ceql {P : Program} (t : TypeId) (a b c d : Int) (ha : a.natAbs < 2 ^ 53) (hb : b.natAbs < 2 ^ 53) (hc : c.natAbs < 2 ^ 53) (hd : d.natAbs < 2 ^ 53) (w : World) :
    (binOp .eql t (.complex .f64 (F a) (F b)) (.complex .f64 (F c) (F d))).run P w = .ok (.bool (decide (a = c) && decide (b = d))) w := by
  rw [run_eql_complex]
  have e1 : FloatKind.f64.format.order (F a) (F c) = some (compare a c) := F_order a c ha hc
  have e2 : FloatKind.f64.format.order (F b) (F d) = some (compare b d) := F_order b d hb hd
  have q : ∀ x y : Int, (some (compare x y) == some Ordering.eq) = decide (x = y) := by
    intro x y
    by_cases h : x = y
    · subst h; simp
    · simp [h]
  rw [e1, e2, q, q]

theorem of_any (a b : Int) (w : World) :
    Calls Try.prog 9 #[.int .i64 a, .int .i64 b] w fun e w' => e = .returned (.complex .f64 (F a) (F b)) ∧ w' = w := by
  go_enter Try.func9, Try.ntmps9
  go_wp2
  go_ret
  exact ⟨rfl, rfl⟩

theorem lines_any (a b : Int) (w : World) (ha : a.natAbs < 2 ^ 53) :
    Calls Try.prog 11 #[.complex .f64 (F a) (F b)] w fun e w' => e = .returned (.int .i64 a) ∧ w' = w := by
  have hc := fun w => run_convert_float_int (P := Try.prog) w 39 3 .f64 .i64 (F a) a (by kernel_rfl) (by kernel_rfl) (F_int a ha)
  clear ha
  go_enter Try.func11, Try.ntmps11
  go_wp2
  go_ret
  exact ⟨rfl, rfl⟩

theorem bytes_any (a b : Int) (w : World) (hb : b.natAbs < 2 ^ 53) :
    Calls Try.prog 12 #[.complex .f64 (F a) (F b)] w fun e w' => e = .returned (.int .i64 b) ∧ w' = w := by
  have hc := fun w => run_convert_float_int (P := Try.prog) w 39 3 .f64 .i64 (F b) b (by kernel_rfl) (by kernel_rfl) (F_int b hb)
  clear hb
  go_enter Try.func12, Try.ntmps12
  go_wp2
  go_ret
  exact ⟨rfl, rfl⟩

theorem less_any (a b c d : Int) (w : World) (ha : a.natAbs < 2 ^ 53) (hb : b.natAbs < 2 ^ 53) (hc : c.natAbs < 2 ^ 53) (hd : d.natAbs < 2 ^ 53) (h1 : (a - c).natAbs < 2 ^ 53) (h2 : (b - d).natAbs < 2 ^ 53) :
    Calls Try.prog 15 #[.complex .f64 (F a) (F b), .complex .f64 (F c) (F d)] w fun e w' => e = .returned (.complex .f64 (F (a - c)) (F (b - d))) ∧ w' = w := by
  have hs := run_csub (P := Try.prog) 22 a b c d ha hb hc hd h1 h2
  clear ha hb hc hd h1 h2
  go_enter Try.func15, Try.ntmps15
  go_wp2
  go_ret
  exact ⟨rfl, rfl⟩

theorem fits_any (a b c d : Int) (w : World) (ha : a.natAbs < 2 ^ 53) (hb : b.natAbs < 2 ^ 53) (hc : c.natAbs < 2 ^ 53) (hd : d.natAbs < 2 ^ 53) :
    Calls Try.prog 16 #[.complex .f64 (F a) (F b), .complex .f64 (F c) (F d)] w fun e w' => e = .returned (.bool (decide (a ≤ c) && decide (b ≤ d))) ∧ w' = w := by
  have q : ∀ x y : Int, (some (compare x y) == some Ordering.lt || some (compare x y) == some Ordering.eq) = decide (x ≤ y) := by
    intro x y
    rw [Bool.eq_iff_iff]; simp [Int.compare_eq_lt]; omega
  have e1 : (FloatKind.f64.format.order (F a) (F c) == some Ordering.lt || FloatKind.f64.format.order (F a) (F c) == some Ordering.eq) = decide (a ≤ c) := by
    rw [show FloatKind.f64.format.order (F a) (F c) = some (compare a c) from F_order a c ha hc, q]
  have e2 : (FloatKind.f64.format.order (F b) (F d) == some Ordering.lt || FloatKind.f64.format.order (F b) (F d) == some Ordering.eq) = decide (b ≤ d) := by
    rw [show FloatKind.f64.format.order (F b) (F d) = some (compare b d) from F_order b d hb hd, q]
  clear q ha hb hc hd
  by_cases h : a ≤ c
  · have h' : decide (a ≤ c) = true := by simp [h]
    rw [h'] at e1 ⊢
    clear h h'
    go_enter Try.func16, Try.ntmps16
    go_wp2
    go_ret
    exact ⟨by simp, rfl⟩
  · have h' : decide (a ≤ c) = false := by simp [h]
    rw [h'] at e1 ⊢
    clear h h' e2
    go_enter Try.func16, Try.ntmps16
    go_wp2
    go_ret
    exact ⟨by simp, rfl⟩

theorem line_any (s : ByteArray) (w : World) (hs : s.size ≤ 2000) :
    Calls Try.prog 13 #[.string s] w fun e w' => e = .returned (.complex .f64 (F 1) (F (s.size + 1))) ∧ w' = w := by
  go_enter Try.func13, Try.ntmps13
  go_wp2_with (go_at_call 9; refine (of_any _ _ _).mono ?_; rintro e w' ⟨rfl, rfl⟩)
  go_ret
  exact ⟨rfl, rfl⟩

theorem off_any (a b c d : Int) (w : World) (ha : a.natAbs < 2 ^ 53) (hb : b.natAbs < 2 ^ 53) (hc : c.natAbs < 2 ^ 53) (hd : d.natAbs < 2 ^ 53) (h1 : (a + c).natAbs < 2 ^ 53) (h2 : (b + d).natAbs < 2 ^ 53) :
    Calls Try.prog 17 #[.complex .f64 (F a) (F b), .complex .f64 (F c) (F d), .complex .f64 (F (a + c)) (F (b + d))] w fun e w' => e = .returned (.complex .f64 (F 0) (F 0)) ∧ w' = w := by
  have s1 := run_csub (P := Try.prog) 22 (a + c) (b + d) a b h1 h2 ha hb (by omega) (by omega)
  rw [show a + c - a = c by omega, show b + d - b = d by omega] at s1
  have s2 := run_csub (P := Try.prog) 22 (a + c) (b + d) c d h1 h2 hc hd (by omega) (by omega)
  rw [show a + c - c = a by omega, show b + d - d = b by omega] at s2
  have s3 := run_csub (P := Try.prog) 22 a b a b ha hb ha hb (by omega) (by omega)
  have s4 := run_csub (P := Try.prog) 22 c d c d hc hd hc hd (by omega) (by omega)
  have s5 := run_cadd (P := Try.prog) 22 0 0 0 0 (by decide) (by decide) (by decide) (by decide) (by decide) (by decide)
  rw [Int.sub_self, Int.sub_self] at s3 s4
  rw [show (0 : Int) + 0 = 0 from rfl] at s5
  clear ha hb hc hd h1 h2
  go_enter Try.func17, Try.ntmps17
  go_wp2
  go_ret
  exact ⟨rfl, rfl⟩

/-- The book's Within(n, 0, hi) lies in 0 .. hi. -/
theorem within_any (n hi : Int) (w : World) (h0 : 0 ≤ hi) (h1 : hi ≤ 1099511627776) :
    Calls Try.prog 14 #[.int .i64 n, .int .i64 0, .int .i64 hi] w fun e w' => ∃ p : Int, e = .returned (.int .i64 p) ∧ 0 ≤ p ∧ p ≤ hi ∧ w' = w := by
  have hm1 : -(hi + 1) < n.tmod (hi + 1) := by
    have h2 := Int.tmod_lt_of_pos (-n) (show 0 < hi + 1 by omega)
    rw [Int.neg_tmod] at h2; omega
  have hm2 : n.tmod (hi + 1) < hi + 1 := Int.tmod_lt_of_pos n (by omega)
  by_cases hneg : n.tmod (hi + 1) < 0
  · go_enter Try.func14, Try.ntmps14
    go_wp2
    go_ret
    exact ⟨_, rfl, by omega, by omega, rfl⟩
  · go_enter Try.func14, Try.ntmps14
    go_wp2
    go_ret
    exact ⟨_, rfl, by omega, by omega, rfl⟩

/-- The line ends of a text; whether it ends with one; its lines. -/
def nl (s : ByteArray) : Nat := s.data.toList.count 10
def ends (s : ByteArray) : Bool := s.data.toList.getLast? == some 10
def textLines (s : ByteArray) : Nat := nl s + if s.size = 0 ∨ ends s = true then 0 else 1

theorem nl_le (s : ByteArray) : nl s ≤ s.size := by
  rw [Lib.size_eq]; exact List.count_le_length

theorem count_any (s : ByteArray) (w : World) :
    Calls Try.prog 18 #[.string s, .string ⟨#[10]⟩] w fun e w' => e = .returned (.int .i64 (nl s : Nat)) ∧ w' = w := by
  go_enter Try.func18, Try.ntmps18
  go_wp2
  rw [run_callFunc_extern Try.func21 (by kernel_rfl) (by kernel_rfl) (by kernel_rfl) (e := Extern.BytealgCount.count) (by kernel_rfl), Lib.run_countString]
  simp only [Result.andThen]
  rw [Oper.upon_value]
  go_wp2
  go_ret
  exact ⟨rfl, rfl⟩

theorem ret_bool {a b : Bool} (h : a = b) : Ending.returned (.bool a) = .returned (.bool b) := by rw [h]

theorem last_byte (s : ByteArray) (h1 : 1 ≤ s.size) : ((s.extract (s.size - 1) s.size).toList == [10]) = ends s := by
  unfold ends
  rw [Lib.extract_toList, Lib.size_eq] at *
  generalize s.data.toList = l at *
  have hne : l ≠ [] := by intro h; subst h; simp at h1
  obtain ⟨i, x, rfl⟩ : ∃ i x, l = i ++ [x] := ⟨l.dropLast, l.getLast hne, (List.dropLast_concat_getLast hne).symm⟩
  simp

theorem suffix_any (s : ByteArray) (w : World) (hs : s.size ≤ 2000) (h1 : 1 ≤ s.size) :
    Calls Try.prog 19 #[.string s, .string ⟨#[10]⟩] w fun e w' => e = .returned (.bool (ends s)) ∧ w' = w := by
  go_enter Try.func19, Try.ntmps19
  go_wp2
  go_ret
  exact ⟨ret_bool (last_byte s h1), rfl⟩

theorem ret_mark {a b c d : Int} (h : a = c) (g : b = d) : Ending.returned (.complex .f64 (F a) (F b)) = .returned (.complex .f64 (F c) (F d)) := by rw [h, g]

theorem text_any (s : ByteArray) (w : World) (hs : s.size ≤ 2000) :
    Calls Try.prog 10 #[.string s] w fun e w' => e = .returned (.complex .f64 (F (textLines s : Nat)) (F (s.size : Nat))) ∧ w' = w := by
  have hn : nl s ≤ 2000 := Nat.le_trans (nl_le s) hs
  by_cases h0 : s.size = 0
  · have he : s.data.toList = [] := List.eq_nil_of_length_eq_zero (by rw [← Lib.size_eq]; exact h0)
    have hq : (s.toList.isEmpty) = true := by rw [Lib.toList_data, he]; rfl
    have hT : Hid (((nl s : Nat) : Int) = ((textLines s : Nat) : Int)) := by
      show _ = _
      unfold textLines; simp [h0]
    clear h0 he
    go_enter Try.func10, Try.ntmps10
    go_wp2_with (first | (go_at_call 18; refine (count_any _ _).mono ?_; rintro e w' ⟨rfl, rfl⟩) | (go_at_call 9; refine (of_any _ _ _).mono ?_; rintro e w' ⟨rfl, rfl⟩))
    go_ret
    exact ⟨ret_mark hT.out rfl, rfl⟩
  · have hq : (s.toList.isEmpty) = false := by
      rw [Lib.toList_data, List.isEmpty_eq_false_iff]; intro h; exact h0 (by rw [Lib.size_eq, h]; rfl)
    cases hl : ends s
    · have hT : Hid (((nl s : Nat) : Int) + 1 = ((textLines s : Nat) : Int)) := by
        show _ = _
        unfold textLines; simp [h0, hl]
      go_enter Try.func10, Try.ntmps10
      go_wp2_with (first | (go_at_call 18; refine (count_any _ _).mono ?_; rintro e w' ⟨rfl, rfl⟩) | (go_at_call 19; refine (suffix_any _ _ hs (by omega)).mono ?_; rintro e w' ⟨rfl, rfl⟩) | (go_at_call 9; refine (of_any _ _ _).mono ?_; rintro e w' ⟨rfl, rfl⟩))
      go_ret
      exact ⟨ret_mark hT.out rfl, rfl⟩
    · have hT : Hid (((nl s : Nat) : Int) = ((textLines s : Nat) : Int)) := by
        show _ = _
        unfold textLines; simp [hl]
      go_enter Try.func10, Try.ntmps10
      go_wp2_with (first | (go_at_call 18; refine (count_any _ _).mono ?_; rintro e w' ⟨rfl, rfl⟩) | (go_at_call 19; refine (suffix_any _ _ hs (by omega)).mono ?_; rintro e w' ⟨rfl, rfl⟩) | (go_at_call 9; refine (of_any _ _ _).mono ?_; rintro e w' ⟨rfl, rfl⟩))
      go_ret
      exact ⟨ret_mark hT.out rfl, rfl⟩

/-- The sum of the first k values of f. -/
def psum (f : Nat → Int) : Nat → Int
  | 0 => 0
  | k + 1 => psum f k + f k

theorem psum_mono (f : Nat → Int) (n : Nat) (h : ∀ j, j < n → 0 ≤ f j) : ∀ k, k ≤ n → 0 ≤ psum f k ∧ psum f k ≤ psum f n := by
  have h0 : ∀ k, k ≤ n → 0 ≤ psum f k := by
    intro k
    induction k with
    | zero => intro _; exact Int.le_refl _
    | succ k ih => intro hk; have := ih (by omega); have := h k (by omega); simp only [psum]; omega
  have h1 : ∀ d k, k + d = n → psum f k ≤ psum f n := by
    intro d
    induction d with
    | zero => intro k hk; rw [show k = n by omega]; exact Int.le_refl _
    | succ d ih => intro k hk; have a := ih (k + 1) (by omega); have b := h k (by omega); simp only [psum] at a; omega
  intro k hk
  exact ⟨h0 k hk, h1 (n - k) k (by omega)⟩

theorem small {a : Int} (h0 : 0 ≤ a) (h : a < 9007199254740992) : a.natAbs < 2 ^ 53 := by
  have n53 : (2 : Nat) ^ 53 = 9007199254740992 := by decide
  rw [n53]; omega

theorem psum_small (f : Nat → Int) (n : Nat) (hf : ∀ j, j < n → 0 ≤ f j) (h1 : psum f n < 9007199254740992) (k : Nat) (hk : k ≤ n) : (psum f k).natAbs < 2 ^ 53 := by
  have := psum_mono f n hf k hk
  exact small (by omega) (by omega)

theorem term_small (f : Nat → Int) (n : Nat) (hf : ∀ j, j < n → 0 ≤ f j) (h1 : psum f n < 9007199254740992) (k : Nat) (hk : k < n) : (f k).natAbs < 2 ^ 53 := by
  have p1 := psum_mono f n hf k (by omega)
  have p2 := psum_mono f n hf (k + 1) hk
  have := hf k hk
  simp only [psum] at p2
  exact small (by omega) (by omega)

set_option maxHeartbeats 400000 in
theorem sum_any (f g : Nat → Int) (b o n cap : Nat) (w : World) (hn : n ≤ 4000)
    (hcell : ∀ j, j < n → w.cell? ⟨b, o + j, none⟩ = some (.complex .f64 (F (f j)) (F (g j))))
    (hf : ∀ j, j < n → 0 ≤ f j) (hg : ∀ j, j < n → 0 ≤ g j) (h1 : psum f n < 9007199254740992) (h2 : psum g n < 9007199254740992) :
    Calls Try.prog 8 #[.slice (some ⟨b, o, none⟩) n cap] w fun e w' => e = .returned (.complex .f64 (F (psum f n)) (F (psum g n))) ∧ w' = w := by
  have HF : Hid (∀ j, j < n → 0 ≤ f j) := hf
  have HG : Hid (∀ j, j < n → 0 ≤ g j) := hg
  have H1 : Hid (psum f n < 9007199254740992) := h1
  have H2 : Hid (psum g n < 9007199254740992) := h2
  have HC : Hid (∀ j, j < n → w.cell? ⟨b, o + j, none⟩ = some (.complex .f64 (F (f j)) (F (g j)))) := hcell
  clear hf hg h1 h2 hcell
  go_enter Try.func8, Try.ntmps8
  go_wp2
  go_loop [3, 4, 10] (fun s l i => ∃ k : Nat, k ≤ n ∧ i = .int .i64 k ∧ s = .complex .f64 (F (psum f k)) (F (psum g k)) ∧ l = .complex .f64 (F 0) (F 0)) (fun _ _ i => n - (intOf i).toNat)
  case atStart => exact ⟨0, Nat.zero_le _, rfl, by simp [psum, F_zero], by simp [F_zero]⟩
  case round =>
    obtain ⟨k, hk, rfl, rfl, rfl⟩ := hrel
    by_cases hlt : k < n
    · have hc := HC.out k hlt
      have a1 := run_cadd (P := Try.prog) 22 (psum f k) (psum g k) (f k) (g k) (psum_small f n HF.out H1.out k hk) (psum_small g n HG.out H2.out k hk) (term_small f n HF.out H1.out k hlt) (term_small g n HG.out H2.out k hlt) (psum_small f n HF.out H1.out (k + 1) hlt) (psum_small g n HG.out H2.out (k + 1) hlt)
      have a2 := run_cadd (P := Try.prog) 22 0 0 0 0 (by decide) (by decide) (by decide) (by decide) (by decide) (by decide)
      have OFF : Hid (∀ w, Calls Try.prog 17 #[.complex .f64 (F (psum f k)) (F (psum g k)), .complex .f64 (F (f k)) (F (g k)), .complex .f64 (F (psum f k + f k)) (F (psum g k + g k))] w fun e w' => e = .returned (.complex .f64 (F 0) (F 0)) ∧ w' = w) := fun w => off_any (psum f k) (psum g k) (f k) (g k) w (psum_small f n HF.out H1.out k hk) (psum_small g n HG.out H2.out k hk) (term_small f n HF.out H1.out k hlt) (term_small g n HG.out H2.out k hlt) (psum_small f n HF.out H1.out (k + 1) hlt) (psum_small g n HG.out H2.out (k + 1) hlt)
      rw [show (0 : Int) + 0 = 0 from rfl] at a2
      clear HC HF HG H1 H2
      go_wp2_with (go_at_call 17; refine (OFF.out _).mono ?_; rintro e w' ⟨rfl, rfl⟩)
      go_round
      case rel => exact ⟨k + 1, hlt, by go_num, rfl, rfl⟩
      case measure => simp [intOf]; omega
    · have hkn : k = n := by omega
      subst hkn
      have a2 := run_cadd (P := Try.prog) 22 (psum f k) (psum g k) 0 0 (psum_small f k HF.out H1.out k hk) (psum_small g k HG.out H2.out k hk) (by decide) (by decide) (by rw [Int.add_zero]; exact psum_small f k HF.out H1.out k hk) (by rw [Int.add_zero]; exact psum_small g k HG.out H2.out k hk)
      rw [Int.add_zero, Int.add_zero] at a2
      clear HC HF HG H1 H2
      go_wp2
      go_ret
      exact ⟨rfl, rfl⟩

theorem grown_trans {a b c : World} (h : Grown a b) (g : Grown b c) : Grown a c :=
  ⟨World.keptBut_trans h.1 (World.keptBut_mono (fun _ f => f.elim) g.1), fun x => (g.2.1 x).trans (h.2.1 x), Nat.le_trans h.2.2 g.2.2⟩

theorem cell_new (w : World) (cs : Array Value) (t : TypeId) (j : Nat) : (w.alloc (.cells cs t)).cell? ⟨w.heap.size, j, none⟩ = cs[j]? := by
  exact World.cell?_alloc_new w cs t j

theorem sum_two (a b c d : Int) (w : World) (B : Nat) (hB : B = w.heap.size) (ha : 0 ≤ a) (hb : 0 ≤ b) (hc : 0 ≤ c) (hd : 0 ≤ d) (h1 : a + c < 9007199254740992) (h2 : b + d < 9007199254740992) :
    Calls Try.prog 8 #[.slice (some ⟨B, 0, none⟩) 2 2] (w.alloc (.cells #[.complex .f64 (F a) (F b), .complex .f64 (F c) (F d)] 22)) fun e w' => e = .returned (.complex .f64 (F (a + c)) (F (b + d))) ∧ w' = w.alloc (.cells #[.complex .f64 (F a) (F b), .complex .f64 (F c) (F d)] 22) := by
  subst hB
  have e1 : psum (fun j => if j = 0 then a else c) 2 = a + c := by simp [psum]
  have e2 : psum (fun j => if j = 0 then b else d) 2 = b + d := by simp [psum]
  have := sum_any (fun j => if j = 0 then a else c) (fun j => if j = 0 then b else d) w.heap.size 0 2 2 (w.alloc (.cells #[.complex .f64 (F a) (F b), .complex .f64 (F c) (F d)] 22)) (by omega)
    (by intro j hj; rw [Nat.zero_add, cell_new]; have : j = 0 ∨ j = 1 := by omega
        rcases this with rfl | rfl <;> simp)
    (by intro j hj; show 0 ≤ ite _ _ _; split <;> assumption) (by intro j hj; show 0 ≤ ite _ _ _; split <;> assumption) (by rw [e1]; exact h1) (by rw [e2]; exact h2)
  rw [e1, e2] at this
  exact this

theorem sum_three (a b c d f g : Int) (w : World) (B : Nat) (hB : B = w.heap.size) (ha : 0 ≤ a) (hb : 0 ≤ b) (hc : 0 ≤ c) (hd : 0 ≤ d) (hf : 0 ≤ f) (hg : 0 ≤ g) (h1 : a + c + f < 9007199254740992) (h2 : b + d + g < 9007199254740992) :
    Calls Try.prog 8 #[.slice (some ⟨B, 0, none⟩) 3 3] (w.alloc (.cells #[.complex .f64 (F a) (F b), .complex .f64 (F c) (F d), .complex .f64 (F f) (F g)] 22)) fun e w' => e = .returned (.complex .f64 (F (a + c + f)) (F (b + d + g))) ∧ w' = w.alloc (.cells #[.complex .f64 (F a) (F b), .complex .f64 (F c) (F d), .complex .f64 (F f) (F g)] 22) := by
  subst hB
  have e1 : psum (fun j => if j = 0 then a else if j = 1 then c else f) 3 = a + c + f := by simp [psum]
  have e2 : psum (fun j => if j = 0 then b else if j = 1 then d else g) 3 = b + d + g := by simp [psum]
  have := sum_any (fun j => if j = 0 then a else if j = 1 then c else f) (fun j => if j = 0 then b else if j = 1 then d else g) w.heap.size 0 3 3 (w.alloc (.cells #[.complex .f64 (F a) (F b), .complex .f64 (F c) (F d), .complex .f64 (F f) (F g)] 22)) (by omega)
    (by intro j hj; rw [Nat.zero_add, cell_new]; have : j = 0 ∨ j = 1 ∨ j = 2 := by omega
        rcases this with rfl | rfl | rfl <;> simp)
    (by intro j hj; show 0 ≤ ite _ _ _; split <;> (try split) <;> assumption) (by intro j hj; show 0 ≤ ite _ _ _; split <;> (try split) <;> assumption) (by rw [e1]; exact h1) (by rw [e2]; exact h2)
  rw [e1, e2] at this
  exact this

theorem sum_nil (w : World) :
    Calls Try.prog 8 #[.slice none 0 0] w fun e w' => e = .returned (.complex .f64 (F 0) (F 0)) ∧ w' = w := by
  have a2 := run_cadd (P := Try.prog) 22 0 0 0 0 (by decide) (by decide) (by decide) (by decide) (by decide) (by decide)
  rw [show (0 : Int) + 0 = 0 from rfl, F_zero] at a2
  rw [F_zero]
  go_enter Try.func8, Try.ntmps8
  go_wp2
  refine wp_loop_rounds 1 ?_
  rw [rounds_succ]
  go_wp2
  go_ret
  exact ⟨rfl, rfl⟩

end Go.Proofs.Ytfkmccbejlloeaa
