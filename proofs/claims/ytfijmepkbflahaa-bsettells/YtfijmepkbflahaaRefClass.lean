/-
  What the reference's Class answers; what bset.Class answers, said the same way.
-/
import Derived.Test.YtfijmepkbflahaaRefC
import Derived.Deep.RegionHeld3
namespace Go.Proofs.Ytfijmepkbflahaa
open Go.RowKit Go.Maps

theorem class_is (s : ByteArray) (w : World) : Calls Try.prog 8 #[.string s] w fun e w' => e = .returned (.tuple #[sv (cOf s), .bool (isN s)]) ∧ Kp w w' := by
  cases h : isN s
  · refine (class_other s (fun hn => by rw [(isN_iff s).2 hn] at h; cases h) w).mono ?_
    rintro e w' ⟨rfl, hk⟩
    exact ⟨by rw [sv_congr (fun i _ => (cOf_other s h i).symm)], hk⟩
  · have hd := h
    unfold isN at hd
    rw [isNk_iff] at hd
    obtain ⟨j, hj, hjs⟩ := hd
    have he : s = nm j := str_ext hjs.symm
    subst he
    refine (class_nth j hj w).mono ?_
    rintro e w' ⟨rfl, hk⟩
    exact ⟨by rw [sv_congr (fun i _ => (cOf_nth j hj i).symm)], hk⟩

/-- The set, as far as k. -/
def upto (p : Nat → Bool) (k : Nat) : Nat → Bool := fun i => decide (i < k) && p i

theorem upto_yes (p : Nat → Bool) (k : Nat) (h : p k = true) : addB (upto p k) k = upto p (k + 1) := by
  funext i
  unfold addB upto
  by_cases hi : i = k
  · subst hi; simp [h]
  · have e1 : (i == k) = false := by simpa using hi
    have e2 : decide (i < k + 1) = decide (i < k) := by rw [decide_eq_decide]; omega
    rw [e1, e2, Bool.or_false]

theorem upto_no (p : Nat → Bool) (k : Nat) (h : p k = false) : upto p k = upto p (k + 1) := by
  funext i
  unfold upto
  by_cases hi : i = k
  · subst hi; simp [h]
  · have e2 : decide (i < k + 1) = decide (i < k) := by rw [decide_eq_decide]; omega
    rw [e2]

theorem upto_zero (p : Nat → Bool) : upto p 0 = fun _ => false := by
  funext i; unfold upto; simp

theorem upto_all (p : Nat → Bool) : ∀ i, i < 256 → upto p 256 i = p i := by
  intro i hi; unfold upto; simp [hi]

theorem wd_pos (p : Nat → Bool) (i : Nat) (h : p i = true) : wd p (i / 64) ≠ 0 := by
  intro h0
  have := wd_testBit p (i / 64) (i % 64)
  rw [h0, show 64 * (i / 64) + i % 64 = i by omega, h, decide_eq_true (show i % 64 < 64 by omega)] at this
  simp at this

theorem eq_none (p : Nat → Bool) (h : ∀ i, i < 256 → p i = false) (w : World) : (Op.equalIn 10000 24 (sv p) (.agg #[.int .u64 0, .int .u64 0, .int .u64 0, .int .u64 0])).run Try.prog w = .ok true w := by
  rw [sv_congr (q := fun _ => false) h, sv_none]
  exact eq_zero w

theorem eq_some (p : Nat → Bool) (i : Nat) (hi : i < 256) (h : p i = true) (w : World) : (Op.equalIn 10000 24 (sv p) (.agg #[.int .u64 0, .int .u64 0, .int .u64 0, .int .u64 0])).run Try.prog w = .ok false w := by
  rw [eq_vv]
  have hp := wd_pos p i h
  have hk : i / 64 = 0 ∨ i / 64 = 1 ∨ i / 64 = 2 ∨ i / 64 = 3 := by omega
  have z : ∀ j, i / 64 = j → ((wd p j : Int) == 0) = false := by
    intro j hj; subst hj; simpa using hp
  rcases hk with hk | hk | hk | hk
  all_goals simp [z _ hk]

theorem some_of (j : Nat) (hj : j < 12) : ∃ i, i < 256 ∧ cq j i = true := by
  have h : ∀ j, j < 12 → (List.range 256).any (cq j) = true := by decide +kernel
  have := h j hj
  rw [List.any_eq_true] at this
  obtain ⟨i, hi, hc⟩ := this
  exact ⟨i, List.mem_range.1 hi, hc⟩

theorem eq_cls (s : ByteArray) (w : World) : (Op.equalIn 10000 24 (sv (cOf s)) (.agg #[.int .u64 0, .int .u64 0, .int .u64 0, .int .u64 0])).run Try.prog w = .ok (!isN s) w := by
  cases h : isN s
  · exact eq_none _ (fun i _ => cOf_other s h i) w
  · have hd := h
    unfold isN at hd
    rw [isNk_iff] at hd
    obtain ⟨j, hj, hjs⟩ := hd
    have he : s = nm j := str_ext hjs.symm
    subst he
    obtain ⟨i, hi, hc⟩ := some_of j hj
    exact eq_some _ i hi (by rw [cOf_nth j hj]; exact hc) w

set_option maxRecDepth 100000 in
set_option maxHeartbeats 2000000 in
theorem refclass_is (s : ByteArray) (w : World) : Calls Try.prog 15 #[.string s] w fun e w' => e = .returned (.tuple #[sv (cOf s), .bool (isN s)]) ∧ Kp w w' := by
  go_enter Try.func15, Try.ntmps15
  go_wp2_with fail
  go_loopw [6] (fun i wr => ∃ k : Nat, k ≤ 256 ∧ i = .int .i64 k ∧ Kp (w.alloc (.cells #[.int .u64 0, .int .u64 0, .int .u64 0, .int .u64 0] 24)) wr ∧ At wr (w.heap.size + 1) (upto (cOf s) k)) (fun i _ => 256 - (intOf i).toNat)
  case atStart =>
    refine ⟨0, by omega, rfl, (Kp.refl _).alloc _, ?_⟩
    have h := At.zero (w.alloc zero4)
    rw [show (w.alloc zero4).heap.size = w.heap.size + 1 by simp] at h
    rw [upto_zero]
    exact h
  case round =>
    obtain ⟨k, hk, rfl, hK, hA⟩ := hrel
    by_cases hlt : k < 256
    · obtain ⟨c0, c1, c2, c3⟩ := hA.cells
      have HK : Hid (Kp (w.alloc (.cells #[.int .u64 0, .int .u64 0, .int .u64 0, .int .u64 0] 24)) wr) := hK
      have HA : Hid (At wr (w.heap.size + 1) (upto (cOf s) k)) := hA
      clear hK hA
      have hw8 : IntKind.u8.wrap (k : Int) = (k : Int) := by rw [IntKind.wrap_u8']; omega
      cases hp : cOf s k
      · have HU : Hid (upto (cOf s) k = upto (cOf s) (k + 1)) := upto_no _ _ hp
        go_wp2_with fail
        refine (refc s k hlt _).mono ?_
        rintro e w1 ⟨rfl, hw1⟩
        subst hw1
        rw [hp]
        go_wp2_with fail
        exact ⟨⟨k + 1, by omega, by go_num, HK.out, HU.out ▸ HA.out⟩, by simp [intOf]; omega⟩
      · have HU : Hid (addB (upto (cOf s) k) k = upto (cOf s) (k + 1)) := upto_yes _ _ hp
        go_wp2_with fail
        refine (refc s k hlt _).mono ?_
        rintro e w1 ⟨rfl, hw1⟩
        subst hw1
        rw [hp]
        go_wp2_with fail
        refine (put_any (upto (cOf s) k) k _ hlt).mono ?_
        rintro e w2 ⟨rfl, hk2⟩
        have HA2 : Hid (At w2 (w.heap.size + 1) (upto (cOf s) k)) := hk2.at HA.out
        have HK2 : Hid (Kp (w.alloc (.cells #[.int .u64 0, .int .u64 0, .int .u64 0, .int .u64 0] 24)) w2) := HK.out.trans hk2
        clear hk2 c0 c1 c2 c3
        obtain ⟨e0, e1, e2, e3⟩ := HA2.out.cells
        have f0 := HA2.out.frozen 0; have f1 := HA2.out.frozen 1; have f2 := HA2.out.frozen 2; have f3 := HA2.out.frozen 3
        go_wp2_with fail
        exact ⟨⟨k + 1, by omega, by go_num, set4_kp (by simp) HK2.out _ _ _ _, HU.out ▸ HA2.out.set4 _⟩, by simp [intOf]; omega⟩
    · obtain rfl : k = 256 := by omega
      have hA' := hA.same (upto_all (cOf s))
      obtain ⟨c0, c1, c2, c3⟩ := hA'.cells
      have hz := hK.at (At.zero w)
      obtain ⟨d0, d1, d2, d3⟩ := hz.cells
      have f0 := hz.frozen 0; have f1 := hz.frozen 1; have f2 := hz.frozen 2; have f3 := hz.frozen 3
      have HK : Hid (Kp (w.alloc (.cells #[.int .u64 0, .int .u64 0, .int .u64 0, .int .u64 0] 24)) wr) := hK
      have HZ : Hid (At wr w.heap.size (fun _ => false)) := hz
      clear hK hA hA' hz
      have EQ := eq_cls s
      go_wp2
      go_region
      all_goals
        go_wp2
        refine bodyPost_ret (v := .tuple #[sv (cOf s), .bool (isN s)]) ?_ rfl ⟨rfl, ?_⟩
        · exact ret2_at Try.results15 _ _ w.heap.size _ rfl (At.set4 (HZ.out.drew) (cOf s))
        · exact set4_kp (Nat.le_refl _) (((Kp.refl _).alloc _).trans HK.out).drew _ _ _ _
end Go.Proofs.Ytfijmepkbflahaa
