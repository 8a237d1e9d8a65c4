/-
  What bset.Of does on a slice of bytes in memory.
-/
import Derived.Test.YtikmgckefbjbkaaGreatDoorBW
import Derived.Deep.RegionWith
namespace Go.Proofs.YtikmgckefbjbkaaGreatDoor
open Go.RowKit

/-- The set of f 0, .., f (k - 1). -/
def memb (f : Nat → Nat) : Nat → Nat → Bool
  | 0 => fun _ => false
  | k + 1 => addB (memb f k) (f k)

theorem or_bit' (p : Nat → Bool) (b : Nat) : bits .or .u64 (wd p (b / 64) : Nat) (2 ^ (b % 64)) = ((wd (addB p b) (b / 64) : Nat) : Int) :=
  (congrArg (bits .or .u64 (wd p (b / 64) : Nat)) (Int.natCast_pow 2 (b % 64)).symm).trans (or_bit p b)

theorem set_blk (W : World) (q : Nat → Bool) (x d j B : Nat) (hB : B = W.heap.size) (hj : x / 64 = j) (hx : x < 256) :
    (((W.alloc (blk q)).drewN d).setCell ⟨B, j, none⟩ (.int .u64 (bits .or .u64 (wd q j : Nat) (2 ^ (x % 64))))) = (W.alloc (blk (addB q x))).drewN d := by
  subst hB hj
  rw [or_bit', show (((W.alloc (blk q)).drewN d).setCell ⟨W.heap.size, x / 64, none⟩ (.int .u64 (wd (addB q x) (x / 64) : Nat))) = ((W.alloc (blk q)).setCell ⟨W.heap.size, x / 64, none⟩ (.int .u64 (wd (addB q x) (x / 64) : Nat))).drewN d from rfl]
  rw [World.setCell_alloc_at _ _ _ _ _ rfl]
  have hk : x / 64 = 0 ∨ x / 64 = 1 ∨ x / 64 = 2 ∨ x / 64 = 3 := by omega
  rcases hk with hk | hk | hk | hk <;> rw [hk]
  · rw [← wd_other q x 1 (by omega), ← wd_other q x 2 (by omega), ← wd_other q x 3 (by omega)]; rfl
  · rw [← wd_other q x 0 (by omega), ← wd_other q x 2 (by omega), ← wd_other q x 3 (by omega)]; rfl
  · rw [← wd_other q x 0 (by omega), ← wd_other q x 1 (by omega), ← wd_other q x 3 (by omega)]; rfl
  · rw [← wd_other q x 0 (by omega), ← wd_other q x 1 (by omega), ← wd_other q x 2 (by omega)]; rfl

set_option maxHeartbeats 1000000 in
theorem of_core (f : Nat → Nat) (b o n cap : Nat) (w : World) (hn : n ≤ 4000) (hb : b < w.heap.size)
    (hcell : ∀ j, j < n → w.cell? ⟨b, o + j, none⟩ = some (.int .u8 (f j : Nat))) (hf : ∀ j, f j < 256) :
    Calls Tryz.prog 24 #[.slice (some ⟨b, o, none⟩) n cap] w fun e w' => e = .returned (sv (memb f n)) ∧ Kp w w' := by
  have HF : Hid (∀ j, f j < 256) := hf
  have HC : Hid (∀ j, j < n → w.cell? ⟨b, o + j, none⟩ = some (.int .u8 (f j : Nat))) := hcell
  clear hf hcell
  go_enter Tryz.func24, Tryz.ntmps24
  go_wp2
  go_loopw [8] (fun i wr => ∃ (k d : Nat), k ≤ n ∧ i = .int .i64 k ∧ wr = ((w.alloc (.cells #[.int .u64 0, .int .u64 0, .int .u64 0, .int .u64 0] 24)).alloc (.cells #[.int .u64 (wd (memb f k) 0 : Nat), .int .u64 (wd (memb f k) 1 : Nat), .int .u64 (wd (memb f k) 2 : Nat), .int .u64 (wd (memb f k) 3 : Nat)] 24)).drewN d) (fun i _ => n - (intOf i).toNat)
  case atStart => exact ⟨0, 0, Nat.zero_le _, rfl, by simp only [memb, wd_none]; rfl⟩
  case round =>
    obtain ⟨k, d, hk, rfl, rfl⟩ := hrel
    by_cases hlt : k < n
    · have hc : (((w.alloc (.cells #[.int .u64 0, .int .u64 0, .int .u64 0, .int .u64 0] 24)).alloc (.cells #[.int .u64 (wd (memb f k) 0 : Nat), .int .u64 (wd (memb f k) 1 : Nat), .int .u64 (wd (memb f k) 2 : Nat), .int .u64 (wd (memb f k) 3 : Nat)] 24)).drewN d).cell? ⟨b, o + k, none⟩ = some (.int .u8 (f k : Nat)) :=
        (((((Kp.refl _).alloc _).alloc _).drewN _).cell (p := ⟨b, o + k, none⟩) hb).trans (HC.out k hlt)
      have hfk := HF.out k
      obtain ⟨x, hx⟩ : ∃ x, f k = x := ⟨_, rfl⟩
      rw [hx] at hc hfk
      have HX : Hid (f k = x) := hx
      clear hx HC HF
      have hk4 : x / 64 = 0 ∨ x / 64 = 1 ∨ x / 64 = 2 ∨ x / 64 = 3 := by omega
      rcases hk4 with hk4 | hk4 | hk4 | hk4
      · have hq : (x : Int) / 64 = 0 := by omega
        go_wp2
        go_region_with (go_at_call 34; refine (bit_any _ _).mono ?_; rintro e w' ⟨rfl, rfl⟩)
        all_goals
          go_wp2_with fail
          go_round
          case rel => exact ⟨k + 1, _, hlt, by go_num, by rw [memb, HX.out]; exact set_blk _ _ _ _ _ _ (by simp) hk4 hfk⟩
          case measure => simp [intOf]; omega
      · have hq : (x : Int) / 64 = 1 := by omega
        go_wp2
        go_region_with (go_at_call 34; refine (bit_any _ _).mono ?_; rintro e w' ⟨rfl, rfl⟩)
        all_goals
          go_wp2_with fail
          go_round
          case rel => exact ⟨k + 1, _, hlt, by go_num, by rw [memb, HX.out]; exact set_blk _ _ _ _ _ _ (by simp) hk4 hfk⟩
          case measure => simp [intOf]; omega
      · have hq : (x : Int) / 64 = 2 := by omega
        go_wp2
        go_region_with (go_at_call 34; refine (bit_any _ _).mono ?_; rintro e w' ⟨rfl, rfl⟩)
        all_goals
          go_wp2_with fail
          go_round
          case rel => exact ⟨k + 1, _, hlt, by go_num, by rw [memb, HX.out]; exact set_blk _ _ _ _ _ _ (by simp) hk4 hfk⟩
          case measure => simp [intOf]; omega
      · have hq : (x : Int) / 64 = 3 := by omega
        go_wp2
        go_region_with (go_at_call 34; refine (bit_any _ _).mono ?_; rintro e w' ⟨rfl, rfl⟩)
        all_goals
          go_wp2_with fail
          go_round
          case rel => exact ⟨k + 1, _, hlt, by go_num, by rw [memb, HX.out]; exact set_blk _ _ _ _ _ _ (by simp) hk4 hfk⟩
          case measure => simp [intOf]; omega
    · have hkn : k = n := by omega
      subst hkn
      clear HC HF
      go_wp2
      refine bodyPost_ret (v := sv (memb f k)) (by simp [results, Tryz.results24, go_sem]) rfl ⟨rfl, ?_⟩
      exact (((((((Kp.refl _).alloc _).alloc _).drewN _).setCell (Nat.le_refl _) _).setCell (Nat.le_refl _) _).setCell (Nat.le_refl _) _).setCell (Nat.le_refl _) _

theorem of_nil (w : World) : Calls Tryz.prog 24 #[.slice none 0 0] w fun e w' => e = .returned (sv (fun _ => false)) ∧ Kp w w' := by
  go_enter Tryz.func24, Tryz.ntmps24
  go_wp2
  refine wp_loop_rounds 1 ?_
  rw [rounds_succ]
  go_wp2
  refine bodyPost_ret (v := vv 0 0 0 0) (by simp [results, Tryz.results24, go_sem]) rfl ⟨?_, ((Kp.refl _).alloc _).alloc _⟩
  show Ending.returned (vv 0 0 0 0) = .returned (vv _ _ _ _)
  rw [wd_none, wd_none, wd_none, wd_none]

theorem of_one (x : Nat) (w : World) (B : Nat) (hB : B = w.heap.size) (hx : x < 256) :
    Calls Tryz.prog 24 #[.slice (some ⟨B, 0, none⟩) 1 1] (w.alloc (.cells #[.int .u8 (x : Nat)] 5)) fun e w' => e = .returned (sv (addB (fun _ => false) x)) ∧ Kp w w' := by
  subst hB
  refine (of_core (fun _ => x) w.heap.size 0 1 1 _ (by omega) (by simp) ?_ (fun _ => hx)).mono ?_
  · intro j hj
    obtain rfl : j = 0 := by omega
    exact World.cell?_alloc_new w _ _ 0
  · rintro e w' ⟨rfl, hk⟩
    exact ⟨rfl, ((Kp.refl _).alloc _).trans hk⟩

theorem of_two (x y : Nat) (w : World) (B : Nat) (hB : B = w.heap.size) (hx : x < 256) (hy : y < 256) :
    Calls Tryz.prog 24 #[.slice (some ⟨B, 0, none⟩) 2 2] (w.alloc (.cells #[.int .u8 (x : Nat), .int .u8 (y : Nat)] 5)) fun e w' => e = .returned (sv (addB (addB (fun _ => false) x) y)) ∧ Kp w w' := by
  subst hB
  refine (of_core (fun j => if j = 0 then x else y) w.heap.size 0 2 2 _ (by omega) (by simp) ?_ (fun j => by show ite _ _ _ < _; split <;> assumption)).mono ?_
  · intro j hj
    have : j = 0 ∨ j = 1 := by omega
    rcases this with rfl | rfl
    · exact World.cell?_alloc_new w _ _ 0
    · exact World.cell?_alloc_new w _ _ 1
  · rintro e w' ⟨rfl, hk⟩
    exact ⟨rfl, ((Kp.refl _).alloc _).trans hk⟩

theorem of1 (x : Nat) (w : World) (B : Nat) (hB : B < w.heap.size) (hc : w.cell? ⟨B, 0, none⟩ = some (.int .u8 (x : Nat))) (hx : x < 256) :
    Calls Tryz.prog 24 #[.slice (some ⟨B, 0, none⟩) 1 1] w fun e w' => e = .returned (sv (addB (fun _ => false) x)) ∧ Kp w w' := by
  refine (of_core (fun _ => x) B 0 1 1 w (by omega) hB ?_ (fun _ => hx)).mono ?_
  · intro j hj
    obtain rfl : j = 0 := by omega
    exact hc
  · rintro e w' ⟨rfl, hk⟩
    exact ⟨rfl, hk⟩
end Go.Proofs.YtikmgckefbjbkaaGreatDoor
