/-
  What bset.Range does.
-/
import Derived.Test.YtikmgckefbjbkaaGreatDoorOf
namespace Go.Proofs.YtikmgckefbjbkaaGreatDoor
open Go.RowKit

/-- The bytes from a on, below k. -/
def span (a k : Nat) : Nat → Bool := fun i => decide (a ≤ i) && decide (i < k)

theorem span_next (a k : Nat) (h : a ≤ k) (i : Nat) : orB (span a k) (addB (fun _ => false) k) i = span a (k + 1) i := by
  unfold orB span addB
  rw [Bool.eq_iff_iff]
  simp
  omega

theorem Kp.at {w w' : World} {S : Nat} {q : Nat → Bool} (hk : Kp w w') (h : At w S q) : At w' S q := h.kp hk

theorem At.frozen {w : World} {S : Nat} {q : Nat → Bool} (h : At w S q) (j : Nat) : w.frozen? ⟨S, j, none⟩ = false := by
  unfold At at h
  simp [World.frozen?, h]

abbrev zero4 : Obj := .cells #[.int .u64 0, .int .u64 0, .int .u64 0, .int .u64 0] 24

theorem At.zero (w : World) : At (w.alloc zero4) w.heap.size (fun _ => false) := by
  have := At.new w (fun _ => false)
  rw [show blk (fun _ => false) = zero4 by simp only [blk, wd_none]; rfl] at this
  exact this

theorem sv_none : sv (fun _ => false) = vv 0 0 0 0 := by
  show vv _ _ _ _ = _
  rw [wd_none, wd_none, wd_none, wd_none]

theorem ret_at {fn : Func} {p : Tmp} (h : fn.results = #[.cell p 24]) (tmps : Array Value) (w : World) (S : Nat) (q : Nat → Bool)
    (hp : tmps.getD p undef = .pointer (some ⟨S, 0, none⟩)) (hA : At w S q) : (results fn tmps).run Tryz.prog w = .ok (sv q) w :=
  results_cell_row h tmps w S 24 _ (0, 0) _ hp hA Tryz.underlying24 rfl (by kernel_rfl)

set_option maxRecDepth 100000 in
set_option maxHeartbeats 2000000 in
theorem range_core (a b : Nat) (w : World) (ha : a < 256) (hb : b < 256) :
    Calls Tryz.prog 22 #[.int .u8 (a : Nat), .int .u8 (b : Nat)] w fun e w' => e = .returned (sv (span a (max a (b + 1)))) ∧ Kp w w' := by
  go_enter Tryz.func22, Tryz.ntmps22
  go_wp2
  go_loopw [6] (fun i wr => ∃ k : Nat, a ≤ k ∧ (k ≤ b + 1 ∨ k = a) ∧ i = .int .i64 k ∧ Kp (w.alloc (.cells #[.int .u64 0, .int .u64 0, .int .u64 0, .int .u64 0] 24)) wr ∧ At wr (w.heap.size + 1) (span a k)) (fun i _ => b + 1 - (intOf i).toNat)
  case atStart =>
    refine ⟨a, Nat.le_refl _, .inr rfl, rfl, (Kp.refl _).alloc _, ?_⟩
    have h := At.zero (w.alloc zero4)
    rw [show (w.alloc zero4).heap.size = w.heap.size + 1 by simp] at h
    rw [show span a a = fun _ => false by funext i; unfold span; simp]
    exact h
  case round =>
    obtain ⟨k, h1, h2, rfl, hK, hA⟩ := hrel
    by_cases hlt : k ≤ b
    · obtain ⟨c0, c1, c2, c3⟩ := hA.cells
      have HK : Hid (Kp (w.alloc (.cells #[.int .u64 0, .int .u64 0, .int .u64 0, .int .u64 0] 24)) wr) := hK
      have HA : Hid (At wr (w.heap.size + 1) (span a k)) := hA
      clear hK hA
      have hk8 : k < 256 := by omega
      have hlt0 : w.heap.size + 1 < wr.heap.size := HA.out.lt
      have hw8 : IntKind.u8.wrap (k : Int) = (k : Int) := by rw [IntKind.wrap_u8']; omega
      go_wp2
      go_region_with (first
        | (go_at_call 24; refine (of1 k _ _ ?hb ?hc hk8).mono ?_; (case hb => simp); (case hc => exact World.cell?_alloc_new wr _ _ 0); rintro e w1 ⟨rfl, hk1⟩; have HA1 : Hid (At w1 (w.heap.size + 1) (span a k)) := (by refine hk1.at ?_; first | exact HA.out.alloc _ | exact (HA.out.alloc _).drew | exact (HA.out.alloc _).drewN _); have HK1 : Hid (Kp wr w1) := (by refine Kp.trans ?_ hk1; first | exact (Kp.refl _).alloc _ | exact ((Kp.refl _).alloc _).drew | exact ((Kp.refl _).alloc _).drewN _); clear hk1; obtain ⟨d0, d1, d2, d3⟩ := HA1.out.cells; have hlt1 : w.heap.size + 1 < w1.heap.size := HA1.out.lt)
        | (go_at_call 23; refine (join2 (span a k) (addB (fun _ => false) k) _ _ ?hs ?hX).mono ?_; (case hs => simp); (case hX => exact last_of _ _); rintro e w2 ⟨rfl, hk2⟩; have HA2 : Hid (At w2 (w.heap.size + 1) (span a k)) := (by refine hk2.at ?_; first | exact HA1.out.alloc _ | exact (HA1.out.alloc _).drew | exact (HA1.out.alloc _).drewN _); have HK2 : Hid (Kp w1 w2) := (by refine Kp.trans ?_ hk2; first | exact (Kp.refl _).alloc _ | exact ((Kp.refl _).alloc _).drew | exact ((Kp.refl _).alloc _).drewN _); clear hk2; obtain ⟨e0, e1, e2, e3⟩ := HA2.out.cells; have f0 := HA2.out.frozen 0; have f1 := HA2.out.frozen 1; have f2 := HA2.out.frozen 2; have f3 := HA2.out.frozen 3))
      all_goals
        go_wp2_with fail
        refine ⟨⟨k + 1, by omega, .inl (by omega), by go_num, ?_, ?_⟩, by simp [intOf]; omega⟩
        · exact ((((HK.out.trans (HK1.out.trans HK2.out)).setCell (by simp) _).setCell (by simp) _).setCell (by simp) _).setCell (by simp) _
        · rw [show span a (k + 1) = orB (span a k) (addB (fun _ => false) k) from funext (fun i => (span_next a k h1 i).symm)]
          exact HA2.out.set4 _
    · have hz : At wr w.heap.size (fun _ => false) := hK.at (At.zero w)
      have hs : w.heap.size < wr.heap.size := hz.lt
      obtain ⟨c0, c1, c2, c3⟩ := hA.cells
      obtain ⟨d0, d1, d2, d3⟩ := hz.cells
      have f0 := hz.frozen 0; have f1 := hz.frozen 1; have f2 := hz.frozen 2; have f3 := hz.frozen 3
      have hke : k = max a (b + 1) := by omega
      subst hke
      have HK : Hid (Kp (w.alloc (.cells #[.int .u64 0, .int .u64 0, .int .u64 0, .int .u64 0] 24)) wr) := hK
      have HZ : Hid (At wr w.heap.size (fun _ => false)) := hz
      clear hK hA hz
      go_wp2
      refine bodyPost_ret (v := sv (span a (max a (b + 1)))) (ret_at Tryz.results22 _ _ w.heap.size _ rfl (HZ.out.set4 _)) rfl ⟨rfl, ?_⟩
      exact (((((((Kp.refl _).alloc _).trans HK.out).setCell (Nat.le_refl _) _).setCell (Nat.le_refl _) _).setCell (Nat.le_refl _) _).setCell (Nat.le_refl _) _)

/-- The bytes from a to b. -/
def rng (a b : Nat) : Nat → Bool := fun i => decide (a ≤ i) && decide (i ≤ b)

theorem range_any (a b : Nat) (w : World) (ha : a < 256) (hb : b < 256) :
    Calls Tryz.prog 22 #[.int .u8 (a : Nat), .int .u8 (b : Nat)] w fun e w' => e = .returned (sv (rng a b)) ∧ Kp w w' := by
  refine (range_core a b w ha hb).mono ?_
  rintro e w' ⟨rfl, hk⟩
  refine ⟨?_, hk⟩
  rw [show span a (max a (b + 1)) = rng a b by funext i; unfold span rng; rw [Bool.eq_iff_iff]; simp; omega]
end Go.Proofs.YtikmgckefbjbkaaGreatDoor
