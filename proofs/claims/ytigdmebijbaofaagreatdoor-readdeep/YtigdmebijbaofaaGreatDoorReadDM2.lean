/-
  Texts of this claim: Of, Range, Blk, Signs, Steps.
-/
import Derived.Test.YtigdmebijbaofaaGreatDoorReadDM1
import Derived.Deep.RegionWith
import Derived.Deep.RegionHeld3
import Derived.Deep.DeepCutAuto
import Derived.Deep.LoopGhost
/-! ### Of -/
namespace Go.Proofs.YtigdmebijbaofaaGreatDoor
open Go.RowKit
def memb (f : Nat → Nat) : Nat → Nat → Bool
 | 0 => fun _ => false
 | k + 1 => addB (memb f k) (f k)
theorem or_bit' (p : Nat → Bool) (b : Nat) : bits .or .u64 (wd p (b / 64) : Nat) (2 ^ (b % 64)) = ((wd (addB p b) (b / 64) : Nat) : Int) :=
 (congrArg (bits .or .u64 (wd p (b / 64) : Nat)) (Int.natCast_pow 2 (b % 64)).symm).trans (or_bit p b)
theorem set_blk (W : World) (q : Nat → Bool) (x d j B : Nat) (hB : B = W.heap.size) (hj : x / 64 = j) (hx : x < 256) :
  (((W.alloc (blk q)).drewN d).setCell ⟨B, j, none⟩ (.int .u64 (bits .or .u64 (wd q j : Nat) (2 ^ (x % 64))))) = (W.alloc (blk (addB q x))).drewN d := by
 subst hB hj
 rw [or_bit', show (((W.alloc (blk q)).drewN d).setCell ⟨W.heap.size, x / 64, none⟩ (.int .u64 (wd (addB q x) (x / 64) : Nat))) = ((W.alloc (blk q)).setCell ⟨W.heap.size, x / 64, none⟩ (.int .u64 (wd (addB q x) (x / 64) : Nat))).drewN d from rfl]
 rw [World.setCell_alloc_at _ _ _ _ _ rfl]
 have hk : x / 64 = 0 ∨ x / 64 = 1 ∨ x / 64 = 2 ∨ x / 64 = 3 := by omega
 rcases hk with hk | hk | hk | hk <;> rw [hk]
 ·
  rw [← wd_other q x 1 (by omega), ← wd_other q x 2 (by omega), ← wd_other q x 3 (by omega)]; rfl
 ·
  rw [← wd_other q x 0 (by omega), ← wd_other q x 2 (by omega), ← wd_other q x 3 (by omega)]; rfl
 ·
  rw [← wd_other q x 0 (by omega), ← wd_other q x 1 (by omega), ← wd_other q x 3 (by omega)]; rfl
 ·
  rw [← wd_other q x 0 (by omega), ← wd_other q x 1 (by omega), ← wd_other q x 2 (by omega)]; rfl
set_option maxHeartbeats 1000000 in
theorem of_core (f : Nat → Nat) (b o n cap : Nat) (w : World) (hn : n ≤ 4000) (hb : b < w.heap.size)
  (hcell : ∀ j, j < n → w.cell? ⟨b, o + j, none⟩ = some (.int .u8 (f j : Nat))) (hf : ∀ j, f j < 256) :
  Calls Tryz.prog 220 #[.slice (some ⟨b, o, none⟩) n cap] w fun e w' => e = .returned (sv (memb f n)) ∧ Kp w w' := by
 have HF : Hid (∀ j, f j < 256) := hf
 have HC : Hid (∀ j, j < n → w.cell? ⟨b, o + j, none⟩ = some (.int .u8 (f j : Nat))) := hcell
 clear hf hcell
 go_enter Tryz.func220, Tryz.ntmps220
 go_wp2
 go_loopw [8] (fun i wr => ∃ (k d : Nat), k ≤ n ∧ i = .int .i64 k ∧ wr = ((w.alloc (.cells #[.int .u64 0, .int .u64 0, .int .u64 0, .int .u64 0] 24)).alloc (.cells #[.int .u64 (wd (memb f k) 0 : Nat), .int .u64 (wd (memb f k) 1 : Nat), .int .u64 (wd (memb f k) 2 : Nat), .int .u64 (wd (memb f k) 3 : Nat)] 24)).drewN d) (fun i _ => n - (intOf i).toNat)
 case atStart => exact ⟨0, 0, Nat.zero_le _, rfl, by simp only [memb, wd_none]; rfl⟩
 case round =>
  obtain ⟨k, d, hk, rfl, rfl⟩ := hrel
  by_cases hlt : k < n
  ·
   have hc : (((w.alloc (.cells #[.int .u64 0, .int .u64 0, .int .u64 0, .int .u64 0] 24)).alloc (.cells #[.int .u64 (wd (memb f k) 0 : Nat), .int .u64 (wd (memb f k) 1 : Nat), .int .u64 (wd (memb f k) 2 : Nat), .int .u64 (wd (memb f k) 3 : Nat)] 24)).drewN d).cell? ⟨b, o + k, none⟩ = some (.int .u8 (f k : Nat)) :=
    (((((Kp.refl _).alloc _).alloc _).drewN _).cell (p := ⟨b, o + k, none⟩) hb).trans (HC.out k hlt)
   have hfk := HF.out k
   obtain ⟨x, hx⟩ : ∃ x, f k = x := ⟨_, rfl⟩
   rw [hx] at hc hfk
   have HX : Hid (f k = x) := hx
   clear hx HC HF
   have hk4 : x / 64 = 0 ∨ x / 64 = 1 ∨ x / 64 = 2 ∨ x / 64 = 3 := by omega
   rcases hk4 with hk4 | hk4 | hk4 | hk4
   ·
    have hq : (x : Int) / 64 = 0 := by omega
    go_wp2
    go_region_with (go_at_call 219; refine (bit_any _ _).mono ?_; rintro e w' ⟨rfl, rfl⟩)
    all_goals
     go_wp2_with fail
     go_round
     case rel => exact ⟨k + 1, _, hlt, by go_num, by rw [memb, HX.out]; exact set_blk _ _ _ _ _ _ (by simp) hk4 hfk⟩
     case measure => simp [intOf]; omega
   ·
    have hq : (x : Int) / 64 = 1 := by omega
    go_wp2
    go_region_with (go_at_call 219; refine (bit_any _ _).mono ?_; rintro e w' ⟨rfl, rfl⟩)
    all_goals
     go_wp2_with fail
     go_round
     case rel => exact ⟨k + 1, _, hlt, by go_num, by rw [memb, HX.out]; exact set_blk _ _ _ _ _ _ (by simp) hk4 hfk⟩
     case measure => simp [intOf]; omega
   ·
    have hq : (x : Int) / 64 = 2 := by omega
    go_wp2
    go_region_with (go_at_call 219; refine (bit_any _ _).mono ?_; rintro e w' ⟨rfl, rfl⟩)
    all_goals
     go_wp2_with fail
     go_round
     case rel => exact ⟨k + 1, _, hlt, by go_num, by rw [memb, HX.out]; exact set_blk _ _ _ _ _ _ (by simp) hk4 hfk⟩
     case measure => simp [intOf]; omega
   ·
    have hq : (x : Int) / 64 = 3 := by omega
    go_wp2
    go_region_with (go_at_call 219; refine (bit_any _ _).mono ?_; rintro e w' ⟨rfl, rfl⟩)
    all_goals
     go_wp2_with fail
     go_round
     case rel => exact ⟨k + 1, _, hlt, by go_num, by rw [memb, HX.out]; exact set_blk _ _ _ _ _ _ (by simp) hk4 hfk⟩
     case measure => simp [intOf]; omega
  ·
   have hkn : k = n := by omega
   subst hkn
   clear HC HF
   go_wp2
   refine bodyPost_ret (v := sv (memb f k)) (by simp [results, Tryz.results220, go_sem]) rfl ⟨rfl, ?_⟩
   exact (((((((Kp.refl _).alloc _).alloc _).drewN _).setCell (Nat.le_refl _) _).setCell (Nat.le_refl _) _).setCell (Nat.le_refl _) _).setCell (Nat.le_refl _) _
theorem of_one (x : Nat) (w : World) (B : Nat) (hB : B = w.heap.size) (hx : x < 256) :
  Calls Tryz.prog 220 #[.slice (some ⟨B, 0, none⟩) 1 1] (w.alloc (.cells #[.int .u8 (x : Nat)] 5)) fun e w' => e = .returned (sv (addB (fun _ => false) x)) ∧ Kp w w' := by
 subst hB
 refine (of_core (fun _ => x) w.heap.size 0 1 1 _ (by omega) (by simp) ?_ (fun _ => hx)).mono ?_
 ·
  intro j hj
  obtain rfl : j = 0 := by omega
  exact World.cell?_alloc_new w _ _ 0
 ·
  rintro e w' ⟨rfl, hk⟩
  exact ⟨rfl, ((Kp.refl _).alloc _).trans hk⟩
theorem of_two (x y : Nat) (w : World) (B : Nat) (hB : B = w.heap.size) (hx : x < 256) (hy : y < 256) :
  Calls Tryz.prog 220 #[.slice (some ⟨B, 0, none⟩) 2 2] (w.alloc (.cells #[.int .u8 (x : Nat), .int .u8 (y : Nat)] 5)) fun e w' => e = .returned (sv (addB (addB (fun _ => false) x) y)) ∧ Kp w w' := by
 subst hB
 refine (of_core (fun j => if j = 0 then x else y) w.heap.size 0 2 2 _ (by omega) (by simp) ?_ (fun j => by show ite _ _ _ < _; split <;> assumption)).mono ?_
 ·
  intro j hj
  have : j = 0 ∨ j = 1 := by omega
  rcases this with rfl | rfl
  ·
   exact World.cell?_alloc_new w _ _ 0
  ·
   exact World.cell?_alloc_new w _ _ 1
 ·
  rintro e w' ⟨rfl, hk⟩
  exact ⟨rfl, ((Kp.refl _).alloc _).trans hk⟩
theorem of1 (x : Nat) (w : World) (B : Nat) (hB : B < w.heap.size) (hc : w.cell? ⟨B, 0, none⟩ = some (.int .u8 (x : Nat))) (hx : x < 256) :
  Calls Tryz.prog 220 #[.slice (some ⟨B, 0, none⟩) 1 1] w fun e w' => e = .returned (sv (addB (fun _ => false) x)) ∧ Kp w w' := by
 refine (of_core (fun _ => x) B 0 1 1 w (by omega) hB ?_ (fun _ => hx)).mono ?_
 ·
  intro j hj
  obtain rfl : j = 0 := by omega
  exact hc
 ·
  rintro e w' ⟨rfl, hk⟩
  exact ⟨rfl, hk⟩
def span (a k : Nat) : Nat → Bool := fun i => decide (a ≤ i) && decide (i < k)
theorem span_next (a k : Nat) (h : a ≤ k) (i : Nat) : orB (span a k) (addB (fun _ => false) k) i = span a (k + 1) i := by
 unfold orB span addB
 rw [Bool.eq_iff_iff]
 simp
 omega
theorem Kp.at {w w' : World} {S : Nat} {q : Nat → Bool} (hk : Kp w w') (h : At w S q) : At w' S q := h.kp hk
theorem At.frozen {w : World} {S : Nat} {q : Nat → Bool} (h : At w S q) (j : Nat) : w.frozen? ⟨S, j, none⟩ = false := by
 unfold At at h
 simp [World.frozen?, h]
abbrev zero4 : Obj := .cells #[.int .u64 0, .int .u64 0, .int .u64 0, .int .u64 0] 24
theorem At.zero (w : World) : At (w.alloc zero4) w.heap.size (fun _ => false) := by
 have := At.new w (fun _ => false)
 rw [show blk (fun _ => false) = zero4 by simp only [blk, wd_none]; rfl] at this
 exact this
theorem sv_none : sv (fun _ => false) = vv 0 0 0 0 := by
 show vv _ _ _ _ = _
 rw [wd_none, wd_none, wd_none, wd_none]
theorem ret_at {fn : Func} {p : Tmp} (h : fn.results = #[.cell p 24]) (tmps : Array Value) (w : World) (S : Nat) (q : Nat → Bool)
  (hp : tmps.getD p undef = .pointer (some ⟨S, 0, none⟩)) (hA : At w S q) : (results fn tmps).run Tryz.prog w = .ok (sv q) w :=
 results_cell_row h tmps w S 24 _ (0, 0) _ hp hA Tryz.underlying24 rfl (by kernel_rfl)
set_option maxRecDepth 100000 in
set_option maxHeartbeats 2000000 in
theorem range_core (a b : Nat) (w : World) (ha : a < 256) (hb : b < 256) :
  Calls Tryz.prog 235 #[.int .u8 (a : Nat), .int .u8 (b : Nat)] w fun e w' => e = .returned (sv (span a (max a (b + 1)))) ∧ Kp w w' := by
 go_enter Tryz.func235, Tryz.ntmps235
 go_wp2
 go_loopw [6] (fun i wr => ∃ k : Nat, a ≤ k ∧ (k ≤ b + 1 ∨ k = a) ∧ i = .int .i64 k ∧ Kp (w.alloc (.cells #[.int .u64 0, .int .u64 0, .int .u64 0, .int .u64 0] 24)) wr ∧ At wr (w.heap.size + 1) (span a k)) (fun i _ => b + 1 - (intOf i).toNat)
 case atStart =>
  refine ⟨a, Nat.le_refl _, .inr rfl, rfl, (Kp.refl _).alloc _, ?_⟩
  have h := At.zero (w.alloc zero4)
  rw [show (w.alloc zero4).heap.size = w.heap.size + 1 by simp] at h
  rw [show span a a = fun _ => false by funext i; unfold span; simp]
  exact h
 case round =>
  obtain ⟨k, h1, h2, rfl, hK, hA⟩ := hrel
  by_cases hlt : k ≤ b
  ·
   obtain ⟨c0, c1, c2, c3⟩ := hA.cells
   have HK : Hid (Kp (w.alloc (.cells #[.int .u64 0, .int .u64 0, .int .u64 0, .int .u64 0] 24)) wr) := hK
   have HA : Hid (At wr (w.heap.size + 1) (span a k)) := hA
   clear hK hA
   have hk8 : k < 256 := by omega
   have hlt0 : w.heap.size + 1 < wr.heap.size := HA.out.lt
   have hw8 : IntKind.u8.wrap (k : Int) = (k : Int) := by rw [IntKind.wrap_u8']; omega
   go_wp2
   go_region_with (first
    | (go_at_call 220; refine (of1 k _ _ ?hb ?hc hk8).mono ?_; (case hb => simp); (case hc => exact World.cell?_alloc_new wr _ _ 0); rintro e w1 ⟨rfl, hk1⟩; have HA1 : Hid (At w1 (w.heap.size + 1) (span a k)) := (by refine hk1.at ?_; first | exact HA.out.alloc _ | exact (HA.out.alloc _).drew | exact (HA.out.alloc _).drewN _); have HK1 : Hid (Kp wr w1) := (by refine Kp.trans ?_ hk1; first | exact (Kp.refl _).alloc _ | exact ((Kp.refl _).alloc _).drew | exact ((Kp.refl _).alloc _).drewN _); clear hk1; obtain ⟨d0, d1, d2, d3⟩ := HA1.out.cells; have hlt1 : w.heap.size + 1 < w1.heap.size := HA1.out.lt)
    | (go_at_call 221; refine (join2 (span a k) (addB (fun _ => false) k) _ _ ?hs ?hX).mono ?_; (case hs => simp); (case hX => exact last_of _ _); rintro e w2 ⟨rfl, hk2⟩; have HA2 : Hid (At w2 (w.heap.size + 1) (span a k)) := (by refine hk2.at ?_; first | exact HA1.out.alloc _ | exact (HA1.out.alloc _).drew | exact (HA1.out.alloc _).drewN _); have HK2 : Hid (Kp w1 w2) := (by refine Kp.trans ?_ hk2; first | exact (Kp.refl _).alloc _ | exact ((Kp.refl _).alloc _).drew | exact ((Kp.refl _).alloc _).drewN _); clear hk2; obtain ⟨e0, e1, e2, e3⟩ := HA2.out.cells; have f0 := HA2.out.frozen 0; have f1 := HA2.out.frozen 1; have f2 := HA2.out.frozen 2; have f3 := HA2.out.frozen 3))
   all_goals
    go_wp2_with fail
    refine ⟨⟨k + 1, by omega, .inl (by omega), by go_num, ?_, ?_⟩, by simp [intOf]; omega⟩
    ·
     exact ((((HK.out.trans (HK1.out.trans HK2.out)).setCell (by simp) _).setCell (by simp) _).setCell (by simp) _).setCell (by simp) _
    ·
     rw [show span a (k + 1) = orB (span a k) (addB (fun _ => false) k) from funext (fun i => (span_next a k h1 i).symm)]
     exact HA2.out.set4 _
  ·
   have hz : At wr w.heap.size (fun _ => false) := hK.at (At.zero w)
   have hs : w.heap.size < wr.heap.size := hz.lt
   obtain ⟨c0, c1, c2, c3⟩ := hA.cells
   obtain ⟨d0, d1, d2, d3⟩ := hz.cells
   have f0 := hz.frozen 0; have f1 := hz.frozen 1; have f2 := hz.frozen 2; have f3 := hz.frozen 3
   have hke : k = max a (b + 1) := by omega
   subst hke
   have HK : Hid (Kp (w.alloc (.cells #[.int .u64 0, .int .u64 0, .int .u64 0, .int .u64 0] 24)) wr) := hK
   have HZ : Hid (At wr w.heap.size (fun _ => false)) := hz
   clear hK hA hz
   go_wp2
   refine bodyPost_ret (v := sv (span a (max a (b + 1)))) (ret_at Tryz.results235 _ _ w.heap.size _ rfl (HZ.out.set4 _)) rfl ⟨rfl, ?_⟩
   exact (((((((Kp.refl _).alloc _).trans HK.out).setCell (Nat.le_refl _) _).setCell (Nat.le_refl _) _).setCell (Nat.le_refl _) _).setCell (Nat.le_refl _) _)
def rng (a b : Nat) : Nat → Bool := fun i => decide (a ≤ i) && decide (i ≤ b)
theorem range_any (a b : Nat) (w : World) (ha : a < 256) (hb : b < 256) :
  Calls Tryz.prog 235 #[.int .u8 (a : Nat), .int .u8 (b : Nat)] w fun e w' => e = .returned (sv (rng a b)) ∧ Kp w w' := by
 refine (range_core a b w ha hb).mono ?_
 rintro e w' ⟨rfl, hk⟩
 refine ⟨?_, hk⟩
 rw [show span a (max a (b + 1)) = rng a b by funext i; unfold span rng; rw [Bool.eq_iff_iff]; simp; omega]
theorem Kp.size {a b : World} (h : Kp a b) : a.heap.size ≤ b.heap.size := Below.size h
theorem last_at (w : World) (o : Obj) (B : Nat) (h : w.heap.size = B) : (w.alloc o).heap[B]? = some o := by subst h; exact last_of w o
theorem last_drew (w : World) (o : Obj) : ((w.alloc o).drew).heap[w.heap.size]? = some o := last_of w o
theorem bl_kp {w w' : World} {B : Nat} {o : Obj} (h : w.heap[B]? = some o) (hk : Kp w w') : w'.heap[B]? = some o := (hk.block B (Array.getElem?_eq_some_iff.1 h).1).trans h
theorem bl_cell {w : World} {B : Nat} {cs : Array Value} {t : TypeId} (h : w.heap[B]? = some (.cells cs t)) (j : Nat) (v : Value) (hv : cs[j]? = some v) : w.cell? ⟨B, j, none⟩ = some v := by
 simp [World.cell?, h, hv]
theorem bl_cellf {w : World} {B : Nat} {cs : Array Value} {t : TypeId} {fr : Nat × Nat} (h : w.heap[B]? = some (.cells cs t fr)) (j : Nat) (v : Value) (hv : cs[j]? = some v) : w.cell? ⟨B, j, none⟩ = some v := by
 simp [World.cell?, h, hv]
theorem bl_lt {w : World} {B : Nat} {o : Obj} (h : w.heap[B]? = some o) : B < w.heap.size := (Array.getElem?_eq_some_iff.1 h).1
theorem bl_frozen {w : World} {B : Nat} {cs : Array Value} {t : TypeId} (h : w.heap[B]? = some (.cells cs t)) (j : Nat) : w.frozen? ⟨B, j, none⟩ = false := by
 simp [World.frozen?, h]
theorem bl_alloc {w : World} {B : Nat} {o : Obj} (h : w.heap[B]? = some o) (o' : Obj) : (w.alloc o').heap[B]? = some o := bl_kp h ((Kp.refl _).alloc _)
theorem bl_drew {w : World} {S : Nat} {o : Obj} (h : w.heap[S]? = some o) : w.drew.heap[S]? = some o := h
theorem bl_set {w : World} {B S j : Nat} {o : Obj} (h : w.heap[B]? = some o) (hne : B ≠ S) (u : Value) : (w.setCell ⟨S, j, none⟩ u).heap[B]? = some o := (Below.heap_setCell w ⟨S, j, none⟩ u B hne).trans h
theorem bl_put {w : World} {B j : Nat} {cs : Array Value} {t : TypeId} (h : w.heap[B]? = some (.cells cs t)) (u : Value) : (w.setCell ⟨B, j, none⟩ u).heap[B]? = some (.cells (cs.setIfInBounds j u) t) := by
 simp [World.setCell, Array.getElem?_modify, h]
structure Ks (P : Nat) (w w' : World) : Prop where
 lo : Below P w w'
 block : ∀ b, b < w.heap.size → b ≠ P → w'.heap[b]? = w.heap[b]?
theorem Ks.refl (P : Nat) (w : World) : Ks P w w := ⟨Below.refl _ _, fun _ _ _ => rfl⟩
theorem Ks.size {P : Nat} {a b : World} (h : Ks P a b) : a.heap.size ≤ b.heap.size := h.lo.size
theorem Ks.trans {P : Nat} {a b c : World} (h : Ks P a b) (g : Ks P b c) : Ks P a c := ⟨h.lo.trans g.lo, fun k hk hne => (g.block k (Nat.lt_of_lt_of_le hk h.size) hne).trans (h.block k hk hne)⟩
theorem Kp.ks {P : Nat} {a b : World} (h : Kp a b) (hP : P ≤ a.heap.size) : Ks P a b := ⟨Below.mono h hP, fun k hk _ => h.block k hk⟩
theorem Ks.kp {P : Nat} {a b c : World} (h : Ks P a b) (k : Kp b c) (hP : P ≤ b.heap.size) : Ks P a c := h.trans (k.ks hP)
theorem Ks.set {P : Nat} {a b : World} (h : Ks P a b) (j : Nat) (u : Value) : Ks P a (b.setCell ⟨P, j, none⟩ u) := ⟨h.lo.setCell (Nat.le_refl _) u, fun k hk hne => (Below.heap_setCell b ⟨P, j, none⟩ u k hne).trans (h.block k hk hne)⟩
theorem Ks.drew {P : Nat} {a b : World} (h : Ks P a b) : Ks P a b.drew := ⟨h.lo.drew, h.block⟩
theorem bl_ks {P : Nat} {w w' : World} {B : Nat} {o : Obj} (h : w.heap[B]? = some o) (hne : B ≠ P) (hk : Ks P w w') : w'.heap[B]? = some o := (hk.block B (bl_lt h) hne).trans h
theorem Ks.up {P : Nat} {W w w' : World} (h : Ks P w w') (k : Kp W w) (hP : W.heap.size ≤ P) : Kp W w' :=
 ⟨h.lo.os.trans k.os, h.lo.tape.trans k.tape, h.lo.output.trans k.output, Nat.le_trans k.size h.size, fun b hb => (h.block b (Nat.lt_of_lt_of_le hb k.size) (by omega)).trans (k.block b hb)⟩
theorem bl_set3 {w : World} {B : Nat} {a b c : Value} {t : TypeId} (h : w.heap[B]? = some (.cells #[a, b, c] t)) (x y z : Value) : (((w.setCell ⟨B, 0, none⟩ x).setCell ⟨B, 1, none⟩ y).setCell ⟨B, 2, none⟩ z).heap[B]? = some (.cells #[x, y, z] t) := bl_put (bl_put (bl_put h x) y) z
theorem bl_set4 {w : World} {B : Nat} {a b c d : Value} {t : TypeId} (h : w.heap[B]? = some (.cells #[a, b, c, d] t)) (x y z u : Value) : ((((w.setCell ⟨B, 0, none⟩ x).setCell ⟨B, 1, none⟩ y).setCell ⟨B, 2, none⟩ z).setCell ⟨B, 3, none⟩ u).heap[B]? = some (.cells #[x, y, z, u] t) := bl_put (bl_put (bl_put (bl_put h x) y) z) u
theorem ks_set3 {w : World} {B : Nat} (x y z : Value) : Ks B w (((w.setCell ⟨B, 0, none⟩ x).setCell ⟨B, 1, none⟩ y).setCell ⟨B, 2, none⟩ z) := (((Ks.refl B w).set 0 x).set 1 y).set 2 z
theorem ks_set4 {w : World} {B : Nat} (x y z u : Value) : Ks B w ((((w.setCell ⟨B, 0, none⟩ x).setCell ⟨B, 1, none⟩ y).setCell ⟨B, 2, none⟩ z).setCell ⟨B, 3, none⟩ u) := ((((Ks.refl B w).set 0 x).set 1 y).set 2 z).set 3 u
theorem conv_any (w : World) (B : Nat) (C : Array Value) (n c : Nat) (h : w.heap[B]? = some (.cells C 5)) :
  ∃ w', (convert 59 59 (.slice (some ⟨B, 0, none⟩) n c)).run Tryz.prog w = .ok (.slice (some ⟨B, 0, none⟩) n c) w' ∧ w'.heap[B]? = some (.cells C 5 (C.size, C.size + 1)) ∧ Ks B w w' := by
 have hsh : w.shape? B = some (5, C.size) := by unfold World.shape?; rw [h]
 refine ⟨w.freeze ⟨B, C.size, none⟩ 1, ?_, ?_, ?_⟩
 ·
  simp [convert, run_underlying Tryz.underlying59, run_underlying Tryz.underlying5, markStringish, hsh]
 ·
  simp [World.freeze, Array.getElem?_modify, h]
 ·
  refine ⟨⟨rfl, rfl, rfl, ?_, fun b hb => ?_⟩, fun b hb hne => ?_⟩
  ·
   simp [World.freeze]
  ·
   simp only [World.freeze]; rw [if_neg (by decide)]; rw [Array.getElem?_modify, if_neg (by omega)]
  ·
   simp only [World.freeze]; rw [if_neg (by decide)]; rw [Array.getElem?_modify, if_neg (by omega)]
def ch (s : ByteArray) (i : Nat) : Nat := (s.data[i]?.getD 0).toNat
theorem ch_lt (s : ByteArray) (i : Nat) : ch s i < 256 := UInt8.toNat_lt _
theorem run_ch (s : ByteArray) (k : Nat) (h : k < s.size) (w : World) : (Instr.index 9 (.string s) (.int .i64 (k : Int))).run Tryz.prog w = .ok (.int .u8 (ch s k : Nat)) w := by
 rw [run_index_string w 9 s .i64 (k : Int) (by kernel_rfl), dif_pos ⟨by omega, by omega⟩]
 have e : (s[((k : Int)).toNat]'(by omega)) = s.data[k]'h := rfl
 rw [e]
 unfold ch
 rw [Array.getElem?_eq_getElem (show k < s.data.size from h)]
 rfl
def framing (b : Nat) : Nat := if b = 40 then 7 else if b = 41 then 8 else if b = 123 then 13 else 0
def bareE (b : Nat) : Nat := if b = 124 then 9 else if b = 43 then 11 else if b = 63 then 12 else if framing b = 0 then 2 else framing b
def bare (b : Nat) (ere : Bool) : Nat := if b = 46 then 3 else if b = 91 then 4 else if b = 94 then 5 else if b = 36 then 6 else if b = 42 then 10 else if ere then bareE b else 2
theorem framing_any (b : Nat) (w : World) : Calls Tryz.prog 236 #[.int .u8 (b : Int)] w fun e w' => e = .returned (.int .i64 (framing b : Nat)) ∧ w' = w := by
 by_cases h1 : b = 40
 ·
  subst h1; go_enter Tryz.func236, Tryz.ntmps236; go_wp2; go_ret; exact ⟨rfl, rfl⟩
 by_cases h2 : b = 41
 ·
  subst h2; go_enter Tryz.func236, Tryz.ntmps236; go_wp2; go_ret; exact ⟨rfl, rfl⟩
 by_cases h3 : b = 123
 ·
  subst h3; go_enter Tryz.func236, Tryz.ntmps236; go_wp2; go_ret; exact ⟨rfl, rfl⟩
 have e : Hid (framing b = 0) := by show _ = _; unfold framing; rw [if_neg h1, if_neg h2, if_neg h3]
 have g1 : ((b : Int) == 40) = false := by simp; omega
 have g2 : ((b : Int) == 41) = false := by simp; omega
 have g3 : ((b : Int) == 123) = false := by simp; omega
 go_enter Tryz.func236, Tryz.ntmps236; go_wp2; go_ret
 exact ⟨by rw [e.out]; rfl, rfl⟩
theorem bareE_any (b : Nat) (w : World) : Calls Tryz.prog 237 #[.int .u8 (b : Int)] w fun e w' => e = .returned (.int .i64 (bareE b : Nat)) ∧ w' = w := by
 by_cases h1 : b = 124
 ·
  subst h1; go_enter Tryz.func237, Tryz.ntmps237; go_wp2; go_ret; exact ⟨rfl, rfl⟩
 by_cases h2 : b = 43
 ·
  subst h2; go_enter Tryz.func237, Tryz.ntmps237; go_wp2; go_ret; exact ⟨rfl, rfl⟩
 by_cases h3 : b = 63
 ·
  subst h3; go_enter Tryz.func237, Tryz.ntmps237; go_wp2; go_ret; exact ⟨rfl, rfl⟩
 have e : Hid (bareE b = if framing b = 0 then 2 else framing b) := by show _ = _; unfold bareE; rw [if_neg h1, if_neg h2, if_neg h3]
 have g1 : ((b : Int) == 124) = false := by simp; omega
 have g2 : ((b : Int) == 43) = false := by simp; omega
 have g3 : ((b : Int) == 63) = false := by simp; omega
 obtain ⟨k, hk⟩ : ∃ k, framing b = k := ⟨_, rfl⟩
 have HK : Hid (framing b = k) := hk
 rw [hk] at e
 clear hk
 by_cases h0 : k = 0
 ·
  subst h0
  go_enter Tryz.func237, Tryz.ntmps237
  go_wp2_with (go_at_call 236; refine (framing_any b _).mono ?_; rintro e w ⟨rfl, rfl⟩; rw [HK.out])
  go_ret
  exact ⟨by rw [e.out]; rfl, rfl⟩
 ·
  have g4 : ((k : Int) != 0) = true := by simp; omega
  have g5 : ¬ (k : Int) = 0 := by omega
  go_enter Tryz.func237, Tryz.ntmps237
  go_wp2_with (go_at_call 236; refine (framing_any b _).mono ?_; rintro e w ⟨rfl, rfl⟩; rw [HK.out])
  go_ret
  exact ⟨by rw [e.out, if_neg h0]; rfl, rfl⟩
theorem bare_any (b : Nat) (ere : Bool) (w : World) : Calls Tryz.prog 209 #[.int .u8 (b : Int), .bool ere] w fun e w' => e = .returned (.int .i64 (bare b ere : Nat)) ∧ w' = w := by
 by_cases h1 : b = 46
 ·
  subst h1; go_enter Tryz.func209, Tryz.ntmps209; go_wp2; go_ret; exact ⟨rfl, rfl⟩
 by_cases h2 : b = 91
 ·
  subst h2; go_enter Tryz.func209, Tryz.ntmps209; go_wp2; go_ret; exact ⟨rfl, rfl⟩
 by_cases h3 : b = 94
 ·
  subst h3; go_enter Tryz.func209, Tryz.ntmps209; go_wp2; go_ret; exact ⟨rfl, rfl⟩
 by_cases h4 : b = 36
 ·
  subst h4; go_enter Tryz.func209, Tryz.ntmps209; go_wp2; go_ret; exact ⟨rfl, rfl⟩
 by_cases h5 : b = 42
 ·
  subst h5; go_enter Tryz.func209, Tryz.ntmps209; go_wp2; go_ret; exact ⟨rfl, rfl⟩
 have e : Hid (bare b ere = if ere then bareE b else 2) := by show _ = _; unfold bare; rw [if_neg h1, if_neg h2, if_neg h3, if_neg h4, if_neg h5]
 have g1 : ((b : Int) == 46) = false := by simp; omega
 have g2 : ((b : Int) == 91) = false := by simp; omega
 have g3 : ((b : Int) == 94) = false := by simp; omega
 have g4 : ((b : Int) == 36) = false := by simp; omega
 have g5 : ((b : Int) == 42) = false := by simp; omega
 cases ere with
 | true =>
  go_enter Tryz.func209, Tryz.ntmps209
  go_wp2_with (go_at_call 237; refine (bareE_any b _).mono ?_; rintro e w ⟨rfl, rfl⟩)
  go_ret
  exact ⟨by rw [e.out]; rfl, rfl⟩
 | false =>
  go_enter Tryz.func209, Tryz.ntmps209
  go_wp2
  go_ret
  exact ⟨by rw [e.out]; rfl, rfl⟩
def spec (ere : Bool) (b : Nat) : Bool := (b == 46 || b == 91 || b == 93 || b == 42 || b == 94 || b == 36 || b == 92 || b == 47) || (ere && (b == 43 || b == 63 || b == 123 || b == 125 || b == 124 || b == 40 || b == 41))
def inL (l : List Nat) : Nat → Bool := fun k => l.elem k
theorem memb_list (l : List Nat) (n : Nat) (h : n ≤ l.length) : memb (fun j => l.getD j 0) n = inL (l.take n) := by
 induction n with
 | zero => funext k; simp [memb, inL]
 | succ n ih =>
  funext k
  have hn : n < l.length := by omega
  show (memb _ n k || k == l.getD n 0) = _
  rw [ih (by omega)]
  unfold inL
  rw [Bool.eq_iff_iff]
  simp [List.getD_eq_getElem?_getD, List.getElem?_eq_getElem hn]
  rw [List.take_succ_eq_append_getElem hn, List.mem_append, List.mem_singleton]
theorem of_list (l : List Nat) (n cap B : Nat) (w : World) (fr : Nat × Nat) (hl : l.length = n) (hn : n ≤ 4000) (hb : ∀ x ∈ l, x < 256)
  (h : w.heap[B]? = some (.cells (l.map fun x : Nat => (.int .u8 (x : Int) : Value)).toArray 5 fr)) :
  Calls Tryz.prog 220 #[.slice (some ⟨B, 0, none⟩) n cap] w fun e w' => e = .returned (sv (inL l)) ∧ Kp w w' := by
 refine (of_core (fun j => l.getD j 0) B 0 n cap w hn (Array.getElem?_eq_some_iff.1 h).1 ?_ ?_).mono ?_
 ·
  intro j hj
  refine bl_cellf h _ _ ?_
  simp [List.getElem?_eq_getElem (show j < l.length by omega), List.getD_eq_getElem?_getD]
 ·
  intro j
  by_cases hj : j < l.length
  ·
   simp only [List.getD_eq_getElem?_getD, List.getElem?_eq_getElem hj, Option.getD_some]; exact hb _ (List.getElem_mem hj)
  ·
   simp [List.getD_eq_getElem?_getD, List.getElem?_eq_none (show l.length ≤ j by omega)]
 ·
  rintro e w' ⟨rfl, hk⟩
  refine ⟨?_, hk⟩
  rw [memb_list l n (by omega), List.take_of_length_le (by omega)]
open Go
section
variable {P : Program} {ops : Array Oper} {Q : Exit → Act → World → Prop} {md : Region.Mode} {S : World → Prop} {z : Nat}
def anyZ (P : Program) (md : Region.Mode) (ops : Array Oper) (Q : Exit → Act → World → Prop) (S : World → Prop) (z : Nat) : Nat → Array Bool → Act → World → Prop
 | 0, listed, a, w => Region.ready md ops listed = [] ∧ Q .normal a w
 | fuel + 1, listed, a, w =>
  (Region.ready md ops listed = [] → Q .normal a w) ∧
  ∀ i ∈ Region.ready md ops listed, wpOp P ops Q i (fun a' w' => (i ≠ z → listed.getD z true = false → S w') ∧ anyZ P md ops Q S z fuel (listed.setIfInBounds i true) a' w') a w
theorem any_of_Z : ∀ (fuel : Nat) (listed : Array Bool) (a : Act) (w : World), anyZ P md ops Q S z fuel listed a w → wpAny P md ops Q fuel listed a w
 | 0, _, _, _, h => h
 | fuel + 1, _, _, _, h => ⟨h.1, fun i hi => wpOp_mono (fun a' w' h' => any_of_Z fuel _ a' w' h'.2) (h.2 i hi)⟩
theorem unlisted {i : Nat} {listed : Array Bool} (h : i ∈ Region.ready md ops listed) : listed.getD i true = false := (mem_ready.1 h).1
def Shutd (md : Region.Mode) (ops : Array Oper) (listed : Array Bool) : Prop := ∀ j oj, ops[j]? = some oj → listed.getD j true = true → ∀ e ∈ oj.after, Region.binds md e = true → listed.getD e.on true = true
/-- z waits for i, be it along others. -/
inductive WaitsT (md : Region.Mode) (ops : Array Oper) : Nat → Nat → Prop
 | one {z i : Nat} {oz : Oper} (hz : ops[z]? = some oz) (e : Edge) (he : e ∈ oz.after) (hb : Region.binds md e = true) (ho : e.on = i) : WaitsT md ops z i
 | more {z k i : Nat} {oz : Oper} (hz : ops[z]? = some oz) (e : Edge) (he : e ∈ oz.after) (hb : Region.binds md e = true) (ho : e.on = k) (h : WaitsT md ops k i) : WaitsT md ops z i
theorem not_listed {z i : Nat} {listed : Array Bool} (hs : Shutd md ops listed) (h : WaitsT md ops z i) (hi : listed.getD i true = false) : listed.getD z true = false := by
 induction h with
 | one hz e he hb ho =>
  cases hc : listed.getD _ true with
  | false => rfl
  | true => have := hs _ _ hz hc e he hb; rw [ho, hi] at this; cases this
 | more hz e he hb ho _ ih =>
  cases hc : listed.getD _ true with
  | false => rfl
  | true => have := hs _ _ hz hc e he hb; rw [ho, ih hi] at this; cases this
theorem on_listed {j : Nat} {oj : Oper} {listed : Array Bool} (hj : j ∈ Region.ready md ops listed) (hoj : ops[j]? = some oj) (e : Edge) (he : e ∈ oj.after) (hb : Region.binds md e = true) : listed.getD e.on true = true := by
 obtain ⟨_, oj', hoj', hall⟩ := mem_ready.1 hj
 rw [hoj] at hoj'
 obtain rfl : oj = oj' := by injection hoj'
 have h1 := hall e he hb
 rcases Nat.lt_or_ge e.on listed.size with h' | h'
 ·
  simp [h'] at h1 ⊢; exact h1
 ·
  simp [Array.getElem?_eq_none h'] at h1
theorem not_yet' {z i j : Nat} {listed : Array Bool} (hs : Shutd md ops listed) (h : WaitsT md ops z i) (hi : listed.getD i true = false) (hj : j ∈ Region.ready md ops listed) : j ≠ z := by
 intro e
 subst e
 cases h with
 | one hz e he hb ho => have := on_listed hj hz e he hb; rw [ho, hi] at this; cases this
 | more hz e he hb ho h => have := on_listed hj hz e he hb; rw [ho, not_listed hs h hi] at this; cases this
theorem getD_set_true {j k : Nat} {listed : Array Bool} (h : listed.getD k true = true) : (listed.setIfInBounds j true).getD k true = true := by
 by_cases hjk : j = k
 ·
  subst hjk
  by_cases hlt : j < listed.size
  ·
   simp [hlt]
  ·
   simp [Array.getD, hlt]
 ·
  rw [getD_set_ne true hjk]; exact h
theorem Shutd.set {j : Nat} {listed : Array Bool} (hs : Shutd md ops listed) (hj : j ∈ Region.ready md ops listed) : Shutd md ops (listed.setIfInBounds j true) := by
 intro k ok hk hkl e he hb
 by_cases hjk : j = k
 ·
  subst hjk; exact getD_set_true (on_listed hj hk e he hb)
 ·
  rw [getD_set_ne true hjk] at hkl; exact getD_set_true (hs k ok hk hkl e he hb)
theorem anyZ_first {i : Nat} {oi : Oper} {v : Value} (hi : ops[i]? = some oi) (hsel : ∀ (j : Nat) (o : Oper) cs b, ops[j]? = some o → o.op ≠ .select cs b)
  (hQ : ∀ c a w, Q (.panic c) (a.put oi.dst v) w → Q (.panic c) a w) (hw : WaitsT md ops z i) :
  ∀ (fuel : Nat) (listed : Array Bool) (a : Act) (w : World),
   (∀ j oj, ops[j]? = some oj → j ≠ i → listed.getD j true = false → (∀ e ∈ oj.after, Region.binds md e = true → e.on ≠ i) → oi.apart ops oj = true) →
   i ∈ Region.ready md ops listed → Shutd md ops listed → YieldsIf P ops S oi v a → S w →
   anyZ P md ops Q S z fuel (listed.setIfInBounds i true) (a.put oi.dst v) w → anyZ P md ops Q S z (fuel + 1) listed a w := by
 intro fuel
 induction fuel with
 | zero =>
  intro listed a w _ hr _ hy hS H
  refine ⟨fun h => (by rw [h] at hr; cases hr), fun j hj => ?_⟩
  by_cases hji : j = i
  ·
   subst hji; exact hy.wpOp hi hS ⟨fun _ _ => hS, H⟩
  ·
   have := ready_mono hj hji
   rw [H.1] at this
   cases this
 | succ fuel ih =>
  intro listed a w hfree hr hsh hy hS H
  have hil := unlisted hr
  have hzl := not_listed hsh hw hil
  refine ⟨fun h => (by rw [h] at hr; cases hr), fun j hj => ?_⟩
  by_cases hji : j = i
  ·
   subst hji; exact hy.wpOp hi hS ⟨fun _ _ => hS, H⟩
  ·
   have hjz := not_yet' hsh hw hil hj
   have hiz : i ≠ z := not_yet' hsh hw hil hr
   have h1 := H.2 j (ready_mono hj hji)
   obtain ⟨hjun, oj, hoj, hall⟩ := mem_ready.1 hj
   have hnot : ∀ e ∈ oj.after, Region.binds md e = true → e.on ≠ i := fun e he hb heq => by
    have h1 := hall e he hb
    rw [heq] at h1
    rcases Nat.lt_or_ge i listed.size with h' | h'
    ·
     simp [h'] at hil h1; rw [hil] at h1; cases h1
    ·
     simp [Array.getElem?_eq_none h'] at h1
   have h2 := wpOp_putIf hoj (hfree j oj hoj hji hjun hnot) (fun cs b => hsel i oi cs b hi) (fun cs b => hsel j oj cs b hoj) hQ hy h1
   have hfree' : ∀ k ok, ops[k]? = some ok → k ≠ i → (listed.setIfInBounds j true).getD k true = false →
     (∀ e ∈ ok.after, Region.binds md e = true → e.on ≠ i) → oi.apart ops ok = true := fun k ok hk hki hun hno => by
    refine hfree k ok hk hki ?_ hno
    by_cases hjk : j = k
    ·
     subst hjk; exact hjun
    ·
     rw [getD_set_ne true hjk] at hun; exact hun
   refine wpOp_mono (fun a' w' h3 => ?_) h2
   have hS' : S w' := h3.2.1 hjz (by rw [getD_set_ne true hiz]; exact hzl)
   refine ⟨fun _ _ => hS', ih (listed.setIfInBounds j true) a' w' hfree' (ready_mono hr (Ne.symm hji)) (hsh.set hj) h3.1 hS' ?_⟩
   rw [Array.setIfInBounds_comm _ _ hji]
   exact h3.2.2
def edgeB (md : Region.Mode) (ops : Array Oper) (z i : Nat) : Bool := match ops[z]? with
 | some oz => oz.after.any fun e => Region.binds md e && e.on == i
 | none => false
def pathB (md : Region.Mode) (ops : Array Oper) (z : Nat) : List Nat → Nat → Bool
 | [], i => edgeB md ops z i
 | k :: ks, i => edgeB md ops z k && pathB md ops k ks i
theorem edge_of {z i : Nat} (h : edgeB md ops z i = true) : ∃ oz e, ops[z]? = some oz ∧ e ∈ oz.after ∧ Region.binds md e = true ∧ e.on = i := by
 unfold edgeB at h
 cases hz : ops[z]? with
 | none => rw [hz] at h; cases h
 | some oz =>
  rw [hz] at h
  simp only [Array.any_eq_true] at h
  obtain ⟨k, hk, he⟩ := h
  simp only [Bool.and_eq_true, beq_iff_eq] at he
  exact ⟨oz, oz.after[k], rfl, Array.getElem_mem hk, he.1, he.2⟩
theorem path_of {ks : List Nat} : ∀ {z i : Nat}, pathB md ops z ks i = true → WaitsT md ops z i := by
 induction ks with
 | nil => intro z i h; obtain ⟨oz, e, h1, h2, h3, h4⟩ := edge_of h; exact .one h1 e h2 h3 h4
 | cons k ks ih =>
  intro z i h
  simp only [pathB, Bool.and_eq_true] at h
  obtain ⟨oz, e, h1, h2, h3, h4⟩ := edge_of h.1
  exact .more h1 e h2 h3 h4 (ih h.2)
def shutB (md : Region.Mode) (ops : Array Oper) (listed : Array Bool) : Bool := (List.range ops.size).all fun j => match ops[j]? with
 | some oj => !(listed.getD j true) || oj.after.all fun e => !(Region.binds md e) || listed.getD e.on true
 | none => true
theorem shut_of {listed : Array Bool} (h : shutB md ops listed = true) : Shutd md ops listed := by
 intro j oj hj hl e he hb
 unfold shutB at h
 rw [List.all_eq_true] at h
 have := h j (List.mem_range.2 (Array.getElem?_eq_some_iff.1 hj).1)
 rw [hj] at this
 simp only [hl, Bool.not_true, Bool.false_or, Array.all_eq_true_iff_forall_mem] at this
 have := this e he
 rw [hb] at this
 simpa using this
theorem anyZ_take {i : Nat} {oi : Oper} {v : Value} {fuel : Nat} {listed : Array Bool} {a : Act} {w : World} (hi : ops[i]? = some oi)
  (hs : Region.noSelect ops = true) (hf : Region.free md ops listed i = true) (hr : (Region.ready md ops listed).contains i = true) {ks : List Nat} (hw : pathB md ops z ks i = true) (hz : shutB md ops listed = true)
  (hQ : ∀ c a w, Q (.panic c) (a.put oi.dst v) w → Q (.panic c) a w) (hy : YieldsIf P ops S oi v a) (hS : S w)
  (h : anyZ P md ops Q S z fuel (listed.setIfInBounds i true) (a.put oi.dst v) w) : anyZ P md ops Q S z (fuel + 1) listed a w :=
 anyZ_first hi (Region.noSelect_spec hs) hQ (path_of hw) fuel listed a w (Region.free_spec hi hf) (by simpa using hr) (shut_of hz) hy hS h
def AllZ (P : Program) (md : Region.Mode) (ops : Array Oper) (Q : Exit → Act → World → Prop) (S : World → Prop) (z fuel : Nat) (listed : Array Bool) (a : Act) (w : World) (rs : List Nat) : Prop :=
 ∀ i ∈ rs, wpOp P ops Q i (fun a' w' => (i ≠ z → listed.getD z true = false → S w') ∧ anyZ P md ops Q S z fuel (listed.setIfInBounds i true) a' w') a w
theorem AllZ.nil {fuel : Nat} {listed : Array Bool} {a : Act} {w : World} : AllZ P md ops Q S z fuel listed a w [] := fun _ h => by cases h
theorem AllZ.cons {fuel : Nat} {listed : Array Bool} {a : Act} {w : World} {i : Nat} {o : Oper} {rs : List Nat} (ho : ops[i]? = some o)
  (h : ∀ K' : Act → World → Prop, Shut (∀ a w, S w → (S w → anyZ P md ops Q S z fuel (listed.setIfInBounds i true) a w) → K' a w) → if Region.wanted o (yielded ops a.tmps) = true then Oper.wp P o a w K' Q else K' (a.put o.dst undef) w)
  (hs : AllZ P md ops Q S z fuel listed a w rs) : AllZ P md ops Q S z fuel listed a w (i :: rs) := fun j hj => by
 rcases List.mem_cons.1 hj with rfl | hj
 ·
  exact wpOp_step ho (fun K' hK => h K' (fun a w hS hW => hK a w ⟨fun _ _ => hS, hW hS⟩))
 ·
  exact hs j hj
theorem AllZ.last {fuel : Nat} {listed : Array Bool} {a : Act} {w : World} {i : Nat} {o : Oper} {rs : List Nat} (ho : ops[i]? = some o) (hl : i = z ∨ listed.getD z true = true)
  (h : ∀ K' : Act → World → Prop, Shut (∀ a w, anyZ P md ops Q S z fuel (listed.setIfInBounds i true) a w → K' a w) → if Region.wanted o (yielded ops a.tmps) = true then Oper.wp P o a w K' Q else K' (a.put o.dst undef) w)
  (hs : AllZ P md ops Q S z fuel listed a w rs) : AllZ P md ops Q S z fuel listed a w (i :: rs) := fun j hj => by
 rcases List.mem_cons.1 hj with rfl | hj
 ·
  refine wpOp_step ho (fun K' hK => h K' (fun a w hW => hK a w ⟨fun hn hf => ?_, hW⟩))
  rcases hl with rfl | hl
  ·
   exact absurd rfl hn
  ·
   rw [hl] at hf; cases hf
 ·
  exact hs j hj
theorem anyZ_ready {rs : List Nat} {fuel : Nat} {listed : Array Bool} {a : Act} {w : World} (hr : Region.ready md ops listed = rs) (hne : rs ≠ [])
  (h : AllZ P md ops Q S z fuel listed a w rs) : anyZ P md ops Q S z (fuel + 1) listed a w := ⟨fun h0 => absurd (hr ▸ h0) hne, hr ▸ h⟩
theorem anyZ_done {listed : Array Bool} {a : Act} {w : World} (hr : Region.ready md ops listed = []) (h : Q .normal a w) : ∀ fuel, anyZ P md ops Q S z fuel listed a w
 | 0 => ⟨hr, h⟩
 | _ + 1 => ⟨fun _ => h, by rw [hr]; simp⟩
theorem region_Z {id : Nat} {a : Act} {w : World} (hm : P.follows .mixedOrders = true) (hS : S w.drew)
  (h : S w.drew → anyZ P .any ops Q S z ops.size (Array.replicate ops.size false) a w.drew) : (Code.region id ops true).wp P Q a w :=
 wp_region_any hm (any_of_Z (S := S) (z := z) _ _ _ _ (h hS))
end
end Go.Proofs.YtigdmebijbaofaaGreatDoor
