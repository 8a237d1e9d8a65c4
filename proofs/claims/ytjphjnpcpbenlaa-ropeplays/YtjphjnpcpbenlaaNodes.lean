/-
  How a tree lies in memory; what add, leaf, item, sprout and fork do.
-/
import Derived.Test.YtjphjnpcpbenlaaWalks
namespace Go.Proofs.Ytjphjnpcpbenlaa
open Go.RowKit
attribute [local go_sem] run_store_complex

abbrev T.n (t : T) : Nat := t.items.length
abbrev T.ln (t : T) : Nat := lsum It.l t.items
abbrev T.bt (t : T) : Nat := lsum It.y t.items
def T.lp : T → Option Addr
  | .leaf _ _ => none
  | .fork _ p _ => some ⟨p.blk, 0, none⟩
def T.rp : T → Option Addr
  | .leaf _ _ => none
  | .fork _ _ q => some ⟨q.blk, 0, none⟩
def T.ky : T → Int
  | .leaf _ x => x.key
  | .fork _ _ _ => 0
abbrev nodeO (lp rp : Option Addr) (k c h a b : Int) : Obj := .cells #[.pointer lp, .pointer rp, .int .i64 k, .int .i64 c, .int .i64 h, .complex .f64 (F a) (F b), .complex .f64 0 0] 66
def Head (w : World) (t : T) : Prop := w.heap[t.blk]? = some (nodeO t.lp t.rp t.ky (t.n : Nat) (t.ht : Nat) (t.ln : Nat) (t.bt : Nat))
def In (w : World) : T → Prop
  | .leaf b x => Head w (.leaf b x)
  | .fork b p q => Head w (.fork b p q) ∧ In w p ∧ In w q
theorem In.head {w : World} {t : T} (h : In w t) : Head w t := by cases t with
  | leaf => exact h
  | fork => exact h.1
theorem Head.lt {w : World} {t : T} (h : Head w t) : t.blk < w.heap.size := (Array.getElem?_eq_some_iff.1 h).1
theorem Head.below {w w' : World} {B : Nat} {t : T} (h : Head w t) (hb : Below B w w') (hB : t.blk < B) : Head w' t := (hb.block t.blk hB).trans h
theorem Head.kp {w w' : World} {t : T} (h : Head w t) (hk : Kp w w') : Head w' t := h.below hk h.lt
theorem In.kp {w w' : World} {t : T} (h : In w t) (hk : Kp w w') : In w' t := by
  induction t with
  | leaf b x => exact Head.kp h hk
  | fork b p q hp hq => exact ⟨Head.kp h.1 hk, hp h.2.1, hq h.2.2⟩
theorem Head.cells {w : World} {t : T} (h : Head w t) :
    w.cell? ⟨t.blk, 0, none⟩ = some (.pointer t.lp) ∧ w.cell? ⟨t.blk, 1, none⟩ = some (.pointer t.rp) ∧ w.cell? ⟨t.blk, 2, none⟩ = some (.int .i64 t.ky) ∧ w.cell? ⟨t.blk, 3, none⟩ = some (.int .i64 (t.n : Nat)) ∧ w.cell? ⟨t.blk, 4, none⟩ = some (.int .i64 (t.ht : Nat)) ∧ w.cell? ⟨t.blk, 5, none⟩ = some (.complex .f64 (F (t.ln : Nat)) (F (t.bt : Nat))) ∧ w.cell? ⟨t.blk, 6, none⟩ = some (.complex .f64 0 0) := by
  unfold Head at h
  refine ⟨?_, ?_, ?_, ?_, ?_, ?_, ?_⟩ <;> simp [World.cell?, h]
abbrev pt (b : Nat) : Value := .pointer (some ⟨b, 0, none⟩)
def pO : Option T → Option Addr
  | none => none
  | some t => some ⟨t.blk, 0, none⟩
def InO (w : World) : Option T → Prop
  | none => True
  | some t => In w t
theorem InO.kp {w w' : World} {t : Option T} (h : InO w t) (hk : Kp w w') : InO w' t := by
  cases t with
  | none => trivial
  | some t => exact In.kp h hk

theorem leaf_any (t : T) (w : World) (h : Head w t) :
    Calls Try.prog 28 #[pt t.blk] w fun e w' => e = .returned (.bool t.lp.isNone) ∧ w' = w := by
  obtain ⟨c0, c1, c2, c3, c4, c5, c6⟩ := h.cells
  clear h c1 c2 c3 c4 c5 c6
  generalize t.blk = b at *
  cases hl : t.lp with
  | none =>
    rw [hl] at c0
    go_enter Try.func28, Try.ntmps28
    go_wp2
    go_ret
    exact ⟨rfl, rfl⟩
  | some p =>
    rw [hl] at c0
    go_enter Try.func28, Try.ntmps28
    go_wp2
    go_ret
    exact ⟨rfl, rfl⟩

theorem item_any (b : Nat) (x : It) (w : World) (h : Head w (.leaf b x)) :
    Calls Try.prog 32 #[pt b] w fun e w' => e = .returned (.agg #[.int .i64 x.key, cx (x.l : Nat) (x.y : Nat)]) ∧ Kp w w' := by
  obtain ⟨c0, c1, c2, c3, c4, c5, c6⟩ := h.cells
  have hb : b < w.heap.size := h.lt
  simp only [T.blk, T.ky, T.ln, T.bt, T.items, lsum, List.map, List.sum_cons, List.sum_nil, Nat.add_zero] at c2 c5
  clear h c0 c1 c3 c4 c6
  have hne : b ≠ w.heap.size := by omega
  go_enter Try.func32, Try.ntmps32
  go_wp2
  go_region
  go_wp2
  exact bodyPost_ret (v := .agg #[.int .i64 x.key, cx (x.l : Nat) (x.y : Nat)]) (by simp [results, Try.results32, go_sem]) rfl ⟨rfl, ((Kp.refl _).alloc _).drew⟩

theorem sprout_any (x : It) (w : World) :
    Calls Try.prog 33 #[.agg #[.int .i64 x.key, cx (x.l : Nat) (x.y : Nat)]] w fun e w' => ∃ b, e = .returned (pt b) ∧ In w' (.leaf b x) ∧ Kp w w' := by
  go_enter Try.func33, Try.ntmps33
  go_wp2
  go_ret
  refine ⟨_, rfl, ?_, ((Kp.refl _).alloc _).alloc _⟩
  exact last_at (w.alloc (.cells #[.int .i64 x.key, cx (x.l : Nat) (x.y : Nat)] 29)) (nodeO none none x.key 1 1 (x.l : Nat) (x.y : Nat)) _ (by simp [T.blk])

theorem less0 (p q : Nat) (w : World) (hp : p ≤ 1000000000) (hq : q ≤ 1000000000) :
    Calls Try.prog 36 #[.complex .f64 0 0, cx (p : Nat) (q : Nat)] w fun e w' => e = .returned (cx (-(p : Nat)) (-(q : Nat))) ∧ w' = w := by
  have := less_any 0 0 (p : Nat) (q : Nat) w (by decide) (by decide) (small (by omega) (by omega)) (small (by omega) (by omega)) (small (by omega) (by omega)) (small (by omega) (by omega))
  rw [Int.zero_sub, Int.zero_sub, F_zero] at this
  exact this

def at4 (a c : Int) (j : Nat) : Int := if j = 0 then a else if j = 1 then c else 0
def at5 (a c : Int) (j : Nat) : Int := if j = 0 then a else if j = 1 then c else if j = 4 then -(a + c) else 0
theorem lt4 {j : Nat} (h : j < 4) : j = 0 ∨ j = 1 ∨ j = 2 ∨ j = 3 := by omega
theorem lt5 {j : Nat} (h : j < 5) : j = 0 ∨ j = 1 ∨ j = 2 ∨ j = 3 ∨ j = 4 := by omega
theorem le4 {j : Nat} (h : j ≤ 4) : j = 0 ∨ j = 1 ∨ j = 2 ∨ j = 3 ∨ j = 4 := by omega
theorem le5 {j : Nat} (h : j ≤ 5) : j = 0 ∨ j = 1 ∨ j = 2 ∨ j = 3 ∨ j = 4 ∨ j = 5 := by omega

theorem sum4 (a b c d : Nat) (w : World) (B : Nat) (ha : a + c ≤ 1000000000) (hb : b + d ≤ 1000000000)
    (h : w.heap[B]? = some (.cells #[cx (a : Nat) (b : Nat), cx (c : Nat) (d : Nat), .complex .f64 0 0, .complex .f64 0 0] 26)) :
    Calls Try.prog 19 #[.slice (some ⟨B, 0, none⟩) 4 4] w fun e w' => e = .returned (cx ((a + c : Nat) : Int) ((b + d : Nat) : Int)) ∧ w' = w := by
  have e1 : psum (at4 a c) 4 = ((a + c : Nat) : Int) := by simp [psum, at4]
  have e2 : psum (at4 b d) 4 = ((b + d : Nat) : Int) := by simp [psum, at4]
  have := sum_any (at4 a c) (at4 b d) B 0 4 4 w (by omega)
    (by intro j hj
        rcases lt4 hj with rfl | rfl | rfl | rfl <;> simp [World.cell?, h, at4, F_zero])
    (by intro j hj; rcases lt4 hj with rfl | rfl | rfl | rfl <;> (simp only [at4]; exact small (by simp; try omega) (by simp; try omega)))
    (by intro j hj; rcases lt4 hj with rfl | rfl | rfl | rfl <;> (simp only [at4]; exact small (by simp; try omega) (by simp; try omega)))
    (by intro j hj; rcases le4 hj with rfl | rfl | rfl | rfl | rfl <;> (simp only [psum, at4]; exact small (by simp; try omega) (by simp; try omega)))
    (by intro j hj; rcases le4 hj with rfl | rfl | rfl | rfl | rfl <;> (simp only [psum, at4]; exact small (by simp; try omega) (by simp; try omega)))
  rw [e1, e2] at this
  exact this

theorem sum5 (a b c d : Nat) (w : World) (B : Nat) (ha : a + c ≤ 1000000000) (hb : b + d ≤ 1000000000)
    (h : w.heap[B]? = some (.cells #[cx (a : Nat) (b : Nat), cx (c : Nat) (d : Nat), .complex .f64 0 0, .complex .f64 0 0, cx (-((a + c : Nat) : Int)) (-((b + d : Nat) : Int))] 26)) :
    Calls Try.prog 19 #[.slice (some ⟨B, 0, none⟩) 5 5] w fun e w' => e = .returned (.complex .f64 0 0) ∧ w' = w := by
  have e1 : psum (at5 a c) 5 = 0 := by simp [psum, at5]; omega
  have e2 : psum (at5 b d) 5 = 0 := by simp [psum, at5]; omega
  have := sum_any (at5 a c) (at5 b d) B 0 5 5 w (by omega)
    (by intro j hj
        rcases lt5 hj with rfl | rfl | rfl | rfl | rfl <;> simp [World.cell?, h, at5, F_zero])
    (by intro j hj; rcases lt5 hj with rfl | rfl | rfl | rfl | rfl <;> (simp only [at5]; exact small (by simp; try omega) (by simp; try omega)))
    (by intro j hj; rcases lt5 hj with rfl | rfl | rfl | rfl | rfl <;> (simp only [at5]; exact small (by simp; try omega) (by simp; try omega)))
    (by intro j hj; rcases le5 hj with rfl | rfl | rfl | rfl | rfl | rfl <;> (simp only [psum, at5]; exact small (by simp; try omega) (by simp; try omega)))
    (by intro j hj; rcases le5 hj with rfl | rfl | rfl | rfl | rfl | rfl <;> (simp only [psum, at5]; exact small (by simp; try omega) (by simp; try omega)))
  rw [e1, e2, F_zero] at this
  exact this

set_option maxHeartbeats 1000000 in
theorem add_any (a b c d : Nat) (w : World) (ha : a + c ≤ 1000000000) (hb : b + d ≤ 1000000000) :
    Calls Try.prog 29 #[.agg #[cx (a : Nat) (b : Nat), .complex .f64 0 0], .agg #[cx (c : Nat) (d : Nat), .complex .f64 0 0]] w fun e w' => e = .returned (.agg #[cx ((a + c : Nat) : Int) ((b + d : Nat) : Int), .complex .f64 0 0]) ∧ Kp w w' := by
  go_enter Try.func29, Try.ntmps29
  go_wp2_with (go_at_call 19; refine (sum4 a b c d _ _ ha hb (last_at _ _ _ (by simp))).mono ?_; rintro e w' ⟨rfl, rfl⟩)
  obtain ⟨W0, hW⟩ : ∃ W, (((w.alloc (.cells #[cx (a : Nat) (b : Nat), .complex .f64 0 0] 63)).alloc (.cells #[cx (c : Nat) (d : Nat), .complex .f64 0 0] 63)).alloc (.cells #[.complex .f64 0 0, .complex .f64 0 0] 63)).alloc (.cells #[cx (a : Nat) (b : Nat), cx (c : Nat) (d : Nat), .complex .f64 0 0, .complex .f64 0 0] 26) = W := ⟨_, rfl⟩
  have m1 : W0.heap[w.heap.size]? = some (.cells #[cx (a : Nat) (b : Nat), .complex .f64 0 0] 63) := by subst hW; exact bl_alloc (bl_alloc (bl_alloc (last_of _ _) _) _) _
  have m2 : W0.heap[w.heap.size + 1]? = some (.cells #[cx (c : Nat) (d : Nat), .complex .f64 0 0] 63) := by subst hW; exact bl_alloc (bl_alloc (last_at _ _ _ (by simp)) _) _
  have m3 : W0.heap[w.heap.size + 2]? = some (.cells #[.complex .f64 0 0, .complex .f64 0 0] 63) := by subst hW; exact bl_alloc (last_at _ _ _ (by simp)) _
  have kw : Kp w W0 := by subst hW; exact ((((Kp.refl _).alloc _).alloc _).alloc _).alloc _
  rw [hW]
  clear hW
  have MK : Hid (∀ W, Kp W0 W → W.cell? ⟨w.heap.size, 0, none⟩ = some (cx (a : Nat) (b : Nat)) ∧ W.cell? ⟨w.heap.size, 1, none⟩ = some (.complex .f64 0 0) ∧ W.cell? ⟨w.heap.size + 1, 0, none⟩ = some (cx (c : Nat) (d : Nat)) ∧ W.cell? ⟨w.heap.size + 1, 1, none⟩ = some (.complex .f64 0 0) ∧ Hid (Kp W0 W)) := fun W k => ⟨bl_cell (bl_kp m1 k) 0 _ rfl, bl_cell (bl_kp m1 k) 1 _ rfl, bl_cell (bl_kp m2 k) 0 _ rfl, bl_cell (bl_kp m2 k) 1 _ rfl, k⟩
  have M3 : Hid (W0.heap[w.heap.size + 2]? = some (.cells #[.complex .f64 0 0, .complex .f64 0 0] 63)) := m3
  have KW : Hid (Kp w W0) := kw
  have Q0 : Kp W0 W0.drew := (Kp.refl _).drew
  obtain ⟨c10, c11, c20, c21, _⟩ := MK.out W0 (Kp.refl _)
  clear m1 m2 m3 kw
  go_cut [6] (fun v wc => v = .complex .f64 0 0 ∧ Kp W0 wc)
  case first =>
    go_region_held3 (fun W => W.cell? ⟨w.heap.size, 0, none⟩ = some (cx (a : Nat) (b : Nat)) ∧ W.cell? ⟨w.heap.size, 1, none⟩ = some (.complex .f64 0 0) ∧ W.cell? ⟨w.heap.size + 1, 0, none⟩ = some (cx (c : Nat) (d : Nat)) ∧ W.cell? ⟨w.heap.size + 1, 1, none⟩ = some (.complex .f64 0 0) ∧ Hid (Kp W0 W))
      (first | with_reducible exact MK.out _ ((Q0.alloc _)) | with_reducible exact MK.out _ (((Kp.refl _).alloc _).drew) | with_reducible exact MK.out _ (Q0))
      (first
        | (go_at_call 36; refine (less0 (a + c) (b + d) _ ha hb).mono ?_; rintro e w' ⟨rfl, rfl⟩)
        | (go_at_call 19; refine (sum5 a b c d _ _ ha hb ?hX).mono ?_; (case hX => exact last_of _ _); rintro e w' ⟨rfl, rfl⟩))
    go_wp2_with fail
    go_meet
    case rel => exact ⟨rfl, ((Kp.refl _).alloc _).drew⟩
  case rest =>
    obtain ⟨rfl, k⟩ := hcut
    rename World => W1
    have m4 := bl_kp M3.out k
    have d0 := bl_cell m4 0 _ rfl
    have d1 := bl_cell m4 1 _ rfl
    have f0 := bl_frozen m4 0
    have f1 := bl_frozen m4 1
    have K1 : Hid (Kp w W1) := KW.out.trans k
    have h2 : Hid (w.heap.size ≤ w.heap.size + 2) := (by omega : w.heap.size ≤ w.heap.size + 2)
    clear k Q0 c10 c11 c20 c21 MK M3 KW m4
    go_wp2
    exact bodyPost_ret (v := .agg #[cx ((a + c : Nat) : Int) ((b + d : Nat) : Int), .complex .f64 0 0]) (by simp [results, Try.results29, go_sem, d0, d1]) rfl ⟨rfl, (K1.out.setCell h2.out _).setCell h2.out _⟩
end Go.Proofs.Ytjphjnpcpbenlaa
