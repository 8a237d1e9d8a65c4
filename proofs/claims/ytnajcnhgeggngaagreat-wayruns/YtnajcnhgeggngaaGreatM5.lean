/-
  Texts of this claim: Same, Chk, Lean2, Right1, Right2, Right3, Right4, Right5.
-/
import Derived.Test.YtnajcnhgeggngaaGreatM2
import Derived.Deep.LoopGhost

/-! ### Same -/

namespace Go.Proofs.YtnajcnhgeggngaaGreat
set_option maxHeartbeats 2000000
set_option maxRecDepth 100000
open Go.RowKit

mutual
def sameR : Rx → Rx → Bool
 | .mk k mn mx n s ks, .mk k' mn' mx' n' s' ks' => k == k' && mn == mn' && mx == mx' && n == n' && s == s' && sameL ks ks'
def sameL : List Rx → List Rx → Bool
 | [], [] => true
 | a :: xs, b :: ys => sameR a b && sameL xs ys
 | _, _ => false
end

theorem cells_of_is {w : World} {b o : Nat} {k mn mx m : Int} {t : W4} {ad : Option Addr} {l c : Nat} (h : CellsAt w b o (rxv k mn mx m t (.slice ad l c))) : w.cell? ⟨b, o, none⟩ = some (.int .i64 k) ∧ w.cell? ⟨b, o + 1, none⟩ = some (.int .i64 mn) ∧ w.cell? ⟨b, o + 2, none⟩ = some (.int .i64 mx) ∧ w.cell? ⟨b, o + 3, none⟩ = some (.int .i64 m) ∧ w.cell? ⟨b, o + 4, none⟩ = some (.int .u64 (t.a : Int)) ∧ w.cell? ⟨b, o + 5, none⟩ = some (.int .u64 (t.b : Int)) ∧ w.cell? ⟨b, o + 6, none⟩ = some (.int .u64 (t.c : Int)) ∧ w.cell? ⟨b, o + 7, none⟩ = some (.int .u64 (t.d : Int)) ∧ w.cell? ⟨b, o + 8, none⟩ = some (.slice ad l c) :=
 ⟨h 0 _ rfl, h 1 _ rfl, h 2 _ rfl, h 3 _ rfl, h 4 _ rfl, h 5 _ rfl, h 6 _ rfl, h 7 _ rfl, h 8 _ rfl⟩

theorem eq_vv (a b c d a' b' c' d' : Int) (w : World) :
  (Op.equalIn 10000 24 (.agg #[.int .u64 a, .int .u64 b, .int .u64 c, .int .u64 d]) (.agg #[.int .u64 a', .int .u64 b', .int .u64 c', .int .u64 d'])).run Tryz.prog w = .ok (a == a' && (b == b' && (c == c' && d == d'))) w := by
 have u3 := Tryz.underlying22
 have a3 := Tryz.isAgg22
 have z3 := Tryz.sizeOf22
 rw [show (10000 : Nat) = 9999 + 1 from rfl, Op.equalIn]
 simp only [Sem.run_bind, run_underlying Tryz.underlying24, Result.andThen_ok]
 simp only [Std.Legacy.Range.forIn_eq_forIn_range', Std.Legacy.Range.size, Nat.sub_zero, Nat.add_sub_cancel, Nat.div_one, List.range'_succ, List.range'_zero, List.forIn_cons, List.forIn_nil]
 go_simp
 by_cases h1 : a = a' <;> by_cases h2 : b = b' <;> by_cases h3 : c = c' <;> by_cases h4 : d = d' <;> simp [h1, h2, h3, h4]
theorem w4_eq (t u : W4) : (t == u) = (((t.a : Int) == (u.a : Int)) && (((t.b : Int) == (u.b : Int)) && (((t.c : Int) == (u.c : Int)) && ((t.d : Int) == (u.d : Int))))) := by
 cases t with
 | mk a b c d =>
  cases u with
  | mk a' b' c' d' =>
   rw [Bool.eq_iff_iff]
   simp
   omega

structure SameSaid (a : Rx) : Prop where
 all : ∀ (b : Rx) (va vb : Value) (w : World) (ok ok' : Nat → Prop), Is w ok a va → Is w ok' b vb → Calls Tryz.prog 100 #[va, vb] w fun e w' => e = .returned (.bool (sameR a b)) ∧ Kp w w'

structure RowAt (w : World) (ok : Nat → Prop) (ts : List Rx) (ad : Option Addr) (l c : Nat) : Prop where
 ln : l = ts.length
 cp : l ≤ c
 ex : ts ≠ [] → ∃ b o, ad = some ⟨b, o, none⟩ ∧ ok b ∧ b < w.heap.size ∧ IsL w ok ts b o
theorem RowAt.kp {w w' : World} {ok : Nat → Prop} {ts : List Rx} {ad : Option Addr} {l c : Nat} (h : RowAt w ok ts ad l c) (k : Kp w w') : RowAt w' ok ts ad l c :=
 ⟨h.ln, h.cp, fun hn => by
  obtain ⟨b, o, h1, h2, h3, h4⟩ := h.ex hn
  exact ⟨b, o, h1, h2, Nat.lt_of_lt_of_le h3 k.size, IsL.turn k.size (fun b hb hl => ⟨hb, k.block b hl⟩) ts b o (k.block b h3) h4⟩⟩
theorem Is.row {w : World} {ok : Nat → Prop} {k mn mx n : Int} {s : W4} {kids : List Rx} {v : Value} (h : Is w ok (.mk k mn mx n s kids) v) : ∃ ad l c, v = rxv k mn mx n s (.slice ad l c) ∧ RowAt w ok kids ad l c := by
 unfold Is at h
 obtain ⟨ad, l, c, h1, h2, h3, h4⟩ := h
 exact ⟨ad, l, c, h1, h2, h3, h4⟩
theorem RowAt.at {w : World} {ok : Nat → Prop} {ts : List Rx} {ad : Option Addr} {l c : Nat} (h : RowAt w ok ts ad l c) (j : Nat) (t : Rx) (hj : ts[j]? = some t) : ∃ b o k mn mx m s ad' l' c', ad = some ⟨b, o, none⟩ ∧ b < w.heap.size ∧ Is w ok t (rxv k mn mx m s (.slice ad' l' c')) ∧ CellsAt w b (o + j * 9) (rxv k mn mx m s (.slice ad' l' c')) := by
 obtain ⟨b, o, h1, h2, h3, h4⟩ := h.ex (by intro hn; rw [hn] at hj; simp at hj)
 obtain ⟨v, hi, hc⟩ := h4.get j t hj
 rw [Nat.mul_comm] at hc
 obtain ⟨k, mn, mx, m, s, ad', l', c', rfl⟩ := hi.form
 exact ⟨b, o, k, mn, mx, m, s, ad', l', c', h1, h3, hi, hc⟩

theorem sameL_len : ∀ (xs ys : List Rx), xs.length ≠ ys.length → sameL xs ys = false
 | [], [], h => absurd rfl h
 | [], _ :: _, _ => by simp [sameL]
 | _ :: _, [], _ => by simp [sameL]
 | a :: xs, b :: ys, h => by
  rw [sameL, sameL_len xs ys (by simpa using h), Bool.and_false]
theorem sameL_all : ∀ (xs ys : List Rx), xs.length = ys.length → (∀ (j : Nat) a b, xs[j]? = some a → ys[j]? = some b → sameR a b = true) → sameL xs ys = true
 | [], [], _, _ => by simp [sameL]
 | [], _ :: _, h, _ => by simp at h
 | _ :: _, [], h, _ => by simp at h
 | a :: xs, b :: ys, h, hs => by
  rw [sameL, hs 0 a b rfl rfl, sameL_all xs ys (by simpa using h) (fun j c d hc hd => hs (j + 1) c d (by simpa using hc) (by simpa using hd))]
  rfl
theorem sameL_not : ∀ (xs ys : List Rx) (j : Nat) (a b : Rx), xs[j]? = some a → ys[j]? = some b → sameR a b = false → sameL xs ys = false
 | [], _, j, a, b, h, _, _ => by simp at h
 | _ :: _, [], j, a, b, _, h, _ => by simp at h
 | x :: xs, y :: ys, 0, a, b, h1, h2, h => by
  simp at h1 h2
  subst h1; subst h2
  rw [sameL, h, Bool.false_and]
 | x :: xs, y :: ys, j + 1, a, b, h1, h2, h => by
  rw [sameL, sameL_not xs ys j a b (by simpa using h1) (by simpa using h2) h, Bool.and_false]

theorem equal_any (xs ys : List Rx) (H : ∀ a, a ∈ xs → SameSaid a) (ok ok' : Nat → Prop) (ad ad' : Option Addr) (l c l' c' : Nat) (w : World) (h1 : RowAt w ok xs ad l c) (h2 : RowAt w ok' ys ad' l' c') (hl : xs.length ≤ 1000000) :
  Calls Tryz.prog 123 #[.slice ad l c, .slice ad' l' c', .func (.func 100) #[] #[]] w fun e w' => e = .returned (.bool (sameL xs ys)) ∧ Kp w w' := by
 have e1 := h1.ln
 have e2 := h2.ln
 subst e1
 subst e2
 have hlc := h1.cp
 have hlc' := h2.cp
 have R1 := hid h1
 have R2 := hid h2
 have HH := hid H
 clear h1 h2 H
 by_cases hne : xs.length = ys.length
 ·
  obtain ⟨L, hL1⟩ : ∃ L, xs.length = L := ⟨_, rfl⟩
  have hL2 : ys.length = L := hne.symm.trans hL1
  rw [hL1] at R1 hlc hl ⊢
  rw [hL2] at R2 hlc' ⊢
  have HL1 := hid hL1
  have HL2 := hid hL2
  have HNE := hid hne
  clear hL1 hL2 hne
  go_enter Tryz.func123, Tryz.ntmps123
  go_wp2_with fail
  go_loopg [17] L (fun gg v wr => ∃ k : Nat, k + gg = L ∧ v = .int .i64 (k : Int) ∧ (∀ (j : Nat) a b, j < k → xs[j]? = some a → ys[j]? = some b → sameR a b = true) ∧ Kp w wr)
  case atStart => exact ⟨0, by omega, rfl, fun j a b hj => absurd hj (by omega), Kp.refl _⟩
  case round =>
   obtain ⟨k, hk, rfl, hall, hK⟩ := hrel
   have HA := hid hall
   have K0 := hid hK
   clear hall hK
   by_cases hlt : k < L
   ·
    have gkw : IntKind.i64.wrap ((k : Int) + 1) = (k : Int) + 1 := by rw [IntKind.wrap_i64]; omega
    have ga : (k : Int) < (L : Int) := by omega
    have g0 : (0 : Int) ≤ (k : Int) := by omega
    obtain ⟨a, ha⟩ : ∃ a, xs[k]? = some a := ⟨_, List.getElem?_eq_getElem (by rw [HL1.out]; exact hlt)⟩
    obtain ⟨b, hb⟩ : ∃ b, ys[k]? = some b := ⟨_, List.getElem?_eq_getElem (by rw [HL2.out]; exact hlt)⟩
    obtain ⟨bb1, o1, k1, mn1, mx1, m1, s1, ad1, l1, c1, e1, hb1, i1, ce1⟩ := (R1.out.kp K0.out).at k a ha
    obtain ⟨bb2, o2, k2, mn2, mx2, m2, s2, ad2, l2, c2, e2, hb2, i2, ce2⟩ := (R2.out.kp K0.out).at k b hb
    subst e1
    subst e2
    have SA := hid ((HH.out a (List.mem_of_getElem? ha)).all b (rxv k1 mn1 mx1 m1 s1 (.slice ad1 l1 c1)) (rxv k2 mn2 mx2 m2 s2 (.slice ad2 l2 c2)))
    have HXA := hid ha
    have HXB := hid hb
    have I1 := hid i1
    have I2 := hid i2
    have CE1 := hid ce1
    have CE2 := hid ce2
    clear ha hb i1 i2 ce1 ce2
    obtain ⟨x0, x1, x2, x3, x4, x5, x6, x7, x8⟩ := cells_of_is CE1.out
    go_upto_region 6 with fail
    clear x0 x1 x2 x3 x4 x5 x6 x7 x8
    refine opq (fun W => W.heap[wr.heap.size]? = some (rxo k1 mn1 mx1 m1 s1 (.slice ad1 l1 c1)) ∧ Kp wr W) ⟨by exact last_at _ _ _ (by simp), by exact (Kp.refl _).alloc _⟩ ?_
    rintro W1 ⟨y1, y2⟩
    have A1 := hid y1
    have K1 := hid y2
    clear y1 y2
    have CE3 := hid (CE2.out.turn (K1.out.block _ hb2))
    obtain ⟨x0, x1, x2, x3, x4, x5, x6, x7, x8⟩ := cells_of_is CE3.out
    go_upto_region 7 with fail
    clear x0 x1 x2 x3 x4 x5 x6 x7 x8
    refine opq (fun W => W.heap[wr.heap.size]? = some (rxo k1 mn1 mx1 m1 s1 (.slice ad1 l1 c1)) ∧ W.heap[W1.heap.size]? = some (rxo k2 mn2 mx2 m2 s2 (.slice ad2 l2 c2)) ∧ Kp wr W) ⟨by exact bl_alloc A1.out _, by exact last_at _ _ _ (by simp), by exact K1.out.alloc _⟩ ?_
    rintro W2 ⟨y1, y2, y3⟩
    have A2 := hid y1
    have B2 := hid y2
    have K2 := hid y3
    clear y1 y2 y3 A1 K1 CE1 CE2 CE3
    obtain ⟨a0, a1, a2, a3, a4, a5, a6, a7, a8⟩ := cells9 (A2.out)
    obtain ⟨b0, b1, b2, b3, b4, b5, b6, b7, b8⟩ := cells9 (B2.out)
    go_wp2_with fail
    clear a0 a1 a2 a3 a4 a5 a6 a7 a8 b0 b1 b2 b3 b4 b5 b6 b7 b8
    refine (SA.out _ ok ok' (I1.out.kp K2.out) (I2.out.kp K2.out)).mono ?_
    rintro e W3 ⟨rfl, k3⟩
    have K3 := hid (K0.out.trans (K2.out.trans k3))
    clear k3
    cases hsm : sameR a b with
    | false =>
     have E : Hid (sameL xs ys = false) := sameL_not xs ys k a b HXA.out HXB.out hsm
     clear hsm
     go_wp2_with fail
     go_ret
     exact ⟨ret_bool E.out.symm, K3.out⟩
    | true =>
     have NX : Hid (∀ (j : Nat) a b, j < k + 1 → xs[j]? = some a → ys[j]? = some b → sameR a b = true) := by
      intro j a' b' hj h1 h2
      by_cases hjk : j < k
      ·
       exact HA.out j a' b' hjk h1 h2
      ·
       obtain rfl : j = k := by omega
       have e1 := HXA.out.symm.trans h1
       have e2 := HXB.out.symm.trans h2
       injection e1 with e1
       injection e2 with e2
       subst e1
       subst e2
       exact hsm
     clear hsm
     go_wp2_with fail
     go_roundg (gk - 1)
     case measure => omega
     case rel => exact ⟨k + 1, by omega, by go_num, NX.out, K3.out⟩
   ·
    have ga : ¬ (k : Int) < (L : Int) := by omega
    have E : Hid (sameL xs ys = true) := sameL_all xs ys HNE.out (fun j a b h1 h2 => HA.out j a b (by have := (List.getElem?_eq_some_iff.1 h1).1; rw [HL1.out] at this; omega) h1 h2)
    go_wp2
    go_ret
    exact ⟨ret_bool E.out.symm, K0.out⟩
 ·
  have gn : ((xs.length : Int) != (ys.length : Int)) = true := by simp; omega
  have E : Hid (sameL xs ys = false) := sameL_len xs ys hne
  go_enter Tryz.func123, Tryz.ntmps123
  go_wp2
  go_ret
  exact ⟨ret_bool E.out.symm, Kp.refl _⟩

theorem same_step (k mn mx n : Int) (s : W4) (kids : List Rx) (H : ∀ a, a ∈ kids → SameSaid a) (hl : kids.length ≤ 1000000) : SameSaid (.mk k mn mx n s kids) := by
 refine ⟨fun b va vb w ok ok' hia hib => ?_⟩
 cases b with
 | mk k' mn' mx' n' s' kids' =>
  obtain ⟨ad, l, c, rfl, ra⟩ := hia.row
  obtain ⟨ad', l', c', rfl, rb⟩ := hib.row
  have RA := hid ra
  have RB := hid rb
  have HH := hid H
  clear ra rb hia hib H
  have e0 : Hid (sameR (.mk k mn mx n s kids) (.mk k' mn' mx' n' s' kids') = (k == k' && mn == mn' && mx == mx' && n == n' && s == s' && sameL kids kids')) := by show _ = _; rw [sameR]
  have es : ∀ w, (Op.equalIn 10000 24 (.agg #[.int .u64 (s.a : Int), .int .u64 (s.b : Int), .int .u64 (s.c : Int), .int .u64 (s.d : Int)]) (.agg #[.int .u64 (s'.a : Int), .int .u64 (s'.b : Int), .int .u64 (s'.c : Int), .int .u64 (s'.d : Int)])).run Tryz.prog w = .ok (s == s') w := fun w => by rw [eq_vv, w4_eq]
  obtain ⟨q5, hq5⟩ : ∃ q, (s == s') = q := ⟨_, rfl⟩
  rw [hq5] at es e0
  clear hq5
  go_enter Tryz.func100, Tryz.ntmps100
  go_upto_region 1 with fail
  refine opq (fun W => W.heap[w.heap.size]? = some (rxo k mn mx n s (.slice ad l c)) ∧ W.heap[w.heap.size + 1]? = some (rxo k' mn' mx' n' s' (.slice ad' l' c')) ∧ Kp w W) ⟨by exact bl_alloc (last_of _ _) _, by exact last_at _ _ _ (by simp), by exact ((Kp.refl _).alloc _).alloc _⟩ ?_
  rintro W0 ⟨y1, y2, y3⟩
  have A := hid y1
  have B := hid y2
  have K := hid y3
  clear y1 y2 y3
  obtain ⟨a0, a1, a2, a3, a4, a5, a6, a7, a8⟩ := cells9 (A.out)
  obtain ⟨b0, b1, b2, b3, b4, b5, b6, b7, b8⟩ := cells9 (B.out)
  cases h1 : (k == k') with
  | false =>
   have E : Hid (sameR (.mk k mn mx n s kids) (.mk k' mn' mx' n' s' kids') = false) := by show _ = _; rw [e0.out]; simp [h1]
   go_wp2
   go_ret
   exact ⟨ret_bool E.out.symm, K.out⟩
  | true =>
  cases h2 : (mn == mn') with
  | false =>
   have E : Hid (sameR (.mk k mn mx n s kids) (.mk k' mn' mx' n' s' kids') = false) := by show _ = _; rw [e0.out]; simp [h2]
   go_wp2
   go_ret
   exact ⟨ret_bool E.out.symm, K.out⟩
  | true =>
  cases h3 : (mx == mx') with
  | false =>
   have E : Hid (sameR (.mk k mn mx n s kids) (.mk k' mn' mx' n' s' kids') = false) := by show _ = _; rw [e0.out]; simp [h3]
   go_wp2
   go_ret
   exact ⟨ret_bool E.out.symm, K.out⟩
  | true =>
  cases h4 : (n == n') with
  | false =>
   have E : Hid (sameR (.mk k mn mx n s kids) (.mk k' mn' mx' n' s' kids') = false) := by show _ = _; rw [e0.out]; simp [h4]
   go_wp2
   go_ret
   exact ⟨ret_bool E.out.symm, K.out⟩
  | true =>
  cases q5 with
  | false =>
   have E : Hid (sameR (.mk k mn mx n s kids) (.mk k' mn' mx' n' s' kids') = false) := by show _ = _; rw [e0.out]; simp
   go_wp2
   go_ret
   exact ⟨ret_bool E.out.symm, K.out⟩
  | true =>
  have E : Hid (sameR (.mk k mn mx n s kids) (.mk k' mn' mx' n' s' kids') = sameL kids kids') := by show _ = _; rw [e0.out]; simp [h1, h2, h3, h4]
  go_wp2_with fail
  refine (equal_any kids kids' HH.out ok ok' ad ad' l c l' c' _ (RA.out.kp K.out) (RB.out.kp K.out) hl).mono ?_
  rintro e W1 ⟨rfl, k1⟩
  have K1 := hid (K.out.trans k1)
  clear k1
  go_wp2_with fail
  go_ret
  exact ⟨ret_bool E.out.symm, K1.out⟩

def RxFit : Rx → Prop
 | .mk _ _ _ _ _ kids => kids.length ≤ 1000000 ∧ ∀ a, a ∈ kids → RxFit a
termination_by r => SizeOf.sizeOf r
decreasing_by
 have := List.sizeOf_lt_of_mem (by assumption)
 simp
 omega
theorem same_all : ∀ a, RxFit a → SameSaid a
 | .mk k mn mx n s kids, h => by
  unfold RxFit at h
  exact same_step k mn mx n s kids (fun a ha => same_all a (h.2 a ha)) h.1
termination_by a => SizeOf.sizeOf a
decreasing_by
 have := List.sizeOf_lt_of_mem ha
 simp
 omega
theorem same_any (a b : Rx) (va vb : Value) (w : World) (ok ok' : Nat → Prop) (hf : RxFit a) (ha : Is w ok a va) (hb : Is w ok' b vb) : Calls Tryz.prog 100 #[va, vb] w fun e w' => e = .returned (.bool (sameR a b)) ∧ Kp w w' := (same_all a hf).all b va vb w ok ok' ha hb
end Go.Proofs.YtnajcnhgeggngaaGreat

/-! ### Chk -/

namespace Go.Proofs.YtnajcnhgeggngaaGreat
set_option maxHeartbeats 2000000
set_option maxRecDepth 100000
open Go.RowKit

def kidsFit (k : Int) (n : Nat) : Bool := if k = 2 then n != 1 else if k = 3 then decide (2 ≤ n) else if k = 4 ∨ k = 5 then n == 1 else n == 0
def leanB : Rx → Bool
 | .mk k mn mx n s kids => (if k = 4 then true else mn == 0 && mx == 0) && (if k = 5 ∨ k = 6 then true else n == 0) && (if k = 1 then true else s == W4.z) && kidsFit k kids.length
def W4.bit (s : W4) : Nat → Bool := bitOf s.a s.b s.c s.d

structure Ck where
 n : Nat
 g : Nat
 d : Nat
mutual
def chk (ere : Bool) : Rx → Bool → Bool → Ck → Option Ck
 | .mk k mn mx n s kids, b, e, c =>
  if c.n + 1 > 40 ∨ leanB (.mk k mn mx n s kids) = false then none
  else if k = 1 then (if cnt (W4.bit s) 256 > 0 then some ⟨c.n + 1, c.g, c.d⟩ else none)
  else if k = 2 then chkCat ere kids true ⟨c.n + 1, c.g, c.d⟩
  else if k = 3 then (if ere then chkAlt ere kids ⟨c.n + 1, c.g, c.d⟩ else none)
  else if k = 4 then (if timesFit mn mx then chkRep ere kids ⟨c.n + 1, c.g, c.d⟩ else none)
  else if k = 5 then (if n ≠ (c.g + 1 : Nat) ∨ c.g + 1 > 3 ∨ c.d = 6 then none else chkGroup ere kids ⟨c.n + 1, c.g + 1, c.d + 1⟩)
  else if k = 6 then (if 1 ≤ n ∧ n ≤ (c.g : Int) then some ⟨c.n + 1, c.g, c.d⟩ else none)
  else if k = 7 then (if ere || b then some ⟨c.n + 1, c.g, c.d⟩ else none)
  else if k = 8 then (if ere || e then some ⟨c.n + 1, c.g, c.d⟩ else none)
  else none
def chkCat (ere : Bool) : List Rx → Bool → Ck → Option Ck
 | [], _, c => some c
 | r :: rs, first, c => if r.k = 2 ∨ r.k = 3 then none else match chk ere r first rs.isEmpty c with
  | none => none
  | some c' => chkCat ere rs false c'
def chkAlt (ere : Bool) : List Rx → Ck → Option Ck
 | [], c => some c
 | r :: rs, c => if r.k = 3 then none else match chk ere r false false c with
  | none => none
  | some c' => chkAlt ere rs c'
def chkRep (ere : Bool) : List Rx → Ck → Option Ck
 | r :: _, c => if mayRep r.k then chk ere r false false c else none
 | [], _ => none
def chkGroup (ere : Bool) : List Rx → Ck → Option Ck
 | r :: _, c => match chk ere r true true c with
  | none => none
  | some c' => some ⟨c'.n, c'.g, c'.d - 1⟩
 | [], _ => none
end
def right (ere : Bool) (r : Rx) : Bool := (chk ere r true true ⟨0, 0, 0⟩).isSome

abbrev cko (ere : Bool) (n g d : Nat) : Obj := .cells #[.bool ere, .int .i64 (n : Int), .int .i64 (g : Int), .int .i64 (d : Int)] 120
def Cb (w : World) (C : Nat) (ere : Bool) (n g d : Nat) : Prop := w.heap[C]? = some (cko ere n g d)
theorem Cb.kp {w w' : World} {C : Nat} {ere : Bool} {n g d : Nat} (h : Cb w C ere n g d) (k : Kp w w') : Cb w' C ere n g d := bl_kp h k
theorem Cb.cells {w : World} {C : Nat} {ere : Bool} {n g d : Nat} (h : Cb w C ere n g d) : w.cell? ⟨C, 0, none⟩ = some (.bool ere) ∧ w.cell? ⟨C, 1, none⟩ = some (.int .i64 (n : Int)) ∧ w.cell? ⟨C, 2, none⟩ = some (.int .i64 (g : Int)) ∧ w.cell? ⟨C, 3, none⟩ = some (.int .i64 (d : Int)) := ⟨bl_cell h 0 _ rfl, bl_cell h 1 _ rfl, bl_cell h 2 _ rfl, bl_cell h 3 _ rfl⟩
structure Ckd (C : Nat) (ere : Bool) (d0 : Nat) (o : Option Ck) (w : World) (e : Ending) (w' : World) : Prop where
 ex : ∃ ok, e = .returned (.bool ok) ∧ ok = o.isSome ∧ (∃ n g d, Cb w' C ere n g d ∧ n ≤ 41 ∧ g ≤ 41 ∧ d ≤ 7 ∧ d0 ≤ d ∧ ∀ c, o = some c → n = c.n ∧ g = c.g ∧ d = c.d) ∧ Ks C w w'
structure RightSaid (ere : Bool) (r : Rx) : Prop where
 all : ∀ (C : Nat) (ok : Nat → Prop) (v : Value) (b e : Bool) (n g d : Nat) (w : World), Is w ok r v → (∀ x, ok x → x ≠ C) → Cb w C ere n g d → n ≤ 40 → g ≤ n → d ≤ 6 → Calls Tryz.prog 48 #[.pointer (some ⟨C, 0, none⟩), v, .agg #[.bool b, .bool e]] w fun e' w' => Ckd C ere d (chk ere r b e ⟨n, g, d⟩) w e' w'

theorem kidsFit_any (k : Int) (n : Nat) (w : World) : Calls Tryz.prog 101 #[.int .i64 k, .int .i64 (n : Int)] w fun e w' => e = .returned (.bool (kidsFit k n)) ∧ w' = w := by
 have fin : ∀ (a b : Bool), a = b → Ending.returned (.bool a) = .returned (.bool b) := fun a b h => by rw [h]
 have FIN := hid fin
 clear fin
 by_cases k2 : k = 2
 ·
  subst k2
  have E : Hid (((n : Int) != 1) = kidsFit 2 n) := by
   show _ = _
   rw [show kidsFit 2 n = (n != 1) from rfl]
   rw [Bool.eq_iff_iff]; simp; omega
  go_enter Tryz.func101, Tryz.ntmps101
  go_wp2
  go_ret
  exact ⟨FIN.out _ _ E.out, rfl⟩
 by_cases k3 : k = 3
 ·
  subst k3
  have E : Hid ((decide (2 ≤ (n : Int))) = kidsFit 3 n) := by
   show _ = _
   rw [show kidsFit 3 n = (decide (2 ≤ n)) from rfl]
   rw [Bool.eq_iff_iff]; simp; omega
  go_enter Tryz.func101, Tryz.ntmps101
  go_wp2
  go_ret
  exact ⟨FIN.out _ _ E.out, rfl⟩
 by_cases k4 : k = 4
 ·
  subst k4
  have E : Hid (((n : Int) == 1) = kidsFit 4 n) := by
   show _ = _
   rw [show kidsFit 4 n = (n == 1) from rfl]
   rw [Bool.eq_iff_iff]; simp; omega
  go_enter Tryz.func101, Tryz.ntmps101
  go_wp2
  go_ret
  exact ⟨FIN.out _ _ E.out, rfl⟩
 by_cases k5 : k = 5
 ·
  subst k5
  have E : Hid (((n : Int) == 1) = kidsFit 5 n) := by
   show _ = _
   rw [show kidsFit 5 n = (n == 1) from rfl]
   rw [Bool.eq_iff_iff]; simp; omega
  go_enter Tryz.func101, Tryz.ntmps101
  go_wp2
  go_ret
  exact ⟨FIN.out _ _ E.out, rfl⟩
 have g2 : (k == 2) = false := by simp [k2]
 have g3 : (k == 3) = false := by simp [k3]
 have g4 : (k == 4) = false := by simp [k4]
 have g5 : (k == 5) = false := by simp [k5]
 have E : Hid (((n : Int) == 0) = kidsFit k n) := by
  show _ = _
  unfold kidsFit
  rw [if_neg k2, if_neg k3, if_neg (by omega)]
  rw [Bool.eq_iff_iff]; simp
 go_enter Tryz.func101, Tryz.ntmps101
 go_wp2
 go_ret
 exact ⟨FIN.out _ _ E.out, rfl⟩
end Go.Proofs.YtnajcnhgeggngaaGreat

/-! ### Lean2 -/

namespace Go.Proofs.YtnajcnhgeggngaaGreat
set_option maxHeartbeats 2000000
set_option maxRecDepth 100000
open Go.RowKit

theorem fit_nil (k mn mx n : Int) (s : W4) : RxFit (.mk k mn mx n s []) := by
 unfold RxFit
 exact ⟨by simp, fun a ha => by simp at ha⟩
theorem same_bare (k mn mx n mn' mx' n' : Int) (s s' : W4) (q : Bool) (hq : (mn == mn' && mx == mx' && n == n' && s == s') = q) (w : World) : Calls Tryz.prog 100 #[rxv k mn mx n s (.slice none 0 0), rxv k mn' mx' n' s' (.slice none 0 0)] w fun e w' => e = .returned (.bool q) ∧ Kp w w' := by
 have := same_any (.mk k mn mx n s []) (.mk k mn' mx' n' s' []) _ _ w (fun _ => True) (fun _ => True) (fit_nil _ _ _ _ _) (Is.leaf _ _ _ _ _ _ _) (Is.leaf _ _ _ _ _ _ _)
 rw [sameR, sameL] at this
 rw [show (k == k && mn == mn' && mx == mx' && n == n' && s == s' && true) = q by rw [← hq]; simp] at this
 exact this

theorem lean_any (k mn mx m : Int) (t : W4) (kids : List Rx) (ad : Option Addr) (l c : Nat) (w : World) (hl : l = kids.length) :
  Calls Tryz.prog 71 #[rxv k mn mx m t (.slice ad l c)] w fun e w' => e = .returned (.bool (leanB (.mk k mn mx m t kids))) ∧ Kp w w' := by
 have E0 : Hid (leanB (.mk k mn mx m t kids) = ((if k = 4 then true else mn == 0 && mx == 0) && (if k = 5 ∨ k = 6 then true else m == 0) && (if k = 1 then true else t == W4.z) && kidsFit k l)) := by show _ = _; rw [hl]; rfl
 clear hl
 obtain ⟨kf, hkf⟩ : ∃ kf, kidsFit k l = kf := ⟨_, rfl⟩
 have KF : Hid (∀ w, Calls Tryz.prog 101 #[.int .i64 k, .int .i64 (l : Int)] w fun e w' => e = .returned (.bool kf) ∧ w' = w) := fun w => by have := kidsFit_any k l w; rw [hkf] at this; exact this
 rw [hkf] at E0
 clear hkf
 go_enter Tryz.func71, Tryz.ntmps71
 go_upto_region 1 with fail
 refine opq (fun V0 => V0.heap[w.heap.size]? = some (rxo k mn mx m t (.slice ad l c)) ∧ Kp w V0) ⟨by (first | exact last_at _ _ _ (by simp) | (refine bl_alloc ?_ _; first | exact last_at _ _ _ (by simp) | (refine bl_alloc ?_ _; first | exact last_at _ _ _ (by simp) | (refine bl_alloc ?_ _; exact last_at _ _ _ (by simp))))), by exact kpt⟩ ?_
 rintro V0 ⟨xA, xK⟩
 have A := hid xA
 have K := hid xK
 clear xA xK
 obtain ⟨a0, a1, a2, a3, a4, a5, a6, a7, a8⟩ := cells9 (A.out)
 go_upto_region 2 with fail
 clear a0 a1 a2 a3 a4 a5 a6 a7 a8
 refine opq (fun W0 => W0.heap[w.heap.size]? = some (rxo k mn mx m t (.slice ad l c)) ∧ W0.heap[V0.heap.size]? = some (rxo k 0 0 0 W4.z (.slice none 0 0)) ∧ Kp w W0) ⟨by exact bl_kp A.out kpt, by exact last_at _ _ _ (by simp), by exact K.out.trans kpt⟩ ?_
 rintro W0 ⟨xA0, xB0, xK0⟩
 have A0 := hid xA0
 have B0 := hid xB0
 have K0 := hid xK0
 clear xA0 xB0 xK0
 have hsV : w.heap.size < V0.heap.size := bl_lt A.out
 clear A K
 by_cases k1 : k = 1
 ·
  subst k1
  obtain ⟨sm, hsm⟩ : ∃ sm, (mn == 0 && mx == 0 && m == 0 && t == t) = sm := ⟨_, rfl⟩
  have SB := hid (same_bare 1 mn mx m 0 0 0 t t sm hsm)
  have E : Hid (leanB (.mk 1 mn mx m t kids) = (sm && kf)) := by show _ = _; rw [E0.out, ← hsm]; (first | (simp; done) | (simp; cases mn == 0 <;> cases mx == 0 <;> cases m == 0 <;> rfl))
  clear hsm
  obtain ⟨a0, a1, a2, a3, a4, a5, a6, a7, a8⟩ := cells9 (A0.out)
  obtain ⟨b0, fb0, b1, fb1, b2, fb2, b3, fb3, b4, fb4, b5, fb5, b6, fb6, b7, fb7, b8, fb8⟩ := cellf9 (B0.out)
  go_upto_region 10 with fail
  clear a0 a1 a2 a3 a4 a5 a6 a7 a8 b0 fb0 b1 fb1 b2 fb2 b3 fb3 b4 fb4 b5 fb5 b6 fb6 b7 fb7 b8 fb8
  refine opq (fun W1 => W1.heap[w.heap.size]? = some (rxo 1 mn mx m t (.slice ad l c)) ∧ W1.heap[V0.heap.size]? = some (rxo 1 0 0 0 t (.slice none 0 0)) ∧ Kp w W1) ⟨by exact bl_set (bl_set (bl_set (bl_set A0.out (by omega) _) (by omega) _) (by omega) _) (by omega) _, by exact bl_put (bl_put (bl_put (bl_put B0.out _) _) _) _, by exact (((K0.out.setCell (Nat.le_of_lt hsV) _).setCell (Nat.le_of_lt hsV) _).setCell (Nat.le_of_lt hsV) _).setCell (Nat.le_of_lt hsV) _⟩ ?_
  rintro W1 ⟨xA1, xB1, xK1⟩
  have A1 := hid xA1
  have B1 := hid xB1
  have K1 := hid xK1
  clear xA1 xB1 xK1
  clear A0 B0 K0
  have A0 := A1
  have K0 := K1
  clear A1 K1
  obtain ⟨a0, fa0, a1, fa1, a2, fa2, a3, fa3, a4, fa4, a5, fa5, a6, fa6, a7, fa7, a8, fa8⟩ := cellf9 (A0.out)
  go_upto_region 12 with fail
  clear a0 fa0 a1 fa1 a2 fa2 a3 fa3 a4 fa4 a5 fa5 a6 fa6 a7 fa7 a8 fa8
  refine opq (fun W2 => W2.heap[w.heap.size]? = some (rxo 1 mn mx m t (.slice none 0 0)) ∧ W2.heap[V0.heap.size]? = some (rxo 1 0 0 0 t (.slice none 0 0)) ∧ Kp w W2) ⟨by exact bl_put A0.out _, by exact bl_set B1.out (by omega) _, by exact K0.out.setCell (Nat.le_refl _) _⟩ ?_
  rintro W2 ⟨xA2, xB2, xK2⟩
  have A2 := hid xA2
  have B2 := hid xB2
  have K2 := hid xK2
  clear xA2 xB2 xK2
  obtain ⟨a0, a1, a2, a3, a4, a5, a6, a7, a8⟩ := cells9 (A2.out)
  obtain ⟨b0, b1, b2, b3, b4, b5, b6, b7, b8⟩ := cells9 (B2.out)
  go_wp2_with fail
  refine (SB.out _).mono ?_
  rintro e W3 ⟨rfl, k3⟩
  have A3 := hid (bl_kp A2.out k3)
  have K3 := hid (K2.out.trans k3)
  clear k3 a0 a1 a2 a3 a4 a5 a6 a7 a8 b0 b1 b2 b3 b4 b5 b6 b7 b8
  have x0 := bl_cell A3.out 0 _ rfl
  cases sm with
  | false =>
   go_wp2_with fail
   go_ret
   exact ⟨ret_bool (by rw [E.out]; rfl), K3.out⟩
  | true =>
   go_wp2_with fail
   refine (KF.out _).mono ?_
   rintro e W3 ⟨rfl, rfl⟩
   go_wp2_with fail
   go_ret
   exact ⟨ret_bool (by rw [E.out]; rfl), K3.out⟩
 by_cases k4 : k = 4
 ·
  subst k4
  obtain ⟨sm, hsm⟩ : ∃ sm, (mn == mn && mx == mx && m == 0 && t == W4.z) = sm := ⟨_, rfl⟩
  have SB := hid (same_bare 4 mn mx m mn mx 0 t W4.z sm hsm)
  have E : Hid (leanB (.mk 4 mn mx m t kids) = (sm && kf)) := by show _ = _; rw [E0.out, ← hsm]; simp
  clear hsm
  obtain ⟨a0, a1, a2, a3, a4, a5, a6, a7, a8⟩ := cells9 (A0.out)
  go_upto_region 6 with fail
  clear a0 a1 a2 a3 a4 a5 a6 a7 a8
  have BB := hid B0.out
  have Q0 : Ks V0.heap.size W0 W0.drew := (Ks.refl _ _).drew
  have MK : Hid (∀ W, Ks V0.heap.size W0 W → W.cell? ⟨w.heap.size, 1, none⟩ = some (.int .i64 mn) ∧ W.cell? ⟨w.heap.size, 2, none⟩ = some (.int .i64 mx) ∧ Hid (Ks V0.heap.size W0 W)) := fun W k => ⟨bl_cell (bl_ks A0.out (by omega) k) 1 _ rfl, bl_cell (bl_ks A0.out (by omega) k) 2 _ rfl, k⟩
  refine wp_region_noPanic ?_
  refine hdrew MK Q0 (fun hH => ?_)
  have KQ := Q0
  refine tk 0 (some 17) (Op.fieldAddr 27 (Operand.tmp 1) 1) 0 (v := ?v0a1) rfl ?h0a1 hH ?_
  case h0a1 => intro _ _; go_simp; try with_reducible rfl
  try simp only [ps]
  refine tk 1 (some 18) (Op.load 3 (Operand.tmp 17)) 3 (v := ?v1a2) rfl ?h1a2 hH ?_
  case h1a2 => intro _ _; go_simp; try with_reducible rfl
  try simp only [ps]
  refine tk 2 (some 19) (Op.fieldAddr 27 (Operand.tmp 1) 2) 0 (v := ?v2a3) rfl ?h2a3 hH ?_
  case h2a3 => intro _ _; go_simp; try with_reducible rfl
  try simp only [ps]
  refine tk 3 (some 20) (Op.load 3 (Operand.tmp 19)) 3 (v := ?v3a4) rfl ?h3a4 hH ?_
  case h3a4 => intro _ _; go_simp; try with_reducible rfl
  try simp only [ps]
  refine tk 4 (some 21) (Op.fieldAddr 27 (Operand.tmp 3) 1) 0 (v := ?v4a5) rfl ?h4a5 hH ?_
  case h4a5 => intro _ _; go_simp; try with_reducible rfl
  try simp only [ps]
  refine wpAnyH_ready (rs := [5]) (by kernel_rfl) (by simp) ?_
  refine AllReadyH.cons (o := { dst := none, op := Op.store 3 (Operand.tmp 21) (Operand.tmp 18), type := 0, pos := "right.go:61", after := #[{ on := 4, ground := Ground.data }, { on := 1, ground := Ground.data }, { on := 0, ground := Ground.phase }, { on := 1, ground := Ground.phase }, { on := 2, ground := Ground.textOnly Departure.lateStores }, { on := 3, ground := Ground.textOnly Departure.lateStores }], guard := none }) rfl (fun K hKq => ?_) AllReadyH.nil
  have c1 := bl_cell BB.out 1 _ rfl
  have f1 := bl_frozen BB.out 1
  go_simp
  refine hKq.out _ _ (MK.out _ (KQ.set 1 _)) (fun hN => ?_)
  have BN := hid (bl_put (j := 1) BB.out (.int .i64 mn))
  clear BB c1 f1
  have BB := BN
  clear BN
  clear hKq K hH KQ
  have hH := hN
  clear hN
  have KQ := hH.2.2.out
  try simp only [ps]
  refine tk 6 (some 22) (Op.fieldAddr 27 (Operand.tmp 3) 2) 0 (v := ?v6a6) rfl ?h6a6 hH ?_
  case h6a6 => intro _ _; go_simp; try with_reducible rfl
  try simp only [ps]
  refine wpAnyH_ready (rs := [7]) (by kernel_rfl) (by simp) ?_
  refine AllReadyH.cons (o := { dst := none, op := Op.store 3 (Operand.tmp 22) (Operand.tmp 20), type := 0, pos := "right.go:61", after := #[{ on := 6, ground := Ground.data }, { on := 3, ground := Ground.data }, { on := 5, ground := Ground.chain }, { on := 0, ground := Ground.phase }, { on := 1, ground := Ground.phase }, { on := 2, ground := Ground.phase }, { on := 3, ground := Ground.phase }, { on := 4, ground := Ground.phase }, { on := 5, ground := Ground.phase }], guard := none }) rfl (fun K hKq => ?_) AllReadyH.nil
  have c2 := bl_cell BB.out 2 _ rfl
  have f2 := bl_frozen BB.out 2
  go_simp
  refine hKq.out _ _ (MK.out _ (KQ.set 2 _)) (fun hN => ?_)
  have BN := hid (bl_put (j := 2) BB.out (.int .i64 mx))
  clear BB c2 f2
  have BB := BN
  clear BN
  clear hKq K hH KQ
  have hH := hN
  clear hN
  have KQ := hH.2.2.out
  try simp only [ps]
  refine wpAnyH_done (by kernel_rfl) ?_ _
  refine NoPanic.normal ?_
  go_upto_region 10 with fail
  refine opq (fun W1 => W1.heap[w.heap.size]? = some (rxo 4 mn mx m t (.slice ad l c)) ∧ W1.heap[V0.heap.size]? = some (rxo 4 mn mx 0 W4.z (.slice none 0 0)) ∧ Kp w W1) ⟨by exact bl_ks A0.out (by omega) KQ, by exact bl_drew BB.out, by exact KQ.up K0.out (Nat.le_of_lt hsV)⟩ ?_
  rintro W1 ⟨xA1, xB1, xK1⟩
  have A1 := hid xA1
  have B1 := hid xB1
  have K1 := hid xK1
  clear xA1 xB1 xK1
  clear A0 B0 K0 BB hH KQ Q0 MK
  have A0 := A1
  have K0 := K1
  clear A1 K1
  obtain ⟨a0, fa0, a1, fa1, a2, fa2, a3, fa3, a4, fa4, a5, fa5, a6, fa6, a7, fa7, a8, fa8⟩ := cellf9 (A0.out)
  go_upto_region 12 with fail
  clear a0 fa0 a1 fa1 a2 fa2 a3 fa3 a4 fa4 a5 fa5 a6 fa6 a7 fa7 a8 fa8
  refine opq (fun W2 => W2.heap[w.heap.size]? = some (rxo 4 mn mx m t (.slice none 0 0)) ∧ W2.heap[V0.heap.size]? = some (rxo 4 mn mx 0 W4.z (.slice none 0 0)) ∧ Kp w W2) ⟨by exact bl_put A0.out _, by exact bl_set B1.out (by omega) _, by exact K0.out.setCell (Nat.le_refl _) _⟩ ?_
  rintro W2 ⟨xA2, xB2, xK2⟩
  have A2 := hid xA2
  have B2 := hid xB2
  have K2 := hid xK2
  clear xA2 xB2 xK2
  obtain ⟨a0, a1, a2, a3, a4, a5, a6, a7, a8⟩ := cells9 (A2.out)
  obtain ⟨b0, b1, b2, b3, b4, b5, b6, b7, b8⟩ := cells9 (B2.out)
  go_wp2_with fail
  refine (SB.out _).mono ?_
  rintro e W3 ⟨rfl, k3⟩
  have A3 := hid (bl_kp A2.out k3)
  have K3 := hid (K2.out.trans k3)
  clear k3 a0 a1 a2 a3 a4 a5 a6 a7 a8 b0 b1 b2 b3 b4 b5 b6 b7 b8
  have x0 := bl_cell A3.out 0 _ rfl
  cases sm with
  | false =>
   go_wp2_with fail
   go_ret
   exact ⟨ret_bool (by rw [E.out]; rfl), K3.out⟩
  | true =>
   go_wp2_with fail
   refine (KF.out _).mono ?_
   rintro e W3 ⟨rfl, rfl⟩
   go_wp2_with fail
   go_ret
   exact ⟨ret_bool (by rw [E.out]; rfl), K3.out⟩
 by_cases k5 : k = 5
 ·
  subst k5
  obtain ⟨sm, hsm⟩ : ∃ sm, (mn == 0 && mx == 0 && m == m && t == W4.z) = sm := ⟨_, rfl⟩
  have SB := hid (same_bare 5 mn mx m 0 0 m t W4.z sm hsm)
  have E : Hid (leanB (.mk 5 mn mx m t kids) = (sm && kf)) := by show _ = _; rw [E0.out, ← hsm]; (first | (simp; done) | (simp; cases mn == 0 <;> cases mx == 0 <;> cases t == W4.z <;> rfl))
  clear hsm
  obtain ⟨a0, a1, a2, a3, a4, a5, a6, a7, a8⟩ := cells9 (A0.out)
  obtain ⟨b0, fb0, b1, fb1, b2, fb2, b3, fb3, b4, fb4, b5, fb5, b6, fb6, b7, fb7, b8, fb8⟩ := cellf9 (B0.out)
  go_upto_region 10 with fail
  clear a0 a1 a2 a3 a4 a5 a6 a7 a8 b0 fb0 b1 fb1 b2 fb2 b3 fb3 b4 fb4 b5 fb5 b6 fb6 b7 fb7 b8 fb8
  refine opq (fun W1 => W1.heap[w.heap.size]? = some (rxo 5 mn mx m t (.slice ad l c)) ∧ W1.heap[V0.heap.size]? = some (rxo 5 0 0 m W4.z (.slice none 0 0)) ∧ Kp w W1) ⟨by exact bl_set A0.out (by omega) _, by exact bl_put B0.out _, by exact K0.out.setCell (Nat.le_of_lt hsV) _⟩ ?_
  rintro W1 ⟨xA1, xB1, xK1⟩
  have A1 := hid xA1
  have B1 := hid xB1
  have K1 := hid xK1
  clear xA1 xB1 xK1
  clear A0 B0 K0
  have A0 := A1
  have K0 := K1
  clear A1 K1
  obtain ⟨a0, fa0, a1, fa1, a2, fa2, a3, fa3, a4, fa4, a5, fa5, a6, fa6, a7, fa7, a8, fa8⟩ := cellf9 (A0.out)
  go_upto_region 12 with fail
  clear a0 fa0 a1 fa1 a2 fa2 a3 fa3 a4 fa4 a5 fa5 a6 fa6 a7 fa7 a8 fa8
  refine opq (fun W2 => W2.heap[w.heap.size]? = some (rxo 5 mn mx m t (.slice none 0 0)) ∧ W2.heap[V0.heap.size]? = some (rxo 5 0 0 m W4.z (.slice none 0 0)) ∧ Kp w W2) ⟨by exact bl_put A0.out _, by exact bl_set B1.out (by omega) _, by exact K0.out.setCell (Nat.le_refl _) _⟩ ?_
  rintro W2 ⟨xA2, xB2, xK2⟩
  have A2 := hid xA2
  have B2 := hid xB2
  have K2 := hid xK2
  clear xA2 xB2 xK2
  obtain ⟨a0, a1, a2, a3, a4, a5, a6, a7, a8⟩ := cells9 (A2.out)
  obtain ⟨b0, b1, b2, b3, b4, b5, b6, b7, b8⟩ := cells9 (B2.out)
  go_wp2_with fail
  refine (SB.out _).mono ?_
  rintro e W3 ⟨rfl, k3⟩
  have A3 := hid (bl_kp A2.out k3)
  have K3 := hid (K2.out.trans k3)
  clear k3 a0 a1 a2 a3 a4 a5 a6 a7 a8 b0 b1 b2 b3 b4 b5 b6 b7 b8
  have x0 := bl_cell A3.out 0 _ rfl
  cases sm with
  | false =>
   go_wp2_with fail
   go_ret
   exact ⟨ret_bool (by rw [E.out]; rfl), K3.out⟩
  | true =>
   go_wp2_with fail
   refine (KF.out _).mono ?_
   rintro e W3 ⟨rfl, rfl⟩
   go_wp2_with fail
   go_ret
   exact ⟨ret_bool (by rw [E.out]; rfl), K3.out⟩
 by_cases k6 : k = 6
 ·
  subst k6
  obtain ⟨sm, hsm⟩ : ∃ sm, (mn == 0 && mx == 0 && m == m && t == W4.z) = sm := ⟨_, rfl⟩
  have SB := hid (same_bare 6 mn mx m 0 0 m t W4.z sm hsm)
  have E : Hid (leanB (.mk 6 mn mx m t kids) = (sm && kf)) := by show _ = _; rw [E0.out, ← hsm]; (first | (simp; done) | (simp; cases mn == 0 <;> cases mx == 0 <;> cases t == W4.z <;> rfl))
  clear hsm
  obtain ⟨a0, a1, a2, a3, a4, a5, a6, a7, a8⟩ := cells9 (A0.out)
  obtain ⟨b0, fb0, b1, fb1, b2, fb2, b3, fb3, b4, fb4, b5, fb5, b6, fb6, b7, fb7, b8, fb8⟩ := cellf9 (B0.out)
  go_upto_region 10 with fail
  clear a0 a1 a2 a3 a4 a5 a6 a7 a8 b0 fb0 b1 fb1 b2 fb2 b3 fb3 b4 fb4 b5 fb5 b6 fb6 b7 fb7 b8 fb8
  refine opq (fun W1 => W1.heap[w.heap.size]? = some (rxo 6 mn mx m t (.slice ad l c)) ∧ W1.heap[V0.heap.size]? = some (rxo 6 0 0 m W4.z (.slice none 0 0)) ∧ Kp w W1) ⟨by exact bl_set A0.out (by omega) _, by exact bl_put B0.out _, by exact K0.out.setCell (Nat.le_of_lt hsV) _⟩ ?_
  rintro W1 ⟨xA1, xB1, xK1⟩
  have A1 := hid xA1
  have B1 := hid xB1
  have K1 := hid xK1
  clear xA1 xB1 xK1
  clear A0 B0 K0
  have A0 := A1
  have K0 := K1
  clear A1 K1
  obtain ⟨a0, fa0, a1, fa1, a2, fa2, a3, fa3, a4, fa4, a5, fa5, a6, fa6, a7, fa7, a8, fa8⟩ := cellf9 (A0.out)
  go_upto_region 12 with fail
  clear a0 fa0 a1 fa1 a2 fa2 a3 fa3 a4 fa4 a5 fa5 a6 fa6 a7 fa7 a8 fa8
  refine opq (fun W2 => W2.heap[w.heap.size]? = some (rxo 6 mn mx m t (.slice none 0 0)) ∧ W2.heap[V0.heap.size]? = some (rxo 6 0 0 m W4.z (.slice none 0 0)) ∧ Kp w W2) ⟨by exact bl_put A0.out _, by exact bl_set B1.out (by omega) _, by exact K0.out.setCell (Nat.le_refl _) _⟩ ?_
  rintro W2 ⟨xA2, xB2, xK2⟩
  have A2 := hid xA2
  have B2 := hid xB2
  have K2 := hid xK2
  clear xA2 xB2 xK2
  obtain ⟨a0, a1, a2, a3, a4, a5, a6, a7, a8⟩ := cells9 (A2.out)
  obtain ⟨b0, b1, b2, b3, b4, b5, b6, b7, b8⟩ := cells9 (B2.out)
  go_wp2_with fail
  refine (SB.out _).mono ?_
  rintro e W3 ⟨rfl, k3⟩
  have A3 := hid (bl_kp A2.out k3)
  have K3 := hid (K2.out.trans k3)
  clear k3 a0 a1 a2 a3 a4 a5 a6 a7 a8 b0 b1 b2 b3 b4 b5 b6 b7 b8
  have x0 := bl_cell A3.out 0 _ rfl
  cases sm with
  | false =>
   go_wp2_with fail
   go_ret
   exact ⟨ret_bool (by rw [E.out]; rfl), K3.out⟩
  | true =>
   go_wp2_with fail
   refine (KF.out _).mono ?_
   rintro e W3 ⟨rfl, rfl⟩
   go_wp2_with fail
   go_ret
   exact ⟨ret_bool (by rw [E.out]; rfl), K3.out⟩
 have g1 : (k == 1) = false := by simp [k1]
 have g4 : (k == 4) = false := by simp [k4]
 have g5 : (k == 5) = false := by simp [k5]
 have g6 : (k == 6) = false := by simp [k6]
 obtain ⟨sm, hsm⟩ : ∃ sm, (mn == 0 && mx == 0 && m == 0 && t == W4.z) = sm := ⟨_, rfl⟩
 have SB := hid (same_bare k mn mx m 0 0 0 t W4.z sm hsm)
 have E : Hid (leanB (.mk k mn mx m t kids) = (sm && kf)) := by show _ = _; rw [E0.out, ← hsm]; rw [if_neg k4, if_neg (by omega), if_neg k1]; first | done | (cases mn == 0 <;> cases mx == 0 <;> cases m == 0 <;> cases t == W4.z <;> rfl)
 clear hsm
 obtain ⟨a0, fa0, a1, fa1, a2, fa2, a3, fa3, a4, fa4, a5, fa5, a6, fa6, a7, fa7, a8, fa8⟩ := cellf9 (A0.out)
 go_upto_region 12 with fail
 clear a0 fa0 a1 fa1 a2 fa2 a3 fa3 a4 fa4 a5 fa5 a6 fa6 a7 fa7 a8 fa8
 refine opq (fun W2 => W2.heap[w.heap.size]? = some (rxo k mn mx m t (.slice none 0 0)) ∧ W2.heap[V0.heap.size]? = some (rxo k 0 0 0 W4.z (.slice none 0 0)) ∧ Kp w W2) ⟨by exact bl_put A0.out _, by exact bl_set B0.out (by omega) _, by exact K0.out.setCell (Nat.le_refl _) _⟩ ?_
 rintro W2 ⟨xA2, xB2, xK2⟩
 have A2 := hid xA2
 have B2 := hid xB2
 have K2 := hid xK2
 clear xA2 xB2 xK2
 obtain ⟨a0, a1, a2, a3, a4, a5, a6, a7, a8⟩ := cells9 (A2.out)
 obtain ⟨b0, b1, b2, b3, b4, b5, b6, b7, b8⟩ := cells9 (B2.out)
 go_wp2_with fail
 refine (SB.out _).mono ?_
 rintro e W3 ⟨rfl, k3⟩
 have A3 := hid (bl_kp A2.out k3)
 have K3 := hid (K2.out.trans k3)
 clear k3 a0 a1 a2 a3 a4 a5 a6 a7 a8 b0 b1 b2 b3 b4 b5 b6 b7 b8
 have x0 := bl_cell A3.out 0 _ rfl
 cases sm with
 | false =>
  go_wp2_with fail
  go_ret
  exact ⟨ret_bool (by rw [E.out]; rfl), K3.out⟩
 | true =>
  go_wp2_with fail
  refine (KF.out _).mono ?_
  rintro e W3 ⟨rfl, rfl⟩
  go_wp2_with fail
  go_ret
  exact ⟨ret_bool (by rw [E.out]; rfl), K3.out⟩
end Go.Proofs.YtnajcnhgeggngaaGreat

/-! ### Right1 -/

namespace Go.Proofs.YtnajcnhgeggngaaGreat
open Go.RowKit

theorem RowAt.ks {P : Nat} {w w' : World} {ok : Nat → Prop} {ts : List Rx} {ad : Option Addr} {l c : Nat} (h : RowAt w ok ts ad l c) (k : Ks P w w') (hP : ∀ x, ok x → x ≠ P) : RowAt w' ok ts ad l c :=
 ⟨h.ln, h.cp, fun hn => by
  obtain ⟨b, o, h1, h2, h3, h4⟩ := h.ex hn
  exact ⟨b, o, h1, h2, Nat.lt_of_lt_of_le h3 k.size, IsL.turn k.size (fun b hb hl => ⟨hb, k.block b hl (hP b hb)⟩) ts b o (k.block b h3 (hP b h2)) h4⟩⟩
theorem Cb.lt {w : World} {C : Nat} {ere : Bool} {n g d : Nat} (h : Cb w C ere n g d) : C < w.heap.size := bl_lt h
theorem Ckd.no {C : Nat} {ere : Bool} {o : Option Ck} {w w' : World} {d0 n g d : Nat} (ho : o = none) (hc : Cb w' C ere n g d) (hn : n ≤ 41) (hg : g ≤ 41) (hd : d ≤ 7) (h0 : d0 ≤ d) (k : Ks C w w') : Ckd C ere d0 o w (.returned (.bool false)) w' :=
 ⟨false, rfl, by rw [ho]; rfl, ⟨n, g, d, hc, hn, hg, hd, h0, fun c h => by rw [ho] at h; cases h⟩, k⟩
theorem Ckd.yes {C : Nat} {ere : Bool} {o : Option Ck} {w w' : World} {d0 n g d : Nat} (ho : o = some ⟨n, g, d⟩) (hc : Cb w' C ere n g d) (hn : n ≤ 41) (hg : g ≤ 41) (hd : d ≤ 7) (h0 : d0 ≤ d) (k : Ks C w w') : Ckd C ere d0 o w (.returned (.bool true)) w' :=
 ⟨true, rfl, by rw [ho]; rfl, ⟨n, g, d, hc, hn, hg, hd, h0, fun c h => by rw [ho] at h; injection h with h; subst h; exact ⟨rfl, rfl, rfl⟩⟩, k⟩

structure CkOk (c c' : Ck) : Prop where
 n : c'.n ≤ 40
 g : c'.g ≤ c'.n
 d : c'.d = c.d
mutual
theorem chk_ok (ere : Bool) : ∀ (r : Rx) (b e : Bool) (c c' : Ck), c.n ≤ 40 → c.g ≤ c.n → chk ere r b e c = some c' → CkOk c c' ∧ c.n < c'.n
 | .mk k mn mx n s kids, b, e, c, c', hn, hg, h => by
  unfold chk at h
  split at h
  ·
   cases h
  ·
   rename_i h0
   have h40 : c.n + 1 ≤ 40 := by omega
   have one : some (⟨c.n + 1, c.g, c.d⟩ : Ck) = some c' → CkOk c c' ∧ c.n < c'.n := fun h => by
    injection h with h; subst h
    exact ⟨⟨h40, by show c.g ≤ c.n + 1; omega, rfl⟩, by show c.n < c.n + 1; omega⟩
   split at h
   ·
    split at h
    ·
     exact one h
    ·
     cases h
   split at h
   ·
    have := chkCat_ok ere kids true ⟨c.n + 1, c.g, c.d⟩ c' h40 (by show c.g ≤ c.n + 1; omega) h
    exact ⟨⟨this.1.n, this.1.g, this.1.d⟩, by have := this.2; simp only at this; omega⟩
   split at h
   ·
    split at h
    ·
     have := chkAlt_ok ere kids ⟨c.n + 1, c.g, c.d⟩ c' h40 (by show c.g ≤ c.n + 1; omega) h
     exact ⟨⟨this.1.n, this.1.g, this.1.d⟩, by have := this.2; simp only at this; omega⟩
    ·
     cases h
   split at h
   ·
    split at h
    ·
     have := chkRep_ok ere kids ⟨c.n + 1, c.g, c.d⟩ c' h40 (by show c.g ≤ c.n + 1; omega) h
     exact ⟨⟨this.1.n, this.1.g, this.1.d⟩, by have := this.2; simp only at this; omega⟩
    ·
     cases h
   split at h
   ·
    split at h
    ·
     cases h
    ·
     have := chkGroup_ok ere kids ⟨c.n + 1, c.g + 1, c.d + 1⟩ c' h40 (by show c.g + 1 ≤ c.n + 1; omega) h
     exact ⟨⟨this.1, this.2.1, by have := this.2.2.1; simp only at this; omega⟩, by have := this.2.2.2; simp only at this; omega⟩
   split at h
   ·
    split at h
    ·
     exact one h
    ·
     cases h
   split at h
   ·
    split at h
    ·
     exact one h
    ·
     cases h
   split at h
   ·
    split at h
    ·
     exact one h
    ·
     cases h
   ·
    cases h
theorem chkCat_ok (ere : Bool) : ∀ (rs : List Rx) (f : Bool) (c c' : Ck), c.n ≤ 40 → c.g ≤ c.n → chkCat ere rs f c = some c' → CkOk c c' ∧ c.n ≤ c'.n
 | [], f, c, c', hn, hg, h => by
  unfold chkCat at h
  injection h with h; subst h
  exact ⟨⟨hn, hg, rfl⟩, Nat.le_refl _⟩
 | r :: rs, f, c, c', hn, hg, h => by
  unfold chkCat at h
  split at h
  ·
   cases h
  ·
   split at h
   ·
    cases h
   ·
    rename_i c1 hc1
    have h1 := chk_ok ere r f rs.isEmpty c c1 hn hg hc1
    have h2 := chkCat_ok ere rs false c1 c' h1.1.n h1.1.g h
    exact ⟨⟨h2.1.n, h2.1.g, h2.1.d.trans h1.1.d⟩, by omega⟩
theorem chkAlt_ok (ere : Bool) : ∀ (rs : List Rx) (c c' : Ck), c.n ≤ 40 → c.g ≤ c.n → chkAlt ere rs c = some c' → CkOk c c' ∧ c.n ≤ c'.n
 | [], c, c', hn, hg, h => by
  unfold chkAlt at h
  injection h with h; subst h
  exact ⟨⟨hn, hg, rfl⟩, Nat.le_refl _⟩
 | r :: rs, c, c', hn, hg, h => by
  unfold chkAlt at h
  split at h
  ·
   cases h
  ·
   split at h
   ·
    cases h
   ·
    rename_i c1 hc1
    have h1 := chk_ok ere r false false c c1 hn hg hc1
    have h2 := chkAlt_ok ere rs c1 c' h1.1.n h1.1.g h
    exact ⟨⟨h2.1.n, h2.1.g, h2.1.d.trans h1.1.d⟩, by omega⟩
theorem chkRep_ok (ere : Bool) : ∀ (rs : List Rx) (c c' : Ck), c.n ≤ 40 → c.g ≤ c.n → chkRep ere rs c = some c' → CkOk c c' ∧ c.n ≤ c'.n
 | [], c, c', hn, hg, h => by unfold chkRep at h; cases h
 | r :: rs, c, c', hn, hg, h => by
  unfold chkRep at h
  split at h
  ·
   have h1 := chk_ok ere r false false c c' hn hg h
   exact ⟨h1.1, by omega⟩
  ·
   cases h
theorem chkGroup_ok (ere : Bool) : ∀ (rs : List Rx) (c c' : Ck), c.n ≤ 40 → c.g ≤ c.n → chkGroup ere rs c = some c' → c'.n ≤ 40 ∧ c'.g ≤ c'.n ∧ c'.d = c.d - 1 ∧ c.n ≤ c'.n
 | [], c, c', hn, hg, h => by unfold chkGroup at h; cases h
 | r :: rs, c, c', hn, hg, h => by
  unfold chkGroup at h
  split at h
  ·
   cases h
  ·
   rename_i c1 hc1
   injection h with h; subst h
   have h1 := chk_ok ere r true true c c1 hn hg hc1
   exact ⟨h1.1.n, h1.1.g, by show c1.d - 1 = c.d - 1; rw [h1.1.d], by show c.n ≤ c1.n; omega⟩
end
end Go.Proofs.YtnajcnhgeggngaaGreat

/-! ### Right2 -/

namespace Go.Proofs.YtnajcnhgeggngaaGreat
set_option maxHeartbeats 2000000
set_option maxRecDepth 100000
open Go.RowKit

theorem chkCat_cons (ere : Bool) (r : Rx) (rs : List Rx) (f : Bool) (c : Ck) : chkCat ere (r :: rs) f c = if r.k = 2 ∨ r.k = 3 then none else (chk ere r f rs.isEmpty c).bind fun c' => chkCat ere rs false c' := by
 rw [chkCat]
 split
 ·
  rfl
 ·
  cases chk ere r f rs.isEmpty c <;> rfl
theorem Is.kind' {w : World} {ok : Nat → Prop} {r : Rx} {k mn mx n : Int} {s : W4} {ks : Value} (h : Is w ok r (rxv k mn mx n s ks)) : r.k = k := by
 cases r with
 | mk k' mn' mx' n' s' kids =>
  unfold Is at h
  obtain ⟨ad, l, c, he, _⟩ := h
  injection he with he
  injection he with he
  simp at he
  exact he.1.symm
theorem Ks.kpt' {P : Nat} {a b c : World} (h : Ks P a b) (k : Kp b c) (hP : P < b.heap.size) : Ks P a c := h.kp k (Nat.le_of_lt hP)
structure Kw (ere : Bool) (C : Nat) (d0 : Nat) (w : World) (ts : List Rx) (o : Option Ck) (k : Nat) (wr : World) (c : Ck) : Prop where
 cb : Cb wr C ere c.n c.g c.d
 n : c.n ≤ 40
 g : c.g ≤ c.n
 d : c.d = d0
 eq : chkCat ere (ts.drop k) (k == 0) c = o
 ks : Ks C w wr
theorem Ckd.form {C : Nat} {ere : Bool} {d0 : Nat} {o : Option Ck} {w w' : World} {e : Ending} (h : Ckd C ere d0 o w e w') : (∃ c, o = some c ∧ e = .returned (.bool true) ∧ Cb w' C ere c.n c.g c.d ∧ Ks C w w') ∨ (o = none ∧ e = .returned (.bool false) ∧ (∃ n g d, Cb w' C ere n g d ∧ n ≤ 41 ∧ g ≤ 41 ∧ d ≤ 7 ∧ d0 ≤ d) ∧ Ks C w w') := by
 obtain ⟨b, he, hb, ⟨n, g, d, hc, h1, h2, h3, h3', h4⟩, hk⟩ := h.ex
 cases o with
 | none =>
  refine Or.inr ⟨rfl, ?_, ⟨n, g, d, hc, h1, h2, h3, h3'⟩, hk⟩
  rw [he, hb]; rfl
 | some c =>
  obtain ⟨e1, e2, e3⟩ := h4 c rfl
  subst e1; subst e2; subst e3
  refine Or.inl ⟨c, rfl, ?_, hc, hk⟩
  rw [he, hb]; rfl

theorem cat_any (ere : Bool) (ts : List Rx) (H : ∀ r, r ∈ ts → RightSaid ere r) (C : Nat) (ok : Nat → Prop) (ad : Option Addr) (l c : Nat) (n g d : Nat) (w : World) (hr : RowAt w ok ts ad l c) (hok : ∀ x, ok x → x ≠ C) (hc : Cb w C ere n g d) (hn : n ≤ 40) (hg : g ≤ n) (hd : d ≤ 6) (hl : ts.length ≤ 1000000) :
  Calls Tryz.prog 73 #[.pointer (some ⟨C, 0, none⟩), .slice ad l c] w fun e w' => Ckd C ere d (chkCat ere ts true ⟨n, g, d⟩) w e w' := by
 have hle := hr.ln
 have hlc := hr.cp
 subst hle
 obtain ⟨L, hL⟩ : ∃ L, ts.length = L := ⟨_, rfl⟩
 rw [hL] at hr hlc hl ⊢
 have HL := hid hL
 have RR := hid hr
 have HC := hid hc
 have HH := hid H
 have HOK := hid hok
 clear hL hr hc H hok
 obtain ⟨o, ho⟩ : ∃ o, chkCat ere ts true ⟨n, g, d⟩ = o := ⟨_, rfl⟩
 rw [ho]
 have HO := hid ho
 clear ho
 go_enter Tryz.func73, Tryz.ntmps73
 go_wp2_with fail
 go_loopg [9] L (fun gg v wr => ∃ (k : Nat) (c : Ck), k + gg = L ∧ v = .int .i64 (k : Int) ∧ Kw ere C d w ts o k wr c)
 case atStart => exact ⟨0, ⟨n, g, d⟩, by omega, rfl, HC.out, hn, hg, rfl, HO.out, Ks.refl _ _⟩
 case round =>
  obtain ⟨k, ⟨n1, g1, d1⟩, hk, rfl, hw⟩ := hrel
  have KW := hid hw
  have hn1 : n1 ≤ 40 := hw.n
  have hg1 : g1 ≤ n1 := hw.g
  have hd1 : d1 = d := hw.d
  subst hd1
  clear hw
  by_cases hlt : k < L
  ·
   have gkw : IntKind.i64.wrap ((k : Int) + 1) = (k : Int) + 1 := by rw [IntKind.wrap_i64]; omega
   have ga : (k : Int) < (L : Int) := by omega
   have g0 : (0 : Int) ≤ (k : Int) := by omega
   have gl : IntKind.i64.wrap ((L : Int) - 1) = (L : Int) - 1 := by rw [IntKind.wrap_i64]; omega
   obtain ⟨r, hr⟩ : ∃ r, ts[k]? = some r := ⟨_, List.getElem?_eq_getElem (by rw [HL.out]; exact hlt)⟩
   have hdrop : ts.drop k = r :: ts.drop (k + 1) := List.drop_eq_getElem_cons (by rw [HL.out]; exact hlt) ▸ by
    have := (List.getElem?_eq_some_iff.1 hr).2
    rw [this]
   have RW := hid (RR.out.ks KW.out.ks HOK.out)
   obtain ⟨bb, oo, kk, mn, mx, mm, tt, ad', ll, cc, e1, hbb, i1, ce1⟩ := RW.out.at k r hr
   subst e1
   have RS := hid (HH.out r (List.mem_of_getElem? hr))
   have I1 := hid i1
   have hkk : r.k = kk := i1.kind'
   have HKK := hid hkk
   have CE1 := hid ce1
   have HD := hid hdrop
   have lastB : (ts.drop (k + 1)).isEmpty = ((k : Int) == (L : Int) - 1) := by
    rw [Bool.eq_iff_iff]
    simp
    rw [HL.out]
    omega
   have HLB := hid lastB
   have E0 : Hid (o = if kk = 2 ∨ kk = 3 then none else (chk ere r ((k : Int) == 0) ((k : Int) == (L : Int) - 1) ⟨n1, g1, d1⟩).bind fun c' => chkCat ere (ts.drop (k + 1)) false c') := by
    show _ = _
    rw [← KW.out.eq, hdrop, chkCat_cons, hkk, lastB]
    rw [show (k == 0) = ((k : Int) == 0) by rw [Bool.eq_iff_iff]; simp]
   obtain ⟨zb, hzb⟩ : ∃ zb, ((k : Int) == 0) = zb := ⟨_, rfl⟩
   obtain ⟨zl, hzl⟩ : ∃ zl, ((k : Int) == (L : Int) - 1) = zl := ⟨_, rfl⟩
   rw [hzb, hzl] at E0
   clear hr i1 ce1 hkk hdrop lastB
   obtain ⟨x0, x1, x2, x3, x4, x5, x6, x7, x8⟩ := cells_of_is CE1.out
   go_upto_region 4 with fail
   clear x0 x1 x2 x3 x4 x5 x6 x7 x8
   refine opq (fun W => W.heap[wr.heap.size]? = some (rxo kk mn mx mm tt (.slice ad' ll cc)) ∧ Kp wr W) ⟨by exact last_at _ _ _ (by simp), by exact (Kp.refl _).alloc _⟩ ?_
   rintro W1 ⟨y1, y2⟩
   have A1 := hid y1
   have K1 := hid y2
   clear y1 y2
   obtain ⟨a0, a1, a2, a3, a4, a5, a6, a7, a8⟩ := cells9 (A1.out)
   have hCw := KW.out.cb.lt
   have CB1 := hid (KW.out.cb.kp K1.out)
   have KS1 := hid (KW.out.ks.kpt' K1.out hCw)
   by_cases h2 : kk = 2
   ·
    subst h2
    have E : Hid (o = none) := by show _ = _; rw [E0.out]; rfl
    go_wp2_with fail
    go_ret
    exact Ckd.no E.out CB1.out (by show n1 ≤ 41; omega) (by show g1 ≤ 41; omega) (by show d1 ≤ 7; omega) (Nat.le_refl _) KS1.out
   by_cases h3 : kk = 3
   ·
    subst h3
    have E : Hid (o = none) := by show _ = _; rw [E0.out]; rfl
    go_wp2_with fail
    go_ret
    exact Ckd.no E.out CB1.out (by show n1 ≤ 41; omega) (by show g1 ≤ 41; omega) (by show d1 ≤ 7; omega) (Nat.le_refl _) KS1.out
   have g2 : (kk == 2) = false := by simp [h2]
   have g3 : (kk == 3) = false := by simp [h3]
   have E1 : Hid (o = (chk ere r zb zl ⟨n1, g1, d1⟩).bind fun c' => chkCat ere (ts.drop (k + 1)) false c') := by show _ = _; rw [E0.out, if_neg (by omega)]
   go_wp2_with fail
   clear a0 a1 a2 a3 a4 a5 a6 a7 a8
   refine (RS.out.all C ok _ zb zl n1 g1 d1 _ (I1.out.kp K1.out) HOK.out CB1.out hn1 hg1 hd).mono ?_
   intro e W2 hcd
   rcases hcd.form with ⟨c2, ho2, rfl, hcb2, hks2⟩ | ⟨ho2, rfl, ⟨n2, g2', d2, hcb2, b1, b2, b3, b4⟩, hks2⟩
   ·
    have hck := chk_ok ere r zb zl ⟨n1, g1, d1⟩ c2 hn1 hg1 ho2
    have CB2 := hid hcb2
    have KS2 := hid (KS1.out.trans hks2)
    have E2 : Hid (chkCat ere (ts.drop (k + 1)) (k + 1 == 0) c2 = o) := by show _ = _; rw [E1.out, ho2]; rfl
    have b1 : c2.n ≤ 40 := hck.1.n
    have b2 : c2.g ≤ c2.n := hck.1.g
    have b3 : c2.d = d1 := hck.1.d
    have B3 := hid b3
    clear b3
    clear hcd hcb2 hks2 ho2 hck
    go_wp2_with fail
    go_roundg (gk - 1)
    case measure => omega
    case rel => exact ⟨k + 1, c2, by omega, by go_num, CB2.out, b1, b2, B3.out, E2.out, KS2.out⟩
   ·
    have CB2 := hid hcb2
    have KS2 := hid (KS1.out.trans hks2)
    have E : Hid (o = none) := by show _ = _; rw [E1.out, ho2]; rfl
    clear hcd hcb2 hks2 ho2
    go_wp2_with fail
    go_ret
    exact Ckd.no E.out CB2.out b1 b2 b3 b4 KS2.out
  ·
   have ga : ¬ (k : Int) < (L : Int) := by omega
   have E : Hid (o = some ⟨n1, g1, d1⟩) := by
    have := KW.out.eq
    rw [List.drop_eq_nil_of_le (by rw [HL.out]; omega)] at this
    unfold chkCat at this
    exact this.symm
   go_wp2
   go_ret
   exact Ckd.yes E.out KW.out.cb (by omega) (by omega) (by omega) (Nat.le_refl _) KW.out.ks
end Go.Proofs.YtnajcnhgeggngaaGreat

/-! ### Right3 -/

namespace Go.Proofs.YtnajcnhgeggngaaGreat
set_option maxHeartbeats 2000000
set_option maxRecDepth 100000
open Go.RowKit

theorem Cb.groups {w : World} {C : Nat} {ere : Bool} {n g d : Nat} (h : Cb w C ere n g d) (j : Nat) : Cb (w.setCell ⟨C, 2, none⟩ (.int .i64 (j : Int))) C ere n j d := bl_put h _
theorem Cb.deep {w : World} {C : Nat} {ere : Bool} {n g d : Nat} (h : Cb w C ere n g d) (j : Nat) : Cb (w.setCell ⟨C, 3, none⟩ (.int .i64 (j : Int))) C ere n g j := bl_put h _
theorem Cb.nodes {w : World} {C : Nat} {ere : Bool} {n g d : Nat} (h : Cb w C ere n g d) (j : Nat) : Cb (w.setCell ⟨C, 1, none⟩ (.int .i64 (j : Int))) C ere j g d := bl_put h _

theorem rep_any (ere : Bool) (r : Rx) (H : RightSaid ere r) (C : Nat) (ok : Nat → Prop) (k mn mx m : Int) (t : W4) (ad : Option Addr) (l c : Nat) (n g d : Nat) (w : World) (hr : RowAt w ok [r] ad l c) (hok : ∀ x, ok x → x ≠ C) (hc : Cb w C ere n g d) (hn : n ≤ 40) (hg : g ≤ n) (hd : d ≤ 6) :
  Calls Tryz.prog 75 #[.pointer (some ⟨C, 0, none⟩), rxv k mn mx m t (.slice ad l c)] w fun e w' => Ckd C ere d (if timesFit mn mx then chkRep ere [r] ⟨n, g, d⟩ else none) w e w' := by
 have hle : l = 1 := hr.ln
 subst hle
 have hlc := hr.cp
 obtain ⟨bb, oo, kk, mn', mx', mm', tt', ad', ll', cc', e1, hbb, i1, ce1⟩ := hr.at 0 r rfl
 subst e1
 rw [Nat.zero_mul, Nat.add_zero] at ce1
 have I1 := hid i1
 have CE1 := hid ce1
 have hkk : r.k = kk := i1.kind'
 have HKK := hid hkk
 have HC := hid hc
 have hCw := hc.lt
 have HOK := hid hok
 have HH := hid H
 clear hr i1 ce1 hkk hc hok H
 obtain ⟨tf, htf⟩ : ∃ tf, timesFit mn mx = tf := ⟨_, rfl⟩
 have TF : Hid (∀ w, Calls Tryz.prog 105 #[.int .i64 mn, .int .i64 mx] w fun e w' => e = .returned (.bool tf) ∧ w' = w) := fun w => by have := timesFit_any mn mx w; rw [htf] at this; exact this
 rw [htf]
 clear htf
 obtain ⟨mr, hmr⟩ : ∃ mr, mayRep kk = mr := ⟨_, rfl⟩
 have RP : Hid (∀ w, Calls Tryz.prog 96 #[.int .i64 kk] w fun e w' => e = .returned (.bool mr) ∧ w' = w) := fun w => by
  have := repeatable_any kk w
  rw [show (kk == 1 || kk == 5 || kk == 6) = mr from hmr] at this
  exact this
 have E0 : Hid (chkRep ere [r] ⟨n, g, d⟩ = if mr then chk ere r false false ⟨n, g, d⟩ else none) := by show _ = _; rw [chkRep, HKK.out, hmr]
 clear hmr
 go_enter Tryz.func75, Tryz.ntmps75
 go_upto_region 1 with fail
 refine opq (fun W0 => W0.heap[w.heap.size]? = some (rxo k mn mx m t (.slice (some ⟨bb, oo, none⟩) 1 c)) ∧ Kp w W0) ⟨by (first | exact last_at _ _ _ (by simp) | (refine bl_alloc ?_ _; first | exact last_at _ _ _ (by simp) | (refine bl_alloc ?_ _; first | exact last_at _ _ _ (by simp) | (refine bl_alloc ?_ _; exact last_at _ _ _ (by simp))))), by exact kpt⟩ ?_
 rintro W0 ⟨xA0, xK0⟩
 have A0 := hid xA0
 have K0 := hid xK0
 clear xA0 xK0
 obtain ⟨a0, a1, a2, a3, a4, a5, a6, a7, a8⟩ := cells9 (A0.out)
 have CB0 := hid (HC.out.kp K0.out)
 have KS0 := hid (K0.out.ks (Nat.le_of_lt hCw))
 have CE0 := hid (CE1.out.turn (K0.out.block _ hbb))
 obtain ⟨x0, x1, x2, x3, x4, x5, x6, x7, x8⟩ := cells_of_is CE0.out
 go_wp2_with fail
 refine (TF.out _).mono ?_
 rintro e W0 ⟨rfl, rfl⟩
 cases tf with
 | false =>
  go_wp2_with fail
  go_ret
  exact Ckd.no rfl CB0.out (by omega) (by omega) (by omega) (Nat.le_refl _) KS0.out
 | true =>
  go_wp2_with fail
  refine (RP.out _).mono ?_
  rintro e W0 ⟨rfl, rfl⟩
  cases mr with
  | false =>
   go_wp2_with fail
   go_ret
   exact Ckd.no (by rw [E0.out]; rfl) CB0.out (by omega) (by omega) (by omega) (Nat.le_refl _) KS0.out
  | true =>
   go_wp2_with fail
   clear x0 x1 x2 x3 x4 x5 x6 x7 x8 a0 a1 a2 a3 a4 a5 a6 a7 a8
   refine (HH.out.all C ok _ false false n g d _ (I1.out.kp K0.out) HOK.out CB0.out hn hg hd).mono ?_
   intro e W2 hcd
   have HE : Hid (chkRep ere [r] ⟨n, g, d⟩ = chk ere r false false ⟨n, g, d⟩) := by show _ = _; rw [E0.out]; rfl
   rw [← HE.out] at hcd
   rcases hcd.form with ⟨c2, ho2, rfl, hcb2, hks2⟩ | ⟨ho2, rfl, ⟨n2, g2', d2, hcb2, b1, b2, b3, b4⟩, hks2⟩
   ·
    have HCD := hid (show Ckd C ere d (if true = true then chkRep ere [r] ⟨n, g, d⟩ else none) w (.returned (.bool true)) W2 from by
     obtain ⟨q, h1, h2, h3, h4⟩ := hcd.ex
     exact ⟨q, h1, h2, h3, KS0.out.trans h4⟩)
    clear hcd ho2 hcb2 hks2
    go_wp2_with fail
    go_ret
    exact HCD.out
   ·
    have HCD := hid (show Ckd C ere d (if true = true then chkRep ere [r] ⟨n, g, d⟩ else none) w (.returned (.bool false)) W2 from by
     obtain ⟨q, h1, h2, h3, h4⟩ := hcd.ex
     exact ⟨q, h1, h2, h3, KS0.out.trans h4⟩)
    clear hcd ho2 hcb2 hks2
    go_wp2_with fail
    go_ret
    exact HCD.out

theorem cgroup_any (ere : Bool) (r : Rx) (H : RightSaid ere r) (C : Nat) (ok : Nat → Prop) (k mn mx m : Int) (t : W4) (ad : Option Addr) (l c : Nat) (n g d : Nat) (w : World) (hr : RowAt w ok [r] ad l c) (hok : ∀ x, ok x → x ≠ C) (hc : Cb w C ere n g d) (hn : n ≤ 40) (hg : g + 1 ≤ n) (hd : d ≤ 6) :
  Calls Tryz.prog 76 #[.pointer (some ⟨C, 0, none⟩), rxv k mn mx m t (.slice ad l c)] w fun e w' => Ckd C ere d (if m ≠ (g + 1 : Nat) ∨ g + 1 > 3 ∨ d = 6 then none else chkGroup ere [r] ⟨n, g + 1, d + 1⟩) w e w' := by
 have hle : l = 1 := hr.ln
 subst hle
 have hlc := hr.cp
 obtain ⟨bb, oo, kk, mn', mx', mm', tt', ad', ll', cc', e1, hbb, i1, ce1⟩ := hr.at 0 r rfl
 subst e1
 rw [Nat.zero_mul, Nat.add_zero] at ce1
 have I1 := hid i1
 have CE1 := hid ce1
 have HC := hid hc
 have hCw := hc.lt
 have HOK := hid hok
 have HH := hid H
 have hbC : Hid (bb ≠ C) := by
  obtain ⟨b', o', h1, h2, _, _⟩ := hr.ex (by simp)
  injection h1 with h1; injection h1 with h1 _
  rw [h1]; exact hok _ h2
 clear hr i1 ce1 hc hok H
 have gg : IntKind.i64.wrap ((g : Int) + 1) = (g : Int) + 1 := by rw [IntKind.wrap_i64]; omega
 have gd : IntKind.i64.wrap ((d : Int) + 1) = (d : Int) + 1 := by rw [IntKind.wrap_i64]; omega
 obtain ⟨o, ho⟩ : ∃ o, (if m ≠ (g + 1 : Nat) ∨ g + 1 > 3 ∨ d = 6 then none else chkGroup ere [r] ⟨n, g + 1, d + 1⟩) = o := ⟨_, rfl⟩
 rw [ho]
 have HO := hid ho
 clear ho
 go_enter Tryz.func76, Tryz.ntmps76
 go_upto_region 1 with fail
 refine opq (fun W0 => W0.heap[w.heap.size]? = some (rxo k mn mx m t (.slice (some ⟨bb, oo, none⟩) 1 c)) ∧ Cb W0 C ere n g d ∧ Kp w W0) ⟨by (first | exact last_at _ _ _ (by simp) | (refine bl_alloc ?_ _; first | exact last_at _ _ _ (by simp) | (refine bl_alloc ?_ _; first | exact last_at _ _ _ (by simp) | (refine bl_alloc ?_ _; exact last_at _ _ _ (by simp))))), by exact HC.out.kp kpt, by exact kpt⟩ ?_
 rintro W0 ⟨xA0, xCB0, xK0⟩
 have A0 := hid xA0
 have CB0 := hid xCB0
 have K0 := hid xK0
 clear xA0 xCB0 xK0
 have c2 := CB0.out.cells.2.2.1
 have f2 := bl_frozen CB0.out 2
 go_upto_region 2 with fail
 clear c2 f2
 refine opq (fun W1 => W1.heap[w.heap.size]? = some (rxo k mn mx m t (.slice (some ⟨bb, oo, none⟩) 1 c)) ∧ Cb W1 C ere n (g + 1) d ∧ Ks C w W1) ⟨by exact bl_set A0.out (by omega) _, by exact CB0.out.groups (g + 1), by exact (K0.out.ks (Nat.le_of_lt hCw)).set 2 _⟩ ?_
 rintro W1 ⟨xA1, xCB1, xKS1⟩
 have A1 := hid xA1
 have CB1 := hid xCB1
 have KS1 := hid xKS1
 clear xA1 xCB1 xKS1
 have CE0 := hid ((CE1.out.turn (K0.out.block _ hbb)))
 have I0 := hid (I1.out.ks KS1.out (fun x hx _ => HOK.out x hx))
 have CEk := hid (CE1.out.turn (KS1.out.block _ hbb hbC.out))
 clear A0 CB0 K0 CE0
 by_cases h1 : m = ((g + 1 : Nat) : Int)
 ·
  have n1 : (m != (g : Int) + 1) = false := by rw [h1]; simp
  have n1' : m = (g : Int) + 1 := by omega
  by_cases h2 : g + 1 > 3
  ·
   have n2 : (3 : Int) < (g : Int) + 1 := by omega
   have E : Hid (o = none) := by show _ = _; rw [← HO.out, if_pos (Or.inr (Or.inl h2))]
   clear h1 n1'
   go_cut [33] (fun v wc => v = .bool true ∧ Kp W1 wc)
   case first =>
    have Q0 : Kp W1 W1.drew := (Kp.refl _).drew
    have MK : Hid (∀ W, Kp W1 W → W.cell? ⟨w.heap.size, 3, none⟩ = some (.int .i64 m) ∧ W.cell? ⟨C, 2, none⟩ = some (.int .i64 ((g : Int) + 1)) ∧ W.cell? ⟨C, 3, none⟩ = some (.int .i64 (d : Int)) ∧ Hid (Kp W1 W)) := fun W k => ⟨bl_cell (bl_kp A1.out k) 3 _ rfl, (CB1.out.kp k).cells.2.2.1, (CB1.out.kp k).cells.2.2.2, k⟩
    refine wp_region_noPanic ?_
    refine hdrew MK Q0 (fun hH => ?_)
    have KQ := Q0
    refine tk 0 (some 13) (Op.fieldAddr 27 (Operand.tmp 3) 3) 0 (v := ?v0a1) rfl ?h0a1 hH ?_
    case h0a1 => intro _ _; go_simp; try with_reducible rfl
    try simp only [ps]
    refine tk 1 (some 14) (Op.load 3 (Operand.tmp 13)) 3 (v := ?v1a2) rfl ?h1a2 hH ?_
    case h1a2 => intro _ _; go_simp; try with_reducible rfl
    try simp only [ps]
    refine tk 2 (some 15) (Op.move (Operand.tmp 0)) 152 (v := ?v2a3) rfl ?h2a3 hH ?_
    case h2a3 => intro _ _; go_simp; try with_reducible rfl
    try simp only [ps]
    refine tk 3 (some 16) (Op.nilCheck (Operand.tmp 15)) 0 (v := ?v3a4) rfl ?h3a4 hH ?_
    case h3a4 => intro _ _; go_simp; try with_reducible rfl
    try simp only [ps]
    refine tk 4 (some 17) (Op.fieldAddr 120 (Operand.tmp 16) 2) 0 (v := ?v4a5) rfl ?h4a5 hH ?_
    case h4a5 => intro _ _; go_simp; try with_reducible rfl
    try simp only [ps]
    refine tk 5 (some 18) (Op.load 3 (Operand.tmp 17)) 3 (v := ?v5a6) rfl ?h5a6 hH ?_
    case h5a6 => intro _ _; go_simp; try with_reducible rfl
    try simp only [ps]
    refine tk 6 (some 19) (Op.binOp BinOp.neq 3 (Operand.tmp 14) (Operand.tmp 18) 3) 4 (v := ?v6a7) rfl ?h6a7 hH ?_
    case h6a7 => intro _ _; go_simp; try with_reducible rfl
    try simp only [ps]
    refine tk 7 (some 20) (Op.move (Operand.tmp 19)) 4 (v := ?v7a8) rfl ?h7a8 hH ?_
    case h7a8 => intro _ _; go_simp; try with_reducible rfl
    try simp only [ps]
    refine tk 8 (some 21) (Op.move (Operand.tmp 0)) 152 (v := ?v8a9) rfl ?h8a9 hH ?_
    case h8a9 => intro _ _; go_simp; try with_reducible rfl
    try simp only [ps]
    refine tk 9 (some 22) (Op.nilCheck (Operand.tmp 21)) 0 (v := ?v9a10) rfl ?h9a10 hH ?_
    case h9a10 => intro _ _; go_simp; try with_reducible rfl
    try simp only [ps]
    refine tk 10 (some 23) (Op.fieldAddr 120 (Operand.tmp 22) 2) 0 (v := ?v10a11) rfl ?h10a11 hH ?_
    case h10a11 => intro _ _; go_simp; try with_reducible rfl
    try simp only [ps]
    refine tk 11 (some 24) (Op.load 3 (Operand.tmp 23)) 3 (v := ?v11a12) rfl ?h11a12 hH ?_
    case h11a12 => intro _ _; go_simp; try with_reducible rfl
    try simp only [ps]
    refine tk 12 (some 25) (Op.binOp BinOp.gtr 3 (Operand.tmp 24) (Operand.const (Value.int IntKind.i64 3)) 3) 4 (v := ?v12a13) rfl ?h12a13 hH ?_
    case h12a13 => intro _ _; go_simp; try with_reducible rfl
    try simp only [ps]
    refine tk 13 (some 26) (Op.pick (Operand.tmp 20) (Operand.const (Value.bool true)) (Operand.tmp 25)) 4 (v := ?v13a14) rfl ?h13a14 hH ?_
    case h13a14 => intro _ _; go_simp; try with_reducible rfl
    try simp only [ps]
    refine tk 14 (some 27) (Op.move (Operand.tmp 26)) 4 (v := ?v14a15) rfl ?h14a15 hH ?_
    case h14a15 => intro _ _; go_simp; try with_reducible rfl
    try simp only [ps]
    refine tn 15 (some 28) (Op.move (Operand.tmp 0)) 152 rfl hH ?_
    try simp only [ps]
    refine tn 16 (some 29) (Op.nilCheck (Operand.tmp 28)) 0 rfl hH ?_
    try simp only [ps]
    refine tn 17 (some 30) (Op.fieldAddr 120 (Operand.tmp 29) 3) 0 rfl hH ?_
    try simp only [ps]
    refine tn 18 (some 31) (Op.load 3 (Operand.tmp 30)) 3 rfl hH ?_
    try simp only [ps]
    refine tn 19 (some 32) (Op.binOp BinOp.eql 3 (Operand.tmp 31) (Operand.const (Value.int IntKind.i64 6)) 3) 4 rfl hH ?_
    try simp only [ps]
    refine tk 20 (some 33) (Op.pick (Operand.tmp 27) (Operand.const (Value.bool true)) (Operand.tmp 32)) 4 (v := ?v20a21) rfl ?h20a21 hH ?_
    case h20a21 => intro _ _; go_simp; try with_reducible rfl
    try simp only [ps]
    refine wpAnyH_done (by kernel_rfl) ?_ _
    refine NoPanic.normal ?_
    go_wp2_with fail
    go_meet
    case rel => exact ⟨rfl, KQ⟩
   case rest =>
    obtain ⟨rfl, k2⟩ := hcut
    rename World => W2
    have hC1 := CB1.out.lt
    have CB2 := hid (CB1.out.kp k2)
    have A2 := hid (bl_kp A1.out k2)
    have KS2 := hid (KS1.out.kpt' k2 hC1)
    have I2 := hid (I0.out.kp k2)
    have CE2 := hid (CEk.out.turn (k2.block _ (Nat.lt_of_lt_of_le hbb KS1.out.size)))
    clear k2 CB1 A1 KS1 I0 CEk
    go_wp2_with fail
    go_ret
    exact Ckd.no E.out CB2.out (by omega) (by omega) (by omega) (Nat.le_refl _) KS2.out
  have n2 : ¬ (3 : Int) < (g : Int) + 1 := by omega
  by_cases h3 : d = 6
  ·
   have E : Hid (o = none) := by show _ = _; rw [← HO.out, if_pos (Or.inr (Or.inr h3))]
   subst h3
   clear h1 n1'
   go_cut [33] (fun v wc => v = .bool true ∧ Kp W1 wc)
   case first =>
    have Q0 : Kp W1 W1.drew := (Kp.refl _).drew
    have MK : Hid (∀ W, Kp W1 W → W.cell? ⟨w.heap.size, 3, none⟩ = some (.int .i64 m) ∧ W.cell? ⟨C, 2, none⟩ = some (.int .i64 ((g : Int) + 1)) ∧ W.cell? ⟨C, 3, none⟩ = some (.int .i64 6) ∧ Hid (Kp W1 W)) := fun W k => ⟨bl_cell (bl_kp A1.out k) 3 _ rfl, (CB1.out.kp k).cells.2.2.1, (CB1.out.kp k).cells.2.2.2, k⟩
    refine wp_region_noPanic ?_
    refine hdrew MK Q0 (fun hH => ?_)
    have KQ := Q0
    refine tk 0 (some 13) (Op.fieldAddr 27 (Operand.tmp 3) 3) 0 (v := ?v0b1) rfl ?h0b1 hH ?_
    case h0b1 => intro _ _; go_simp; try with_reducible rfl
    try simp only [ps]
    refine tk 1 (some 14) (Op.load 3 (Operand.tmp 13)) 3 (v := ?v1b2) rfl ?h1b2 hH ?_
    case h1b2 => intro _ _; go_simp; try with_reducible rfl
    try simp only [ps]
    refine tk 2 (some 15) (Op.move (Operand.tmp 0)) 152 (v := ?v2b3) rfl ?h2b3 hH ?_
    case h2b3 => intro _ _; go_simp; try with_reducible rfl
    try simp only [ps]
    refine tk 3 (some 16) (Op.nilCheck (Operand.tmp 15)) 0 (v := ?v3b4) rfl ?h3b4 hH ?_
    case h3b4 => intro _ _; go_simp; try with_reducible rfl
    try simp only [ps]
    refine tk 4 (some 17) (Op.fieldAddr 120 (Operand.tmp 16) 2) 0 (v := ?v4b5) rfl ?h4b5 hH ?_
    case h4b5 => intro _ _; go_simp; try with_reducible rfl
    try simp only [ps]
    refine tk 5 (some 18) (Op.load 3 (Operand.tmp 17)) 3 (v := ?v5b6) rfl ?h5b6 hH ?_
    case h5b6 => intro _ _; go_simp; try with_reducible rfl
    try simp only [ps]
    refine tk 6 (some 19) (Op.binOp BinOp.neq 3 (Operand.tmp 14) (Operand.tmp 18) 3) 4 (v := ?v6b7) rfl ?h6b7 hH ?_
    case h6b7 => intro _ _; go_simp; try with_reducible rfl
    try simp only [ps]
    refine tk 7 (some 20) (Op.move (Operand.tmp 19)) 4 (v := ?v7b8) rfl ?h7b8 hH ?_
    case h7b8 => intro _ _; go_simp; try with_reducible rfl
    try simp only [ps]
    refine tk 8 (some 21) (Op.move (Operand.tmp 0)) 152 (v := ?v8b9) rfl ?h8b9 hH ?_
    case h8b9 => intro _ _; go_simp; try with_reducible rfl
    try simp only [ps]
    refine tk 9 (some 22) (Op.nilCheck (Operand.tmp 21)) 0 (v := ?v9b10) rfl ?h9b10 hH ?_
    case h9b10 => intro _ _; go_simp; try with_reducible rfl
    try simp only [ps]
    refine tk 10 (some 23) (Op.fieldAddr 120 (Operand.tmp 22) 2) 0 (v := ?v10b11) rfl ?h10b11 hH ?_
    case h10b11 => intro _ _; go_simp; try with_reducible rfl
    try simp only [ps]
    refine tk 11 (some 24) (Op.load 3 (Operand.tmp 23)) 3 (v := ?v11b12) rfl ?h11b12 hH ?_
    case h11b12 => intro _ _; go_simp; try with_reducible rfl
    try simp only [ps]
    refine tk 12 (some 25) (Op.binOp BinOp.gtr 3 (Operand.tmp 24) (Operand.const (Value.int IntKind.i64 3)) 3) 4 (v := ?v12b13) rfl ?h12b13 hH ?_
    case h12b13 => intro _ _; go_simp; try with_reducible rfl
    try simp only [ps]
    refine tk 13 (some 26) (Op.pick (Operand.tmp 20) (Operand.const (Value.bool true)) (Operand.tmp 25)) 4 (v := ?v13b14) rfl ?h13b14 hH ?_
    case h13b14 => intro _ _; go_simp; try with_reducible rfl
    try simp only [ps]
    refine tk 14 (some 27) (Op.move (Operand.tmp 26)) 4 (v := ?v14b15) rfl ?h14b15 hH ?_
    case h14b15 => intro _ _; go_simp; try with_reducible rfl
    try simp only [ps]
    refine tk 15 (some 28) (Op.move (Operand.tmp 0)) 152 (v := ?v15b16) rfl ?h15b16 hH ?_
    case h15b16 => intro _ _; go_simp; try with_reducible rfl
    try simp only [ps]
    refine tk 16 (some 29) (Op.nilCheck (Operand.tmp 28)) 0 (v := ?v16b17) rfl ?h16b17 hH ?_
    case h16b17 => intro _ _; go_simp; try with_reducible rfl
    try simp only [ps]
    refine tk 17 (some 30) (Op.fieldAddr 120 (Operand.tmp 29) 3) 0 (v := ?v17b18) rfl ?h17b18 hH ?_
    case h17b18 => intro _ _; go_simp; try with_reducible rfl
    try simp only [ps]
    refine tk 18 (some 31) (Op.load 3 (Operand.tmp 30)) 3 (v := ?v18b19) rfl ?h18b19 hH ?_
    case h18b19 => intro _ _; go_simp; try with_reducible rfl
    try simp only [ps]
    refine tk 19 (some 32) (Op.binOp BinOp.eql 3 (Operand.tmp 31) (Operand.const (Value.int IntKind.i64 6)) 3) 4 (v := ?v19b20) rfl ?h19b20 hH ?_
    case h19b20 => intro _ _; go_simp; try with_reducible rfl
    try simp only [ps]
    refine tk 20 (some 33) (Op.pick (Operand.tmp 27) (Operand.const (Value.bool true)) (Operand.tmp 32)) 4 (v := ?v20b21) rfl ?h20b21 hH ?_
    case h20b21 => intro _ _; go_simp; try with_reducible rfl
    try simp only [ps]
    refine wpAnyH_done (by kernel_rfl) ?_ _
    refine NoPanic.normal ?_
    go_wp2_with fail
    go_meet
    case rel => exact ⟨rfl, KQ⟩
   case rest =>
    obtain ⟨rfl, k2⟩ := hcut
    rename World => W2
    have hC1 := CB1.out.lt
    have CB2 := hid (CB1.out.kp k2)
    have A2 := hid (bl_kp A1.out k2)
    have KS2 := hid (KS1.out.kpt' k2 hC1)
    have I2 := hid (I0.out.kp k2)
    have CE2 := hid (CEk.out.turn (k2.block _ (Nat.lt_of_lt_of_le hbb KS1.out.size)))
    clear k2 CB1 A1 KS1 I0 CEk
    go_wp2_with fail
    go_ret
    exact Ckd.no E.out CB2.out (by omega) (by omega) (by omega) (Nat.le_refl _) KS2.out
  have n3 : ((d : Int) == 6) = false := by simp; omega
  have n3' : ¬ (d : Int) = 6 := by omega
  have E0 : Hid (chkGroup ere [r] ⟨n, g + 1, d + 1⟩ = o) := by show _ = _; rw [← HO.out, if_neg (by omega)]
  clear h1 n1'
  go_cut [33] (fun v wc => v = .bool false ∧ Kp W1 wc)
  case first =>
   have Q0 : Kp W1 W1.drew := (Kp.refl _).drew
   have MK : Hid (∀ W, Kp W1 W → W.cell? ⟨w.heap.size, 3, none⟩ = some (.int .i64 m) ∧ W.cell? ⟨C, 2, none⟩ = some (.int .i64 ((g : Int) + 1)) ∧ W.cell? ⟨C, 3, none⟩ = some (.int .i64 (d : Int)) ∧ Hid (Kp W1 W)) := fun W k => ⟨bl_cell (bl_kp A1.out k) 3 _ rfl, (CB1.out.kp k).cells.2.2.1, (CB1.out.kp k).cells.2.2.2, k⟩
   refine wp_region_noPanic ?_
   refine hdrew MK Q0 (fun hH => ?_)
   have KQ := Q0
   refine tk 0 (some 13) (Op.fieldAddr 27 (Operand.tmp 3) 3) 0 (v := ?v0c1) rfl ?h0c1 hH ?_
   case h0c1 => intro _ _; go_simp; try with_reducible rfl
   try simp only [ps]
   refine tk 1 (some 14) (Op.load 3 (Operand.tmp 13)) 3 (v := ?v1c2) rfl ?h1c2 hH ?_
   case h1c2 => intro _ _; go_simp; try with_reducible rfl
   try simp only [ps]
   refine tk 2 (some 15) (Op.move (Operand.tmp 0)) 152 (v := ?v2c3) rfl ?h2c3 hH ?_
   case h2c3 => intro _ _; go_simp; try with_reducible rfl
   try simp only [ps]
   refine tk 3 (some 16) (Op.nilCheck (Operand.tmp 15)) 0 (v := ?v3c4) rfl ?h3c4 hH ?_
   case h3c4 => intro _ _; go_simp; try with_reducible rfl
   try simp only [ps]
   refine tk 4 (some 17) (Op.fieldAddr 120 (Operand.tmp 16) 2) 0 (v := ?v4c5) rfl ?h4c5 hH ?_
   case h4c5 => intro _ _; go_simp; try with_reducible rfl
   try simp only [ps]
   refine tk 5 (some 18) (Op.load 3 (Operand.tmp 17)) 3 (v := ?v5c6) rfl ?h5c6 hH ?_
   case h5c6 => intro _ _; go_simp; try with_reducible rfl
   try simp only [ps]
   refine tk 6 (some 19) (Op.binOp BinOp.neq 3 (Operand.tmp 14) (Operand.tmp 18) 3) 4 (v := ?v6c7) rfl ?h6c7 hH ?_
   case h6c7 => intro _ _; go_simp; try with_reducible rfl
   try simp only [ps]
   refine tk 7 (some 20) (Op.move (Operand.tmp 19)) 4 (v := ?v7c8) rfl ?h7c8 hH ?_
   case h7c8 => intro _ _; go_simp; try with_reducible rfl
   try simp only [ps]
   refine tk 8 (some 21) (Op.move (Operand.tmp 0)) 152 (v := ?v8c9) rfl ?h8c9 hH ?_
   case h8c9 => intro _ _; go_simp; try with_reducible rfl
   try simp only [ps]
   refine tk 9 (some 22) (Op.nilCheck (Operand.tmp 21)) 0 (v := ?v9c10) rfl ?h9c10 hH ?_
   case h9c10 => intro _ _; go_simp; try with_reducible rfl
   try simp only [ps]
   refine tk 10 (some 23) (Op.fieldAddr 120 (Operand.tmp 22) 2) 0 (v := ?v10c11) rfl ?h10c11 hH ?_
   case h10c11 => intro _ _; go_simp; try with_reducible rfl
   try simp only [ps]
   refine tk 11 (some 24) (Op.load 3 (Operand.tmp 23)) 3 (v := ?v11c12) rfl ?h11c12 hH ?_
   case h11c12 => intro _ _; go_simp; try with_reducible rfl
   try simp only [ps]
   refine tk 12 (some 25) (Op.binOp BinOp.gtr 3 (Operand.tmp 24) (Operand.const (Value.int IntKind.i64 3)) 3) 4 (v := ?v12c13) rfl ?h12c13 hH ?_
   case h12c13 => intro _ _; go_simp; try with_reducible rfl
   try simp only [ps]
   refine tk 13 (some 26) (Op.pick (Operand.tmp 20) (Operand.const (Value.bool true)) (Operand.tmp 25)) 4 (v := ?v13c14) rfl ?h13c14 hH ?_
   case h13c14 => intro _ _; go_simp; try with_reducible rfl
   try simp only [ps]
   refine tk 14 (some 27) (Op.move (Operand.tmp 26)) 4 (v := ?v14c15) rfl ?h14c15 hH ?_
   case h14c15 => intro _ _; go_simp; try with_reducible rfl
   try simp only [ps]
   refine tk 15 (some 28) (Op.move (Operand.tmp 0)) 152 (v := ?v15c16) rfl ?h15c16 hH ?_
   case h15c16 => intro _ _; go_simp; try with_reducible rfl
   try simp only [ps]
   refine tk 16 (some 29) (Op.nilCheck (Operand.tmp 28)) 0 (v := ?v16c17) rfl ?h16c17 hH ?_
   case h16c17 => intro _ _; go_simp; try with_reducible rfl
   try simp only [ps]
   refine tk 17 (some 30) (Op.fieldAddr 120 (Operand.tmp 29) 3) 0 (v := ?v17c18) rfl ?h17c18 hH ?_
   case h17c18 => intro _ _; go_simp; try with_reducible rfl
   try simp only [ps]
   refine tk 18 (some 31) (Op.load 3 (Operand.tmp 30)) 3 (v := ?v18c19) rfl ?h18c19 hH ?_
   case h18c19 => intro _ _; go_simp; try with_reducible rfl
   try simp only [ps]
   refine tk 19 (some 32) (Op.binOp BinOp.eql 3 (Operand.tmp 31) (Operand.const (Value.int IntKind.i64 6)) 3) 4 (v := ?v19c20) rfl ?h19c20 hH ?_
   case h19c20 => intro _ _; go_simp; try with_reducible rfl
   try simp only [ps]
   refine tk 20 (some 33) (Op.pick (Operand.tmp 27) (Operand.const (Value.bool true)) (Operand.tmp 32)) 4 (v := ?v20c21) rfl ?h20c21 hH ?_
   case h20c21 => intro _ _; go_simp; try with_reducible rfl
   try simp only [ps]
   refine wpAnyH_done (by kernel_rfl) ?_ _
   refine NoPanic.normal ?_
   go_wp2_with fail
   go_meet
   case rel => exact ⟨rfl, KQ⟩
  case rest =>
   obtain ⟨rfl, k2⟩ := hcut
   rename World => W2
   have hC1 := CB1.out.lt
   have CB2 := hid (CB1.out.kp k2)
   have A2 := hid (bl_kp A1.out k2)
   have KS2 := hid (KS1.out.kpt' k2 hC1)
   have I2 := hid (I0.out.kp k2)
   have CE2 := hid (CEk.out.turn (k2.block _ (Nat.lt_of_lt_of_le hbb KS1.out.size)))
   clear k2 CB1 A1 KS1 I0 CEk
   have c3 := CB2.out.cells.2.2.2
   have f3 := bl_frozen CB2.out 3
   have hC2 := CB2.out.lt
   go_upto_region 5 with fail
   clear c3 f3
   refine opq (fun W3 => W3.heap[w.heap.size]? = some (rxo k mn mx m t (.slice (some ⟨bb, oo, none⟩) 1 c)) ∧ Cb W3 C ere n (g + 1) (d + 1) ∧ Ks C w W3 ∧ Is W3 ok r (rxv kk mn' mx' mm' tt' (.slice ad' ll' cc')) ∧ CellsAt W3 bb oo (rxv kk mn' mx' mm' tt' (.slice ad' ll' cc'))) ⟨by exact bl_set A2.out (by omega) _, by exact CB2.out.deep (d + 1), by exact KS2.out.set 3 _, by exact I2.out.ks ((Ks.refl _ _).set 3 _) (fun x hx _ => HOK.out x hx), by exact CE2.out.turn (((Ks.refl C W2).set 3 _).block _ (Nat.lt_of_lt_of_le hbb KS2.out.size) hbC.out)⟩ ?_
   rintro W3 ⟨xA3, xCB3, xKS3, xI3, xCE3⟩
   have A3 := hid xA3
   have CB3 := hid xCB3
   have KS3 := hid xKS3
   have I3 := hid xI3
   have CE3 := hid xCE3
   clear xA3 xCB3 xKS3 xI3 xCE3
   clear A2 CB2 KS2 I2 CE2
   obtain ⟨a0, a1, a2, a3, a4, a5, a6, a7, a8⟩ := cells9 (A3.out)
   obtain ⟨x0, x1, x2, x3, x4, x5, x6, x7, x8⟩ := cells_of_is CE3.out
   go_wp2_with fail
   clear x0 x1 x2 x3 x4 x5 x6 x7 x8 a0 a1 a2 a3 a4 a5 a6 a7 a8
   refine (HH.out.all C ok _ true true n (g + 1) (d + 1) _ I3.out HOK.out CB3.out hn (by omega) (by omega)).mono ?_
   intro e W4 hcd
   rcases hcd.form with ⟨⟨c2, g2, d2⟩, ho2, rfl, hcb2, hks2⟩ | ⟨ho2, rfl, ⟨n2, g2', d2, hcb2, b1, b2, b3, b4⟩, hks2⟩
   ·
    have hck := chk_ok ere r true true ⟨n, g + 1, d + 1⟩ ⟨c2, g2, d2⟩ hn (by show g + 1 ≤ n; omega) ho2
    have b1 : c2 ≤ 40 := hck.1.n
    have b2 : g2 ≤ c2 := hck.1.g
    have b3 : d2 = d + 1 := hck.1.d
    subst b3
    have E : Hid (o = some ⟨c2, g2, d⟩) := by show _ = _; rw [← E0.out, chkGroup, ho2]; rfl
    have CB4 : Hid (Cb W4 C ere c2 g2 (d + 1)) := hcb2
    have KS4 := hid (KS3.out.trans hks2)
    have gd1 : IntKind.i64.wrap ((d : Int) + 1 - 1) = (d : Int) := by rw [IntKind.wrap_i64]; omega
    have gd2 : IntKind.i64.wrap (d : Int) = (d : Int) := by rw [IntKind.wrap_i64]; omega
    clear hcd ho2 hcb2 hks2 hck
    have c3 := CB4.out.cells.2.2.2
    have f3 := bl_frozen CB4.out 3
    go_wp2_with fail
    go_ret
    exact Ckd.yes E.out (CB4.out.deep d) (by omega) (by omega) (by omega) (Nat.le_refl _) (KS4.out.set 3 _)
   ·
    have E : Hid (o = none) := by show _ = _; rw [← E0.out, chkGroup, ho2]
    have CB4 : Hid (Cb W4 C ere n2 g2' d2) := hcb2
    have KS4 := hid (KS3.out.trans hks2)
    obtain ⟨d3, rfl⟩ : ∃ d3, d2 = d3 + 1 := ⟨d2 - 1, by omega⟩
    have gd1 : IntKind.i64.wrap ((d3 : Int) + 1 - 1) = (d3 : Int) := by rw [IntKind.wrap_i64]; omega
    have gd2 : IntKind.i64.wrap (d3 : Int) = (d3 : Int) := by rw [IntKind.wrap_i64]; omega
    clear hcd ho2 hcb2 hks2
    have c3 := CB4.out.cells.2.2.2
    have f3 := bl_frozen CB4.out 3
    go_wp2_with fail
    go_ret
    exact Ckd.no E.out (CB4.out.deep d3) b1 b2 (by omega) (by omega) (KS4.out.set 3 _)
 ·
  have n1 : (m != (g : Int) + 1) = true := by simp; omega
  have E : Hid (o = none) := by show _ = _; rw [← HO.out, if_pos (Or.inl h1)]
  go_cut [33] (fun v wc => v = .bool true ∧ Kp W1 wc)
  case first =>
   have Q0 : Kp W1 W1.drew := (Kp.refl _).drew
   have MK : Hid (∀ W, Kp W1 W → W.cell? ⟨w.heap.size, 3, none⟩ = some (.int .i64 m) ∧ W.cell? ⟨C, 2, none⟩ = some (.int .i64 ((g : Int) + 1)) ∧ W.cell? ⟨C, 3, none⟩ = some (.int .i64 (d : Int)) ∧ Hid (Kp W1 W)) := fun W k => ⟨bl_cell (bl_kp A1.out k) 3 _ rfl, (CB1.out.kp k).cells.2.2.1, (CB1.out.kp k).cells.2.2.2, k⟩
   refine wp_region_noPanic ?_
   refine hdrew MK Q0 (fun hH => ?_)
   have KQ := Q0
   refine tk 0 (some 13) (Op.fieldAddr 27 (Operand.tmp 3) 3) 0 (v := ?v0d1) rfl ?h0d1 hH ?_
   case h0d1 => intro _ _; go_simp; try with_reducible rfl
   try simp only [ps]
   refine tk 1 (some 14) (Op.load 3 (Operand.tmp 13)) 3 (v := ?v1d2) rfl ?h1d2 hH ?_
   case h1d2 => intro _ _; go_simp; try with_reducible rfl
   try simp only [ps]
   refine tk 2 (some 15) (Op.move (Operand.tmp 0)) 152 (v := ?v2d3) rfl ?h2d3 hH ?_
   case h2d3 => intro _ _; go_simp; try with_reducible rfl
   try simp only [ps]
   refine tk 3 (some 16) (Op.nilCheck (Operand.tmp 15)) 0 (v := ?v3d4) rfl ?h3d4 hH ?_
   case h3d4 => intro _ _; go_simp; try with_reducible rfl
   try simp only [ps]
   refine tk 4 (some 17) (Op.fieldAddr 120 (Operand.tmp 16) 2) 0 (v := ?v4d5) rfl ?h4d5 hH ?_
   case h4d5 => intro _ _; go_simp; try with_reducible rfl
   try simp only [ps]
   refine tk 5 (some 18) (Op.load 3 (Operand.tmp 17)) 3 (v := ?v5d6) rfl ?h5d6 hH ?_
   case h5d6 => intro _ _; go_simp; try with_reducible rfl
   try simp only [ps]
   refine tk 6 (some 19) (Op.binOp BinOp.neq 3 (Operand.tmp 14) (Operand.tmp 18) 3) 4 (v := ?v6d7) rfl ?h6d7 hH ?_
   case h6d7 => intro _ _; go_simp; try with_reducible rfl
   try simp only [ps]
   refine tk 7 (some 20) (Op.move (Operand.tmp 19)) 4 (v := ?v7d8) rfl ?h7d8 hH ?_
   case h7d8 => intro _ _; go_simp; try with_reducible rfl
   try simp only [ps]
   refine tn 8 (some 21) (Op.move (Operand.tmp 0)) 152 rfl hH ?_
   try simp only [ps]
   refine tn 9 (some 22) (Op.nilCheck (Operand.tmp 21)) 0 rfl hH ?_
   try simp only [ps]
   refine tn 10 (some 23) (Op.fieldAddr 120 (Operand.tmp 22) 2) 0 rfl hH ?_
   try simp only [ps]
   refine tn 11 (some 24) (Op.load 3 (Operand.tmp 23)) 3 rfl hH ?_
   try simp only [ps]
   refine tn 12 (some 25) (Op.binOp BinOp.gtr 3 (Operand.tmp 24) (Operand.const (Value.int IntKind.i64 3)) 3) 4 rfl hH ?_
   try simp only [ps]
   refine tk 13 (some 26) (Op.pick (Operand.tmp 20) (Operand.const (Value.bool true)) (Operand.tmp 25)) 4 (v := ?v13d14) rfl ?h13d14 hH ?_
   case h13d14 => intro _ _; go_simp; try with_reducible rfl
   try simp only [ps]
   refine tk 14 (some 27) (Op.move (Operand.tmp 26)) 4 (v := ?v14d15) rfl ?h14d15 hH ?_
   case h14d15 => intro _ _; go_simp; try with_reducible rfl
   try simp only [ps]
   refine tn 15 (some 28) (Op.move (Operand.tmp 0)) 152 rfl hH ?_
   try simp only [ps]
   refine tn 16 (some 29) (Op.nilCheck (Operand.tmp 28)) 0 rfl hH ?_
   try simp only [ps]
   refine tn 17 (some 30) (Op.fieldAddr 120 (Operand.tmp 29) 3) 0 rfl hH ?_
   try simp only [ps]
   refine tn 18 (some 31) (Op.load 3 (Operand.tmp 30)) 3 rfl hH ?_
   try simp only [ps]
   refine tn 19 (some 32) (Op.binOp BinOp.eql 3 (Operand.tmp 31) (Operand.const (Value.int IntKind.i64 6)) 3) 4 rfl hH ?_
   try simp only [ps]
   refine tk 20 (some 33) (Op.pick (Operand.tmp 27) (Operand.const (Value.bool true)) (Operand.tmp 32)) 4 (v := ?v20d21) rfl ?h20d21 hH ?_
   case h20d21 => intro _ _; go_simp; try with_reducible rfl
   try simp only [ps]
   refine wpAnyH_done (by kernel_rfl) ?_ _
   refine NoPanic.normal ?_
   go_wp2_with fail
   go_meet
   case rel => exact ⟨rfl, KQ⟩
  case rest =>
   obtain ⟨rfl, k2⟩ := hcut
   rename World => W2
   have hC1 := CB1.out.lt
   have CB2 := hid (CB1.out.kp k2)
   have A2 := hid (bl_kp A1.out k2)
   have KS2 := hid (KS1.out.kpt' k2 hC1)
   have I2 := hid (I0.out.kp k2)
   have CE2 := hid (CEk.out.turn (k2.block _ (Nat.lt_of_lt_of_le hbb KS1.out.size)))
   clear k2 CB1 A1 KS1 I0 CEk
   go_wp2_with fail
   go_ret
   exact Ckd.no E.out CB2.out (by omega) (by omega) (by omega) (Nat.le_refl _) KS2.out
end Go.Proofs.YtnajcnhgeggngaaGreat

/-! ### Right4 -/

namespace Go.Proofs.YtnajcnhgeggngaaGreat
set_option maxHeartbeats 2000000
set_option maxRecDepth 100000
open Go.RowKit

theorem chkAlt_cons (ere : Bool) (r : Rx) (rs : List Rx) (c : Ck) : chkAlt ere (r :: rs) c = if r.k = 3 then none else (chk ere r false false c).bind fun c' => chkAlt ere rs c' := by
 rw [chkAlt]
 split
 ·
  rfl
 ·
  cases chk ere r false false c <;> rfl

structure NotD (C : Nat) (ere : Bool) (d0 : Nat) (o : Option Ck) (w : World) (e : Ending) (w' : World) : Prop where
 ex : ∃ b, e = .returned (.bool (!b)) ∧ Ckd C ere d0 o w (.returned (.bool b)) w'
theorem Ckd.from {C : Nat} {ere : Bool} {d0 : Nat} {o : Option Ck} {w w1 w' : World} {e : Ending} (h : Ckd C ere d0 o w1 e w') (k : Ks C w w1) : Ckd C ere d0 o w e w' := by
 obtain ⟨b, h1, h2, h3, h4⟩ := h.ex
 exact ⟨b, h1, h2, h3, k.trans h4⟩

theorem alt1_any (ere : Bool) (r : Rx) (H : RightSaid ere r) (C V : Nat) (ok : Nat → Prop) (k mn mx m : Int) (t : W4) (ad : Option Addr) (l c : Nat) (n g d : Nat) (w : World) (hI : Is w ok r (rxv k mn mx m t (.slice ad l c))) (hok : ∀ x, ok x → x ≠ C) (hc : Cb w C ere n g d) (hV : w.heap[V]? = some (.cells #[.pointer (some ⟨C, 0, none⟩)] 152)) (hn : n ≤ 40) (hg : g ≤ n) (hd : d ≤ 6) :
  Calls Tryz.prog 104 #[rxv k mn mx m t (.slice ad l c), .pointer (some ⟨V, 0, none⟩)] w fun e w' => NotD C ere d (if k = 3 then none else chk ere r false false ⟨n, g, d⟩) w e w' := by
 have HI := hid hI
 have HOK := hid hok
 have HC := hid hc
 have HV := hid hV
 have hCw := hc.lt
 have HH := hid H
 clear hI hok hc hV H
 go_enter Tryz.func104, Tryz.ntmps104
 go_upto_region 1 with fail
 refine opq (fun W0 => W0.heap[w.heap.size]? = some (rxo k mn mx m t (.slice ad l c)) ∧ Cb W0 C ere n g d ∧ W0.heap[V]? = some (.cells #[.pointer (some ⟨C, 0, none⟩)] 152) ∧ Is W0 ok r (rxv k mn mx m t (.slice ad l c)) ∧ Ks C w W0) ⟨by (first | exact last_at _ _ _ (by simp) | (refine bl_alloc ?_ _; first | exact last_at _ _ _ (by simp) | (refine bl_alloc ?_ _; first | exact last_at _ _ _ (by simp) | (refine bl_alloc ?_ _; exact last_at _ _ _ (by simp))))), by exact HC.out.kp kpt, by exact bl_kp HV.out kpt, by exact HI.out.kp kpt, by exact Kp.ks kpt (Nat.le_of_lt hCw)⟩ ?_
 rintro W0 ⟨xA0, xCB0, xV0, xI0, xKS0⟩
 have A0 := hid xA0
 have CB0 := hid xCB0
 have V0 := hid xV0
 have I0 := hid xI0
 have KS0 := hid xKS0
 clear xA0 xCB0 xV0 xI0 xKS0
 obtain ⟨a0, a1, a2, a3, a4, a5, a6, a7, a8⟩ := cells9 (A0.out)
 have v0 := bl_cell V0.out 0 _ rfl
 by_cases h3 : k = 3
 ·
  subst h3
  go_wp2_with fail
  go_ret
  exact ⟨false, rfl, Ckd.no rfl CB0.out (by omega) (by omega) (by omega) (Nat.le_refl _) KS0.out⟩
 have g3 : (k == 3) = false := by simp [h3]
 go_wp2_with fail
 clear a0 a1 a2 a3 a4 a5 a6 a7 a8 v0
 refine (HH.out.all C ok _ false false n g d _ I0.out HOK.out CB0.out hn hg hd).mono ?_
 intro e W2 hcd
 obtain ⟨b, rfl, hb⟩ : ∃ b, e = .returned (.bool b) ∧ True := by
  obtain ⟨b, h1, _⟩ := hcd.ex
  exact ⟨b, h1, trivial⟩
 have CD := hid (hcd.from KS0.out)
 clear hcd hb
 go_wp2_with fail
 go_ret
 exact ⟨b, rfl, CD.out⟩

structure Aw (ere : Bool) (C V : Nat) (d0 : Nat) (w : World) (ts : List Rx) (o : Option Ck) (k : Nat) (wr : World) (c : Ck) : Prop where
 cb : Cb wr C ere c.n c.g c.d
 v : wr.heap[V]? = some (.cells #[.pointer (some ⟨C, 0, none⟩)] 152)
 n : c.n ≤ 40
 g : c.g ≤ c.n
 d : c.d = d0
 eq : chkAlt ere (ts.drop k) c = o
 ks : Ks C w wr
structure IdxD (C : Nat) (ere : Bool) (d0 : Nat) (o : Option Ck) (w : World) (e : Ending) (w' : World) : Prop where
 ex : ∃ (i : Int) (b : Bool), e = .returned (.int .i64 i) ∧ decide (0 ≤ i) = !b ∧ Ckd C ere d0 o w (.returned (.bool b)) w'

theorem indexFunc_any (ere : Bool) (ts : List Rx) (H : ∀ r, r ∈ ts → RightSaid ere r) (C V : Nat) (ok : Nat → Prop) (ad : Option Addr) (l c : Nat) (n g d : Nat) (w : World) (hr : RowAt w ok ts ad l c) (hok : ∀ x, ok x → x ≠ C) (hc : Cb w C ere n g d) (hV : w.heap[V]? = some (.cells #[.pointer (some ⟨C, 0, none⟩)] 152)) (hVC : V ≠ C) (hn : n ≤ 40) (hg : g ≤ n) (hd : d ≤ 6) (hl : ts.length ≤ 1000000) :
  Calls Tryz.prog 124 #[.slice ad l c, .func (.func 104) #[] #[.pointer (some ⟨V, 0, none⟩)]] w fun e w' => IdxD C ere d (chkAlt ere ts ⟨n, g, d⟩) w e w' := by
 have hle := hr.ln
 have hlc := hr.cp
 subst hle
 obtain ⟨L, hL⟩ : ∃ L, ts.length = L := ⟨_, rfl⟩
 rw [hL] at hr hlc hl ⊢
 have HL := hid hL
 have RR := hid hr
 have HC := hid hc
 have HV := hid hV
 have HH := hid H
 have HOK := hid hok
 clear hL hr hc H hok hV
 obtain ⟨o, ho⟩ : ∃ o, chkAlt ere ts ⟨n, g, d⟩ = o := ⟨_, rfl⟩
 rw [ho]
 have HO := hid ho
 clear ho
 go_enter Tryz.func124, Tryz.ntmps124
 go_wp2_with fail
 go_loopg [8] L (fun gg v wr => ∃ (k : Nat) (c : Ck), k + gg = L ∧ v = .int .i64 (k : Int) ∧ Aw ere C V d w ts o k wr c)
 case atStart => exact ⟨0, ⟨n, g, d⟩, by omega, rfl, HC.out, HV.out, hn, hg, rfl, HO.out, Ks.refl _ _⟩
 case round =>
  obtain ⟨k, ⟨n1, g1, d1⟩, hk, rfl, hw⟩ := hrel
  have KW := hid hw
  have hn1 : n1 ≤ 40 := hw.n
  have hg1 : g1 ≤ n1 := hw.g
  have hd1 : d1 = d := hw.d
  subst hd1
  clear hw
  by_cases hlt : k < L
  ·
   have gkw : IntKind.i64.wrap ((k : Int) + 1) = (k : Int) + 1 := by rw [IntKind.wrap_i64]; omega
   have ga : (k : Int) < (L : Int) := by omega
   have g0 : (0 : Int) ≤ (k : Int) := by omega
   obtain ⟨r, hr⟩ : ∃ r, ts[k]? = some r := ⟨_, List.getElem?_eq_getElem (by rw [HL.out]; exact hlt)⟩
   have hdrop : ts.drop k = r :: ts.drop (k + 1) := List.drop_eq_getElem_cons (by rw [HL.out]; exact hlt) ▸ by
    have := (List.getElem?_eq_some_iff.1 hr).2
    rw [this]
   have RW := hid (RR.out.ks KW.out.ks HOK.out)
   obtain ⟨bb, oo, kk, mn, mx, mm, tt, ad', ll, cc, e1, hbb, i1, ce1⟩ := RW.out.at k r hr
   subst e1
   have RS := hid (HH.out r (List.mem_of_getElem? hr))
   have hkk : r.k = kk := i1.kind'
   have I1 := hid i1
   have CE1 := hid ce1
   have E0 : Hid (o = if kk = 3 then none else (chk ere r false false ⟨n1, g1, d1⟩).bind fun c' => chkAlt ere (ts.drop (k + 1)) c') := by
    show _ = _
    rw [← KW.out.eq, hdrop, chkAlt_cons, hkk]
   clear hr i1 ce1 hkk hdrop
   obtain ⟨x0, x1, x2, x3, x4, x5, x6, x7, x8⟩ := cells_of_is CE1.out
   go_wp2_with fail
   clear x0 x1 x2 x3 x4 x5 x6 x7 x8
   refine (alt1_any ere r RS.out C V ok kk mn mx mm tt ad' ll cc n1 g1 d1 _ I1.out HOK.out KW.out.cb KW.out.v hn1 hg1 hd).mono ?_
   intro e W2 hnd
   obtain ⟨b, rfl, hcd⟩ := hnd.ex
   clear hnd
   rcases hcd.form with ⟨c2, ho2, hb, hcb2, hks2⟩ | ⟨ho2, hb, ⟨n2, g2', d2, hcb2, b1, b2, b3, b4⟩, hks2⟩
   ·
    have hb' : b = true := by injection hb with hb; injection hb
    subst hb'
    have h3 : ¬ kk = 3 := by intro h; rw [if_pos h] at ho2; cases ho2
    rw [if_neg h3] at ho2
    have hck := chk_ok ere r false false ⟨n1, g1, d1⟩ c2 hn1 hg1 ho2
    have CB2 := hid hcb2
    have V2 := hid (bl_ks KW.out.v hVC hks2)
    have KS2 := hid (KW.out.ks.trans hks2)
    have E2 : Hid (chkAlt ere (ts.drop (k + 1)) c2 = o) := by show _ = _; rw [E0.out, if_neg h3, ho2]; rfl
    have b1 : c2.n ≤ 40 := hck.1.n
    have b2 : c2.g ≤ c2.n := hck.1.g
    have b3 : c2.d = d1 := hck.1.d
    have B3 := hid b3
    clear b3 hcd hcb2 hks2 ho2 hck hb
    go_wp2_with fail
    go_roundg (gk - 1)
    case measure => omega
    case rel => exact ⟨k + 1, c2, by omega, by go_num, CB2.out, V2.out, b1, b2, B3.out, E2.out, KS2.out⟩
   ·
    have hb' : b = false := by injection hb with hb; injection hb
    subst hb'
    have CB2 := hid hcb2
    have KS2 := hid (KW.out.ks.trans hks2)
    have E : Hid (o = none) := by
     show _ = _
     rw [E0.out]
     by_cases h3 : kk = 3
     ·
      rw [if_pos h3]
     ·
      rw [if_neg h3] at ho2 ⊢; rw [ho2]; rfl
    clear hcd hcb2 hks2 ho2 hb
    go_wp2_with fail
    go_ret
    exact ⟨(k : Int), false, rfl, by simp, Ckd.no E.out CB2.out b1 b2 b3 b4 KS2.out⟩
  ·
   have ga : ¬ (k : Int) < (L : Int) := by omega
   have E : Hid (o = some ⟨n1, g1, d1⟩) := by
    have := KW.out.eq
    rw [List.drop_eq_nil_of_le (by rw [HL.out]; omega)] at this
    unfold chkAlt at this
    exact this.symm
   go_wp2
   go_ret
   exact ⟨-1, true, rfl, by decide, Ckd.yes E.out KW.out.cb (by omega) (by omega) (by omega) (Nat.le_refl _) KW.out.ks⟩

theorem containsFunc_any (ere : Bool) (ts : List Rx) (H : ∀ r, r ∈ ts → RightSaid ere r) (C V : Nat) (ok : Nat → Prop) (ad : Option Addr) (l c : Nat) (n g d : Nat) (w : World) (hr : RowAt w ok ts ad l c) (hok : ∀ x, ok x → x ≠ C) (hc : Cb w C ere n g d) (hV : w.heap[V]? = some (.cells #[.pointer (some ⟨C, 0, none⟩)] 152)) (hVC : V ≠ C) (hn : n ≤ 40) (hg : g ≤ n) (hd : d ≤ 6) (hl : ts.length ≤ 1000000) :
  Calls Tryz.prog 103 #[.slice ad l c, .func (.func 104) #[] #[.pointer (some ⟨V, 0, none⟩)]] w fun e w' => NotD C ere d (chkAlt ere ts ⟨n, g, d⟩) w e w' := by
 have IX := hid (indexFunc_any ere ts H C V ok ad l c n g d w hr hok hc hV hVC hn hg hd hl)
 clear hr hok hc hV H
 go_enter Tryz.func103, Tryz.ntmps103
 go_wp2_with fail
 refine IX.out.mono ?_
 intro e W1 hx
 obtain ⟨i, b, rfl, hi, hcd⟩ := hx.ex
 have CD := hid hcd
 have HI := hid hi
 clear hx hcd hi IX
 go_wp2_with fail
 go_ret
 exact ⟨b, by rw [← HI.out]; rfl, CD.out⟩

theorem alt_any (ere : Bool) (ts : List Rx) (H : ∀ r, r ∈ ts → RightSaid ere r) (C : Nat) (ok : Nat → Prop) (ad : Option Addr) (l c : Nat) (n g d : Nat) (w : World) (hr : RowAt w ok ts ad l c) (hok : ∀ x, ok x → x ≠ C) (hc : Cb w C ere n g d) (hn : n ≤ 40) (hg : g ≤ n) (hd : d ≤ 6) (hl : ts.length ≤ 1000000) :
  Calls Tryz.prog 74 #[.pointer (some ⟨C, 0, none⟩), .slice ad l c] w fun e w' => Ckd C ere d (chkAlt ere ts ⟨n, g, d⟩) w e w' := by
 have RR := hid hr
 have HC := hid hc
 have HOK := hid hok
 have HH := hid H
 have hCw := hc.lt
 clear hr hc hok H
 go_enter Tryz.func74, Tryz.ntmps74
 go_upto_region 1 with fail
 refine opq (fun W0 => W0.heap[w.heap.size]? = some (.cells #[.pointer (some ⟨C, 0, none⟩)] 152) ∧ Cb W0 C ere n g d ∧ RowAt W0 ok ts ad l c ∧ Ks C w W0) ⟨by (first | exact last_at _ _ _ (by simp) | (refine bl_alloc ?_ _; first | exact last_at _ _ _ (by simp) | (refine bl_alloc ?_ _; first | exact last_at _ _ _ (by simp) | (refine bl_alloc ?_ _; exact last_at _ _ _ (by simp))))), by exact HC.out.kp kpt, by exact RR.out.kp kpt, by exact Kp.ks kpt (Nat.le_of_lt hCw)⟩ ?_
 rintro W0 ⟨xV0, xCB0, xR0, xKS0⟩
 have V0 := hid xV0
 have CB0 := hid xCB0
 have R0 := hid xR0
 have KS0 := hid xKS0
 clear xV0 xCB0 xR0 xKS0
 go_wp2_with fail
 refine (containsFunc_any ere ts HH.out C w.heap.size ok ad l c n g d _ R0.out HOK.out CB0.out V0.out (by omega) hn hg hd hl).mono ?_
 intro e W1 hnd
 obtain ⟨b, rfl, hcd⟩ := hnd.ex
 have CD := hid (hcd.from KS0.out)
 clear hnd hcd
 go_wp2_with fail
 go_ret
 cases b <;> exact CD.out
end Go.Proofs.YtnajcnhgeggngaaGreat

/-! ### Right5 -/

namespace Go.Proofs.YtnajcnhgeggngaaGreat
set_option maxHeartbeats 2000000
set_option maxRecDepth 100000
open Go.RowKit

theorem kidsFit_one {k : Int} {mn mx n : Int} {s : W4} {kids : List Rx} (h : leanB (.mk k mn mx n s kids) = true) (hk : k = 4 ∨ k = 5) : ∃ r, kids = [r] := by
 unfold leanB at h
 simp only [Bool.and_eq_true] at h
 have h2 := h.2
 unfold kidsFit at h2
 rw [if_neg (by omega), if_neg (by omega), if_pos hk] at h2
 exact List.length_eq_one_iff.1 (by simpa using h2)

theorem right_step (ere : Bool) (k mn mx m : Int) (t : W4) (kids : List Rx) (H : ∀ r, r ∈ kids → RightSaid ere r) (hl : kids.length ≤ 1000000) (hs : t.a < 18446744073709551616 ∧ t.b < 18446744073709551616 ∧ t.c < 18446744073709551616 ∧ t.d < 18446744073709551616) : RightSaid ere (.mk k mn mx m t kids) := by
 refine ⟨fun C ok v b e n g d w hI hok hc hn hg hd => ?_⟩
 obtain ⟨ad, l, c, rfl, hr⟩ := hI.row
 have RR := hid hr
 have hlen := hr.ln
 have HC := hid hc
 have HOK := hid hok
 have HH := hid H
 have hCw := hc.lt
 have LE := hid (fun w => lean_any k mn mx m t kids ad l c w hlen)
 have HSV : Hid (vv t.a t.b t.c t.d = sv (W4.bit t)) := vv_sv t.a t.b t.c t.d hs.1 hs.2.1 hs.2.2.1 hs.2.2.2
 clear hI hr hc hok H hlen
 obtain ⟨o, ho⟩ : ∃ o, chk ere (.mk k mn mx m t kids) b e ⟨n, g, d⟩ = o := ⟨_, rfl⟩
 rw [ho]
 unfold chk at ho
 obtain ⟨lb, hlb⟩ : ∃ lb, leanB (.mk k mn mx m t kids) = lb := ⟨_, rfl⟩
 rw [hlb] at ho LE
 have K1 : lb = true → (k = 4 ∨ k = 5) → ∃ r, kids = [r] := fun h hk => kidsFit_one (by rw [hlb, h]) hk
 have HK1 := hid K1
 have HO := hid ho
 clear hlb ho K1
 have gn : IntKind.i64.wrap ((n : Int) + 1) = (n : Int) + 1 := by rw [IntKind.wrap_i64]; omega
 go_enter Tryz.func48, Tryz.ntmps48
 go_upto_region 1 with fail
 refine opq (fun W0 => W0.heap[w.heap.size]? = some (rxo k mn mx m t (.slice ad l c)) ∧ W0.heap[(w.heap.size + 1)]? = some (.cells #[.bool b, .bool e] 123) ∧ Cb W0 C ere n g d ∧ Kp w W0) ⟨by (first | exact last_at _ _ _ (by simp) | (refine bl_alloc ?_ _; first | exact last_at _ _ _ (by simp) | (refine bl_alloc ?_ _; first | exact last_at _ _ _ (by simp) | (refine bl_alloc ?_ _; exact last_at _ _ _ (by simp))))), by (first | exact last_at _ _ _ (by simp) | (refine bl_alloc ?_ _; first | exact last_at _ _ _ (by simp) | (refine bl_alloc ?_ _; first | exact last_at _ _ _ (by simp) | (refine bl_alloc ?_ _; exact last_at _ _ _ (by simp))))), by exact HC.out.kp kpt, by exact kpt⟩ ?_
 rintro W0 ⟨xA0, xP0, xCB0, xK0⟩
 have A0 := hid xA0
 have P0 := hid xP0
 have CB0 := hid xCB0
 have K0 := hid xK0
 clear xA0 xP0 xCB0 xK0
 have c1 := CB0.out.cells.2.1
 have f1 := bl_frozen CB0.out 1
 go_upto_region 2 with fail
 clear c1 f1
 refine opq (fun W1 => W1.heap[w.heap.size]? = some (rxo k mn mx m t (.slice ad l c)) ∧ W1.heap[(w.heap.size + 1)]? = some (.cells #[.bool b, .bool e] 123) ∧ Cb W1 C ere (n + 1) g d ∧ Ks C w W1) ⟨by exact bl_set A0.out (by omega) _, by exact bl_set P0.out (by omega) _, by exact CB0.out.nodes (n + 1), by exact (K0.out.ks (Nat.le_of_lt hCw)).set 1 _⟩ ?_
 rintro W1 ⟨xA1, xP1, xCB1, xKS1⟩
 have A1 := hid xA1
 have P1 := hid xP1
 have CB1 := hid xCB1
 have KS1 := hid xKS1
 clear xA1 xP1 xCB1 xKS1
 clear A0 P0 CB0 K0
 have R1 := hid (RR.out.ks KS1.out HOK.out)
 obtain ⟨a0, a1, a2, a3, a4, a5, a6, a7, a8⟩ := cells9 (A1.out)
 have c1 := CB1.out.cells.2.1
 have hs1 := KS1.out.size
 by_cases h40 : n + 1 > 40
 ·
  have g40 : (40 : Int) < (n : Int) + 1 := by omega
  have E : Hid (o = none) := by show _ = _; rw [← HO.out, if_pos (Or.inl h40)]
  go_wp2_with fail
  go_ret
  exact Ckd.no E.out CB1.out (by omega) (by omega) (by omega) (Nat.le_refl _) KS1.out
 have g40 : ¬ (40 : Int) < (n : Int) + 1 := by omega
 go_wp2_with fail
 refine (LE.out _).mono ?_
 rintro ex W2 ⟨rfl, k2⟩
 have A2 := hid (bl_kp A1.out k2)
 have P2 := hid (bl_kp P1.out k2)
 have CB2 := hid (CB1.out.kp k2)
 have KS2 := hid (KS1.out.kpt' k2 CB1.out.lt)
 have R2 := hid (R1.out.kp k2)
 clear k2 A1 P1 CB1 KS1 R1 a0 a1 a2 a3 a4 a5 a6 a7 a8 c1
 cases lb with
 | false =>
  have E : Hid (o = none) := by show _ = _; rw [← HO.out, if_pos (Or.inr rfl)]
  go_wp2_with fail
  go_ret
  exact Ckd.no E.out CB2.out (by omega) (by omega) (by omega) (Nat.le_refl _) KS2.out
 | true =>
  obtain ⟨a0, a1, a2, a3, a4, a5, a6, a7, a8⟩ := cells9 (A2.out)
  have q0 := CB2.out.cells.1
  have q2 := CB2.out.cells.2.2.1
  have e0 := bl_cell P2.out 0 _ rfl
  have e1 := bl_cell P2.out 1 _ rfl
  by_cases k1 : k = 1
  ·
   subst k1
   have E0 : Hid (o = if cnt (W4.bit t) 256 > 0 then some ⟨n + 1, g, d⟩ else none) := by show _ = _; rw [← HO.out, if_neg (by simp; omega), if_pos rfl]
   have CN : Hid (∀ w, Calls Tryz.prog 72 #[vv t.a t.b t.c t.d] w fun e w' => e = .returned (.int .i64 (cnt (W4.bit t) 256 : Nat)) ∧ Kp w w') := fun w => by rw [HSV.out]; exact count_any _ w
   go_wp2_with fail
   clear a0 a1 a2 a3 a4 a5 a6 a7 a8 q0 q2 e0 e1
   refine (CN.out _).mono ?_
   rintro ex W3 ⟨rfl, k3⟩
   have CB3 := hid (CB2.out.kp k3)
   have KS3 := hid (KS2.out.kpt' k3 CB2.out.lt)
   clear k3
   by_cases h0 : cnt (W4.bit t) 256 > 0
   ·
    have E : Hid (o = some ⟨n + 1, g, d⟩) := by show _ = _; rw [E0.out, if_pos h0]
    have g0 : (0 : Int) < (cnt (W4.bit t) 256 : Int) := by omega
    go_wp2_with fail
    go_ret
    exact Ckd.yes E.out CB3.out (by omega) (by omega) (by omega) (Nat.le_refl _) KS3.out
   ·
    have E : Hid (o = none) := by show _ = _; rw [E0.out, if_neg h0]
    have g0 : ¬ (0 : Int) < (cnt (W4.bit t) 256 : Int) := by omega
    go_wp2_with fail
    go_ret
    exact Ckd.no E.out CB3.out (by omega) (by omega) (by omega) (Nat.le_refl _) KS3.out
  by_cases k2 : k = 2
  ·
   subst k2
   have E : Hid (o = chkCat ere kids true ⟨n + 1, g, d⟩) := by show _ = _; rw [← HO.out, if_neg (by simp; omega), if_neg (by omega), if_pos rfl]
   go_wp2_with fail
   clear a0 a1 a2 a3 a4 a5 a6 a7 a8 q0 q2 e0 e1
   refine (cat_any ere kids HH.out C ok ad l c (n + 1) g d _ R2.out HOK.out CB2.out (by omega) (by omega) hd hl).mono ?_
   intro ex W3 hcd
   obtain ⟨bq, rfl⟩ : ∃ bq, ex = .returned (.bool bq) := by obtain ⟨bq, h1, _⟩ := hcd.ex; exact ⟨bq, h1⟩
   have CD := hid (hcd.from KS2.out)
   clear hcd
   go_wp2_with fail
   go_ret
   rw [E.out]
   exact CD.out
  by_cases k3 : k = 3
  ·
   subst k3
   have E0 : Hid (o = if ere then chkAlt ere kids ⟨n + 1, g, d⟩ else none) := by show _ = _; rw [← HO.out, if_neg (by simp; omega), if_neg (by omega), if_neg (by omega), if_pos rfl]
   cases ere with
   | false =>
    have E : Hid (o = none) := by show _ = _; rw [E0.out]; rfl
    go_wp2_with fail
    go_ret
    exact Ckd.no E.out CB2.out (by omega) (by omega) (by omega) (Nat.le_refl _) KS2.out
   | true =>
    have E : Hid (o = chkAlt true kids ⟨n + 1, g, d⟩) := by show _ = _; rw [E0.out]; rfl
    go_wp2_with fail
    clear a0 a1 a2 a3 a4 a5 a6 a7 a8 q0 q2 e0 e1
    refine (alt_any true kids HH.out C ok ad l c (n + 1) g d _ R2.out HOK.out CB2.out (by omega) (by omega) hd hl).mono ?_
    intro ex W3 hcd
    obtain ⟨bq, rfl⟩ : ∃ bq, ex = .returned (.bool bq) := by obtain ⟨bq, h1, _⟩ := hcd.ex; exact ⟨bq, h1⟩
    have CD := hid (hcd.from KS2.out)
    clear hcd
    go_wp2_with fail
    go_ret
    rw [E.out]
    exact CD.out
  by_cases k4 : k = 4
  ·
   subst k4
   obtain ⟨r, rfl⟩ := HK1.out rfl (by omega)
   have E : Hid (o = if timesFit mn mx then chkRep ere [r] ⟨n + 1, g, d⟩ else none) := by show _ = _; rw [← HO.out, if_neg (by simp; omega), if_neg (by omega), if_neg (by omega), if_neg (by omega), if_pos rfl]
   go_wp2_with fail
   clear a0 a1 a2 a3 a4 a5 a6 a7 a8 q0 q2 e0 e1
   refine (rep_any ere r (HH.out r (by simp)) C ok 4 mn mx m t ad l c (n + 1) g d _ R2.out HOK.out CB2.out (by omega) (by omega) hd).mono ?_
   intro ex W3 hcd
   obtain ⟨bq, rfl⟩ : ∃ bq, ex = .returned (.bool bq) := by obtain ⟨bq, h1, _⟩ := hcd.ex; exact ⟨bq, h1⟩
   have CD := hid (hcd.from KS2.out)
   clear hcd
   go_wp2_with fail
   go_ret
   rw [E.out]
   exact CD.out
  by_cases k5 : k = 5
  ·
   subst k5
   obtain ⟨r, rfl⟩ := HK1.out rfl (by omega)
   have E : Hid (o = if m ≠ (g + 1 : Nat) ∨ g + 1 > 3 ∨ d = 6 then none else chkGroup ere [r] ⟨n + 1, g + 1, d + 1⟩) := by show _ = _; rw [← HO.out, if_neg (by simp; omega), if_neg (by omega), if_neg (by omega), if_neg (by omega), if_neg (by omega), if_pos rfl]
   go_wp2_with fail
   clear a0 a1 a2 a3 a4 a5 a6 a7 a8 q0 q2 e0 e1
   refine (cgroup_any ere r (HH.out r (by simp)) C ok 5 mn mx m t ad l c (n + 1) g d _ R2.out HOK.out CB2.out (by omega) (by omega) hd).mono ?_
   intro ex W3 hcd
   obtain ⟨bq, rfl⟩ : ∃ bq, ex = .returned (.bool bq) := by obtain ⟨bq, h1, _⟩ := hcd.ex; exact ⟨bq, h1⟩
   have CD := hid (hcd.from KS2.out)
   clear hcd
   go_wp2_with fail
   go_ret
   rw [E.out]
   exact CD.out
  by_cases k6 : k = 6
  ·
   subst k6
   have E0 : Hid (o = if 1 ≤ m ∧ m ≤ (g : Int) then some ⟨n + 1, g, d⟩ else none) := by show _ = _; rw [← HO.out, if_neg (by simp; omega), if_neg (by omega), if_neg (by omega), if_neg (by omega), if_neg (by omega), if_neg (by omega), if_pos rfl]
   by_cases m1 : 1 ≤ m
   ·
    by_cases m2 : m ≤ (g : Int)
    ·
     have E : Hid (o = some ⟨n + 1, g, d⟩) := by show _ = _; rw [E0.out, if_pos ⟨m1, m2⟩]
     go_upto_region 16 with fail
     clear a0 a1 a2 a3 a4 a5 a6 a7 a8 q0 q2 e0 e1
     have Q0 : Kp W2 W2.drew := (Kp.refl _).drew
     have MK : Hid (∀ W, Kp W2 W → W.cell? ⟨w.heap.size, 3, none⟩ = some (.int .i64 m) ∧ W.cell? ⟨C, 2, none⟩ = some (.int .i64 (g : Int)) ∧ Hid (Kp W2 W)) := fun W k => ⟨bl_cell (bl_kp A2.out k) 3 _ rfl, (CB2.out.kp k).cells.2.2.1, k⟩
     refine wp_region_noPanic ?_
     refine hdrew MK Q0 (fun hH => ?_)
     have KQ := Q0
     refine tk 0 (some 62) (Op.fieldAddr 27 (Operand.tmp 4) 3) 0 (v := ?v0a1) rfl ?h0a1 hH ?_
     case h0a1 => intro _ _; go_simp; try with_reducible rfl
     try simp only [ps]
     refine tk 1 (some 63) (Op.load 3 (Operand.tmp 62)) 3 (v := ?v1a2) rfl ?h1a2 hH ?_
     case h1a2 => intro _ _; go_simp; try with_reducible rfl
     try simp only [ps]
     refine tk 2 (some 64) (Op.binOp BinOp.leq 3 (Operand.const (Value.int IntKind.i64 1)) (Operand.tmp 63) 3) 4 (v := ?v2a3) rfl ?h2a3 hH ?_
     case h2a3 => intro _ _; go_simp; try with_reducible rfl
     try simp only [ps]
     refine tk 3 (some 65) (Op.move (Operand.tmp 64)) 4 (v := ?v3a4) rfl ?h3a4 hH ?_
     case h3a4 => intro _ _; go_simp; try with_reducible rfl
     try simp only [ps]
     refine tk 4 (some 66) (Op.fieldAddr 27 (Operand.tmp 4) 3) 0 (v := ?v4a5) rfl ?h4a5 hH ?_
     case h4a5 => intro _ _; go_simp; try with_reducible rfl
     try simp only [ps]
     refine tk 5 (some 67) (Op.load 3 (Operand.tmp 66)) 3 (v := ?v5a6) rfl ?h5a6 hH ?_
     case h5a6 => intro _ _; go_simp; try with_reducible rfl
     try simp only [ps]
     refine tk 6 (some 68) (Op.move (Operand.tmp 0)) 152 (v := ?v6a7) rfl ?h6a7 hH ?_
     case h6a7 => intro _ _; go_simp; try with_reducible rfl
     try simp only [ps]
     refine tk 7 (some 69) (Op.nilCheck (Operand.tmp 68)) 0 (v := ?v7a8) rfl ?h7a8 hH ?_
     case h7a8 => intro _ _; go_simp; try with_reducible rfl
     try simp only [ps]
     refine tk 8 (some 70) (Op.fieldAddr 120 (Operand.tmp 69) 2) 0 (v := ?v8a9) rfl ?h8a9 hH ?_
     case h8a9 => intro _ _; go_simp; try with_reducible rfl
     try simp only [ps]
     refine tk 9 (some 71) (Op.load 3 (Operand.tmp 70)) 3 (v := ?v9a10) rfl ?h9a10 hH ?_
     case h9a10 => intro _ _; go_simp; try with_reducible rfl
     try simp only [ps]
     refine tk 10 (some 72) (Op.binOp BinOp.leq 3 (Operand.tmp 67) (Operand.tmp 71) 3) 4 (v := ?v10a11) rfl ?h10a11 hH ?_
     case h10a11 => intro _ _; go_simp; try with_reducible rfl
     try simp only [ps]
     refine tk 11 (some 73) (Op.pick (Operand.tmp 65) (Operand.tmp 72) (Operand.const (Value.bool false))) 4 (v := ?v11a12) rfl ?h11a12 hH ?_
     case h11a12 => intro _ _; go_simp; try with_reducible rfl
     try simp only [ps]
     refine tk 12 (some 6) (Op.assign (Operand.tmp 73)) 4 (v := ?v12a13) rfl ?h12a13 hH ?_
     case h12a13 => intro _ _; go_simp; try with_reducible rfl
     try simp only [ps]
     refine wpAnyH_done (by kernel_rfl) ?_ _
     refine NoPanic.normal ?_
     go_wp2_with fail
     go_ret
     exact Ckd.yes E.out (CB2.out.kp KQ) (by omega) (by omega) (by omega) (Nat.le_refl _) (KS2.out.kpt' KQ CB2.out.lt)
    ·
     have E : Hid (o = none) := by show _ = _; rw [E0.out, if_neg (fun h => m2 h.2)]
     have m2d : decide (m ≤ (g : Int)) = false := decide_eq_false m2
     go_upto_region 16 with fail
     clear a0 a1 a2 a3 a4 a5 a6 a7 a8 q0 q2 e0 e1
     have Q0 : Kp W2 W2.drew := (Kp.refl _).drew
     have MK : Hid (∀ W, Kp W2 W → W.cell? ⟨w.heap.size, 3, none⟩ = some (.int .i64 m) ∧ W.cell? ⟨C, 2, none⟩ = some (.int .i64 (g : Int)) ∧ Hid (Kp W2 W)) := fun W k => ⟨bl_cell (bl_kp A2.out k) 3 _ rfl, (CB2.out.kp k).cells.2.2.1, k⟩
     refine wp_region_noPanic ?_
     refine hdrew MK Q0 (fun hH => ?_)
     have KQ := Q0
     refine tk 0 (some 62) (Op.fieldAddr 27 (Operand.tmp 4) 3) 0 (v := ?v0b1) rfl ?h0b1 hH ?_
     case h0b1 => intro _ _; go_simp; try with_reducible rfl
     try simp only [ps]
     refine tk 1 (some 63) (Op.load 3 (Operand.tmp 62)) 3 (v := ?v1b2) rfl ?h1b2 hH ?_
     case h1b2 => intro _ _; go_simp; try with_reducible rfl
     try simp only [ps]
     refine tk 2 (some 64) (Op.binOp BinOp.leq 3 (Operand.const (Value.int IntKind.i64 1)) (Operand.tmp 63) 3) 4 (v := ?v2b3) rfl ?h2b3 hH ?_
     case h2b3 => intro _ _; go_simp; try with_reducible rfl
     try simp only [ps]
     refine tk 3 (some 65) (Op.move (Operand.tmp 64)) 4 (v := ?v3b4) rfl ?h3b4 hH ?_
     case h3b4 => intro _ _; go_simp; try with_reducible rfl
     try simp only [ps]
     refine tk 4 (some 66) (Op.fieldAddr 27 (Operand.tmp 4) 3) 0 (v := ?v4b5) rfl ?h4b5 hH ?_
     case h4b5 => intro _ _; go_simp; try with_reducible rfl
     try simp only [ps]
     refine tk 5 (some 67) (Op.load 3 (Operand.tmp 66)) 3 (v := ?v5b6) rfl ?h5b6 hH ?_
     case h5b6 => intro _ _; go_simp; try with_reducible rfl
     try simp only [ps]
     refine tk 6 (some 68) (Op.move (Operand.tmp 0)) 152 (v := ?v6b7) rfl ?h6b7 hH ?_
     case h6b7 => intro _ _; go_simp; try with_reducible rfl
     try simp only [ps]
     refine tk 7 (some 69) (Op.nilCheck (Operand.tmp 68)) 0 (v := ?v7b8) rfl ?h7b8 hH ?_
     case h7b8 => intro _ _; go_simp; try with_reducible rfl
     try simp only [ps]
     refine tk 8 (some 70) (Op.fieldAddr 120 (Operand.tmp 69) 2) 0 (v := ?v8b9) rfl ?h8b9 hH ?_
     case h8b9 => intro _ _; go_simp; try with_reducible rfl
     try simp only [ps]
     refine tk 9 (some 71) (Op.load 3 (Operand.tmp 70)) 3 (v := ?v9b10) rfl ?h9b10 hH ?_
     case h9b10 => intro _ _; go_simp; try with_reducible rfl
     try simp only [ps]
     refine tk 10 (some 72) (Op.binOp BinOp.leq 3 (Operand.tmp 67) (Operand.tmp 71) 3) 4 (v := ?v10b11) rfl ?h10b11 hH ?_
     case h10b11 => intro _ _; go_simp; try with_reducible rfl
     try simp only [ps]
     refine tk 11 (some 73) (Op.pick (Operand.tmp 65) (Operand.tmp 72) (Operand.const (Value.bool false))) 4 (v := ?v11b12) rfl ?h11b12 hH ?_
     case h11b12 => intro _ _; go_simp; try with_reducible rfl
     try simp only [ps]
     refine tk 12 (some 6) (Op.assign (Operand.tmp 73)) 4 (v := ?v12b13) rfl ?h12b13 hH ?_
     case h12b13 => intro _ _; go_simp; try with_reducible rfl
     try simp only [ps]
     refine wpAnyH_done (by kernel_rfl) ?_ _
     refine NoPanic.normal ?_
     go_wp2_with fail
     go_ret
     exact Ckd.no E.out (CB2.out.kp KQ) (by omega) (by omega) (by omega) (Nat.le_refl _) (KS2.out.kpt' KQ CB2.out.lt)
   ·
    have E : Hid (o = none) := by show _ = _; rw [E0.out, if_neg (fun h => m1 h.1)]
    have m1d : decide (1 ≤ m) = false := decide_eq_false m1
    go_upto_region 16 with fail
    clear a0 a1 a2 a3 a4 a5 a6 a7 a8 q0 q2 e0 e1
    have Q0 : Kp W2 W2.drew := (Kp.refl _).drew
    have MK : Hid (∀ W, Kp W2 W → W.cell? ⟨w.heap.size, 3, none⟩ = some (.int .i64 m) ∧ W.cell? ⟨C, 2, none⟩ = some (.int .i64 (g : Int)) ∧ Hid (Kp W2 W)) := fun W k => ⟨bl_cell (bl_kp A2.out k) 3 _ rfl, (CB2.out.kp k).cells.2.2.1, k⟩
    refine wp_region_noPanic ?_
    refine hdrew MK Q0 (fun hH => ?_)
    have KQ := Q0
    refine tk 0 (some 62) (Op.fieldAddr 27 (Operand.tmp 4) 3) 0 (v := ?v0c1) rfl ?h0c1 hH ?_
    case h0c1 => intro _ _; go_simp; try with_reducible rfl
    try simp only [ps]
    refine tk 1 (some 63) (Op.load 3 (Operand.tmp 62)) 3 (v := ?v1c2) rfl ?h1c2 hH ?_
    case h1c2 => intro _ _; go_simp; try with_reducible rfl
    try simp only [ps]
    refine tk 2 (some 64) (Op.binOp BinOp.leq 3 (Operand.const (Value.int IntKind.i64 1)) (Operand.tmp 63) 3) 4 (v := ?v2c3) rfl ?h2c3 hH ?_
    case h2c3 => intro _ _; go_simp; try with_reducible rfl
    try simp only [ps]
    refine tk 3 (some 65) (Op.move (Operand.tmp 64)) 4 (v := ?v3c4) rfl ?h3c4 hH ?_
    case h3c4 => intro _ _; go_simp; try with_reducible rfl
    try simp only [ps]
    refine tn 4 (some 66) (Op.fieldAddr 27 (Operand.tmp 4) 3) 0 rfl hH ?_
    try simp only [ps]
    refine tn 5 (some 67) (Op.load 3 (Operand.tmp 66)) 3 rfl hH ?_
    try simp only [ps]
    refine tn 6 (some 68) (Op.move (Operand.tmp 0)) 152 rfl hH ?_
    try simp only [ps]
    refine tn 7 (some 69) (Op.nilCheck (Operand.tmp 68)) 0 rfl hH ?_
    try simp only [ps]
    refine tn 8 (some 70) (Op.fieldAddr 120 (Operand.tmp 69) 2) 0 rfl hH ?_
    try simp only [ps]
    refine tn 9 (some 71) (Op.load 3 (Operand.tmp 70)) 3 rfl hH ?_
    try simp only [ps]
    refine tn 10 (some 72) (Op.binOp BinOp.leq 3 (Operand.tmp 67) (Operand.tmp 71) 3) 4 rfl hH ?_
    try simp only [ps]
    refine tk 11 (some 73) (Op.pick (Operand.tmp 65) (Operand.tmp 72) (Operand.const (Value.bool false))) 4 (v := ?v11c12) rfl ?h11c12 hH ?_
    case h11c12 => intro _ _; go_simp; try with_reducible rfl
    try simp only [ps]
    refine tk 12 (some 6) (Op.assign (Operand.tmp 73)) 4 (v := ?v12c13) rfl ?h12c13 hH ?_
    case h12c13 => intro _ _; go_simp; try with_reducible rfl
    try simp only [ps]
    refine wpAnyH_done (by kernel_rfl) ?_ _
    refine NoPanic.normal ?_
    go_wp2_with fail
    go_ret
    exact Ckd.no E.out (CB2.out.kp KQ) (by omega) (by omega) (by omega) (Nat.le_refl _) (KS2.out.kpt' KQ CB2.out.lt)
  by_cases k7 : k = 7
  ·
   subst k7
   have E0 : Hid (o = if ere || b then some ⟨n + 1, g, d⟩ else none) := by show _ = _; rw [← HO.out, if_neg (by simp; omega), if_neg (by omega), if_neg (by omega), if_neg (by omega), if_neg (by omega), if_neg (by omega), if_neg (by omega), if_pos rfl]
   cases ere with
   | true =>
    have E : Hid (o = some ⟨n + 1, g, d⟩) := by show _ = _; rw [E0.out]; rfl
    go_wp2_with fail
    go_ret
    exact Ckd.yes E.out CB2.out (by omega) (by omega) (by omega) (Nat.le_refl _) KS2.out
   | false =>
    cases b with
    | true =>
     have E : Hid (o = some ⟨n + 1, g, d⟩) := by show _ = _; rw [E0.out]; rfl
     go_wp2_with fail
     go_ret
     exact Ckd.yes E.out CB2.out (by omega) (by omega) (by omega) (Nat.le_refl _) KS2.out
    | false =>
     have E : Hid (o = none) := by show _ = _; rw [E0.out]; rfl
     go_wp2_with fail
     go_ret
     exact Ckd.no E.out CB2.out (by omega) (by omega) (by omega) (Nat.le_refl _) KS2.out
  by_cases k8 : k = 8
  ·
   subst k8
   have E0 : Hid (o = if ere || e then some ⟨n + 1, g, d⟩ else none) := by show _ = _; rw [← HO.out, if_neg (by simp; omega), if_neg (by omega), if_neg (by omega), if_neg (by omega), if_neg (by omega), if_neg (by omega), if_neg (by omega), if_neg (by omega), if_pos rfl]
   cases ere with
   | true =>
    have E : Hid (o = some ⟨n + 1, g, d⟩) := by show _ = _; rw [E0.out]; rfl
    go_wp2_with fail
    go_ret
    exact Ckd.yes E.out CB2.out (by omega) (by omega) (by omega) (Nat.le_refl _) KS2.out
   | false =>
    cases e with
    | true =>
     have E : Hid (o = some ⟨n + 1, g, d⟩) := by show _ = _; rw [E0.out]; rfl
     go_wp2_with fail
     go_ret
     exact Ckd.yes E.out CB2.out (by omega) (by omega) (by omega) (Nat.le_refl _) KS2.out
    | false =>
     have E : Hid (o = none) := by show _ = _; rw [E0.out]; rfl
     go_wp2_with fail
     go_ret
     exact Ckd.no E.out CB2.out (by omega) (by omega) (by omega) (Nat.le_refl _) KS2.out
  have g1 : (k == 1) = false := by simp [k1]
  have g2 : (k == 2) = false := by simp [k2]
  have g3 : (k == 3) = false := by simp [k3]
  have g4 : (k == 4) = false := by simp [k4]
  have g5 : (k == 5) = false := by simp [k5]
  have g6 : (k == 6) = false := by simp [k6]
  have g7 : (k == 7) = false := by simp [k7]
  have g8 : (k == 8) = false := by simp [k8]
  have E : Hid (o = none) := by show _ = _; rw [← HO.out, if_neg (by simp; omega), if_neg (by omega), if_neg (by omega), if_neg (by omega), if_neg (by omega), if_neg (by omega), if_neg (by omega), if_neg (by omega), if_neg (by omega)]
  go_wp2_with fail
  go_ret
  exact Ckd.no E.out CB2.out (by omega) (by omega) (by omega) (Nat.le_refl _) KS2.out

def RxOk : Rx → Prop
 | .mk _ _ _ _ s kids => kids.length ≤ 1000000 ∧ (s.a < 18446744073709551616 ∧ s.b < 18446744073709551616 ∧ s.c < 18446744073709551616 ∧ s.d < 18446744073709551616) ∧ ∀ a, a ∈ kids → RxOk a
termination_by r => SizeOf.sizeOf r
decreasing_by
 have := List.sizeOf_lt_of_mem (by assumption)
 simp
 omega
theorem right_all (ere : Bool) : ∀ a, RxOk a → RightSaid ere a
 | .mk k mn mx n s kids, h => by
  unfold RxOk at h
  exact right_step ere k mn mx n s kids (fun a ha => right_all ere a (h.2.2 a ha)) h.1 h.2.1
termination_by a => SizeOf.sizeOf a
decreasing_by
 have := List.sizeOf_lt_of_mem ha
 simp
 omega

theorem Right_any (r : Rx) (ere : Bool) (ok : Nat → Prop) (k mn mx m : Int) (t : W4) (ad : Option Addr) (l c : Nat) (w : World) (hR : RxOk r) (hI : Is w ok r (rxv k mn mx m t (.slice ad l c))) :
  Calls Tryz.prog 31 #[rxv k mn mx m t (.slice ad l c), .bool ere] w fun e w' => e = .returned (.bool (right ere r)) ∧ Kp w w' := by
 have RA := hid (right_all ere r hR)
 have HI := hid (hI.weak (ok' := fun x => ok x ∧ x < w.heap.size) (fun _ hb hl => ⟨hb, hl⟩))
 clear hR hI
 go_enter Tryz.func31, Tryz.ntmps31
 go_upto_region 2 with fail
 refine opq (fun W0 => W0.heap[w.heap.size]? = some (rxo k mn mx m t (.slice ad l c)) ∧ Cb W0 (w.heap.size + 1) ere 0 0 0 ∧ Is W0 (fun x => ok x ∧ x < w.heap.size) r (rxv k mn mx m t (.slice ad l c)) ∧ Kp w W0) ⟨by (first | exact last_at _ _ _ (by simp) | (refine bl_alloc ?_ _; first | exact last_at _ _ _ (by simp) | (refine bl_alloc ?_ _; first | exact last_at _ _ _ (by simp) | (refine bl_alloc ?_ _; exact last_at _ _ _ (by simp))))), by exact last_at _ _ _ (by simp), by exact HI.out.kp kpt, by exact kpt⟩ ?_
 rintro W0 ⟨xA0, xCB0, xI0, xK0⟩
 have A0 := hid xA0
 have CB0 := hid xCB0
 have I0 := hid xI0
 have K0 := hid xK0
 clear xA0 xCB0 xI0 xK0
 obtain ⟨a0, a1, a2, a3, a4, a5, a6, a7, a8⟩ := cells9 (A0.out)
 go_wp2_with fail
 clear a0 a1 a2 a3 a4 a5 a6 a7 a8
 refine (RA.out.all (w.heap.size + 1) _ _ true true 0 0 0 _ I0.out (fun _ hx => by omega) CB0.out (by omega) (by omega) (by omega)).mono ?_
 intro e W1 hcd
 obtain ⟨bq, rfl, hbq, _, hks⟩ := hcd.ex
 have HB : Hid (bq = right ere r) := hbq
 have K1 := hid (hks.up K0.out (by omega))
 clear hcd hbq hks
 go_wp2_with fail
 go_ret
 exact ⟨ret_bool HB.out, K1.out⟩
end Go.Proofs.YtnajcnhgeggngaaGreat
