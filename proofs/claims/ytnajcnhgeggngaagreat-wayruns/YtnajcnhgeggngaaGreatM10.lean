/-
  Texts of this claim: Same, Chk, Lean2, Right1.
-/
import Derived.Test.YtnajcnhgeggngaaGreatM3
import Derived.Deep.LoopGhost
import Derived.Test.YtnajcnhgeggngaaGreatM4

/-! ### Same -/

namespace Go.Proofs.YtnajcnhgeggngaaGreat
set_option maxHeartbeats 2000000
set_option maxRecDepth 100000
open Go.RowKit

mutual
def sameR : Rx → Rx → Bool
 | .mk k mn mx n s ks, .mk k' mn' mx' n' s' ks' => k == k' && mn == mn' && mx == mx' && n == n' && s == s' && sameL ks ks'
def sameL : List Rx → List Rx → Bool
 | [], [] => true
 | a :: xs, b :: ys => sameR a b && sameL xs ys
 | _, _ => false
end

theorem cells_of_is {w : World} {b o : Nat} {k mn mx m : Int} {t : W4} {ad : Option Addr} {l c : Nat} (h : CellsAt w b o (rxv k mn mx m t (.slice ad l c))) : w.cell? ⟨b, o, none⟩ = some (.int .i64 k) ∧ w.cell? ⟨b, o + 1, none⟩ = some (.int .i64 mn) ∧ w.cell? ⟨b, o + 2, none⟩ = some (.int .i64 mx) ∧ w.cell? ⟨b, o + 3, none⟩ = some (.int .i64 m) ∧ w.cell? ⟨b, o + 4, none⟩ = some (.int .u64 (t.a : Int)) ∧ w.cell? ⟨b, o + 5, none⟩ = some (.int .u64 (t.b : Int)) ∧ w.cell? ⟨b, o + 6, none⟩ = some (.int .u64 (t.c : Int)) ∧ w.cell? ⟨b, o + 7, none⟩ = some (.int .u64 (t.d : Int)) ∧ w.cell? ⟨b, o + 8, none⟩ = some (.slice ad l c) :=
 ⟨h 0 _ rfl, h 1 _ rfl, h 2 _ rfl, h 3 _ rfl, h 4 _ rfl, h 5 _ rfl, h 6 _ rfl, h 7 _ rfl, h 8 _ rfl⟩

theorem eq_vv (a b c d a' b' c' d' : Int) (w : World) :
  (Op.equalIn 10000 24 (.agg #[.int .u64 a, .int .u64 b, .int .u64 c, .int .u64 d]) (.agg #[.int .u64 a', .int .u64 b', .int .u64 c', .int .u64 d'])).run Tryz.prog w = .ok (a == a' && (b == b' && (c == c' && d == d'))) w := by
 have u3 := Tryz.underlying22
 have a3 := Tryz.isAgg22
 have z3 := Tryz.sizeOf22
 rw [show (10000 : Nat) = 9999 + 1 from rfl, Op.equalIn]
 simp only [Sem.run_bind, run_underlying Tryz.underlying24, Result.andThen_ok]
 simp only [Std.Legacy.Range.forIn_eq_forIn_range', Std.Legacy.Range.size, Nat.sub_zero, Nat.add_sub_cancel, Nat.div_one, List.range'_succ, List.range'_zero, List.forIn_cons, List.forIn_nil]
 go_simp
 by_cases h1 : a = a' <;> by_cases h2 : b = b' <;> by_cases h3 : c = c' <;> by_cases h4 : d = d' <;> simp [h1, h2, h3, h4]
theorem w4_eq (t u : W4) : (t == u) = (((t.a : Int) == (u.a : Int)) && (((t.b : Int) == (u.b : Int)) && (((t.c : Int) == (u.c : Int)) && ((t.d : Int) == (u.d : Int))))) := by
 cases t with
 | mk a b c d =>
  cases u with
  | mk a' b' c' d' =>
   rw [Bool.eq_iff_iff]
   simp
   omega

structure SameSaid (a : Rx) : Prop where
 all : ∀ (b : Rx) (va vb : Value) (w : World) (ok ok' : Nat → Prop), Is w ok a va → Is w ok' b vb → Calls Tryz.prog 100 #[va, vb] w fun e w' => e = .returned (.bool (sameR a b)) ∧ Kp w w'

structure RowAt (w : World) (ok : Nat → Prop) (ts : List Rx) (ad : Option Addr) (l c : Nat) : Prop where
 ln : l = ts.length
 cp : l ≤ c
 ex : ts ≠ [] → ∃ b o, ad = some ⟨b, o, none⟩ ∧ ok b ∧ b < w.heap.size ∧ IsL w ok ts b o
theorem RowAt.kp {w w' : World} {ok : Nat → Prop} {ts : List Rx} {ad : Option Addr} {l c : Nat} (h : RowAt w ok ts ad l c) (k : Kp w w') : RowAt w' ok ts ad l c :=
 ⟨h.ln, h.cp, fun hn => by
  obtain ⟨b, o, h1, h2, h3, h4⟩ := h.ex hn
  exact ⟨b, o, h1, h2, Nat.lt_of_lt_of_le h3 k.size, IsL.turn k.size (fun b hb hl => ⟨hb, k.block b hl⟩) ts b o (k.block b h3) h4⟩⟩
theorem Is.row {w : World} {ok : Nat → Prop} {k mn mx n : Int} {s : W4} {kids : List Rx} {v : Value} (h : Is w ok (.mk k mn mx n s kids) v) : ∃ ad l c, v = rxv k mn mx n s (.slice ad l c) ∧ RowAt w ok kids ad l c := by
 unfold Is at h
 obtain ⟨ad, l, c, h1, h2, h3, h4⟩ := h
 exact ⟨ad, l, c, h1, h2, h3, h4⟩
theorem RowAt.at {w : World} {ok : Nat → Prop} {ts : List Rx} {ad : Option Addr} {l c : Nat} (h : RowAt w ok ts ad l c) (j : Nat) (t : Rx) (hj : ts[j]? = some t) : ∃ b o k mn mx m s ad' l' c', ad = some ⟨b, o, none⟩ ∧ b < w.heap.size ∧ Is w ok t (rxv k mn mx m s (.slice ad' l' c')) ∧ CellsAt w b (o + j * 9) (rxv k mn mx m s (.slice ad' l' c')) := by
 obtain ⟨b, o, h1, h2, h3, h4⟩ := h.ex (by intro hn; rw [hn] at hj; simp at hj)
 obtain ⟨v, hi, hc⟩ := h4.get j t hj
 rw [Nat.mul_comm] at hc
 obtain ⟨k, mn, mx, m, s, ad', l', c', rfl⟩ := hi.form
 exact ⟨b, o, k, mn, mx, m, s, ad', l', c', h1, h3, hi, hc⟩

theorem sameL_len : ∀ (xs ys : List Rx), xs.length ≠ ys.length → sameL xs ys = false
 | [], [], h => absurd rfl h
 | [], _ :: _, _ => by simp [sameL]
 | _ :: _, [], _ => by simp [sameL]
 | a :: xs, b :: ys, h => by
  rw [sameL, sameL_len xs ys (by simpa using h), Bool.and_false]
theorem sameL_all : ∀ (xs ys : List Rx), xs.length = ys.length → (∀ (j : Nat) a b, xs[j]? = some a → ys[j]? = some b → sameR a b = true) → sameL xs ys = true
 | [], [], _, _ => by simp [sameL]
 | [], _ :: _, h, _ => by simp at h
 | _ :: _, [], h, _ => by simp at h
 | a :: xs, b :: ys, h, hs => by
  rw [sameL, hs 0 a b rfl rfl, sameL_all xs ys (by simpa using h) (fun j c d hc hd => hs (j + 1) c d (by simpa using hc) (by simpa using hd))]
  rfl
theorem sameL_not : ∀ (xs ys : List Rx) (j : Nat) (a b : Rx), xs[j]? = some a → ys[j]? = some b → sameR a b = false → sameL xs ys = false
 | [], _, j, a, b, h, _, _ => by simp at h
 | _ :: _, [], j, a, b, _, h, _ => by simp at h
 | x :: xs, y :: ys, 0, a, b, h1, h2, h => by
  simp at h1 h2
  subst h1; subst h2
  rw [sameL, h, Bool.false_and]
 | x :: xs, y :: ys, j + 1, a, b, h1, h2, h => by
  rw [sameL, sameL_not xs ys j a b (by simpa using h1) (by simpa using h2) h, Bool.and_false]

theorem equal_any (xs ys : List Rx) (H : ∀ a, a ∈ xs → SameSaid a) (ok ok' : Nat → Prop) (ad ad' : Option Addr) (l c l' c' : Nat) (w : World) (h1 : RowAt w ok xs ad l c) (h2 : RowAt w ok' ys ad' l' c') (hl : xs.length ≤ 1000000) :
  Calls Tryz.prog 123 #[.slice ad l c, .slice ad' l' c', .func (.func 100) #[] #[]] w fun e w' => e = .returned (.bool (sameL xs ys)) ∧ Kp w w' := by
 have e1 := h1.ln
 have e2 := h2.ln
 subst e1
 subst e2
 have hlc := h1.cp
 have hlc' := h2.cp
 have R1 := hid h1
 have R2 := hid h2
 have HH := hid H
 clear h1 h2 H
 by_cases hne : xs.length = ys.length
 ·
  obtain ⟨L, hL1⟩ : ∃ L, xs.length = L := ⟨_, rfl⟩
  have hL2 : ys.length = L := hne.symm.trans hL1
  rw [hL1] at R1 hlc hl ⊢
  rw [hL2] at R2 hlc' ⊢
  have HL1 := hid hL1
  have HL2 := hid hL2
  have HNE := hid hne
  clear hL1 hL2 hne
  go_enter Tryz.func123, Tryz.ntmps123
  go_wp2_with fail
  go_loopg [17] L (fun gg v wr => ∃ k : Nat, k + gg = L ∧ v = .int .i64 (k : Int) ∧ (∀ (j : Nat) a b, j < k → xs[j]? = some a → ys[j]? = some b → sameR a b = true) ∧ Kp w wr)
  case atStart => exact ⟨0, by omega, rfl, fun j a b hj => absurd hj (by omega), Kp.refl _⟩
  case round =>
   obtain ⟨k, hk, rfl, hall, hK⟩ := hrel
   have HA := hid hall
   have K0 := hid hK
   clear hall hK
   by_cases hlt : k < L
   ·
    have gkw : IntKind.i64.wrap ((k : Int) + 1) = (k : Int) + 1 := by rw [IntKind.wrap_i64]; omega
    have ga : (k : Int) < (L : Int) := by omega
    have g0 : (0 : Int) ≤ (k : Int) := by omega
    obtain ⟨a, ha⟩ : ∃ a, xs[k]? = some a := ⟨_, List.getElem?_eq_getElem (by rw [HL1.out]; exact hlt)⟩
    obtain ⟨b, hb⟩ : ∃ b, ys[k]? = some b := ⟨_, List.getElem?_eq_getElem (by rw [HL2.out]; exact hlt)⟩
    obtain ⟨bb1, o1, k1, mn1, mx1, m1, s1, ad1, l1, c1, e1, hb1, i1, ce1⟩ := (R1.out.kp K0.out).at k a ha
    obtain ⟨bb2, o2, k2, mn2, mx2, m2, s2, ad2, l2, c2, e2, hb2, i2, ce2⟩ := (R2.out.kp K0.out).at k b hb
    subst e1
    subst e2
    have SA := hid ((HH.out a (List.mem_of_getElem? ha)).all b (rxv k1 mn1 mx1 m1 s1 (.slice ad1 l1 c1)) (rxv k2 mn2 mx2 m2 s2 (.slice ad2 l2 c2)))
    have HXA := hid ha
    have HXB := hid hb
    have I1 := hid i1
    have I2 := hid i2
    have CE1 := hid ce1
    have CE2 := hid ce2
    clear ha hb i1 i2 ce1 ce2
    obtain ⟨x0, x1, x2, x3, x4, x5, x6, x7, x8⟩ := cells_of_is CE1.out
    go_upto_region 6 with fail
    clear x0 x1 x2 x3 x4 x5 x6 x7 x8
    refine opq (fun W => W.heap[wr.heap.size]? = some (rxo k1 mn1 mx1 m1 s1 (.slice ad1 l1 c1)) ∧ Kp wr W) ⟨by exact last_at _ _ _ (by simp), by exact (Kp.refl _).alloc _⟩ ?_
    rintro W1 ⟨y1, y2⟩
    have A1 := hid y1
    have K1 := hid y2
    clear y1 y2
    have CE3 := hid (CE2.out.turn (K1.out.block _ hb2))
    obtain ⟨x0, x1, x2, x3, x4, x5, x6, x7, x8⟩ := cells_of_is CE3.out
    go_upto_region 7 with fail
    clear x0 x1 x2 x3 x4 x5 x6 x7 x8
    refine opq (fun W => W.heap[wr.heap.size]? = some (rxo k1 mn1 mx1 m1 s1 (.slice ad1 l1 c1)) ∧ W.heap[W1.heap.size]? = some (rxo k2 mn2 mx2 m2 s2 (.slice ad2 l2 c2)) ∧ Kp wr W) ⟨by exact bl_alloc A1.out _, by exact last_at _ _ _ (by simp), by exact K1.out.alloc _⟩ ?_
    rintro W2 ⟨y1, y2, y3⟩
    have A2 := hid y1
    have B2 := hid y2
    have K2 := hid y3
    clear y1 y2 y3 A1 K1 CE1 CE2 CE3
    obtain ⟨a0, a1, a2, a3, a4, a5, a6, a7, a8⟩ := cells9 (A2.out)
    obtain ⟨b0, b1, b2, b3, b4, b5, b6, b7, b8⟩ := cells9 (B2.out)
    go_wp2_with fail
    clear a0 a1 a2 a3 a4 a5 a6 a7 a8 b0 b1 b2 b3 b4 b5 b6 b7 b8
    refine (SA.out _ ok ok' (I1.out.kp K2.out) (I2.out.kp K2.out)).mono ?_
    rintro e W3 ⟨rfl, k3⟩
    have K3 := hid (K0.out.trans (K2.out.trans k3))
    clear k3
    cases hsm : sameR a b with
    | false =>
     have E : Hid (sameL xs ys = false) := sameL_not xs ys k a b HXA.out HXB.out hsm
     clear hsm
     go_wp2_with fail
     go_ret
     exact ⟨ret_bool E.out.symm, K3.out⟩
    | true =>
     have NX : Hid (∀ (j : Nat) a b, j < k + 1 → xs[j]? = some a → ys[j]? = some b → sameR a b = true) := by
      intro j a' b' hj h1 h2
      by_cases hjk : j < k
      ·
       exact HA.out j a' b' hjk h1 h2
      ·
       obtain rfl : j = k := by omega
       have e1 := HXA.out.symm.trans h1
       have e2 := HXB.out.symm.trans h2
       injection e1 with e1
       injection e2 with e2
       subst e1
       subst e2
       exact hsm
     clear hsm
     go_wp2_with fail
     go_roundg (gk - 1)
     case measure => omega
     case rel => exact ⟨k + 1, by omega, by go_num, NX.out, K3.out⟩
   ·
    have ga : ¬ (k : Int) < (L : Int) := by omega
    have E : Hid (sameL xs ys = true) := sameL_all xs ys HNE.out (fun j a b h1 h2 => HA.out j a b (by have := (List.getElem?_eq_some_iff.1 h1).1; rw [HL1.out] at this; omega) h1 h2)
    go_wp2
    go_ret
    exact ⟨ret_bool E.out.symm, K0.out⟩
 ·
  have gn : ((xs.length : Int) != (ys.length : Int)) = true := by simp; omega
  have E : Hid (sameL xs ys = false) := sameL_len xs ys hne
  go_enter Tryz.func123, Tryz.ntmps123
  go_wp2
  go_ret
  exact ⟨ret_bool E.out.symm, Kp.refl _⟩

theorem same_step (k mn mx n : Int) (s : W4) (kids : List Rx) (H : ∀ a, a ∈ kids → SameSaid a) (hl : kids.length ≤ 1000000) : SameSaid (.mk k mn mx n s kids) := by
 refine ⟨fun b va vb w ok ok' hia hib => ?_⟩
 cases b with
 | mk k' mn' mx' n' s' kids' =>
  obtain ⟨ad, l, c, rfl, ra⟩ := hia.row
  obtain ⟨ad', l', c', rfl, rb⟩ := hib.row
  have RA := hid ra
  have RB := hid rb
  have HH := hid H
  clear ra rb hia hib H
  have e0 : Hid (sameR (.mk k mn mx n s kids) (.mk k' mn' mx' n' s' kids') = (k == k' && mn == mn' && mx == mx' && n == n' && s == s' && sameL kids kids')) := by show _ = _; rw [sameR]
  have es : ∀ w, (Op.equalIn 10000 24 (.agg #[.int .u64 (s.a : Int), .int .u64 (s.b : Int), .int .u64 (s.c : Int), .int .u64 (s.d : Int)]) (.agg #[.int .u64 (s'.a : Int), .int .u64 (s'.b : Int), .int .u64 (s'.c : Int), .int .u64 (s'.d : Int)])).run Tryz.prog w = .ok (s == s') w := fun w => by rw [eq_vv, w4_eq]
  obtain ⟨q5, hq5⟩ : ∃ q, (s == s') = q := ⟨_, rfl⟩
  rw [hq5] at es e0
  clear hq5
  go_enter Tryz.func100, Tryz.ntmps100
  go_upto_region 1 with fail
  refine opq (fun W => W.heap[w.heap.size]? = some (rxo k mn mx n s (.slice ad l c)) ∧ W.heap[w.heap.size + 1]? = some (rxo k' mn' mx' n' s' (.slice ad' l' c')) ∧ Kp w W) ⟨by exact bl_alloc (last_of _ _) _, by exact last_at _ _ _ (by simp), by exact ((Kp.refl _).alloc _).alloc _⟩ ?_
  rintro W0 ⟨y1, y2, y3⟩
  have A := hid y1
  have B := hid y2
  have K := hid y3
  clear y1 y2 y3
  obtain ⟨a0, a1, a2, a3, a4, a5, a6, a7, a8⟩ := cells9 (A.out)
  obtain ⟨b0, b1, b2, b3, b4, b5, b6, b7, b8⟩ := cells9 (B.out)
  cases h1 : (k == k') with
  | false =>
   have E : Hid (sameR (.mk k mn mx n s kids) (.mk k' mn' mx' n' s' kids') = false) := by show _ = _; rw [e0.out]; simp [h1]
   go_wp2
   go_ret
   exact ⟨ret_bool E.out.symm, K.out⟩
  | true =>
  cases h2 : (mn == mn') with
  | false =>
   have E : Hid (sameR (.mk k mn mx n s kids) (.mk k' mn' mx' n' s' kids') = false) := by show _ = _; rw [e0.out]; simp [h2]
   go_wp2
   go_ret
   exact ⟨ret_bool E.out.symm, K.out⟩
  | true =>
  cases h3 : (mx == mx') with
  | false =>
   have E : Hid (sameR (.mk k mn mx n s kids) (.mk k' mn' mx' n' s' kids') = false) := by show _ = _; rw [e0.out]; simp [h3]
   go_wp2
   go_ret
   exact ⟨ret_bool E.out.symm, K.out⟩
  | true =>
  cases h4 : (n == n') with
  | false =>
   have E : Hid (sameR (.mk k mn mx n s kids) (.mk k' mn' mx' n' s' kids') = false) := by show _ = _; rw [e0.out]; simp [h4]
   go_wp2
   go_ret
   exact ⟨ret_bool E.out.symm, K.out⟩
  | true =>
  cases q5 with
  | false =>
   have E : Hid (sameR (.mk k mn mx n s kids) (.mk k' mn' mx' n' s' kids') = false) := by show _ = _; rw [e0.out]; simp
   go_wp2
   go_ret
   exact ⟨ret_bool E.out.symm, K.out⟩
  | true =>
  have E : Hid (sameR (.mk k mn mx n s kids) (.mk k' mn' mx' n' s' kids') = sameL kids kids') := by show _ = _; rw [e0.out]; simp [h1, h2, h3, h4]
  go_wp2_with fail
  refine (equal_any kids kids' HH.out ok ok' ad ad' l c l' c' _ (RA.out.kp K.out) (RB.out.kp K.out) hl).mono ?_
  rintro e W1 ⟨rfl, k1⟩
  have K1 := hid (K.out.trans k1)
  clear k1
  go_wp2_with fail
  go_ret
  exact ⟨ret_bool E.out.symm, K1.out⟩

def RxFit : Rx → Prop
 | .mk _ _ _ _ _ kids => kids.length ≤ 1000000 ∧ ∀ a, a ∈ kids → RxFit a
termination_by r => SizeOf.sizeOf r
decreasing_by
 have := List.sizeOf_lt_of_mem (by assumption)
 simp
 omega
theorem same_all : ∀ a, RxFit a → SameSaid a
 | .mk k mn mx n s kids, h => by
  unfold RxFit at h
  exact same_step k mn mx n s kids (fun a ha => same_all a (h.2 a ha)) h.1
termination_by a => SizeOf.sizeOf a
decreasing_by
 have := List.sizeOf_lt_of_mem ha
 simp
 omega
theorem same_any (a b : Rx) (va vb : Value) (w : World) (ok ok' : Nat → Prop) (hf : RxFit a) (ha : Is w ok a va) (hb : Is w ok' b vb) : Calls Tryz.prog 100 #[va, vb] w fun e w' => e = .returned (.bool (sameR a b)) ∧ Kp w w' := (same_all a hf).all b va vb w ok ok' ha hb
end Go.Proofs.YtnajcnhgeggngaaGreat

/-! ### Chk -/

namespace Go.Proofs.YtnajcnhgeggngaaGreat
set_option maxHeartbeats 2000000
set_option maxRecDepth 100000
open Go.RowKit

def kidsFit (k : Int) (n : Nat) : Bool := if k = 2 then n != 1 else if k = 3 then decide (2 ≤ n) else if k = 4 ∨ k = 5 then n == 1 else n == 0
def leanB : Rx → Bool
 | .mk k mn mx n s kids => (if k = 4 then true else mn == 0 && mx == 0) && (if k = 5 ∨ k = 6 then true else n == 0) && (if k = 1 then true else s == W4.z) && kidsFit k kids.length
def W4.bit (s : W4) : Nat → Bool := bitOf s.a s.b s.c s.d

structure Ck where
 n : Nat
 g : Nat
 d : Nat
mutual
def chk (ere : Bool) : Rx → Bool → Bool → Ck → Option Ck
 | .mk k mn mx n s kids, b, e, c =>
  if c.n + 1 > 40 ∨ leanB (.mk k mn mx n s kids) = false then none
  else if k = 1 then (if cnt (W4.bit s) 256 > 0 then some ⟨c.n + 1, c.g, c.d⟩ else none)
  else if k = 2 then chkCat ere kids true ⟨c.n + 1, c.g, c.d⟩
  else if k = 3 then (if ere then chkAlt ere kids ⟨c.n + 1, c.g, c.d⟩ else none)
  else if k = 4 then (if timesFit mn mx then chkRep ere kids ⟨c.n + 1, c.g, c.d⟩ else none)
  else if k = 5 then (if n ≠ (c.g + 1 : Nat) ∨ c.g + 1 > 3 ∨ c.d = 6 then none else chkGroup ere kids ⟨c.n + 1, c.g + 1, c.d + 1⟩)
  else if k = 6 then (if 1 ≤ n ∧ n ≤ (c.g : Int) then some ⟨c.n + 1, c.g, c.d⟩ else none)
  else if k = 7 then (if ere || b then some ⟨c.n + 1, c.g, c.d⟩ else none)
  else if k = 8 then (if ere || e then some ⟨c.n + 1, c.g, c.d⟩ else none)
  else none
def chkCat (ere : Bool) : List Rx → Bool → Ck → Option Ck
 | [], _, c => some c
 | r :: rs, first, c => if r.k = 2 ∨ r.k = 3 then none else match chk ere r first rs.isEmpty c with
  | none => none
  | some c' => chkCat ere rs false c'
def chkAlt (ere : Bool) : List Rx → Ck → Option Ck
 | [], c => some c
 | r :: rs, c => if r.k = 3 then none else match chk ere r false false c with
  | none => none
  | some c' => chkAlt ere rs c'
def chkRep (ere : Bool) : List Rx → Ck → Option Ck
 | r :: _, c => if mayRep r.k then chk ere r false false c else none
 | [], _ => none
def chkGroup (ere : Bool) : List Rx → Ck → Option Ck
 | r :: _, c => match chk ere r true true c with
  | none => none
  | some c' => some ⟨c'.n, c'.g, c'.d - 1⟩
 | [], _ => none
end
def right (ere : Bool) (r : Rx) : Bool := (chk ere r true true ⟨0, 0, 0⟩).isSome

abbrev cko (ere : Bool) (n g d : Nat) : Obj := .cells #[.bool ere, .int .i64 (n : Int), .int .i64 (g : Int), .int .i64 (d : Int)] 120
def Cb (w : World) (C : Nat) (ere : Bool) (n g d : Nat) : Prop := w.heap[C]? = some (cko ere n g d)
theorem Cb.kp {w w' : World} {C : Nat} {ere : Bool} {n g d : Nat} (h : Cb w C ere n g d) (k : Kp w w') : Cb w' C ere n g d := bl_kp h k
theorem Cb.cells {w : World} {C : Nat} {ere : Bool} {n g d : Nat} (h : Cb w C ere n g d) : w.cell? ⟨C, 0, none⟩ = some (.bool ere) ∧ w.cell? ⟨C, 1, none⟩ = some (.int .i64 (n : Int)) ∧ w.cell? ⟨C, 2, none⟩ = some (.int .i64 (g : Int)) ∧ w.cell? ⟨C, 3, none⟩ = some (.int .i64 (d : Int)) := ⟨bl_cell h 0 _ rfl, bl_cell h 1 _ rfl, bl_cell h 2 _ rfl, bl_cell h 3 _ rfl⟩
structure Ckd (C : Nat) (ere : Bool) (d0 : Nat) (o : Option Ck) (w : World) (e : Ending) (w' : World) : Prop where
 ex : ∃ ok, e = .returned (.bool ok) ∧ ok = o.isSome ∧ (∃ n g d, Cb w' C ere n g d ∧ n ≤ 41 ∧ g ≤ 41 ∧ d ≤ 7 ∧ d0 ≤ d ∧ ∀ c, o = some c → n = c.n ∧ g = c.g ∧ d = c.d) ∧ Ks C w w'
structure RightSaid (ere : Bool) (r : Rx) : Prop where
 all : ∀ (C : Nat) (ok : Nat → Prop) (v : Value) (b e : Bool) (n g d : Nat) (w : World), Is w ok r v → (∀ x, ok x → x ≠ C) → Cb w C ere n g d → n ≤ 40 → g ≤ n → d ≤ 6 → Calls Tryz.prog 48 #[.pointer (some ⟨C, 0, none⟩), v, .agg #[.bool b, .bool e]] w fun e' w' => Ckd C ere d (chk ere r b e ⟨n, g, d⟩) w e' w'

theorem kidsFit_any (k : Int) (n : Nat) (w : World) : Calls Tryz.prog 101 #[.int .i64 k, .int .i64 (n : Int)] w fun e w' => e = .returned (.bool (kidsFit k n)) ∧ w' = w := by
 have fin : ∀ (a b : Bool), a = b → Ending.returned (.bool a) = .returned (.bool b) := fun a b h => by rw [h]
 have FIN := hid fin
 clear fin
 by_cases k2 : k = 2
 ·
  subst k2
  have E : Hid (((n : Int) != 1) = kidsFit 2 n) := by
   show _ = _
   rw [show kidsFit 2 n = (n != 1) from rfl]
   rw [Bool.eq_iff_iff]; simp; omega
  go_enter Tryz.func101, Tryz.ntmps101
  go_wp2
  go_ret
  exact ⟨FIN.out _ _ E.out, rfl⟩
 by_cases k3 : k = 3
 ·
  subst k3
  have E : Hid ((decide (2 ≤ (n : Int))) = kidsFit 3 n) := by
   show _ = _
   rw [show kidsFit 3 n = (decide (2 ≤ n)) from rfl]
   rw [Bool.eq_iff_iff]; simp; omega
  go_enter Tryz.func101, Tryz.ntmps101
  go_wp2
  go_ret
  exact ⟨FIN.out _ _ E.out, rfl⟩
 by_cases k4 : k = 4
 ·
  subst k4
  have E : Hid (((n : Int) == 1) = kidsFit 4 n) := by
   show _ = _
   rw [show kidsFit 4 n = (n == 1) from rfl]
   rw [Bool.eq_iff_iff]; simp; omega
  go_enter Tryz.func101, Tryz.ntmps101
  go_wp2
  go_ret
  exact ⟨FIN.out _ _ E.out, rfl⟩
 by_cases k5 : k = 5
 ·
  subst k5
  have E : Hid (((n : Int) == 1) = kidsFit 5 n) := by
   show _ = _
   rw [show kidsFit 5 n = (n == 1) from rfl]
   rw [Bool.eq_iff_iff]; simp; omega
  go_enter Tryz.func101, Tryz.ntmps101
  go_wp2
  go_ret
  exact ⟨FIN.out _ _ E.out, rfl⟩
 have g2 : (k == 2) = false := by simp [k2]
 have g3 : (k == 3) = false := by simp [k3]
 have g4 : (k == 4) = false := by simp [k4]
 have g5 : (k == 5) = false := by simp [k5]
 have E : Hid (((n : Int) == 0) = kidsFit k n) := by
  show _ = _
  unfold kidsFit
  rw [if_neg k2, if_neg k3, if_neg (by omega)]
  rw [Bool.eq_iff_iff]; simp
 go_enter Tryz.func101, Tryz.ntmps101
 go_wp2
 go_ret
 exact ⟨FIN.out _ _ E.out, rfl⟩
end Go.Proofs.YtnajcnhgeggngaaGreat

/-! ### Lean2 -/

namespace Go.Proofs.YtnajcnhgeggngaaGreat
set_option maxHeartbeats 2000000
set_option maxRecDepth 100000
open Go.RowKit

theorem fit_nil (k mn mx n : Int) (s : W4) : RxFit (.mk k mn mx n s []) := by
 unfold RxFit
 exact ⟨by simp, fun a ha => by simp at ha⟩
theorem same_bare (k mn mx n mn' mx' n' : Int) (s s' : W4) (q : Bool) (hq : (mn == mn' && mx == mx' && n == n' && s == s') = q) (w : World) : Calls Tryz.prog 100 #[rxv k mn mx n s (.slice none 0 0), rxv k mn' mx' n' s' (.slice none 0 0)] w fun e w' => e = .returned (.bool q) ∧ Kp w w' := by
 have := same_any (.mk k mn mx n s []) (.mk k mn' mx' n' s' []) _ _ w (fun _ => True) (fun _ => True) (fit_nil _ _ _ _ _) (Is.leaf _ _ _ _ _ _ _) (Is.leaf _ _ _ _ _ _ _)
 rw [sameR, sameL] at this
 rw [show (k == k && mn == mn' && mx == mx' && n == n' && s == s' && true) = q by rw [← hq]; simp] at this
 exact this

theorem lean_any (k mn mx m : Int) (t : W4) (kids : List Rx) (ad : Option Addr) (l c : Nat) (w : World) (hl : l = kids.length) :
  Calls Tryz.prog 71 #[rxv k mn mx m t (.slice ad l c)] w fun e w' => e = .returned (.bool (leanB (.mk k mn mx m t kids))) ∧ Kp w w' := by
 have E0 : Hid (leanB (.mk k mn mx m t kids) = ((if k = 4 then true else mn == 0 && mx == 0) && (if k = 5 ∨ k = 6 then true else m == 0) && (if k = 1 then true else t == W4.z) && kidsFit k l)) := by show _ = _; rw [hl]; rfl
 clear hl
 obtain ⟨kf, hkf⟩ : ∃ kf, kidsFit k l = kf := ⟨_, rfl⟩
 have KF : Hid (∀ w, Calls Tryz.prog 101 #[.int .i64 k, .int .i64 (l : Int)] w fun e w' => e = .returned (.bool kf) ∧ w' = w) := fun w => by have := kidsFit_any k l w; rw [hkf] at this; exact this
 rw [hkf] at E0
 clear hkf
 go_enter Tryz.func71, Tryz.ntmps71
 go_upto_region 1 with fail
 refine opq (fun V0 => V0.heap[w.heap.size]? = some (rxo k mn mx m t (.slice ad l c)) ∧ Kp w V0) ⟨by (first | exact last_at _ _ _ (by simp) | (refine bl_alloc ?_ _; first | exact last_at _ _ _ (by simp) | (refine bl_alloc ?_ _; first | exact last_at _ _ _ (by simp) | (refine bl_alloc ?_ _; exact last_at _ _ _ (by simp))))), by exact kpt⟩ ?_
 rintro V0 ⟨xA, xK⟩
 have A := hid xA
 have K := hid xK
 clear xA xK
 obtain ⟨a0, a1, a2, a3, a4, a5, a6, a7, a8⟩ := cells9 (A.out)
 go_upto_region 2 with fail
 clear a0 a1 a2 a3 a4 a5 a6 a7 a8
 refine opq (fun W0 => W0.heap[w.heap.size]? = some (rxo k mn mx m t (.slice ad l c)) ∧ W0.heap[V0.heap.size]? = some (rxo k 0 0 0 W4.z (.slice none 0 0)) ∧ Kp w W0) ⟨by exact bl_kp A.out kpt, by exact last_at _ _ _ (by simp), by exact K.out.trans kpt⟩ ?_
 rintro W0 ⟨xA0, xB0, xK0⟩
 have A0 := hid xA0
 have B0 := hid xB0
 have K0 := hid xK0
 clear xA0 xB0 xK0
 have hsV : w.heap.size < V0.heap.size := bl_lt A.out
 clear A K
 by_cases k1 : k = 1
 ·
  subst k1
  obtain ⟨sm, hsm⟩ : ∃ sm, (mn == 0 && mx == 0 && m == 0 && t == t) = sm := ⟨_, rfl⟩
  have SB := hid (same_bare 1 mn mx m 0 0 0 t t sm hsm)
  have E : Hid (leanB (.mk 1 mn mx m t kids) = (sm && kf)) := by show _ = _; rw [E0.out, ← hsm]; (first | (simp; done) | (simp; cases mn == 0 <;> cases mx == 0 <;> cases m == 0 <;> rfl))
  clear hsm
  obtain ⟨a0, a1, a2, a3, a4, a5, a6, a7, a8⟩ := cells9 (A0.out)
  obtain ⟨b0, fb0, b1, fb1, b2, fb2, b3, fb3, b4, fb4, b5, fb5, b6, fb6, b7, fb7, b8, fb8⟩ := cellf9 (B0.out)
  go_upto_region 10 with fail
  clear a0 a1 a2 a3 a4 a5 a6 a7 a8 b0 fb0 b1 fb1 b2 fb2 b3 fb3 b4 fb4 b5 fb5 b6 fb6 b7 fb7 b8 fb8
  refine opq (fun W1 => W1.heap[w.heap.size]? = some (rxo 1 mn mx m t (.slice ad l c)) ∧ W1.heap[V0.heap.size]? = some (rxo 1 0 0 0 t (.slice none 0 0)) ∧ Kp w W1) ⟨by exact bl_set (bl_set (bl_set (bl_set A0.out (by omega) _) (by omega) _) (by omega) _) (by omega) _, by exact bl_put (bl_put (bl_put (bl_put B0.out _) _) _) _, by exact (((K0.out.setCell (Nat.le_of_lt hsV) _).setCell (Nat.le_of_lt hsV) _).setCell (Nat.le_of_lt hsV) _).setCell (Nat.le_of_lt hsV) _⟩ ?_
  rintro W1 ⟨xA1, xB1, xK1⟩
  have A1 := hid xA1
  have B1 := hid xB1
  have K1 := hid xK1
  clear xA1 xB1 xK1
  clear A0 B0 K0
  have A0 := A1
  have K0 := K1
  clear A1 K1
  obtain ⟨a0, fa0, a1, fa1, a2, fa2, a3, fa3, a4, fa4, a5, fa5, a6, fa6, a7, fa7, a8, fa8⟩ := cellf9 (A0.out)
  go_upto_region 12 with fail
  clear a0 fa0 a1 fa1 a2 fa2 a3 fa3 a4 fa4 a5 fa5 a6 fa6 a7 fa7 a8 fa8
  refine opq (fun W2 => W2.heap[w.heap.size]? = some (rxo 1 mn mx m t (.slice none 0 0)) ∧ W2.heap[V0.heap.size]? = some (rxo 1 0 0 0 t (.slice none 0 0)) ∧ Kp w W2) ⟨by exact bl_put A0.out _, by exact bl_set B1.out (by omega) _, by exact K0.out.setCell (Nat.le_refl _) _⟩ ?_
  rintro W2 ⟨xA2, xB2, xK2⟩
  have A2 := hid xA2
  have B2 := hid xB2
  have K2 := hid xK2
  clear xA2 xB2 xK2
  obtain ⟨a0, a1, a2, a3, a4, a5, a6, a7, a8⟩ := cells9 (A2.out)
  obtain ⟨b0, b1, b2, b3, b4, b5, b6, b7, b8⟩ := cells9 (B2.out)
  go_wp2_with fail
  refine (SB.out _).mono ?_
  rintro e W3 ⟨rfl, k3⟩
  have A3 := hid (bl_kp A2.out k3)
  have K3 := hid (K2.out.trans k3)
  clear k3 a0 a1 a2 a3 a4 a5 a6 a7 a8 b0 b1 b2 b3 b4 b5 b6 b7 b8
  have x0 := bl_cell A3.out 0 _ rfl
  cases sm with
  | false =>
   go_wp2_with fail
   go_ret
   exact ⟨ret_bool (by rw [E.out]; rfl), K3.out⟩
  | true =>
   go_wp2_with fail
   refine (KF.out _).mono ?_
   rintro e W3 ⟨rfl, rfl⟩
   go_wp2_with fail
   go_ret
   exact ⟨ret_bool (by rw [E.out]; rfl), K3.out⟩
 by_cases k4 : k = 4
 ·
  subst k4
  obtain ⟨sm, hsm⟩ : ∃ sm, (mn == mn && mx == mx && m == 0 && t == W4.z) = sm := ⟨_, rfl⟩
  have SB := hid (same_bare 4 mn mx m mn mx 0 t W4.z sm hsm)
  have E : Hid (leanB (.mk 4 mn mx m t kids) = (sm && kf)) := by show _ = _; rw [E0.out, ← hsm]; simp
  clear hsm
  obtain ⟨a0, a1, a2, a3, a4, a5, a6, a7, a8⟩ := cells9 (A0.out)
  go_upto_region 6 with fail
  clear a0 a1 a2 a3 a4 a5 a6 a7 a8
  have BB := hid B0.out
  have Q0 : Ks V0.heap.size W0 W0.drew := (Ks.refl _ _).drew
  have MK : Hid (∀ W, Ks V0.heap.size W0 W → W.cell? ⟨w.heap.size, 1, none⟩ = some (.int .i64 mn) ∧ W.cell? ⟨w.heap.size, 2, none⟩ = some (.int .i64 mx) ∧ Hid (Ks V0.heap.size W0 W)) := fun W k => ⟨bl_cell (bl_ks A0.out (by omega) k) 1 _ rfl, bl_cell (bl_ks A0.out (by omega) k) 2 _ rfl, k⟩
  refine wp_region_noPanic ?_
  refine hdrew MK Q0 (fun hH => ?_)
  have KQ := Q0
  refine tk 0 (some 17) (Op.fieldAddr 27 (Operand.tmp 1) 1) 0 (v := ?v0a1) rfl ?h0a1 hH ?_
  case h0a1 => intro _ _; go_simp; try with_reducible rfl
  try simp only [ps]
  refine tk 1 (some 18) (Op.load 3 (Operand.tmp 17)) 3 (v := ?v1a2) rfl ?h1a2 hH ?_
  case h1a2 => intro _ _; go_simp; try with_reducible rfl
  try simp only [ps]
  refine tk 2 (some 19) (Op.fieldAddr 27 (Operand.tmp 1) 2) 0 (v := ?v2a3) rfl ?h2a3 hH ?_
  case h2a3 => intro _ _; go_simp; try with_reducible rfl
  try simp only [ps]
  refine tk 3 (some 20) (Op.load 3 (Operand.tmp 19)) 3 (v := ?v3a4) rfl ?h3a4 hH ?_
  case h3a4 => intro _ _; go_simp; try with_reducible rfl
  try simp only [ps]
  refine tk 4 (some 21) (Op.fieldAddr 27 (Operand.tmp 3) 1) 0 (v := ?v4a5) rfl ?h4a5 hH ?_
  case h4a5 => intro _ _; go_simp; try with_reducible rfl
  try simp only [ps]
  refine wpAnyH_ready (rs := [5]) (by kernel_rfl) (by simp) ?_
  refine AllReadyH.cons (o := { dst := none, op := Op.store 3 (Operand.tmp 21) (Operand.tmp 18), type := 0, pos := "right.go:61", after := #[{ on := 4, ground := Ground.data }, { on := 1, ground := Ground.data }, { on := 0, ground := Ground.phase }, { on := 1, ground := Ground.phase }, { on := 2, ground := Ground.textOnly Departure.lateStores }, { on := 3, ground := Ground.textOnly Departure.lateStores }], guard := none }) rfl (fun K hKq => ?_) AllReadyH.nil
  have c1 := bl_cell BB.out 1 _ rfl
  have f1 := bl_frozen BB.out 1
  go_simp
  refine hKq.out _ _ (MK.out _ (KQ.set 1 _)) (fun hN => ?_)
  have BN := hid (bl_put (j := 1) BB.out (.int .i64 mn))
  clear BB c1 f1
  have BB := BN
  clear BN
  clear hKq K hH KQ
  have hH := hN
  clear hN
  have KQ := hH.2.2.out
  try simp only [ps]
  refine tk 6 (some 22) (Op.fieldAddr 27 (Operand.tmp 3) 2) 0 (v := ?v6a6) rfl ?h6a6 hH ?_
  case h6a6 => intro _ _; go_simp; try with_reducible rfl
  try simp only [ps]
  refine wpAnyH_ready (rs := [7]) (by kernel_rfl) (by simp) ?_
  refine AllReadyH.cons (o := { dst := none, op := Op.store 3 (Operand.tmp 22) (Operand.tmp 20), type := 0, pos := "right.go:61", after := #[{ on := 6, ground := Ground.data }, { on := 3, ground := Ground.data }, { on := 5, ground := Ground.chain }, { on := 0, ground := Ground.phase }, { on := 1, ground := Ground.phase }, { on := 2, ground := Ground.phase }, { on := 3, ground := Ground.phase }, { on := 4, ground := Ground.phase }, { on := 5, ground := Ground.phase }], guard := none }) rfl (fun K hKq => ?_) AllReadyH.nil
  have c2 := bl_cell BB.out 2 _ rfl
  have f2 := bl_frozen BB.out 2
  go_simp
  refine hKq.out _ _ (MK.out _ (KQ.set 2 _)) (fun hN => ?_)
  have BN := hid (bl_put (j := 2) BB.out (.int .i64 mx))
  clear BB c2 f2
  have BB := BN
  clear BN
  clear hKq K hH KQ
  have hH := hN
  clear hN
  have KQ := hH.2.2.out
  try simp only [ps]
  refine wpAnyH_done (by kernel_rfl) ?_ _
  refine NoPanic.normal ?_
  go_upto_region 10 with fail
  refine opq (fun W1 => W1.heap[w.heap.size]? = some (rxo 4 mn mx m t (.slice ad l c)) ∧ W1.heap[V0.heap.size]? = some (rxo 4 mn mx 0 W4.z (.slice none 0 0)) ∧ Kp w W1) ⟨by exact bl_ks A0.out (by omega) KQ, by exact bl_drew BB.out, by exact KQ.up K0.out (Nat.le_of_lt hsV)⟩ ?_
  rintro W1 ⟨xA1, xB1, xK1⟩
  have A1 := hid xA1
  have B1 := hid xB1
  have K1 := hid xK1
  clear xA1 xB1 xK1
  clear A0 B0 K0 BB hH KQ Q0 MK
  have A0 := A1
  have K0 := K1
  clear A1 K1
  obtain ⟨a0, fa0, a1, fa1, a2, fa2, a3, fa3, a4, fa4, a5, fa5, a6, fa6, a7, fa7, a8, fa8⟩ := cellf9 (A0.out)
  go_upto_region 12 with fail
  clear a0 fa0 a1 fa1 a2 fa2 a3 fa3 a4 fa4 a5 fa5 a6 fa6 a7 fa7 a8 fa8
  refine opq (fun W2 => W2.heap[w.heap.size]? = some (rxo 4 mn mx m t (.slice none 0 0)) ∧ W2.heap[V0.heap.size]? = some (rxo 4 mn mx 0 W4.z (.slice none 0 0)) ∧ Kp w W2) ⟨by exact bl_put A0.out _, by exact bl_set B1.out (by omega) _, by exact K0.out.setCell (Nat.le_refl _) _⟩ ?_
  rintro W2 ⟨xA2, xB2, xK2⟩
  have A2 := hid xA2
  have B2 := hid xB2
  have K2 := hid xK2
  clear xA2 xB2 xK2
  obtain ⟨a0, a1, a2, a3, a4, a5, a6, a7, a8⟩ := cells9 (A2.out)
  obtain ⟨b0, b1, b2, b3, b4, b5, b6, b7, b8⟩ := cells9 (B2.out)
  go_wp2_with fail
  refine (SB.out _).mono ?_
  rintro e W3 ⟨rfl, k3⟩
  have A3 := hid (bl_kp A2.out k3)
  have K3 := hid (K2.out.trans k3)
  clear k3 a0 a1 a2 a3 a4 a5 a6 a7 a8 b0 b1 b2 b3 b4 b5 b6 b7 b8
  have x0 := bl_cell A3.out 0 _ rfl
  cases sm with
  | false =>
   go_wp2_with fail
   go_ret
   exact ⟨ret_bool (by rw [E.out]; rfl), K3.out⟩
  | true =>
   go_wp2_with fail
   refine (KF.out _).mono ?_
   rintro e W3 ⟨rfl, rfl⟩
   go_wp2_with fail
   go_ret
   exact ⟨ret_bool (by rw [E.out]; rfl), K3.out⟩
 by_cases k5 : k = 5
 ·
  subst k5
  obtain ⟨sm, hsm⟩ : ∃ sm, (mn == 0 && mx == 0 && m == m && t == W4.z) = sm := ⟨_, rfl⟩
  have SB := hid (same_bare 5 mn mx m 0 0 m t W4.z sm hsm)
  have E : Hid (leanB (.mk 5 mn mx m t kids) = (sm && kf)) := by show _ = _; rw [E0.out, ← hsm]; (first | (simp; done) | (simp; cases mn == 0 <;> cases mx == 0 <;> cases t == W4.z <;> rfl))
  clear hsm
  obtain ⟨a0, a1, a2, a3, a4, a5, a6, a7, a8⟩ := cells9 (A0.out)
  obtain ⟨b0, fb0, b1, fb1, b2, fb2, b3, fb3, b4, fb4, b5, fb5, b6, fb6, b7, fb7, b8, fb8⟩ := cellf9 (B0.out)
  go_upto_region 10 with fail
  clear a0 a1 a2 a3 a4 a5 a6 a7 a8 b0 fb0 b1 fb1 b2 fb2 b3 fb3 b4 fb4 b5 fb5 b6 fb6 b7 fb7 b8 fb8
  refine opq (fun W1 => W1.heap[w.heap.size]? = some (rxo 5 mn mx m t (.slice ad l c)) ∧ W1.heap[V0.heap.size]? = some (rxo 5 0 0 m W4.z (.slice none 0 0)) ∧ Kp w W1) ⟨by exact bl_set A0.out (by omega) _, by exact bl_put B0.out _, by exact K0.out.setCell (Nat.le_of_lt hsV) _⟩ ?_
  rintro W1 ⟨xA1, xB1, xK1⟩
  have A1 := hid xA1
  have B1 := hid xB1
  have K1 := hid xK1
  clear xA1 xB1 xK1
  clear A0 B0 K0
  have A0 := A1
  have K0 := K1
  clear A1 K1
  obtain ⟨a0, fa0, a1, fa1, a2, fa2, a3, fa3, a4, fa4, a5, fa5, a6, fa6, a7, fa7, a8, fa8⟩ := cellf9 (A0.out)
  go_upto_region 12 with fail
  clear a0 fa0 a1 fa1 a2 fa2 a3 fa3 a4 fa4 a5 fa5 a6 fa6 a7 fa7 a8 fa8
  refine opq (fun W2 => W2.heap[w.heap.size]? = some (rxo 5 mn mx m t (.slice none 0 0)) ∧ W2.heap[V0.heap.size]? = some (rxo 5 0 0 m W4.z (.slice none 0 0)) ∧ Kp w W2) ⟨by exact bl_put A0.out _, by exact bl_set B1.out (by omega) _, by exact K0.out.setCell (Nat.le_refl _) _⟩ ?_
  rintro W2 ⟨xA2, xB2, xK2⟩
  have A2 := hid xA2
  have B2 := hid xB2
  have K2 := hid xK2
  clear xA2 xB2 xK2
  obtain ⟨a0, a1, a2, a3, a4, a5, a6, a7, a8⟩ := cells9 (A2.out)
  obtain ⟨b0, b1, b2, b3, b4, b5, b6, b7, b8⟩ := cells9 (B2.out)
  go_wp2_with fail
  refine (SB.out _).mono ?_
  rintro e W3 ⟨rfl, k3⟩
  have A3 := hid (bl_kp A2.out k3)
  have K3 := hid (K2.out.trans k3)
  clear k3 a0 a1 a2 a3 a4 a5 a6 a7 a8 b0 b1 b2 b3 b4 b5 b6 b7 b8
  have x0 := bl_cell A3.out 0 _ rfl
  cases sm with
  | false =>
   go_wp2_with fail
   go_ret
   exact ⟨ret_bool (by rw [E.out]; rfl), K3.out⟩
  | true =>
   go_wp2_with fail
   refine (KF.out _).mono ?_
   rintro e W3 ⟨rfl, rfl⟩
   go_wp2_with fail
   go_ret
   exact ⟨ret_bool (by rw [E.out]; rfl), K3.out⟩
 by_cases k6 : k = 6
 ·
  subst k6
  obtain ⟨sm, hsm⟩ : ∃ sm, (mn == 0 && mx == 0 && m == m && t == W4.z) = sm := ⟨_, rfl⟩
  have SB := hid (same_bare 6 mn mx m 0 0 m t W4.z sm hsm)
  have E : Hid (leanB (.mk 6 mn mx m t kids) = (sm && kf)) := by show _ = _; rw [E0.out, ← hsm]; (first | (simp; done) | (simp; cases mn == 0 <;> cases mx == 0 <;> cases t == W4.z <;> rfl))
  clear hsm
  obtain ⟨a0, a1, a2, a3, a4, a5, a6, a7, a8⟩ := cells9 (A0.out)
  obtain ⟨b0, fb0, b1, fb1, b2, fb2, b3, fb3, b4, fb4, b5, fb5, b6, fb6, b7, fb7, b8, fb8⟩ := cellf9 (B0.out)
  go_upto_region 10 with fail
  clear a0 a1 a2 a3 a4 a5 a6 a7 a8 b0 fb0 b1 fb1 b2 fb2 b3 fb3 b4 fb4 b5 fb5 b6 fb6 b7 fb7 b8 fb8
  refine opq (fun W1 => W1.heap[w.heap.size]? = some (rxo 6 mn mx m t (.slice ad l c)) ∧ W1.heap[V0.heap.size]? = some (rxo 6 0 0 m W4.z (.slice none 0 0)) ∧ Kp w W1) ⟨by exact bl_set A0.out (by omega) _, by exact bl_put B0.out _, by exact K0.out.setCell (Nat.le_of_lt hsV) _⟩ ?_
  rintro W1 ⟨xA1, xB1, xK1⟩
  have A1 := hid xA1
  have B1 := hid xB1
  have K1 := hid xK1
  clear xA1 xB1 xK1
  clear A0 B0 K0
  have A0 := A1
  have K0 := K1
  clear A1 K1
  obtain ⟨a0, fa0, a1, fa1, a2, fa2, a3, fa3, a4, fa4, a5, fa5, a6, fa6, a7, fa7, a8, fa8⟩ := cellf9 (A0.out)
  go_upto_region 12 with fail
  clear a0 fa0 a1 fa1 a2 fa2 a3 fa3 a4 fa4 a5 fa5 a6 fa6 a7 fa7 a8 fa8
  refine opq (fun W2 => W2.heap[w.heap.size]? = some (rxo 6 mn mx m t (.slice none 0 0)) ∧ W2.heap[V0.heap.size]? = some (rxo 6 0 0 m W4.z (.slice none 0 0)) ∧ Kp w W2) ⟨by exact bl_put A0.out _, by exact bl_set B1.out (by omega) _, by exact K0.out.setCell (Nat.le_refl _) _⟩ ?_
  rintro W2 ⟨xA2, xB2, xK2⟩
  have A2 := hid xA2
  have B2 := hid xB2
  have K2 := hid xK2
  clear xA2 xB2 xK2
  obtain ⟨a0, a1, a2, a3, a4, a5, a6, a7, a8⟩ := cells9 (A2.out)
  obtain ⟨b0, b1, b2, b3, b4, b5, b6, b7, b8⟩ := cells9 (B2.out)
  go_wp2_with fail
  refine (SB.out _).mono ?_
  rintro e W3 ⟨rfl, k3⟩
  have A3 := hid (bl_kp A2.out k3)
  have K3 := hid (K2.out.trans k3)
  clear k3 a0 a1 a2 a3 a4 a5 a6 a7 a8 b0 b1 b2 b3 b4 b5 b6 b7 b8
  have x0 := bl_cell A3.out 0 _ rfl
  cases sm with
  | false =>
   go_wp2_with fail
   go_ret
   exact ⟨ret_bool (by rw [E.out]; rfl), K3.out⟩
  | true =>
   go_wp2_with fail
   refine (KF.out _).mono ?_
   rintro e W3 ⟨rfl, rfl⟩
   go_wp2_with fail
   go_ret
   exact ⟨ret_bool (by rw [E.out]; rfl), K3.out⟩
 have g1 : (k == 1) = false := by simp [k1]
 have g4 : (k == 4) = false := by simp [k4]
 have g5 : (k == 5) = false := by simp [k5]
 have g6 : (k == 6) = false := by simp [k6]
 obtain ⟨sm, hsm⟩ : ∃ sm, (mn == 0 && mx == 0 && m == 0 && t == W4.z) = sm := ⟨_, rfl⟩
 have SB := hid (same_bare k mn mx m 0 0 0 t W4.z sm hsm)
 have E : Hid (leanB (.mk k mn mx m t kids) = (sm && kf)) := by show _ = _; rw [E0.out, ← hsm]; rw [if_neg k4, if_neg (by omega), if_neg k1]; first | done | (cases mn == 0 <;> cases mx == 0 <;> cases m == 0 <;> cases t == W4.z <;> rfl)
 clear hsm
 obtain ⟨a0, fa0, a1, fa1, a2, fa2, a3, fa3, a4, fa4, a5, fa5, a6, fa6, a7, fa7, a8, fa8⟩ := cellf9 (A0.out)
 go_upto_region 12 with fail
 clear a0 fa0 a1 fa1 a2 fa2 a3 fa3 a4 fa4 a5 fa5 a6 fa6 a7 fa7 a8 fa8
 refine opq (fun W2 => W2.heap[w.heap.size]? = some (rxo k mn mx m t (.slice none 0 0)) ∧ W2.heap[V0.heap.size]? = some (rxo k 0 0 0 W4.z (.slice none 0 0)) ∧ Kp w W2) ⟨by exact bl_put A0.out _, by exact bl_set B0.out (by omega) _, by exact K0.out.setCell (Nat.le_refl _) _⟩ ?_
 rintro W2 ⟨xA2, xB2, xK2⟩
 have A2 := hid xA2
 have B2 := hid xB2
 have K2 := hid xK2
 clear xA2 xB2 xK2
 obtain ⟨a0, a1, a2, a3, a4, a5, a6, a7, a8⟩ := cells9 (A2.out)
 obtain ⟨b0, b1, b2, b3, b4, b5, b6, b7, b8⟩ := cells9 (B2.out)
 go_wp2_with fail
 refine (SB.out _).mono ?_
 rintro e W3 ⟨rfl, k3⟩
 have A3 := hid (bl_kp A2.out k3)
 have K3 := hid (K2.out.trans k3)
 clear k3 a0 a1 a2 a3 a4 a5 a6 a7 a8 b0 b1 b2 b3 b4 b5 b6 b7 b8
 have x0 := bl_cell A3.out 0 _ rfl
 cases sm with
 | false =>
  go_wp2_with fail
  go_ret
  exact ⟨ret_bool (by rw [E.out]; rfl), K3.out⟩
 | true =>
  go_wp2_with fail
  refine (KF.out _).mono ?_
  rintro e W3 ⟨rfl, rfl⟩
  go_wp2_with fail
  go_ret
  exact ⟨ret_bool (by rw [E.out]; rfl), K3.out⟩
end Go.Proofs.YtnajcnhgeggngaaGreat

/-! ### Right1 -/

namespace Go.Proofs.YtnajcnhgeggngaaGreat
open Go.RowKit

theorem RowAt.ks {P : Nat} {w w' : World} {ok : Nat → Prop} {ts : List Rx} {ad : Option Addr} {l c : Nat} (h : RowAt w ok ts ad l c) (k : Ks P w w') (hP : ∀ x, ok x → x ≠ P) : RowAt w' ok ts ad l c :=
 ⟨h.ln, h.cp, fun hn => by
  obtain ⟨b, o, h1, h2, h3, h4⟩ := h.ex hn
  exact ⟨b, o, h1, h2, Nat.lt_of_lt_of_le h3 k.size, IsL.turn k.size (fun b hb hl => ⟨hb, k.block b hl (hP b hb)⟩) ts b o (k.block b h3 (hP b h2)) h4⟩⟩
theorem Cb.lt {w : World} {C : Nat} {ere : Bool} {n g d : Nat} (h : Cb w C ere n g d) : C < w.heap.size := bl_lt h
theorem Ckd.no {C : Nat} {ere : Bool} {o : Option Ck} {w w' : World} {d0 n g d : Nat} (ho : o = none) (hc : Cb w' C ere n g d) (hn : n ≤ 41) (hg : g ≤ 41) (hd : d ≤ 7) (h0 : d0 ≤ d) (k : Ks C w w') : Ckd C ere d0 o w (.returned (.bool false)) w' :=
 ⟨false, rfl, by rw [ho]; rfl, ⟨n, g, d, hc, hn, hg, hd, h0, fun c h => by rw [ho] at h; cases h⟩, k⟩
theorem Ckd.yes {C : Nat} {ere : Bool} {o : Option Ck} {w w' : World} {d0 n g d : Nat} (ho : o = some ⟨n, g, d⟩) (hc : Cb w' C ere n g d) (hn : n ≤ 41) (hg : g ≤ 41) (hd : d ≤ 7) (h0 : d0 ≤ d) (k : Ks C w w') : Ckd C ere d0 o w (.returned (.bool true)) w' :=
 ⟨true, rfl, by rw [ho]; rfl, ⟨n, g, d, hc, hn, hg, hd, h0, fun c h => by rw [ho] at h; injection h with h; subst h; exact ⟨rfl, rfl, rfl⟩⟩, k⟩

structure CkOk (c c' : Ck) : Prop where
 n : c'.n ≤ 40
 g : c'.g ≤ c'.n
 d : c'.d = c.d
mutual
theorem chk_ok (ere : Bool) : ∀ (r : Rx) (b e : Bool) (c c' : Ck), c.n ≤ 40 → c.g ≤ c.n → chk ere r b e c = some c' → CkOk c c' ∧ c.n < c'.n
 | .mk k mn mx n s kids, b, e, c, c', hn, hg, h => by
  unfold chk at h
  split at h
  ·
   cases h
  ·
   rename_i h0
   have h40 : c.n + 1 ≤ 40 := by omega
   have one : some (⟨c.n + 1, c.g, c.d⟩ : Ck) = some c' → CkOk c c' ∧ c.n < c'.n := fun h => by
    injection h with h; subst h
    exact ⟨⟨h40, by show c.g ≤ c.n + 1; omega, rfl⟩, by show c.n < c.n + 1; omega⟩
   split at h
   ·
    split at h
    ·
     exact one h
    ·
     cases h
   split at h
   ·
    have := chkCat_ok ere kids true ⟨c.n + 1, c.g, c.d⟩ c' h40 (by show c.g ≤ c.n + 1; omega) h
    exact ⟨⟨this.1.n, this.1.g, this.1.d⟩, by have := this.2; simp only at this; omega⟩
   split at h
   ·
    split at h
    ·
     have := chkAlt_ok ere kids ⟨c.n + 1, c.g, c.d⟩ c' h40 (by show c.g ≤ c.n + 1; omega) h
     exact ⟨⟨this.1.n, this.1.g, this.1.d⟩, by have := this.2; simp only at this; omega⟩
    ·
     cases h
   split at h
   ·
    split at h
    ·
     have := chkRep_ok ere kids ⟨c.n + 1, c.g, c.d⟩ c' h40 (by show c.g ≤ c.n + 1; omega) h
     exact ⟨⟨this.1.n, this.1.g, this.1.d⟩, by have := this.2; simp only at this; omega⟩
    ·
     cases h
   split at h
   ·
    split at h
    ·
     cases h
    ·
     have := chkGroup_ok ere kids ⟨c.n + 1, c.g + 1, c.d + 1⟩ c' h40 (by show c.g + 1 ≤ c.n + 1; omega) h
     exact ⟨⟨this.1, this.2.1, by have := this.2.2.1; simp only at this; omega⟩, by have := this.2.2.2; simp only at this; omega⟩
   split at h
   ·
    split at h
    ·
     exact one h
    ·
     cases h
   split at h
   ·
    split at h
    ·
     exact one h
    ·
     cases h
   split at h
   ·
    split at h
    ·
     exact one h
    ·
     cases h
   ·
    cases h
theorem chkCat_ok (ere : Bool) : ∀ (rs : List Rx) (f : Bool) (c c' : Ck), c.n ≤ 40 → c.g ≤ c.n → chkCat ere rs f c = some c' → CkOk c c' ∧ c.n ≤ c'.n
 | [], f, c, c', hn, hg, h => by
  unfold chkCat at h
  injection h with h; subst h
  exact ⟨⟨hn, hg, rfl⟩, Nat.le_refl _⟩
 | r :: rs, f, c, c', hn, hg, h => by
  unfold chkCat at h
  split at h
  ·
   cases h
  ·
   split at h
   ·
    cases h
   ·
    rename_i c1 hc1
    have h1 := chk_ok ere r f rs.isEmpty c c1 hn hg hc1
    have h2 := chkCat_ok ere rs false c1 c' h1.1.n h1.1.g h
    exact ⟨⟨h2.1.n, h2.1.g, h2.1.d.trans h1.1.d⟩, by omega⟩
theorem chkAlt_ok (ere : Bool) : ∀ (rs : List Rx) (c c' : Ck), c.n ≤ 40 → c.g ≤ c.n → chkAlt ere rs c = some c' → CkOk c c' ∧ c.n ≤ c'.n
 | [], c, c', hn, hg, h => by
  unfold chkAlt at h
  injection h with h; subst h
  exact ⟨⟨hn, hg, rfl⟩, Nat.le_refl _⟩
 | r :: rs, c, c', hn, hg, h => by
  unfold chkAlt at h
  split at h
  ·
   cases h
  ·
   split at h
   ·
    cases h
   ·
    rename_i c1 hc1
    have h1 := chk_ok ere r false false c c1 hn hg hc1
    have h2 := chkAlt_ok ere rs c1 c' h1.1.n h1.1.g h
    exact ⟨⟨h2.1.n, h2.1.g, h2.1.d.trans h1.1.d⟩, by omega⟩
theorem chkRep_ok (ere : Bool) : ∀ (rs : List Rx) (c c' : Ck), c.n ≤ 40 → c.g ≤ c.n → chkRep ere rs c = some c' → CkOk c c' ∧ c.n ≤ c'.n
 | [], c, c', hn, hg, h => by unfold chkRep at h; cases h
 | r :: rs, c, c', hn, hg, h => by
  unfold chkRep at h
  split at h
  ·
   have h1 := chk_ok ere r false false c c' hn hg h
   exact ⟨h1.1, by omega⟩
  ·
   cases h
theorem chkGroup_ok (ere : Bool) : ∀ (rs : List Rx) (c c' : Ck), c.n ≤ 40 → c.g ≤ c.n → chkGroup ere rs c = some c' → c'.n ≤ 40 ∧ c'.g ≤ c'.n ∧ c'.d = c.d - 1 ∧ c.n ≤ c'.n
 | [], c, c', hn, hg, h => by unfold chkGroup at h; cases h
 | r :: rs, c, c', hn, hg, h => by
  unfold chkGroup at h
  split at h
  ·
   cases h
  ·
   rename_i c1 hc1
   injection h with h; subst h
   have h1 := chk_ok ere r true true c c1 hn hg hc1
   exact ⟨h1.1.n, h1.1.g, by show c1.d - 1 = c.d - 1; rw [h1.1.d], by show c.n ≤ c1.n; omega⟩
end
end Go.Proofs.YtnajcnhgeggngaaGreat
