/-
  Texts of this claim: Same, Chk.
-/
import Derived.Test.YtnajcnhgeggngaaGreatM3
import Derived.Deep.LoopGhost

/-! ### Same -/

namespace Go.Proofs.YtnajcnhgeggngaaGreat
set_option maxHeartbeats 2000000
set_option maxRecDepth 100000
open Go.RowKit

mutual
def sameR : Rx → Rx → Bool
 | .mk k mn mx n s ks, .mk k' mn' mx' n' s' ks' => k == k' && mn == mn' && mx == mx' && n == n' && s == s' && sameL ks ks'
def sameL : List Rx → List Rx → Bool
 | [], [] => true
 | a :: xs, b :: ys => sameR a b && sameL xs ys
 | _, _ => false
end

theorem cells_of_is {w : World} {b o : Nat} {k mn mx m : Int} {t : W4} {ad : Option Addr} {l c : Nat} (h : CellsAt w b o (rxv k mn mx m t (.slice ad l c))) : w.cell? ⟨b, o, none⟩ = some (.int .i64 k) ∧ w.cell? ⟨b, o + 1, none⟩ = some (.int .i64 mn) ∧ w.cell? ⟨b, o + 2, none⟩ = some (.int .i64 mx) ∧ w.cell? ⟨b, o + 3, none⟩ = some (.int .i64 m) ∧ w.cell? ⟨b, o + 4, none⟩ = some (.int .u64 (t.a : Int)) ∧ w.cell? ⟨b, o + 5, none⟩ = some (.int .u64 (t.b : Int)) ∧ w.cell? ⟨b, o + 6, none⟩ = some (.int .u64 (t.c : Int)) ∧ w.cell? ⟨b, o + 7, none⟩ = some (.int .u64 (t.d : Int)) ∧ w.cell? ⟨b, o + 8, none⟩ = some (.slice ad l c) :=
 ⟨h 0 _ rfl, h 1 _ rfl, h 2 _ rfl, h 3 _ rfl, h 4 _ rfl, h 5 _ rfl, h 6 _ rfl, h 7 _ rfl, h 8 _ rfl⟩

theorem eq_vv (a b c d a' b' c' d' : Int) (w : World) :
  (Op.equalIn 10000 24 (.agg #[.int .u64 a, .int .u64 b, .int .u64 c, .int .u64 d]) (.agg #[.int .u64 a', .int .u64 b', .int .u64 c', .int .u64 d'])).run Tryz.prog w = .ok (a == a' && (b == b' && (c == c' && d == d'))) w := by
 have u3 := Tryz.underlying22
 have a3 := Tryz.isAgg22
 have z3 := Tryz.sizeOf22
 rw [show (10000 : Nat) = 9999 + 1 from rfl, Op.equalIn]
 simp only [Sem.run_bind, run_underlying Tryz.underlying24, Result.andThen_ok]
 simp only [Std.Legacy.Range.forIn_eq_forIn_range', Std.Legacy.Range.size, Nat.sub_zero, Nat.add_sub_cancel, Nat.div_one, List.range'_succ, List.range'_zero, List.forIn_cons, List.forIn_nil]
 go_simp
 by_cases h1 : a = a' <;> by_cases h2 : b = b' <;> by_cases h3 : c = c' <;> by_cases h4 : d = d' <;> simp [h1, h2, h3, h4]
theorem w4_eq (t u : W4) : (t == u) = (((t.a : Int) == (u.a : Int)) && (((t.b : Int) == (u.b : Int)) && (((t.c : Int) == (u.c : Int)) && ((t.d : Int) == (u.d : Int))))) := by
 cases t with
 | mk a b c d =>
  cases u with
  | mk a' b' c' d' =>
   rw [Bool.eq_iff_iff]
   simp
   omega

structure SameSaid (a : Rx) : Prop where
 all : ∀ (b : Rx) (va vb : Value) (w : World) (ok ok' : Nat → Prop), Is w ok a va → Is w ok' b vb → Calls Tryz.prog 100 #[va, vb] w fun e w' => e = .returned (.bool (sameR a b)) ∧ Kp w w'

structure RowAt (w : World) (ok : Nat → Prop) (ts : List Rx) (ad : Option Addr) (l c : Nat) : Prop where
 ln : l = ts.length
 cp : l ≤ c
 ex : ts ≠ [] → ∃ b o, ad = some ⟨b, o, none⟩ ∧ ok b ∧ b < w.heap.size ∧ IsL w ok ts b o
theorem RowAt.kp {w w' : World} {ok : Nat → Prop} {ts : List Rx} {ad : Option Addr} {l c : Nat} (h : RowAt w ok ts ad l c) (k : Kp w w') : RowAt w' ok ts ad l c :=
 ⟨h.ln, h.cp, fun hn => by
  obtain ⟨b, o, h1, h2, h3, h4⟩ := h.ex hn
  exact ⟨b, o, h1, h2, Nat.lt_of_lt_of_le h3 k.size, IsL.turn k.size (fun b hb hl => ⟨hb, k.block b hl⟩) ts b o (k.block b h3) h4⟩⟩
theorem Is.row {w : World} {ok : Nat → Prop} {k mn mx n : Int} {s : W4} {kids : List Rx} {v : Value} (h : Is w ok (.mk k mn mx n s kids) v) : ∃ ad l c, v = rxv k mn mx n s (.slice ad l c) ∧ RowAt w ok kids ad l c := by
 unfold Is at h
 obtain ⟨ad, l, c, h1, h2, h3, h4⟩ := h
 exact ⟨ad, l, c, h1, h2, h3, h4⟩
theorem RowAt.at {w : World} {ok : Nat → Prop} {ts : List Rx} {ad : Option Addr} {l c : Nat} (h : RowAt w ok ts ad l c) (j : Nat) (t : Rx) (hj : ts[j]? = some t) : ∃ b o k mn mx m s ad' l' c', ad = some ⟨b, o, none⟩ ∧ b < w.heap.size ∧ Is w ok t (rxv k mn mx m s (.slice ad' l' c')) ∧ CellsAt w b (o + j * 9) (rxv k mn mx m s (.slice ad' l' c')) := by
 obtain ⟨b, o, h1, h2, h3, h4⟩ := h.ex (by intro hn; rw [hn] at hj; simp at hj)
 obtain ⟨v, hi, hc⟩ := h4.get j t hj
 rw [Nat.mul_comm] at hc
 obtain ⟨k, mn, mx, m, s, ad', l', c', rfl⟩ := hi.form
 exact ⟨b, o, k, mn, mx, m, s, ad', l', c', h1, h3, hi, hc⟩

theorem sameL_len : ∀ (xs ys : List Rx), xs.length ≠ ys.length → sameL xs ys = false
 | [], [], h => absurd rfl h
 | [], _ :: _, _ => by simp [sameL]
 | _ :: _, [], _ => by simp [sameL]
 | a :: xs, b :: ys, h => by
  rw [sameL, sameL_len xs ys (by simpa using h), Bool.and_false]
theorem sameL_all : ∀ (xs ys : List Rx), xs.length = ys.length → (∀ (j : Nat) a b, xs[j]? = some a → ys[j]? = some b → sameR a b = true) → sameL xs ys = true
 | [], [], _, _ => by simp [sameL]
 | [], _ :: _, h, _ => by simp at h
 | _ :: _, [], h, _ => by simp at h
 | a :: xs, b :: ys, h, hs => by
  rw [sameL, hs 0 a b rfl rfl, sameL_all xs ys (by simpa using h) (fun j c d hc hd => hs (j + 1) c d (by simpa using hc) (by simpa using hd))]
  rfl
theorem sameL_not : ∀ (xs ys : List Rx) (j : Nat) (a b : Rx), xs[j]? = some a → ys[j]? = some b → sameR a b = false → sameL xs ys = false
 | [], _, j, a, b, h, _, _ => by simp at h
 | _ :: _, [], j, a, b, _, h, _ => by simp at h
 | x :: xs, y :: ys, 0, a, b, h1, h2, h => by
  simp at h1 h2
  subst h1; subst h2
  rw [sameL, h, Bool.false_and]
 | x :: xs, y :: ys, j + 1, a, b, h1, h2, h => by
  rw [sameL, sameL_not xs ys j a b (by simpa using h1) (by simpa using h2) h, Bool.and_false]

theorem equal_any (xs ys : List Rx) (H : ∀ a, a ∈ xs → SameSaid a) (ok ok' : Nat → Prop) (ad ad' : Option Addr) (l c l' c' : Nat) (w : World) (h1 : RowAt w ok xs ad l c) (h2 : RowAt w ok' ys ad' l' c') (hl : xs.length ≤ 1000000) :
  Calls Tryz.prog 123 #[.slice ad l c, .slice ad' l' c', .func (.func 100) #[] #[]] w fun e w' => e = .returned (.bool (sameL xs ys)) ∧ Kp w w' := by
 have e1 := h1.ln
 have e2 := h2.ln
 subst e1
 subst e2
 have hlc := h1.cp
 have hlc' := h2.cp
 have R1 := hid h1
 have R2 := hid h2
 have HH := hid H
 clear h1 h2 H
 by_cases hne : xs.length = ys.length
 ·
  obtain ⟨L, hL1⟩ : ∃ L, xs.length = L := ⟨_, rfl⟩
  have hL2 : ys.length = L := hne.symm.trans hL1
  rw [hL1] at R1 hlc hl ⊢
  rw [hL2] at R2 hlc' ⊢
  have HL1 := hid hL1
  have HL2 := hid hL2
  have HNE := hid hne
  clear hL1 hL2 hne
  go_enter Tryz.func123, Tryz.ntmps123
  go_wp2_with fail
  go_loopg [17] L (fun gg v wr => ∃ k : Nat, k + gg = L ∧ v = .int .i64 (k : Int) ∧ (∀ (j : Nat) a b, j < k → xs[j]? = some a → ys[j]? = some b → sameR a b = true) ∧ Kp w wr)
  case atStart => exact ⟨0, by omega, rfl, fun j a b hj => absurd hj (by omega), Kp.refl _⟩
  case round =>
   obtain ⟨k, hk, rfl, hall, hK⟩ := hrel
   have HA := hid hall
   have K0 := hid hK
   clear hall hK
   by_cases hlt : k < L
   ·
    have gkw : IntKind.i64.wrap ((k : Int) + 1) = (k : Int) + 1 := by rw [IntKind.wrap_i64]; omega
    have ga : (k : Int) < (L : Int) := by omega
    have g0 : (0 : Int) ≤ (k : Int) := by omega
    obtain ⟨a, ha⟩ : ∃ a, xs[k]? = some a := ⟨_, List.getElem?_eq_getElem (by rw [HL1.out]; exact hlt)⟩
    obtain ⟨b, hb⟩ : ∃ b, ys[k]? = some b := ⟨_, List.getElem?_eq_getElem (by rw [HL2.out]; exact hlt)⟩
    obtain ⟨bb1, o1, k1, mn1, mx1, m1, s1, ad1, l1, c1, e1, hb1, i1, ce1⟩ := (R1.out.kp K0.out).at k a ha
    obtain ⟨bb2, o2, k2, mn2, mx2, m2, s2, ad2, l2, c2, e2, hb2, i2, ce2⟩ := (R2.out.kp K0.out).at k b hb
    subst e1
    subst e2
    have SA := hid ((HH.out a (List.mem_of_getElem? ha)).all b (rxv k1 mn1 mx1 m1 s1 (.slice ad1 l1 c1)) (rxv k2 mn2 mx2 m2 s2 (.slice ad2 l2 c2)))
    have HXA := hid ha
    have HXB := hid hb
    have I1 := hid i1
    have I2 := hid i2
    have CE1 := hid ce1
    have CE2 := hid ce2
    clear ha hb i1 i2 ce1 ce2
    obtain ⟨x0, x1, x2, x3, x4, x5, x6, x7, x8⟩ := cells_of_is CE1.out
    go_upto_region 6 with fail
    clear x0 x1 x2 x3 x4 x5 x6 x7 x8
    refine opq (fun W => W.heap[wr.heap.size]? = some (rxo k1 mn1 mx1 m1 s1 (.slice ad1 l1 c1)) ∧ Kp wr W) ⟨by exact last_at _ _ _ (by simp), by exact (Kp.refl _).alloc _⟩ ?_
    rintro W1 ⟨y1, y2⟩
    have A1 := hid y1
    have K1 := hid y2
    clear y1 y2
    have CE3 := hid (CE2.out.turn (K1.out.block _ hb2))
    obtain ⟨x0, x1, x2, x3, x4, x5, x6, x7, x8⟩ := cells_of_is CE3.out
    go_upto_region 7 with fail
    clear x0 x1 x2 x3 x4 x5 x6 x7 x8
    refine opq (fun W => W.heap[wr.heap.size]? = some (rxo k1 mn1 mx1 m1 s1 (.slice ad1 l1 c1)) ∧ W.heap[W1.heap.size]? = some (rxo k2 mn2 mx2 m2 s2 (.slice ad2 l2 c2)) ∧ Kp wr W) ⟨by exact bl_alloc A1.out _, by exact last_at _ _ _ (by simp), by exact K1.out.alloc _⟩ ?_
    rintro W2 ⟨y1, y2, y3⟩
    have A2 := hid y1
    have B2 := hid y2
    have K2 := hid y3
    clear y1 y2 y3 A1 K1 CE1 CE2 CE3
    obtain ⟨a0, a1, a2, a3, a4, a5, a6, a7, a8⟩ := cells9 (A2.out)
    obtain ⟨b0, b1, b2, b3, b4, b5, b6, b7, b8⟩ := cells9 (B2.out)
    go_wp2_with fail
    clear a0 a1 a2 a3 a4 a5 a6 a7 a8 b0 b1 b2 b3 b4 b5 b6 b7 b8
    refine (SA.out _ ok ok' (I1.out.kp K2.out) (I2.out.kp K2.out)).mono ?_
    rintro e W3 ⟨rfl, k3⟩
    have K3 := hid (K0.out.trans (K2.out.trans k3))
    clear k3
    cases hsm : sameR a b with
    | false =>
     have E : Hid (sameL xs ys = false) := sameL_not xs ys k a b HXA.out HXB.out hsm
     clear hsm
     go_wp2_with fail
     go_ret
     exact ⟨ret_bool E.out.symm, K3.out⟩
    | true =>
     have NX : Hid (∀ (j : Nat) a b, j < k + 1 → xs[j]? = some a → ys[j]? = some b → sameR a b = true) := by
      intro j a' b' hj h1 h2
      by_cases hjk : j < k
      ·
       exact HA.out j a' b' hjk h1 h2
      ·
       obtain rfl : j = k := by omega
       have e1 := HXA.out.symm.trans h1
       have e2 := HXB.out.symm.trans h2
       injection e1 with e1
       injection e2 with e2
       subst e1
       subst e2
       exact hsm
     clear hsm
     go_wp2_with fail
     go_roundg (gk - 1)
     case measure => omega
     case rel => exact ⟨k + 1, by omega, by go_num, NX.out, K3.out⟩
   ·
    have ga : ¬ (k : Int) < (L : Int) := by omega
    have E : Hid (sameL xs ys = true) := sameL_all xs ys HNE.out (fun j a b h1 h2 => HA.out j a b (by have := (List.getElem?_eq_some_iff.1 h1).1; rw [HL1.out] at this; omega) h1 h2)
    go_wp2
    go_ret
    exact ⟨ret_bool E.out.symm, K0.out⟩
 ·
  have gn : ((xs.length : Int) != (ys.length : Int)) = true := by simp; omega
  have E : Hid (sameL xs ys = false) := sameL_len xs ys hne
  go_enter Tryz.func123, Tryz.ntmps123
  go_wp2
  go_ret
  exact ⟨ret_bool E.out.symm, Kp.refl _⟩

theorem same_step (k mn mx n : Int) (s : W4) (kids : List Rx) (H : ∀ a, a ∈ kids → SameSaid a) (hl : kids.length ≤ 1000000) : SameSaid (.mk k mn mx n s kids) := by
 refine ⟨fun b va vb w ok ok' hia hib => ?_⟩
 cases b with
 | mk k' mn' mx' n' s' kids' =>
  obtain ⟨ad, l, c, rfl, ra⟩ := hia.row
  obtain ⟨ad', l', c', rfl, rb⟩ := hib.row
  have RA := hid ra
  have RB := hid rb
  have HH := hid H
  clear ra rb hia hib H
  have e0 : Hid (sameR (.mk k mn mx n s kids) (.mk k' mn' mx' n' s' kids') = (k == k' && mn == mn' && mx == mx' && n == n' && s == s' && sameL kids kids')) := by show _ = _; rw [sameR]
  have es : ∀ w, (Op.equalIn 10000 24 (.agg #[.int .u64 (s.a : Int), .int .u64 (s.b : Int), .int .u64 (s.c : Int), .int .u64 (s.d : Int)]) (.agg #[.int .u64 (s'.a : Int), .int .u64 (s'.b : Int), .int .u64 (s'.c : Int), .int .u64 (s'.d : Int)])).run Tryz.prog w = .ok (s == s') w := fun w => by rw [eq_vv, w4_eq]
  obtain ⟨q5, hq5⟩ : ∃ q, (s == s') = q := ⟨_, rfl⟩
  rw [hq5] at es e0
  clear hq5
  go_enter Tryz.func100, Tryz.ntmps100
  go_upto_region 1 with fail
  refine opq (fun W => W.heap[w.heap.size]? = some (rxo k mn mx n s (.slice ad l c)) ∧ W.heap[w.heap.size + 1]? = some (rxo k' mn' mx' n' s' (.slice ad' l' c')) ∧ Kp w W) ⟨by exact bl_alloc (last_of _ _) _, by exact last_at _ _ _ (by simp), by exact ((Kp.refl _).alloc _).alloc _⟩ ?_
  rintro W0 ⟨y1, y2, y3⟩
  have A := hid y1
  have B := hid y2
  have K := hid y3
  clear y1 y2 y3
  obtain ⟨a0, a1, a2, a3, a4, a5, a6, a7, a8⟩ := cells9 (A.out)
  obtain ⟨b0, b1, b2, b3, b4, b5, b6, b7, b8⟩ := cells9 (B.out)
  cases h1 : (k == k') with
  | false =>
   have E : Hid (sameR (.mk k mn mx n s kids) (.mk k' mn' mx' n' s' kids') = false) := by show _ = _; rw [e0.out]; simp [h1]
   go_wp2
   go_ret
   exact ⟨ret_bool E.out.symm, K.out⟩
  | true =>
  cases h2 : (mn == mn') with
  | false =>
   have E : Hid (sameR (.mk k mn mx n s kids) (.mk k' mn' mx' n' s' kids') = false) := by show _ = _; rw [e0.out]; simp [h2]
   go_wp2
   go_ret
   exact ⟨ret_bool E.out.symm, K.out⟩
  | true =>
  cases h3 : (mx == mx') with
  | false =>
   have E : Hid (sameR (.mk k mn mx n s kids) (.mk k' mn' mx' n' s' kids') = false) := by show _ = _; rw [e0.out]; simp [h3]
   go_wp2
   go_ret
   exact ⟨ret_bool E.out.symm, K.out⟩
  | true =>
  cases h4 : (n == n') with
  | false =>
   have E : Hid (sameR (.mk k mn mx n s kids) (.mk k' mn' mx' n' s' kids') = false) := by show _ = _; rw [e0.out]; simp [h4]
   go_wp2
   go_ret
   exact ⟨ret_bool E.out.symm, K.out⟩
  | true =>
  cases q5 with
  | false =>
   have E : Hid (sameR (.mk k mn mx n s kids) (.mk k' mn' mx' n' s' kids') = false) := by show _ = _; rw [e0.out]; simp
   go_wp2
   go_ret
   exact ⟨ret_bool E.out.symm, K.out⟩
  | true =>
  have E : Hid (sameR (.mk k mn mx n s kids) (.mk k' mn' mx' n' s' kids') = sameL kids kids') := by show _ = _; rw [e0.out]; simp [h1, h2, h3, h4]
  go_wp2_with fail
  refine (equal_any kids kids' HH.out ok ok' ad ad' l c l' c' _ (RA.out.kp K.out) (RB.out.kp K.out) hl).mono ?_
  rintro e W1 ⟨rfl, k1⟩
  have K1 := hid (K.out.trans k1)
  clear k1
  go_wp2_with fail
  go_ret
  exact ⟨ret_bool E.out.symm, K1.out⟩

def RxFit : Rx → Prop
 | .mk _ _ _ _ _ kids => kids.length ≤ 1000000 ∧ ∀ a, a ∈ kids → RxFit a
termination_by r => SizeOf.sizeOf r
decreasing_by
 have := List.sizeOf_lt_of_mem (by assumption)
 simp
 omega
theorem same_all : ∀ a, RxFit a → SameSaid a
 | .mk k mn mx n s kids, h => by
  unfold RxFit at h
  exact same_step k mn mx n s kids (fun a ha => same_all a (h.2 a ha)) h.1
termination_by a => SizeOf.sizeOf a
decreasing_by
 have := List.sizeOf_lt_of_mem ha
 simp
 omega
theorem same_any (a b : Rx) (va vb : Value) (w : World) (ok ok' : Nat → Prop) (hf : RxFit a) (ha : Is w ok a va) (hb : Is w ok' b vb) : Calls Tryz.prog 100 #[va, vb] w fun e w' => e = .returned (.bool (sameR a b)) ∧ Kp w w' := (same_all a hf).all b va vb w ok ok' ha hb
end Go.Proofs.YtnajcnhgeggngaaGreat

/-! ### Chk -/

namespace Go.Proofs.YtnajcnhgeggngaaGreat
set_option maxHeartbeats 2000000
set_option maxRecDepth 100000
open Go.RowKit

def kidsFit (k : Int) (n : Nat) : Bool := if k = 2 then n != 1 else if k = 3 then decide (2 ≤ n) else if k = 4 ∨ k = 5 then n == 1 else n == 0
def leanB : Rx → Bool
 | .mk k mn mx n s kids => (if k = 4 then true else mn == 0 && mx == 0) && (if k = 5 ∨ k = 6 then true else n == 0) && (if k = 1 then true else s == W4.z) && kidsFit k kids.length
def W4.bit (s : W4) : Nat → Bool := bitOf s.a s.b s.c s.d

structure Ck where
 n : Nat
 g : Nat
 d : Nat
mutual
def chk (ere : Bool) : Rx → Bool → Bool → Ck → Option Ck
 | .mk k mn mx n s kids, b, e, c =>
  if c.n + 1 > 40 ∨ leanB (.mk k mn mx n s kids) = false then none
  else if k = 1 then (if cnt (W4.bit s) 256 > 0 then some ⟨c.n + 1, c.g, c.d⟩ else none)
  else if k = 2 then chkCat ere kids true ⟨c.n + 1, c.g, c.d⟩
  else if k = 3 then (if ere then chkAlt ere kids ⟨c.n + 1, c.g, c.d⟩ else none)
  else if k = 4 then (if timesFit mn mx then chkRep ere kids ⟨c.n + 1, c.g, c.d⟩ else none)
  else if k = 5 then (if n ≠ (c.g + 1 : Nat) ∨ c.g + 1 > 3 ∨ c.d = 6 then none else chkGroup ere kids ⟨c.n + 1, c.g + 1, c.d + 1⟩)
  else if k = 6 then (if 1 ≤ n ∧ n ≤ (c.g : Int) then some ⟨c.n + 1, c.g, c.d⟩ else none)
  else if k = 7 then (if ere || b then some ⟨c.n + 1, c.g, c.d⟩ else none)
  else if k = 8 then (if ere || e then some ⟨c.n + 1, c.g, c.d⟩ else none)
  else none
def chkCat (ere : Bool) : List Rx → Bool → Ck → Option Ck
 | [], _, c => some c
 | r :: rs, first, c => if r.k = 2 ∨ r.k = 3 then none else match chk ere r first rs.isEmpty c with
  | none => none
  | some c' => chkCat ere rs false c'
def chkAlt (ere : Bool) : List Rx → Ck → Option Ck
 | [], c => some c
 | r :: rs, c => if r.k = 3 then none else match chk ere r false false c with
  | none => none
  | some c' => chkAlt ere rs c'
def chkRep (ere : Bool) : List Rx → Ck → Option Ck
 | r :: _, c => if mayRep r.k then chk ere r false false c else none
 | [], _ => none
def chkGroup (ere : Bool) : List Rx → Ck → Option Ck
 | r :: _, c => match chk ere r true true c with
  | none => none
  | some c' => some ⟨c'.n, c'.g, c'.d - 1⟩
 | [], _ => none
end
def right (ere : Bool) (r : Rx) : Bool := (chk ere r true true ⟨0, 0, 0⟩).isSome

abbrev cko (ere : Bool) (n g d : Nat) : Obj := .cells #[.bool ere, .int .i64 (n : Int), .int .i64 (g : Int), .int .i64 (d : Int)] 120
def Cb (w : World) (C : Nat) (ere : Bool) (n g d : Nat) : Prop := w.heap[C]? = some (cko ere n g d)
theorem Cb.kp {w w' : World} {C : Nat} {ere : Bool} {n g d : Nat} (h : Cb w C ere n g d) (k : Kp w w') : Cb w' C ere n g d := bl_kp h k
theorem Cb.cells {w : World} {C : Nat} {ere : Bool} {n g d : Nat} (h : Cb w C ere n g d) : w.cell? ⟨C, 0, none⟩ = some (.bool ere) ∧ w.cell? ⟨C, 1, none⟩ = some (.int .i64 (n : Int)) ∧ w.cell? ⟨C, 2, none⟩ = some (.int .i64 (g : Int)) ∧ w.cell? ⟨C, 3, none⟩ = some (.int .i64 (d : Int)) := ⟨bl_cell h 0 _ rfl, bl_cell h 1 _ rfl, bl_cell h 2 _ rfl, bl_cell h 3 _ rfl⟩
structure Ckd (C : Nat) (ere : Bool) (d0 : Nat) (o : Option Ck) (w : World) (e : Ending) (w' : World) : Prop where
 ex : ∃ ok, e = .returned (.bool ok) ∧ ok = o.isSome ∧ (∃ n g d, Cb w' C ere n g d ∧ n ≤ 41 ∧ g ≤ 41 ∧ d ≤ 7 ∧ d0 ≤ d ∧ ∀ c, o = some c → n = c.n ∧ g = c.g ∧ d = c.d) ∧ Ks C w w'
structure RightSaid (ere : Bool) (r : Rx) : Prop where
 all : ∀ (C : Nat) (ok : Nat → Prop) (v : Value) (b e : Bool) (n g d : Nat) (w : World), Is w ok r v → (∀ x, ok x → x ≠ C) → Cb w C ere n g d → n ≤ 40 → g ≤ n → d ≤ 6 → Calls Tryz.prog 48 #[.pointer (some ⟨C, 0, none⟩), v, .agg #[.bool b, .bool e]] w fun e' w' => Ckd C ere d (chk ere r b e ⟨n, g, d⟩) w e' w'

theorem kidsFit_any (k : Int) (n : Nat) (w : World) : Calls Tryz.prog 101 #[.int .i64 k, .int .i64 (n : Int)] w fun e w' => e = .returned (.bool (kidsFit k n)) ∧ w' = w := by
 have fin : ∀ (a b : Bool), a = b → Ending.returned (.bool a) = .returned (.bool b) := fun a b h => by rw [h]
 have FIN := hid fin
 clear fin
 by_cases k2 : k = 2
 ·
  subst k2
  have E : Hid (((n : Int) != 1) = kidsFit 2 n) := by
   show _ = _
   rw [show kidsFit 2 n = (n != 1) from rfl]
   rw [Bool.eq_iff_iff]; simp; omega
  go_enter Tryz.func101, Tryz.ntmps101
  go_wp2
  go_ret
  exact ⟨FIN.out _ _ E.out, rfl⟩
 by_cases k3 : k = 3
 ·
  subst k3
  have E : Hid ((decide (2 ≤ (n : Int))) = kidsFit 3 n) := by
   show _ = _
   rw [show kidsFit 3 n = (decide (2 ≤ n)) from rfl]
   rw [Bool.eq_iff_iff]; simp; omega
  go_enter Tryz.func101, Tryz.ntmps101
  go_wp2
  go_ret
  exact ⟨FIN.out _ _ E.out, rfl⟩
 by_cases k4 : k = 4
 ·
  subst k4
  have E : Hid (((n : Int) == 1) = kidsFit 4 n) := by
   show _ = _
   rw [show kidsFit 4 n = (n == 1) from rfl]
   rw [Bool.eq_iff_iff]; simp; omega
  go_enter Tryz.func101, Tryz.ntmps101
  go_wp2
  go_ret
  exact ⟨FIN.out _ _ E.out, rfl⟩
 by_cases k5 : k = 5
 ·
  subst k5
  have E : Hid (((n : Int) == 1) = kidsFit 5 n) := by
   show _ = _
   rw [show kidsFit 5 n = (n == 1) from rfl]
   rw [Bool.eq_iff_iff]; simp; omega
  go_enter Tryz.func101, Tryz.ntmps101
  go_wp2
  go_ret
  exact ⟨FIN.out _ _ E.out, rfl⟩
 have g2 : (k == 2) = false := by simp [k2]
 have g3 : (k == 3) = false := by simp [k3]
 have g4 : (k == 4) = false := by simp [k4]
 have g5 : (k == 5) = false := by simp [k5]
 have E : Hid (((n : Int) == 0) = kidsFit k n) := by
  show _ = _
  unfold kidsFit
  rw [if_neg k2, if_neg k3, if_neg (by omega)]
  rw [Bool.eq_iff_iff]; simp
 go_enter Tryz.func101, Tryz.ntmps101
 go_wp2
 go_ret
 exact ⟨FIN.out _ _ E.out, rfl⟩
end Go.Proofs.YtnajcnhgeggngaaGreat
