/-
  A part of a row: what one sign begins, and its repetition.
-/
import Derived.Test.YtikmgckefbjbkaaGreatDoorOne
import Derived.Test.YtikmgckefbjbkaaGreatDoorSignIn
namespace Go.Proofs.YtikmgckefbjbkaaGreatDoor
open Go.RowKit
attribute [local go_sem] field91

theorem ch_lt' (s : ByteArray) (i : Nat) : ch s i < 256 := ch_lt s i
theorem qs_dig (b : Nat) (ere : Bool) (hb : b < 256) : (qs b ere).2.1 < 256 ∧ ((qs b ere).1 = 14 → 48 ≤ (qs b ere).2.1 ∧ (qs b ere).2.1 ≤ 57) := by
  unfold qs
  split
  · exact ⟨by show 10 < 256; omega, fun h => by cases h⟩
  split
  · rename_i h; exact ⟨hb, fun _ => (rng_dig b).1 h⟩
  split
  · exact ⟨hb, fun h => by cases h⟩
  split
  · exact ⟨by show 0 < 256; omega, fun h => by cases h⟩
  · refine ⟨hb, fun h => ?_⟩
    have h' : framing b = 14 := h
    unfold framing at h'
    split at h'
    · omega
    split at h'
    · omega
    split at h' <;> omega
theorem bare_ne (b : Nat) (ere : Bool) (hb : b < 256) : bare b ere ≠ 14 := (by decide +kernel : ∀ (b : Fin 256) (e : Bool), bare b.val e ≠ 14) ⟨b, hb⟩ ere
theorem sgn_dig (s : ByteArray) (ere : Bool) (i : Nat) : (sgn s ere i).2.1 < 256 ∧ ((sgn s ere i).1 = 14 → 48 ≤ (sgn s ere i).2.1 ∧ (sgn s ere i).2.1 ≤ 57) := by
  unfold sgn
  split
  · exact ⟨by show 0 < 256; omega, fun h => by cases h⟩
  split
  · unfold quoted
    split
    · exact ⟨by show 0 < 256; omega, fun h => by cases h⟩
    · exact qs_dig _ _ (ch_lt _ _)
  · exact ⟨ch_lt _ _, fun h => absurd h (bare_ne _ _ (ch_lt _ _))⟩
theorem sgnIn_dig (s : ByteArray) (ere : Bool) (began i : Nat) : (sgnIn s ere began i).2.1 < 256 ∧ ((sgnIn s ere began i).1 = 14 → 48 ≤ (sgnIn s ere began i).2.1 ∧ (sgnIn s ere began i).2.1 ≤ 57) := by
  have h := sgn_dig s ere i
  unfold sgnIn
  dsimp only
  split
  · exact h
  split
  · exact ⟨h.1, fun h => by cases h⟩
  · exact h

theorem Is.kind {w : World} {ok : Nat → Prop} {r : Rx} {k mn mx n : Int} {s : W4} {ks : Value} (h : Is w ok r (rxv k mn mx n s ks)) : r.k = k := by
  cases r with
  | mk k' mn' mx' n' s' kids =>
    unfold Is at h
    obtain ⟨ad, l, c, he, _⟩ := h
    injection he with he
    injection he with he
    simp at he
    exact he.1.symm

set_option maxHeartbeats 2000000 in
set_option maxRecDepth 100000 in
theorem part_any (c : St → Out) (D began : Nat) (s : ByteArray) (ere : Bool) (i n g d P : Nat) (w : World) (HC : ChSaid c s ere D) (HGd : CGood c s) (h : Rd w P s ere i n g d) (hv : Inv s ⟨i, n, g, d⟩) (hD : d + D = 6) (hbg : began ≤ i) (hs : s.size ≤ 1000000) :
    Calls Tryz.prog 69 #[.pointer (some ⟨P, 0, none⟩), .int .i64 (began : Int)] w fun e w' => RetE w P s ere (pPart c s ere began ⟨i, n, g, d⟩) e w' := by
  have R : Hid (Rd w P s ere i n g d) := h
  have hP : P < w.heap.size := h.lt
  clear h
  have hi : i ≤ s.size := hv.i
  obtain ⟨k, b, z, hg⟩ : ∃ x y z, sgnIn s ere began i = (x, y, z) := ⟨_, _, _, rfl⟩
  have hz := sgnIn_sz s ere began i hi
  have hd := sgnIn_dig s ere began i
  rw [hg] at hz hd
  obtain ⟨hz1, hz2, hz3⟩ := hz
  obtain ⟨hd1, hd2⟩ := hd
  simp only at hz1 hz2 hz3 hd1 hd2
  have hgood := pOne_good (ere := ere) (b := b) HGd hv hz1 hz3
  have HZ3 := hid hz3
  have HD2 := hid hd2
  have HG := hid hg
  clear hg hz3 hd2
  obtain ⟨o, ho⟩ : ∃ o, pOne c s ere k b z ⟨i, n, g, d⟩ = o := ⟨_, rfl⟩
  have ONE : Hid (∀ w, Rd w P s ere i n g d → Calls Tryz.prog 79 #[.pointer (some ⟨P, 0, none⟩), .agg #[.int .i64 (k : Int), .int .u8 (b : Int), .int .i64 (z : Int)]] w fun e w' => RetE w P s ere o e w') := by
    intro w h
    have := one_any c D k b z s ere i n g d P w HC HGd h hv hD hz1 hz2 HZ3.out hd1 HD2.out hs
    rw [ho] at this
    exact this
  have EO : Hid (pPart c s ere began ⟨i, n, g, d⟩ = if o.e ≠ 0 ∨ mayRep o.r.k = false then o else pRep s ere o.r o.st) := by
    show _ = _
    unfold pPart
    rw [HG.out, ← ho]
  rw [ho] at hgood
  have HGO := hid hgood
  clear ho hgood HZ3 HD2
  obtain ⟨r, er, ⟨i', n', g', d'⟩⟩ := o
  go_enter Tryz.func69, Tryz.ntmps69
  go_upto_region 1 with fail
  refine opq (fun W0 => Rd W0 P s ere i n g d ∧ W0.heap[w.heap.size]? = some rzo ∧ Ks P w W0) ⟨by exact R.out.kp (by repeat (first | exact Kp.refl _ | refine Kp.alloc ?_ _ | refine Kp.drew ?_ | refine Kp.drewN _ ?_)), by (first | exact last_at _ _ _ (by simp) | (refine bl_alloc ?_ _; first | exact last_at _ _ _ (by simp) | (refine bl_alloc ?_ _; first | exact last_at _ _ _ (by simp) | (refine bl_alloc ?_ _; exact last_at _ _ _ (by simp))))), by exact (Kp.ks (by repeat (first | exact Kp.refl _ | refine Kp.alloc ?_ _ | refine Kp.drew ?_ | refine Kp.drewN _ ?_)) (Nat.le_of_lt hP))⟩ ?_
  rintro W0 ⟨xR0, xB0, xK0⟩
  have R0 : Hid (Rd W0 P s ere i n g d) := xR0
  have B0 : Hid (W0.heap[w.heap.size]? = some rzo) := xB0
  have K0 : Hid (Ks P w W0) := xK0
  clear xR0 xB0 xK0
  clear R
  go_wp2_with fail
  refine (signIn_any began s ere i n g d P _ R0.out hi hbg hs).mono ?_
  rintro e W1 ⟨rfl, k1⟩
  rw [HG.out, sg3]
  have R1 := hid (R0.out.kp k1)
  have B1 := hid (bl_kp B0.out k1)
  have K1 := hid (K0.out.kpt k1 hP)
  clear k1 R0 B0 K0
  go_wp2_with fail
  refine (ONE.out _ R1.out).mono ?_
  rintro e W2 ⟨⟨v, rfl, rr⟩⟩
  obtain ⟨kk, mn, mx, mm, tt, ad, ll, cc, rfl⟩ := rr.is.form
  have hs1 : w.heap.size < W1.heap.size := bl_lt B1.out
  have hs2 := rr.ks.size
  have hkk : r.k = kk := rr.is.kind
  have HKK := hid hkk
  have R2 : Hid (Rd W2 P s ere i' n' g' d') := rr.rd
  have I2 : Hid (Is W2 (fun b => W1.heap.size ≤ b) r (rxv kk mn mx mm tt (.slice ad ll cc))) := rr.is
  have B2 := hid (bl_ks B1.out (by omega) rr.ks)
  have K2 := hid (K1.out.trans rr.ks)
  have L2 := hid rr.ks
  clear rr hkk R1 ONE
  dsimp only
  go_upto_region 2 with fail
  refine opq (fun W3 => Rd W3 P s ere i' n' g' d' ∧ W3.heap[W2.heap.size]? = some (rxo kk mn mx mm tt (.slice ad ll cc)) ∧ W3.heap[w.heap.size]? = some rzo ∧ Is W3 (fun b => w.heap.size ≤ b ∧ b ≠ w.heap.size) r (rxv kk mn mx mm tt (.slice ad ll cc)) ∧ Ks P w W3 ∧ Is W3 (fun b => W1.heap.size ≤ b) r (rxv kk mn mx mm tt (.slice ad ll cc)) ∧ Ks P W1 W3) ⟨by exact R2.out.kp (by repeat (first | exact Kp.refl _ | refine Kp.alloc ?_ _ | refine Kp.drew ?_ | refine Kp.drewN _ ?_)), by (first | exact last_at _ _ _ (by simp) | (refine bl_alloc ?_ _; first | exact last_at _ _ _ (by simp) | (refine bl_alloc ?_ _; first | exact last_at _ _ _ (by simp) | (refine bl_alloc ?_ _; exact last_at _ _ _ (by simp))))), by exact bl_kp B2.out (by repeat (first | exact Kp.refl _ | refine Kp.alloc ?_ _ | refine Kp.drew ?_ | refine Kp.drewN _ ?_)), by exact (I2.out.weak (ok' := fun b => w.heap.size ≤ b ∧ b ≠ w.heap.size) (fun _ hb _ => ⟨by omega, by omega⟩)).kp (by repeat (first | exact Kp.refl _ | refine Kp.alloc ?_ _ | refine Kp.drew ?_ | refine Kp.drewN _ ?_)), by exact K2.out.kpt (by repeat (first | exact Kp.refl _ | refine Kp.alloc ?_ _ | refine Kp.drew ?_ | refine Kp.drewN _ ?_)) hP, by exact I2.out.kp (by repeat (first | exact Kp.refl _ | refine Kp.alloc ?_ _ | refine Kp.drew ?_ | refine Kp.drewN _ ?_)), by exact L2.out.kpt (by repeat (first | exact Kp.refl _ | refine Kp.alloc ?_ _ | refine Kp.drew ?_ | refine Kp.drewN _ ?_)) (by omega)⟩ ?_
  rintro W3 ⟨xR3, xA3, xB3, xI3, xK3, xJ3, xL3⟩
  have R3 : Hid (Rd W3 P s ere i' n' g' d') := xR3
  have A3 : Hid (W3.heap[W2.heap.size]? = some (rxo kk mn mx mm tt (.slice ad ll cc))) := xA3
  have B3 : Hid (W3.heap[w.heap.size]? = some rzo) := xB3
  have I3 : Hid (Is W3 (fun b => w.heap.size ≤ b ∧ b ≠ w.heap.size) r (rxv kk mn mx mm tt (.slice ad ll cc))) := xI3
  have K3 : Hid (Ks P w W3) := xK3
  have J3 : Hid (Is W3 (fun b => W1.heap.size ≤ b) r (rxv kk mn mx mm tt (.slice ad ll cc))) := xJ3
  have L3 : Hid (Ks P W1 W3) := xL3
  clear xR3 xA3 xB3 xI3 xK3 xJ3 xL3
  clear R2 I2 B2 K2 L2
  have a0 := bl_cell (A3.out) 0 _ rfl
  have a1 := bl_cell (A3.out) 1 _ rfl
  have a2 := bl_cell (A3.out) 2 _ rfl
  have a3 := bl_cell (A3.out) 3 _ rfl
  have a4 := bl_cell (A3.out) 4 _ rfl
  have a5 := bl_cell (A3.out) 5 _ rfl
  have a6 := bl_cell (A3.out) 6 _ rfl
  have a7 := bl_cell (A3.out) 7 _ rfl
  have a8 := bl_cell (A3.out) 8 _ rfl
  by_cases he : er = 0
  · subst he
    obtain ⟨mr, hmr⟩ : ∃ mr, mayRep kk = mr := ⟨_, rfl⟩
    have RP : Hid (∀ w, Calls Tryz.prog 67 #[.int .i64 kk] w fun e w' => e = .returned (.bool mr) ∧ w' = w) := by
      intro w
      have := repeatable_any kk w
      rw [show (kk == 1 || kk == 5 || kk == 6) = mr from hmr] at this
      exact this
    have HMR := hid hmr
    clear hmr
    have j2 := (HGO.out.ok rfl).2.1
    go_wp2_with fail
    refine (RP.out _).mono ?_
    rintro e W3 ⟨rfl, rfl⟩
    cases mr with
    | false =>
      have E : Hid (pPart c s ere began ⟨i, n, g, d⟩ = ⟨r, 0, ⟨i', n', g', d'⟩⟩) := by show _ = _; rw [EO.out, if_pos (Or.inr (by rw [HKK.out, HMR.out]))]
      have b0 := bl_cell (B3.out) 0 _ rfl
      have fb0 := bl_frozen (B3.out) 0
      have b1 := bl_cell (B3.out) 1 _ rfl
      have fb1 := bl_frozen (B3.out) 1
      have b2 := bl_cell (B3.out) 2 _ rfl
      have fb2 := bl_frozen (B3.out) 2
      have b3 := bl_cell (B3.out) 3 _ rfl
      have fb3 := bl_frozen (B3.out) 3
      have b4 := bl_cell (B3.out) 4 _ rfl
      have fb4 := bl_frozen (B3.out) 4
      have b5 := bl_cell (B3.out) 5 _ rfl
      have fb5 := bl_frozen (B3.out) 5
      have b6 := bl_cell (B3.out) 6 _ rfl
      have fb6 := bl_frozen (B3.out) 6
      have b7 := bl_cell (B3.out) 7 _ rfl
      have fb7 := bl_frozen (B3.out) 7
      have b8 := bl_cell (B3.out) 8 _ rfl
      have fb8 := bl_frozen (B3.out) 8
      go_wp2_with fail
      refine bodyPost_ret (v := .tuple #[rxv kk mn mx mm tt (.slice ad ll cc), .int .i64 0]) (rx_ret2 rfl _ _ _ _ _ rfl rfl (bl_set9 B3.out _ _ _ _ _ _ _ _ _) rfl) rfl ?_
      rw [E.out]
      exact ⟨_, rfl, Ret.fin I3.out R3.out K3.out (ks_set9 _ _ _ _ _ _ _ _ _) hP (by omega)⟩
    | true =>
      have E : Hid (pPart c s ere began ⟨i, n, g, d⟩ = pRep s ere r ⟨i', n', g', d'⟩) := by
        show _ = _
        rw [EO.out, if_neg]
        intro h
        rcases h with h | h
        · exact h rfl
        · rw [show Rx.k r = kk from HKK.out, HMR.out] at h; cases h
      have hn' : n' ≤ 1000000000 := by have h1 := j2.n; have h2 := j2.i; simp only at h1 h2; omega
      have hi' : i' ≤ s.size := j2.i
      have hs3 : W2.heap.size < W3.heap.size := bl_lt A3.out
      go_wp2_with fail
      refine (repeated_any r kk mn mx mm tt ad ll cc s ere i' n' g' d' P W1 _ R3.out J3.out L3.out (by omega) hi' hs hn').mono ?_
      rintro e W4 ⟨⟨v, rfl, rr⟩⟩
      obtain ⟨kk', mn', mx', mm', tt', ad', ll', cc', rfl⟩ := rr.is.form
      have R4 := hid rr
      have B4 := hid (bl_ks B1.out (by omega) rr.ks)
      clear rr R3 A3 B3 I3 K3 J3 L3 a0 a1 a2 a3 a4 a5 a6 a7 a8
      have b0 := bl_cell (B4.out) 0 _ rfl
      have fb0 := bl_frozen (B4.out) 0
      have b1 := bl_cell (B4.out) 1 _ rfl
      have fb1 := bl_frozen (B4.out) 1
      have b2 := bl_cell (B4.out) 2 _ rfl
      have fb2 := bl_frozen (B4.out) 2
      have b3 := bl_cell (B4.out) 3 _ rfl
      have fb3 := bl_frozen (B4.out) 3
      have b4 := bl_cell (B4.out) 4 _ rfl
      have fb4 := bl_frozen (B4.out) 4
      have b5 := bl_cell (B4.out) 5 _ rfl
      have fb5 := bl_frozen (B4.out) 5
      have b6 := bl_cell (B4.out) 6 _ rfl
      have fb6 := bl_frozen (B4.out) 6
      have b7 := bl_cell (B4.out) 7 _ rfl
      have fb7 := bl_frozen (B4.out) 7
      have b8 := bl_cell (B4.out) 8 _ rfl
      have fb8 := bl_frozen (B4.out) 8
      go_wp2_with fail
      refine bodyPost_ret (v := .tuple #[rxv kk' mn' mx' mm' tt' (.slice ad' ll' cc'), .int .i64 ((pRep s ere r ⟨i', n', g', d'⟩).e : Nat)]) (rx_ret2 rfl _ _ _ _ _ rfl rfl (bl_set9 B4.out _ _ _ _ _ _ _ _ _) rfl) rfl ?_
      rw [E.out]
      exact ⟨_, rfl, R4.out.upset K1.out (ks_set9 _ _ _ _ _ _ _ _ _) hP (by omega) hs1⟩
  · have ge : ((er : Int) != 0) = true := by simp; omega
    have E : Hid (pPart c s ere began ⟨i, n, g, d⟩ = ⟨r, er, ⟨i', n', g', d'⟩⟩) := by show _ = _; rw [EO.out, if_pos (Or.inl he)]
    have b0 := bl_cell (B3.out) 0 _ rfl
    have fb0 := bl_frozen (B3.out) 0
    have b1 := bl_cell (B3.out) 1 _ rfl
    have fb1 := bl_frozen (B3.out) 1
    have b2 := bl_cell (B3.out) 2 _ rfl
    have fb2 := bl_frozen (B3.out) 2
    have b3 := bl_cell (B3.out) 3 _ rfl
    have fb3 := bl_frozen (B3.out) 3
    have b4 := bl_cell (B3.out) 4 _ rfl
    have fb4 := bl_frozen (B3.out) 4
    have b5 := bl_cell (B3.out) 5 _ rfl
    have fb5 := bl_frozen (B3.out) 5
    have b6 := bl_cell (B3.out) 6 _ rfl
    have fb6 := bl_frozen (B3.out) 6
    have b7 := bl_cell (B3.out) 7 _ rfl
    have fb7 := bl_frozen (B3.out) 7
    have b8 := bl_cell (B3.out) 8 _ rfl
    have fb8 := bl_frozen (B3.out) 8
    go_wp2_with fail
    refine bodyPost_ret (v := .tuple #[rxv kk mn mx mm tt (.slice ad ll cc), .int .i64 (er : Int)]) (rx_ret2 rfl _ _ _ _ _ rfl rfl (bl_set9 B3.out _ _ _ _ _ _ _ _ _) rfl) rfl ?_
    rw [E.out]
    exact ⟨_, rfl, Ret.fin I3.out R3.out K3.out (ks_set9 _ _ _ _ _ _ _ _ _) hP (by omega)⟩
end Go.Proofs.YtikmgckefbjbkaaGreatDoor
