/-
  The checker's row, repetition, group.
-/
import Derived.Test.YtikmgckefbjbkaaGreatDoorRight1
namespace Go.Proofs.YtikmgckefbjbkaaGreatDoor
open Go.RowKit

theorem chkCat_cons (ere : Bool) (r : Rx) (rs : List Rx) (f : Bool) (c : Ck) : chkCat ere (r :: rs) f c = if r.k = 2 ∨ r.k = 3 then none else (chk ere r f rs.isEmpty c).bind fun c' => chkCat ere rs false c' := by
  rw [chkCat]
  split
  · rfl
  · cases chk ere r f rs.isEmpty c <;> rfl
theorem Is.kind' {w : World} {ok : Nat → Prop} {r : Rx} {k mn mx n : Int} {s : W4} {ks : Value} (h : Is w ok r (rxv k mn mx n s ks)) : r.k = k := by
  cases r with
  | mk k' mn' mx' n' s' kids =>
    unfold Is at h
    obtain ⟨ad, l, c, he, _⟩ := h
    injection he with he
    injection he with he
    simp at he
    exact he.1.symm
theorem Ks.kpt' {P : Nat} {a b c : World} (h : Ks P a b) (k : Kp b c) (hP : P < b.heap.size) : Ks P a c := h.kp k (Nat.le_of_lt hP)
/-- In the loop of a row. -/
structure Kw (ere : Bool) (C : Nat) (d0 : Nat) (w : World) (ts : List Rx) (o : Option Ck) (k : Nat) (wr : World) (c : Ck) : Prop where
  cb : Cb wr C ere c.n c.g c.d
  n : c.n ≤ 40
  g : c.g ≤ c.n
  d : c.d = d0
  eq : chkCat ere (ts.drop k) (k == 0) c = o
  ks : Ks C w wr
theorem Ckd.form {C : Nat} {ere : Bool} {d0 : Nat} {o : Option Ck} {w w' : World} {e : Ending} (h : Ckd C ere d0 o w e w') : (∃ c, o = some c ∧ e = .returned (.bool true) ∧ Cb w' C ere c.n c.g c.d ∧ Ks C w w') ∨ (o = none ∧ e = .returned (.bool false) ∧ (∃ n g d, Cb w' C ere n g d ∧ n ≤ 41 ∧ g ≤ 41 ∧ d ≤ 7 ∧ d0 ≤ d) ∧ Ks C w w') := by
  obtain ⟨b, he, hb, ⟨n, g, d, hc, h1, h2, h3, h3', h4⟩, hk⟩ := h.ex
  cases o with
  | none =>
    refine Or.inr ⟨rfl, ?_, ⟨n, g, d, hc, h1, h2, h3, h3'⟩, hk⟩
    rw [he, hb]; rfl
  | some c =>
    obtain ⟨e1, e2, e3⟩ := h4 c rfl
    subst e1; subst e2; subst e3
    refine Or.inl ⟨c, rfl, ?_, hc, hk⟩
    rw [he, hb]; rfl

set_option maxHeartbeats 2000000 in
set_option maxRecDepth 100000 in
theorem cat_any (ere : Bool) (ts : List Rx) (H : ∀ r, r ∈ ts → RightSaid ere r) (C : Nat) (ok : Nat → Prop) (ad : Option Addr) (l c : Nat) (n g d : Nat) (w : World) (hr : RowAt w ok ts ad l c) (hok : ∀ x, ok x → x ≠ C) (hc : Cb w C ere n g d) (hn : n ≤ 40) (hg : g ≤ n) (hd : d ≤ 6) (hl : ts.length ≤ 1000000) :
    Calls Tryz.prog 45 #[.pointer (some ⟨C, 0, none⟩), .slice ad l c] w fun e w' => Ckd C ere d (chkCat ere ts true ⟨n, g, d⟩) w e w' := by
  have hle := hr.ln
  have hlc := hr.cp
  subst hle
  obtain ⟨L, hL⟩ : ∃ L, ts.length = L := ⟨_, rfl⟩
  rw [hL] at hr hlc hl ⊢
  have HL := hid hL
  have RR := hid hr
  have HC := hid hc
  have HH := hid H
  have HOK := hid hok
  clear hL hr hc H hok
  obtain ⟨o, ho⟩ : ∃ o, chkCat ere ts true ⟨n, g, d⟩ = o := ⟨_, rfl⟩
  rw [ho]
  have HO := hid ho
  clear ho
  go_enter Tryz.func45, Tryz.ntmps45
  go_wp2_with fail
  go_loopg [9] L (fun gg v wr => ∃ (k : Nat) (c : Ck), k + gg = L ∧ v = .int .i64 (k : Int) ∧ Kw ere C d w ts o k wr c)
  case atStart => exact ⟨0, ⟨n, g, d⟩, by omega, rfl, HC.out, hn, hg, rfl, HO.out, Ks.refl _ _⟩
  case round =>
    obtain ⟨k, ⟨n1, g1, d1⟩, hk, rfl, hw⟩ := hrel
    have KW := hid hw
    have hn1 : n1 ≤ 40 := hw.n
    have hg1 : g1 ≤ n1 := hw.g
    have hd1 : d1 = d := hw.d
    subst hd1
    clear hw
    by_cases hlt : k < L
    · have gkw : IntKind.i64.wrap ((k : Int) + 1) = (k : Int) + 1 := by rw [IntKind.wrap_i64]; omega
      have ga : (k : Int) < (L : Int) := by omega
      have g0 : (0 : Int) ≤ (k : Int) := by omega
      have gl : IntKind.i64.wrap ((L : Int) - 1) = (L : Int) - 1 := by rw [IntKind.wrap_i64]; omega
      obtain ⟨r, hr⟩ : ∃ r, ts[k]? = some r := ⟨_, List.getElem?_eq_getElem (by rw [HL.out]; exact hlt)⟩
      have hdrop : ts.drop k = r :: ts.drop (k + 1) := List.drop_eq_getElem_cons (by rw [HL.out]; exact hlt) ▸ by
        have := (List.getElem?_eq_some_iff.1 hr).2
        rw [this]
      have RW := hid (RR.out.ks KW.out.ks HOK.out)
      obtain ⟨bb, oo, kk, mn, mx, mm, tt, ad', ll, cc, e1, hbb, i1, ce1⟩ := RW.out.at k r hr
      subst e1
      have RS := hid (HH.out r (List.mem_of_getElem? hr))
      have I1 := hid i1
      have hkk : r.k = kk := i1.kind'
      have HKK := hid hkk
      have CE1 := hid ce1
      have HD := hid hdrop
      have lastB : (ts.drop (k + 1)).isEmpty = ((k : Int) == (L : Int) - 1) := by
        rw [Bool.eq_iff_iff]
        simp
        rw [HL.out]
        omega
      have HLB := hid lastB
      have E0 : Hid (o = if kk = 2 ∨ kk = 3 then none else (chk ere r ((k : Int) == 0) ((k : Int) == (L : Int) - 1) ⟨n1, g1, d1⟩).bind fun c' => chkCat ere (ts.drop (k + 1)) false c') := by
        show _ = _
        rw [← KW.out.eq, hdrop, chkCat_cons, hkk, lastB]
        rw [show (k == 0) = ((k : Int) == 0) by rw [Bool.eq_iff_iff]; simp]
      obtain ⟨zb, hzb⟩ : ∃ zb, ((k : Int) == 0) = zb := ⟨_, rfl⟩
      obtain ⟨zl, hzl⟩ : ∃ zl, ((k : Int) == (L : Int) - 1) = zl := ⟨_, rfl⟩
      rw [hzb, hzl] at E0
      clear hr i1 ce1 hkk hdrop lastB
      obtain ⟨x0, x1, x2, x3, x4, x5, x6, x7, x8⟩ := cells_of_is CE1.out
      go_upto_region 4 with fail
      clear x0 x1 x2 x3 x4 x5 x6 x7 x8
      refine opq (fun W => W.heap[wr.heap.size]? = some (rxo kk mn mx mm tt (.slice ad' ll cc)) ∧ Kp wr W) ⟨by exact last_at _ _ _ (by simp), by exact (Kp.refl _).alloc _⟩ ?_
      rintro W1 ⟨y1, y2⟩
      have A1 := hid y1
      have K1 := hid y2
      clear y1 y2
      have a0 := bl_cell (A1.out) 0 _ rfl
      have a1 := bl_cell (A1.out) 1 _ rfl
      have a2 := bl_cell (A1.out) 2 _ rfl
      have a3 := bl_cell (A1.out) 3 _ rfl
      have a4 := bl_cell (A1.out) 4 _ rfl
      have a5 := bl_cell (A1.out) 5 _ rfl
      have a6 := bl_cell (A1.out) 6 _ rfl
      have a7 := bl_cell (A1.out) 7 _ rfl
      have a8 := bl_cell (A1.out) 8 _ rfl
      have hCw := KW.out.cb.lt
      have CB1 := hid (KW.out.cb.kp K1.out)
      have KS1 := hid (KW.out.ks.kpt' K1.out hCw)
      by_cases h2 : kk = 2
      · subst h2
        have E : Hid (o = none) := by show _ = _; rw [E0.out]; rfl
        go_wp2_with fail
        go_ret
        exact Ckd.no E.out CB1.out (by show n1 ≤ 41; omega) (by show g1 ≤ 41; omega) (by show d1 ≤ 7; omega) (Nat.le_refl _) KS1.out
      by_cases h3 : kk = 3
      · subst h3
        have E : Hid (o = none) := by show _ = _; rw [E0.out]; rfl
        go_wp2_with fail
        go_ret
        exact Ckd.no E.out CB1.out (by show n1 ≤ 41; omega) (by show g1 ≤ 41; omega) (by show d1 ≤ 7; omega) (Nat.le_refl _) KS1.out
      have g2 : (kk == 2) = false := by simp [h2]
      have g3 : (kk == 3) = false := by simp [h3]
      have E1 : Hid (o = (chk ere r zb zl ⟨n1, g1, d1⟩).bind fun c' => chkCat ere (ts.drop (k + 1)) false c') := by show _ = _; rw [E0.out, if_neg (by omega)]
      go_wp2_with fail
      clear a0 a1 a2 a3 a4 a5 a6 a7 a8
      refine (RS.out.all C ok _ zb zl n1 g1 d1 _ (I1.out.kp K1.out) HOK.out CB1.out hn1 hg1 hd).mono ?_
      intro e W2 hcd
      rcases hcd.form with ⟨c2, ho2, rfl, hcb2, hks2⟩ | ⟨ho2, rfl, ⟨n2, g2', d2, hcb2, b1, b2, b3, b4⟩, hks2⟩
      · have hck := chk_ok ere r zb zl ⟨n1, g1, d1⟩ c2 hn1 hg1 ho2
        have CB2 := hid hcb2
        have KS2 := hid (KS1.out.trans hks2)
        have E2 : Hid (chkCat ere (ts.drop (k + 1)) (k + 1 == 0) c2 = o) := by show _ = _; rw [E1.out, ho2]; rfl
        have b1 : c2.n ≤ 40 := hck.1.n
        have b2 : c2.g ≤ c2.n := hck.1.g
        have b3 : c2.d = d1 := hck.1.d
        have B3 := hid b3
        clear b3
        clear hcd hcb2 hks2 ho2 hck
        go_wp2_with fail
        go_roundg (gk - 1)
        case measure => omega
        case rel => exact ⟨k + 1, c2, by omega, by go_num, CB2.out, b1, b2, B3.out, E2.out, KS2.out⟩
      · have CB2 := hid hcb2
        have KS2 := hid (KS1.out.trans hks2)
        have E : Hid (o = none) := by show _ = _; rw [E1.out, ho2]; rfl
        clear hcd hcb2 hks2 ho2
        go_wp2_with fail
        go_ret
        exact Ckd.no E.out CB2.out b1 b2 b3 b4 KS2.out
    · have ga : ¬ (k : Int) < (L : Int) := by omega
      have E : Hid (o = some ⟨n1, g1, d1⟩) := by
        have := KW.out.eq
        rw [List.drop_eq_nil_of_le (by rw [HL.out]; omega)] at this
        unfold chkCat at this
        exact this.symm
      go_wp2
      go_ret
      exact Ckd.yes E.out KW.out.cb (by omega) (by omega) (by omega) (Nat.le_refl _) KW.out.ks
end Go.Proofs.YtikmgckefbjbkaaGreatDoor
