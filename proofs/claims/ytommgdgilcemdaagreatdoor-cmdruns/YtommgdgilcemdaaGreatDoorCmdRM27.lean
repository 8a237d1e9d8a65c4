/-
  Texts of this claim: Cm3, Cm6, Cm7.
-/
import Derived.Test.YtommgdgilcemdaaGreatDoorCmdRM26
import Derived.Test.YtommgdgilcemdaaGreatDoorCmdRM2
import Derived.Lib.AppendIntMem
import Derived.Lib.IndexAny

/-! ### Cm3 -/

namespace Go.Proofs.YtommgdgilcemdaaGreatDoor
open Go.RowKit

theorem tplL_not : ∀ (P : List Pc) (t : Bool) (G : Int) (j : Nat) (p : Pc), P[j]? = some p → pcR p G = false → tplL t P G = false
 | [], _, _, _, _, h, _ => by simp at h
 | x :: P, t, G, 0, p, h, hp => by
  simp at h; subst h
  simp [tplL, hp]
 | x :: P, t, G, j + 1, p, h, hp => by
  simp at h
  simp [tplL, tplL_not P _ G j p h hp]
theorem tplL_two : ∀ (P : List Pc) (t : Bool) (G : Int) (j : Nat) (p q : Pc), P[j]? = some p → P[j + 1]? = some q → p.g = -1 → q.g = -1 → tplL t P G = false
 | [], _, _, _, _, _, h, _, _, _ => by simp at h
 | [x], _, _, j, _, _, _, h, _, _ => by simp at h
 | x :: y :: P, t, G, 0, p, q, h, h', hp, hq => by
  simp at h h'; subst h; subst h'
  simp [tplL, hp, hq]
 | x :: y :: P, t, G, j + 1, p, q, h, h', hp, hq => by
  have := tplL_two (y :: P) (decide (x.g = -1)) G j p q (by simpa using h) (by simpa using h') hp hq
  rw [tplL, this]; simp
theorem tplL_all : ∀ (P : List Pc) (t : Bool) (G : Int), (∀ (j : Nat) (p : Pc), P[j]? = some p → pcR p G = true) → (∀ (j : Nat) (p q : Pc), P[j]? = some p → P[j + 1]? = some q → p.g = -1 → q.g = -1 → False) → (t = true → ∀ p : Pc, P[0]? = some p → p.g ≠ -1) → tplL t P G = true
 | [], _, _, _, _, _ => rfl
 | x :: P, t, G, h1, h2, h3 => by
  have e1 : pcR x G = true := h1 0 x rfl
  have e2 : (t && decide (x.g = -1)) = false := by
   cases t with
   | false => rfl
   | true => simp [h3 rfl x rfl]
  have e3 := tplL_all P (decide (x.g = -1)) G (fun j p h => h1 (j + 1) p (by simpa using h)) (fun j p q h h' => h2 (j + 1) p q (by simpa using h) (by simpa using h')) (fun ht p hp hg => h2 0 x p rfl (by simpa using hp) (by simpa using ht) hg)
  rw [tplL, e1, e2, e3]; rfl
/-- A piece of a row that lies in memory. -/
theorem PcAt.get {w : World} {P : List Pc} {ad : Option Addr} {l c : Nat} (h : PcAt w P ad l c) (j : Nat) (p : Pc) (hj : P[j]? = some p) : ∃ b o, ad = some ⟨b, o, none⟩ ∧ b < w.heap.size ∧ w.cell? ⟨b, o + j * 2, none⟩ = some (.int .i64 p.g) ∧ w.cell? ⟨b, o + j * 2 + 1, none⟩ = some (.string p.s) := by
 obtain ⟨b, o, h1, h2, h3⟩ := h.at' (by intro hn; rw [hn] at hj; simp at hj)
 exact ⟨b, o, h1, h2, h3 j p hj⟩

set_option maxHeartbeats 2000000 in
set_option maxRecDepth 100000 in
theorem tplRight_any (P : List Pc) (G : Int) (ad : Option Addr) (l c : Nat) (w : World) (hP : PcAt w P ad l c) (hl : P.length ≤ 1000000) : Calls Tryz.prog 92 #[.slice ad l c, .int .i64 G] w fun e w' => e = .returned (.bool (tplR P G)) ∧ Kp w w' := by
 obtain ⟨B, hB⟩ : ∃ B, tplR P G = B := ⟨_, rfl⟩
 rw [hB]
 have HB : Hid (tplL false P G = B) := hB
 clear hB
 obtain ⟨L, hL⟩ : ∃ L, P.length = L := ⟨_, rfl⟩
 have hll := hP.ln
 have hcp := hP.cp
 rw [hL] at hll hl
 subst hll
 have HP := hid hP
 have HL := hid hL
 clear hP hL
 go_enter Tryz.func92, Tryz.ntmps92
 go_wp2_with fail
 go_loopg [9] l (fun gg v wr => ∃ q : Nat, q + gg = l ∧ v = .int .i64 (q : Int) ∧ (∀ j p, j < q → P[j]? = some p → pcR p G = true) ∧ (∀ j p p', j + 1 < q → P[j]? = some p → P[j + 1]? = some p' → p.g = -1 → p'.g = -1 → False) ∧ Kp w wr)
 case atStart => exact ⟨0, by omega, rfl, fun j p hj => absurd hj (by omega), fun j p p' hj => absurd hj (by omega), Kp.refl _⟩
 case round =>
  obtain ⟨q, hq, rfl, h1, h2, hK⟩ := hrel
  have H1 := hid h1
  have H2 := hid h2
  have K := hid hK
  clear h1 h2 hK
  by_cases hlt : q < l
  ·
   have gkw : IntKind.i64.wrap ((q : Int) + 1) = (q : Int) + 1 := by rw [IntKind.wrap_i64]; omega
   have ga : (q : Int) < (l : Int) := by omega
   have g0 : (0 : Int) ≤ (q : Int) := by omega
   obtain ⟨p, hp⟩ : ∃ p, P[q]? = some p := ⟨_, List.getElem?_eq_getElem (by rw [HL.out]; exact hlt)⟩
   obtain ⟨bb, oo, e1, hbb, c1, c2⟩ := (HP.out.kp K.out).get q p hp
   subst e1
   have PR : Hid (∀ w, Calls Tryz.prog 119 #[.agg #[.int .i64 p.g, .string p.s], .int .i64 G] w fun e w' => e = .returned (.bool (pcR p G)) ∧ Kp w w') := fun w => pieceRight_any p G w
   obtain ⟨g, s⟩ := p
   obtain ⟨R, hR⟩ : ∃ R, pcR ⟨g, s⟩ G = R := ⟨_, rfl⟩
   rw [hR] at PR
   have HR := hid hR
   have HPQ := hid hp
   clear hR hp
   go_upto_region 4 with fail
   clear c1 c2
   refine opq (fun W => W.heap[wr.heap.size]? = some (.cells #[.int .i64 g, .string s] 34) ∧ Kp wr W) ⟨by first | exact last_at _ _ _ (by simp) | exact bl_put (bl_put (last_at _ _ _ (by simp)) _) _, by repeat (first | exact Kp.refl _ | refine Kp.alloc ?_ _ | refine Kp.setCell ?_ ?_ _ | (simp; omega))⟩ ?_
   rintro W1 ⟨y1, y2⟩
   have A1 := hid y1
   have K1 := hid y2
   clear y1 y2
   have a0 := bl_cell A1.out 0 _ rfl
   have a1 := bl_cell A1.out 1 _ rfl
   go_wp2_with fail
   clear a0 a1
   refine (PR.out _).mono ?_
   rintro e W2 ⟨rfl, k2⟩
   have A2 := hid (bl_kp A1.out k2)
   have K2 := hid (K.out.trans (K1.out.trans k2))
   clear k2
   cases R
   ·
    have E : Hid (B = false) := by show _ = _; rw [← HB.out]; exact tplL_not P false G q _ HPQ.out HR.out
    go_wp2_with fail
    go_ret
    exact ⟨by rw [E.out]; rfl, K2.out⟩
   have a0 := bl_cell A2.out 0 _ rfl
   have ST : ∀ j p, j < q + 1 → P[j]? = some p → pcR p G = true := fun j p' hj hp => by
    by_cases hjq : j = q
    ·
     subst hjq
     rw [HPQ.out] at hp
     injection hp with hp
     subst hp
     exact HR.out
    ·
     exact H1.out j p' (by omega) hp
   have HST := hid ST
   clear ST
   by_cases hq0 : q = 0
   ·
    subst hq0
    have gq : ¬ ((0 : Nat) : Int) > 0 := by omega
    go_wp2_with fail
    clear a0
    go_roundg (gk - 1)
    case measure => omega
    case rel => exact ⟨1, by omega, by go_num, HST.out, fun j p p' hj => absurd hj (by omega), K2.out⟩
   ·
    have gq : (q : Int) > 0 := by omega
    by_cases hg : g = -1
    ·
     subst hg
     obtain ⟨r, rfl⟩ : ∃ r, q = r + 1 := ⟨q - 1, by omega⟩
     obtain ⟨p0, hp0⟩ : ∃ p, P[r]? = some p := ⟨_, List.getElem?_eq_getElem (by rw [HL.out]; omega)⟩
     obtain ⟨b0, o0, e2, hb0, d1, d2⟩ := (HP.out.kp K2.out).get r p0 hp0
     injection e2 with e2
     injection e2 with e2 e3 e4
     subst e2
     subst e3
     have gw : IntKind.i64.wrap (((r + 1 : Nat) : Int) - 1) = (r : Int) := by rw [IntKind.wrap_i64]; omega
     have gr0 : (0 : Int) ≤ (r : Int) := by omega
     have grl : (r : Int) < (l : Int) := by omega
     obtain ⟨g', s'⟩ := p0
     have HP0 := hid hp0
     clear hp0 d2
     by_cases hg' : g' = -1
     ·
      subst hg'
      have E : Hid (B = false) := by show _ = _; rw [← HB.out]; exact tplL_two P false G r _ _ HP0.out HPQ.out rfl rfl
      go_wp2_with fail
      go_ret
      exact ⟨by rw [E.out]; rfl, K2.out⟩
     ·
      have gn : (g' == -1) = false := by simp [hg']
      have HG := hid hg'
      clear hg'
      go_wp2_with fail
      clear a0 d1
      go_roundg (gk - 1)
      case measure => omega
      case rel => exact ⟨r + 1 + 1, by omega, by go_num, HST.out, fun j p p' hj hp hp' hpg hpg' => by
        by_cases hjr : j = r
        ·
         subst hjr
         rw [HP0.out] at hp
         injection hp with hp
         subst hp
         exact HG.out hpg
        ·
         exact H2.out j p p' (by omega) hp hp' hpg hpg', K2.out⟩
    ·
     have gn : (g == -1) = false := by simp [hg]
     have HG := hid hg
     clear hg
     go_wp2_with fail
     clear a0
     go_roundg (gk - 1)
     case measure => omega
     case rel => exact ⟨q + 1, by omega, by go_num, HST.out, fun j p p' hj hp hp' hpg hpg' => by
       by_cases hjr : j + 1 = q
       ·
        subst hjr
        rw [HPQ.out] at hp'
        injection hp' with hp'
        subst hp'
        exact HG.out hpg'
       ·
        exact H2.out j p p' (by omega) hp hp' hpg hpg', K2.out⟩
  ·
   have ga : ¬ (q : Int) < (l : Int) := by omega
   have hql : q = l := by omega
   subst hql
   have E : Hid (B = true) := by
    show _ = _
    rw [← HB.out]
    refine tplL_all P false G (fun j p h => H1.out j p ?_ h) (fun j p p' h h' => H2.out j p p' ?_ h h') (fun h => absurd h (by simp))
    ·
     have := (List.getElem?_eq_some_iff.1 h).1; rw [HL.out] at this; exact this
    ·
     have := (List.getElem?_eq_some_iff.1 h').1; rw [HL.out] at this; exact this
   go_wp2_with fail
   go_ret
   exact ⟨by rw [E.out]; rfl, K.out⟩

end Go.Proofs.YtommgdgilcemdaaGreatDoor

/-! ### Cm6 -/

namespace Go.Proofs.YtommgdgilcemdaaGreatDoor
open Go.RowKit

theorem Tryz.laysM171 : Go.Proofs.LaysM.n171 Tryz.prog Tryz.lays171_ren := { Tryz.lays171 with
 i0 := by kernel_rfl
 i2 := by kernel_rfl
 i3 := by kernel_rfl
 i4 := by kernel_rfl
 i5 := by kernel_rfl
 i9 := by kernel_rfl
 i20 := by kernel_rfl
 i37 := by kernel_rfl
 i46 := by kernel_rfl
 i51 := by kernel_rfl
 i53 := by kernel_rfl
 i171 := by kernel_rfl
 i173 := by kernel_rfl
 i212 := by kernel_rfl
 i232 := by kernel_rfl
 i233 := by kernel_rfl
 m17 := by kernel_rfl
 m18 := by kernel_rfl
 m19 := by kernel_rfl }
/-- The table of the powers of ten. -/
def Tb (w : World) : Prop := Lib.TabIs Tryz.prog w "internal/strconv.uint64pow10" .u64 Lib.pow10Tab
theorem Tb.kp {w w' : World} (h : Tb w) (k : Kp w w') : Tb w' := Lib.tabBelow_of_tabIs h w' k
theorem kp_grow (w : World) (n : Nat) (os : Array Obj) : Kp w (Sort.grow (w.drewN n) os) :=
 ⟨rfl, rfl, rfl, by simp [Sort.grow, World.drewN], fun k hk => by simp [Sort.grow, World.drewN, Array.getElem?_append, hk]⟩
theorem itoa_all (n : Nat) (h : n ≤ 1000000000) (w : World) (hT : Tb w) : Calls Tryz.prog 51 #[.int .i64 (n : Int)] w fun e w' => e = .returned (.string (bs (dec n))) ∧ Kp w w' := by
 refine (Any.strconv_Itoa Tryz.laysM171 (n : Int) (by omega) (by omega) w hT).mono ?_
 rintro e w' ⟨rfl, k, os, rfl⟩
 refine ⟨?_, kp_grow w k os⟩
 have : Lib.itoa (n : Int) = Lib.decDigits n := by unfold Lib.itoa; rw [if_neg (by omega), Int.toNat_natCast]
 rw [this]
 rfl
theorem dec_more (n k : Nat) (h : n / 10 < 10 ^ k) (ih : ∀ m, m < 10 ^ k → (Lib.decDigits m).length ≤ k) (_ : 1 ≤ k) : (Lib.decDigits n).length ≤ k + 1 := by
 rw [Lib.decDigits]
 split
 ·
  simp
 ·
  have := ih _ h
  simp
  exact this
theorem dec_len4 (n : Nat) (h : n < 10000) : (dec n).length ≤ 4 :=
 dec_more n 3 (by omega) (fun m hm => dec_more m 2 (by omega) (fun k hk => dec_len k hk) (by omega)) (by omega)

theorem flatMap_len (f : UInt8 → List UInt8) (h : ∀ x, (f x).length ≤ 2) : ∀ s : List UInt8, (s.flatMap f).length ≤ 2 * s.length
 | [] => by simp
 | x :: s => by
  have h1 := h x
  have h2 := flatMap_len f h s
  rw [List.flatMap_cons, List.length_append, List.length_cons]
  omega
theorem quotT_len (s : List UInt8) : (quotT s).length ≤ 2 * s.length := flatMap_len _ (fun x => by split; simp; split <;> simp) s
theorem linesT_len (s : List UInt8) : (linesT s).length ≤ 2 * s.length := flatMap_len _ (fun x => by split <;> simp) s
theorem tableT_len (s : List UInt8) : (tableT s).length ≤ 2 * s.length := flatMap_len _ (fun x => by split; simp; split <;> simp) s

set_option maxHeartbeats 2000000 in
set_option maxRecDepth 100000 in
theorem nameText_any (s : ByteArray) (w : World) (hs : s.size ≤ 1000000) : Calls Tryz.prog 61 #[.string s] w fun e w' => e = .returned (.string (bs (nameT s.data.toList))) ∧ w' = w := by
 by_cases h : s.size = 0
 ·
  obtain rfl := size0 s h
  go_enter Tryz.func61, Tryz.ntmps61
  go_wp2
  go_ret
  exact ⟨rfl, rfl⟩
 ·
  have ne := ne0 s h
  have E : Hid (bs (nameT s.data.toList) = bs [32] ++ s) := by
   show _ = _
   unfold nameT
   rw [if_neg (fun he => h (by have := congrArg List.length he; simpa using this)), ← bs_app]
   rfl
  rw [E.out]
  clear E
  go_enter Tryz.func61, Tryz.ntmps61
  go_wp2
  go_ret
  exact ⟨rfl, rfl⟩

set_option maxHeartbeats 2000000 in
set_option maxRecDepth 100000 in
theorem written_any (p : Pc) (w : World) (hs : p.s.size ≤ 1000000) (hg : p.g ≤ 3) : Calls Tryz.prog 91 #[.agg #[.int .i64 p.g, .string p.s]] w fun e w' => e = .returned (.string (bs (pcT p))) ∧ Kp w w' := by
 obtain ⟨g, s⟩ := p
 obtain ⟨S, hS⟩ : ∃ S, pcT ⟨g, s⟩ = S := ⟨_, rfl⟩
 rw [hS]
 have HS : Hid (pcT ⟨g, s⟩ = S) := hS
 have hs' : s.size ≤ 1000000 := hs
 have hg' : g ≤ 3 := hg
 clear hS hs hg
 show Calls Tryz.prog 91 #[.agg #[.int .i64 g, .string s]] w fun e w' => e = .returned (.string (bs S)) ∧ Kp w w'
 go_enter Tryz.func91, Tryz.ntmps91
 by_cases h1 : g = -1
 ·
  subst h1
  have E : Hid (S = quotT s.data.toList) := by show _ = _; rw [← HS.out]; rfl
  go_wp2_with fail
  refine (quoted2_any s _ hs').mono ?_
  rintro e w1 ⟨rfl, k1⟩
  have K1 : Hid (Kp w w1) := ((Kp.refl _).alloc _).trans k1
  clear k1
  go_wp2_with fail
  go_ret
  exact ⟨by rw [E.out]; rfl, K1.out⟩
 have n1 : (g == -1) = false := by simp [h1]
 by_cases h2 : g = 0
 ·
  subst h2
  have E : Hid (S = [38]) := by show _ = _; rw [← HS.out]; rfl
  go_wp2_with fail
  go_ret
  exact ⟨by rw [E.out]; rfl, (Kp.refl _).alloc _⟩
 have n2 : (g == 0) = false := by simp [h2]
 by_cases h3 : 0 < g
 ·
  obtain ⟨m, rfl⟩ : ∃ m : Nat, g = m := ⟨g.toNat, by omega⟩
  have h9 : (m : Int) ≤ 9 := by omega
  have E : Hid (bs S = bs [92] ++ bs (dec m)) := by
   show _ = _
   rw [← HS.out, bs_app]
   unfold pcT
   rw [if_neg h1, if_neg h2, if_pos ⟨h3, h9⟩]
   rfl
  rw [E.out]
  obtain ⟨X, hX⟩ : ∃ X, bs (dec m) = X := ⟨_, rfl⟩
  have hz : X.size ≤ 2 := by rw [← hX, bs_size]; exact dec_len m (by omega)
  have IT : Hid (∀ w, Calls Tryz.prog 51 #[.int .i64 (m : Int)] w fun e w' => e = .returned (.string X) ∧ w' = w) := fun w => by rw [← hX]; exact itoa_any m (by omega) w
  rw [hX]
  clear hX E
  go_wp2_with fail
  refine (IT.out _).mono ?_
  rintro e w1 ⟨rfl, rfl⟩
  go_wp2_with fail
  go_ret
  exact ⟨rfl, (Kp.refl _).alloc _⟩
 ·
  have E : Hid (S = []) := by
   show _ = _
   rw [← HS.out]
   unfold pcT
   rw [if_neg h1, if_neg h2, if_neg (fun h => h3 h.1)]
  go_wp2_with fail
  go_ret
  exact ⟨by rw [E.out]; rfl, (Kp.refl _).alloc _⟩

theorem pcT_len (p : Pc) (h : p.g ≤ 3) : (pcT p).length ≤ 2 * p.s.size + 3 := by
 unfold pcT
 split
 ·
  have := quotT_len p.s.data.toList
  have e : p.s.data.toList.length = p.s.size := Array.length_toList
  omega
 ·
  split
  ·
   simp
  ·
   split
   ·
    rename_i h3
    have := dec_len p.g.toNat (by omega)
    simp; omega
   ·
    simp
theorem tplT_step (P : List Pc) (q : Nat) (p : Pc) (h : P[q]? = some p) : Lib.byteCells (tplT (P.take (q + 1))) = Lib.byteCells (tplT (P.take q)) ++ Lib.strCells (bs (pcT p)) := by
 rw [List.take_add_one, h]
 simp [tplT, Lib.byteCells, Lib.strCells, bs]
/-- What is asked of pieces that are printed. -/
structure PcFit (P : List Pc) : Prop where
 few : P.length ≤ 10000
 all : ∀ p ∈ P, p.g ≤ 3 ∧ p.s.size ≤ 10000

set_option maxHeartbeats 2000000 in
set_option maxRecDepth 100000 in
theorem tplPrint_any (P : List Pc) (ad : Option Addr) (l c : Nat) (w : World) (hP : PcAt w P ad l c) (hF : PcFit P) : Calls Tryz.prog 62 #[.slice ad l c] w fun e w' => e = .returned (.string (bs (tplT P))) ∧ Kp w w' := by
 obtain ⟨S, hS⟩ : ∃ S, tplT P = S := ⟨_, rfl⟩
 rw [hS]
 have HS := hid hS
 obtain ⟨L, hL⟩ : ∃ L, P.length = L := ⟨_, rfl⟩
 have hll := hP.ln
 have hcp := hP.cp
 have hfew := hF.few
 rw [hL] at hll hfew
 subst hll
 have HP := hid hP
 have HL := hid hL
 have HF := hid hF
 clear hP hL hS hF
 go_enter Tryz.func62, Tryz.ntmps62
 go_upto_region 2 with fail
 refine opq (fun W => Bd (w.heap.size + 1) w.heap.size [] W ∧ Kp w W ∧ w.heap.size + 1 ≤ W.heap.size) ⟨Bd.new _ w.heap.size _ (last_of _ _) rfl _, (Kp.refl _).alloc _, by simp⟩ ?_
 rintro W0 ⟨y1, y2, y3⟩
 have BD := hid y1
 have K0 := hid y2
 have HZ := hid y3
 clear y1 y2 y3
 go_wp2_with fail
 go_loopg [8] l (fun gg v wr => ∃ (q : Nat) (Lv : List Value), q + gg = l ∧ v = .int .i64 (q : Int) ∧ Lv = Lib.byteCells (tplT (P.take q)) ∧ Lv.length ≤ 30000 * q ∧ Bd (w.heap.size + 1) w.heap.size Lv wr ∧ Kb (w.heap.size + 1) w.heap.size W0 wr)
 case atStart => exact ⟨0, [], by omega, rfl, by simp [tplT, Lib.byteCells], by simp, BD.out, Kb.refl _ _ _⟩
 case round =>
  obtain ⟨q, Lv, hq, rfl, hLv, hl, hB, hK⟩ := hrel
  have HLv := hid hLv
  have B := hid hB
  have K := hid hK
  have hzr : w.heap.size + 1 ≤ wr.heap.size := by have := K.out.size; have := HZ.out; omega
  clear hLv hB hK BD
  by_cases hlt : q < l
  ·
   have gkw : IntKind.i64.wrap ((q : Int) + 1) = (q : Int) + 1 := by rw [IntKind.wrap_i64]; omega
   have ga : (q : Int) < (l : Int) := by omega
   have g0 : (0 : Int) ≤ (q : Int) := by omega
   obtain ⟨p, hp⟩ : ∃ p, P[q]? = some p := ⟨_, List.getElem?_eq_getElem (by rw [HL.out]; exact hlt)⟩
   obtain ⟨bb, oo, e1, hbb, c1', c2'⟩ := HP.out.get q p hp
   subst e1
   have KW : Hid (Kp w wr) := Below.trans K0.out (K.out.below w.heap.size (by omega) (by omega))
   have c1 := (KW.out.cell (p := ⟨bb, oo + q * 2, none⟩) hbb).trans c1'
   have c2 := (KW.out.cell (p := ⟨bb, oo + q * 2 + 1, none⟩) hbb).trans c2'
   clear c1' c2'
   have hpf := HF.out.all p (List.mem_of_getElem? hp)
   have hpl := pcT_len p hpf.1
   have ST := hid (tplT_step P q p hp)
   obtain ⟨X, hX⟩ : ∃ X, bs (pcT p) = X := ⟨_, rfl⟩
   have WR : Hid (∀ w, Calls Tryz.prog 91 #[.agg #[.int .i64 p.g, .string p.s]] w fun e w' => e = .returned (.string X) ∧ Kp w w') := fun w => by rw [← hX]; exact written_any p w (by omega) hpf.1
   have hxs : X.size ≤ 20003 := by rw [← hX, bs_size]; omega
   rw [hX] at ST
   clear hX hp hpl
   obtain ⟨g, s⟩ := p
   have hzr' := hid hzr
   clear hzr
   go_upto_region 5 with fail
   clear c1 c2
   refine opq (fun W => W.heap[wr.heap.size]? = some (.cells #[.int .i64 g, .string s] 34) ∧ Kp wr W) ⟨by first | exact last_at _ _ _ (by simp) | exact bl_put (bl_put (last_at _ _ _ (by simp)) _) _, by repeat (first | exact Kp.refl _ | refine Kp.alloc ?_ _ | refine Kp.setCell ?_ ?_ _ | (simp; omega))⟩ ?_
   rintro W1 ⟨y1, y2⟩
   have A1 := hid y1
   have K1 := hid y2
   clear y1 y2
   have a0 := bl_cell A1.out 0 _ rfl
   have a1 := bl_cell A1.out 1 _ rfl
   go_wp2_with fail
   clear a0 a1
   refine (WR.out _).mono ?_
   rintro e W2 ⟨rfl, k2⟩
   have K2 := hid (K1.out.trans k2)
   have hz2 : Hid (w.heap.size + 1 ≤ W2.heap.size) := by have := K2.out.size; have := hzr'.out; show _ ≤ _; omega
   clear k2
   go_wp2_with fail
   refine (writeString_any (w.heap.size + 1) w.heap.size Lv X _ (B.out.kp K2.out) (by omega) hz2.out (by omega)).mono ?_
   rintro e W3 ⟨rfl, b1, k1⟩
   have B3 := hid b1
   have K3 := hid (K.out.trans ((K2.out.kb hzr'.out).trans k1))
   clear b1 k1
   go_wp2_with fail
   go_roundg (gk - 1)
   case measure => omega
   case rel => exact ⟨q + 1, Lv ++ Lib.strCells X, by omega, by go_num, by rw [ST.out, ← HLv.out], by simp only [List.length_append, Lib.strCells_length]; omega, B3.out, K3.out⟩
  ·
   have ga : ¬ (q : Int) < (l : Int) := by omega
   have hLe : Lv = Lib.byteCells S := by rw [HLv.out, List.take_of_length_le (by rw [HL.out]; omega), HS.out]
   subst hLe
   go_wp2_with fail
   refine (builderString_any (w.heap.size + 1) w.heap.size S _ w.heap.size B.out (by omega) (by omega) (by omega)).mono ?_
   rintro e y ⟨rfl, k1⟩
   have KY : Hid (Kp w y) := Below.trans (Below.trans K0.out (K.out.below w.heap.size (by omega) (by omega))) k1
   clear k1
   go_wp2_with fail
   go_ret
   exact ⟨rfl, KY.out⟩

end Go.Proofs.YtommgdgilcemdaaGreatDoor

/-! ### Cm7 -/

namespace Go.Proofs.YtommgdgilcemdaaGreatDoor
open Go.RowKit

theorem run_upto (s : ByteArray) (i : Nat) (hi : i ≤ s.size) (w : World) : (Instr.slice 9 (.string s) none (some (.int .i64 (i : Int))) none).run Tryz.prog w = .ok (.string (s.extract 0 i)) w := by
 rw [run_slice_string_to_if w 9 s .i64 (i : Int) (by kernel_rfl), if_pos ⟨by omega, by omega⟩, Int.toNat_natCast]
theorem idx_mem (l : List UInt8) (c : UInt8) : (0 ≤ Lib.indexByte l c) ↔ c ∈ l := by
 have h := Lib.contains_iff_indexByte l c
 rw [Bool.eq_iff_iff] at h
 simpa using h.symm
theorem ext_list (s : ByteArray) (i : Nat) : (s.extract 0 i).data.toList = s.data.toList.take i := by
 simp [ByteArray.data_extract]
theorem nodup_take_succ (l : List UInt8) (q : Nat) (x : UInt8) (h : l[q]? = some x) (h1 : (l.take q).Nodup) (h2 : ¬ x ∈ l.take q) : (l.take (q + 1)).Nodup := by
 rw [List.take_add_one, h]
 simp only [Option.toList]
 rw [List.nodup_append]
 exact ⟨h1, by simp, fun a ha b hb => by simp at hb; subst hb; exact fun e => h2 (e ▸ ha)⟩
theorem nodup_not (l : List UInt8) (q : Nat) (x : UInt8) (h : l[q]? = some x) (h2 : x ∈ l.take q) : ¬ l.Nodup := by
 intro hn
 have hs : (l.take (q + 1)).Nodup := hn.sublist (List.take_sublist _ _)
 rw [List.take_add_one, h] at hs
 simp only [Option.toList] at hs
 rw [List.nodup_append] at hs
 exact hs.2.2 x h2 x (by simp) rfl

set_option maxHeartbeats 2000000 in
set_option maxRecDepth 100000 in
theorem tableRight_any (y z : ByteArray) (w : World) (hs : y.size ≤ 1000000) (_ : z.size ≤ 1000000) : Calls Tryz.prog 68 #[.string y, .string z] w fun e w' => e = .returned (.bool (tabR y z)) ∧ Kp w w' := by
 obtain ⟨B, hB⟩ : ∃ B, tabR y z = B := ⟨_, rfl⟩
 rw [hB]
 have HB : Hid (tabR y z = B) := hB
 clear hB
 go_enter Tryz.func68, Tryz.ntmps68
 by_cases h1 : y.size = z.size
 ·
  have g1 : ((y.size : Int) != (z.size : Int)) = false := by simp; omega
  by_cases h2 : 400 < y.size
  ·
   have g2 : (y.size : Int) > 400 := by omega
   have E : Hid (B = false) := by show _ = _; rw [← HB.out]; unfold tabR; rw [decide_eq_false (p := y.size ≤ 400) (by omega), Bool.and_false]; rfl
   go_wp2_with fail
   go_ret
   exact ⟨by rw [E.out]; rfl, Kp.refl _⟩
  have g2 : ¬ (y.size : Int) > 400 := by omega
  have E1 : Hid (B = decide (y.data.toList.Nodup)) := by show _ = _; rw [← HB.out]; unfold tabR; rw [decide_eq_true h1, decide_eq_true (p := y.size ≤ 400) (by omega)]; rfl
  have H1 := hid h1
  clear h1 h2
  go_wp2_with fail
  clear g1 g2
  go_loopg [18] y.size (fun gg v wr => ∃ q : Nat, q + gg = y.size ∧ v = .int .i64 (q : Int) ∧ (y.data.toList.take q).Nodup ∧ Kp w wr)
  case atStart => exact ⟨0, by omega, rfl, by simp, Kp.refl _⟩
  case round =>
   obtain ⟨q, hq, rfl, hn, hK⟩ := hrel
   have HN := hid hn
   have K := hid hK
   clear hn hK
   by_cases hlt : q < y.size
   ·
    have gkw : IntKind.i64.wrap ((q : Int) + 1) = (q : Int) + 1 := by rw [IntKind.wrap_i64]; omega
    have ga : (q : Int) < (y.size : Int) := by omega
    have rc := run_ch y q hlt
    have ru := run_upto y q (by omega)
    obtain ⟨x, hx, hc⟩ := byte_at y q hlt
    obtain ⟨n, hn⟩ : ∃ n : Nat, ch y q = n := ⟨_, rfl⟩
    rw [hn] at rc hc
    obtain ⟨R, hR⟩ : ∃ R, Lib.indexByte (y.extract 0 q).data.toList ((n : Int).toNat.toUInt8) = R := ⟨_, rfl⟩
    have IB : Hid (∀ w, Calls Tryz.prog 94 #[.string (y.extract 0 q), .int .u8 (n : Int)] w fun e w' => e = .returned (.int .i64 R) ∧ w' = w) := fun w => by rw [← hR]; exact indexByte_any _ _ w
    have hM : (0 ≤ R) ↔ x ∈ y.data.toList.take q := by
     rw [← hR, idx_mem, ext_list, Int.toNat_natCast, hc]
     simp
    have HM := hid hM
    have HX := hid hx
    clear hR hM hx hn hc
    go_upto_region 6 with fail
    have Q0 : Kp wr wr.drew := (Kp.refl _).drew
    have MK : Hid (∀ W, Kp wr W → Hid (Kp wr W)) := fun W k => k
    refine wp_region_noPanic ?_
    refine wp_region_held_drew (S := (fun W => Hid (Kp wr W))) (by kernel_rfl) ?_ (fun hH => ?_)
    ·
     exact MK.out _ Q0
    have KQ := Q0
    refine wpAnyH_take (i := 0) (oi := { dst := some 21, op := Op.move (Operand.tmp 0), type := 9, pos := "right.go:111", after := #[], guard := none }) (v := ?v0t1) rfl (by kernel_rfl) (by kernel_rfl) (by kernel_rfl) (fun _ _ _ h => h) (Or.inl ⟨by rfl, ?hy0t1⟩) hH ?r0t1
    case hy0t1 => (intro W hSw; (try dsimp only at hSw); go_simp; try (with_reducible rfl))
    try simp only [Act.put, List.setIfInBounds_toArray, List.set_cons_zero, List.set_cons_succ]
    refine wpAnyH_take (i := 1) (oi := { dst := some 22, op := Op.move (Operand.tmp 5), type := 3, pos := "right.go:111", after := #[], guard := none }) (v := ?v1t2) rfl (by kernel_rfl) (by kernel_rfl) (by kernel_rfl) (fun _ _ _ h => h) (Or.inl ⟨by rfl, ?hy1t2⟩) hH ?r1t2
    case hy1t2 => (intro W hSw; (try dsimp only at hSw); go_simp; try (with_reducible rfl))
    try simp only [Act.put, List.setIfInBounds_toArray, List.set_cons_zero, List.set_cons_succ]
    refine wpAnyH_take (i := 2) (oi := { dst := some 23, op := Op.slice 9 (Operand.tmp 21) none (some (Operand.tmp 22)) none, type := 9, pos := "right.go:111", after := #[{ on := 0, ground := Ground.data }, { on := 1, ground := Ground.data }], guard := none }) (v := ?v2t3) rfl (by kernel_rfl) (by kernel_rfl) (by kernel_rfl) (fun _ _ _ h => h) (Or.inl ⟨by rfl, ?hy2t3⟩) hH ?r2t3
    case hy2t3 => (intro W hSw; (try dsimp only at hSw); go_simp; try (with_reducible rfl))
    try simp only [Act.put, List.setIfInBounds_toArray, List.set_cons_zero, List.set_cons_succ]
    refine wpAnyH_take (i := 3) (oi := { dst := some 24, op := Op.move (Operand.tmp 0), type := 9, pos := "right.go:111", after := #[], guard := none }) (v := ?v3t4) rfl (by kernel_rfl) (by kernel_rfl) (by kernel_rfl) (fun _ _ _ h => h) (Or.inl ⟨by rfl, ?hy3t4⟩) hH ?r3t4
    case hy3t4 => (intro W hSw; (try dsimp only at hSw); go_simp; try (with_reducible rfl))
    try simp only [Act.put, List.setIfInBounds_toArray, List.set_cons_zero, List.set_cons_succ]
    refine wpAnyH_take (i := 4) (oi := { dst := some 25, op := Op.move (Operand.tmp 5), type := 3, pos := "right.go:111", after := #[], guard := none }) (v := ?v4t5) rfl (by kernel_rfl) (by kernel_rfl) (by kernel_rfl) (fun _ _ _ h => h) (Or.inl ⟨by rfl, ?hy4t5⟩) hH ?r4t5
    case hy4t5 => (intro W hSw; (try dsimp only at hSw); go_simp; try (with_reducible rfl))
    try simp only [Act.put, List.setIfInBounds_toArray, List.set_cons_zero, List.set_cons_succ]
    refine wpAnyH_take (i := 5) (oi := { dst := some 26, op := Op.index 9 (Operand.tmp 24) (Operand.tmp 25), type := 5, pos := "right.go:111", after := #[{ on := 3, ground := Ground.data }, { on := 4, ground := Ground.data }], guard := none }) (v := ?v5t6) rfl (by kernel_rfl) (by kernel_rfl) (by kernel_rfl) (fun _ _ _ h => h) (Or.inl ⟨by rfl, ?hy5t6⟩) hH ?r5t6
    case hy5t6 => (intro W hSw; (try dsimp only at hSw); go_simp; try (with_reducible rfl))
    try simp only [Act.put, List.setIfInBounds_toArray, List.set_cons_zero, List.set_cons_succ]
    refine wpAnyH_ready (rs := [6]) (by kernel_rfl) (by simp) ?_
    refine AllReadyH.cons (o := { dst := some 27, op := Op.call { callee := Callee.value (Operand.func 94), args := #[Operand.tmp 23, Operand.tmp 26], argTypes := #[9, 5] }, type := 3, pos := "right.go:111", after := #[{ on := 2, ground := Ground.data }, { on := 5, ground := Ground.data }], guard := none }) rfl (fun K hKq => ?_) AllReadyH.nil
    go_simp
    refine (IB.out _).mono ?_
    rintro e yy ⟨rfl, rfl⟩
    refine hKq.out _ _ (MK.out _ KQ) (fun hN => ?_)
    clear hKq K hH KQ
    have hH := hN
    clear hN
    have KQ := hH.out
    try simp only [Act.put, List.setIfInBounds_toArray, List.set_cons_zero, List.set_cons_succ]
    refine wpAnyH_take (i := 7) (oi := { dst := some 28, op := Op.binOp BinOp.geq 3 (Operand.tmp 27) (Operand.const (Value.int IntKind.i64 0)) 3, type := 4, pos := "right.go:111", after := #[{ on := 6, ground := Ground.data }], guard := none }) (v := ?v7t7) rfl (by kernel_rfl) (by kernel_rfl) (by kernel_rfl) (fun _ _ _ h => h) (Or.inl ⟨by rfl, ?hy7t7⟩) hH ?r7t7
    case hy7t7 => (intro W hSw; (try dsimp only at hSw); go_simp; try (with_reducible rfl))
    try simp only [Act.put, List.setIfInBounds_toArray, List.set_cons_zero, List.set_cons_succ]
    refine wpAnyH_done (by kernel_rfl) ?_ _
    refine NoPanic.normal ?_
    have KF := hid (K.out.trans KQ)
    by_cases hr : 0 ≤ R
    ·
     have E : Hid (B = false) := by show _ = _; rw [E1.out]; exact decide_eq_false (nodup_not _ q x HX.out (HM.out.1 hr))
     have gr : R ≥ 0 := hr
     go_wp2_with fail
     go_ret
     exact ⟨by rw [E.out]; rfl, KF.out⟩
    ·
     have gr : ¬ R ≥ 0 := hr
     have HR := hid hr
     clear hr
     go_wp2_with fail
     go_roundg (gk - 1)
     case measure => omega
     case rel => exact ⟨q + 1, by omega, by go_num, nodup_take_succ _ q x HX.out HN.out (fun h => by have h1 := HM.out.2 h; have h2 := HR.out; omega), KF.out⟩
   ·
    have ga : ¬ (q : Int) < (y.size : Int) := by omega
    have E : Hid (B = true) := by show _ = _; rw [E1.out]; have := HN.out; rw [take_full y q (by omega)] at this; exact decide_eq_true this
    go_wp2_with fail
    go_ret
    exact ⟨by rw [E.out]; rfl, K.out⟩
 ·
  have g1 : ((y.size : Int) != (z.size : Int)) = true := by simp; omega
  have E : Hid (B = false) := by show _ = _; rw [← HB.out]; unfold tabR; rw [decide_eq_false h1]; rfl
  go_wp2_with fail
  go_ret
  exact ⟨by rw [E.out]; rfl, Kp.refl _⟩

theorem pcsEq_len : ∀ (a b : List Pc), a.length ≠ b.length → pcsEq a b = false
 | [], [], h => absurd rfl h
 | [], _ :: _, _ => rfl
 | _ :: _, [], _ => rfl
 | x :: a, y :: b, h => by rw [pcsEq, pcsEq_len a b (by simpa using h), Bool.and_false]
theorem pcsEq_not : ∀ (a b : List Pc) (j : Nat) (x y : Pc), a[j]? = some x → b[j]? = some y → pcEq x y = false → pcsEq a b = false
 | [], _, j, x, y, h, _, _ => by simp at h
 | _ :: _, [], j, x, y, _, h, _ => by simp at h
 | u :: a, v :: b, 0, x, y, h, h', he => by simp at h h'; subst h; subst h'; rw [pcsEq, he, Bool.false_and]
 | u :: a, v :: b, j + 1, x, y, h, h', he => by rw [pcsEq, pcsEq_not a b j x y (by simpa using h) (by simpa using h') he, Bool.and_false]
theorem pcsEq_all : ∀ (a b : List Pc), a.length = b.length → (∀ (j : Nat) (x y : Pc), a[j]? = some x → b[j]? = some y → pcEq x y = true) → pcsEq a b = true
 | [], [], _, _ => rfl
 | [], _ :: _, h, _ => by simp at h
 | _ :: _, [], h, _ => by simp at h
 | x :: a, y :: b, h, H => by rw [pcsEq, H 0 x y rfl rfl, pcsEq_all a b (by simpa using h) (fun j u v hu hv => H (j + 1) u v (by simpa using hu) (by simpa using hv))]; rfl
theorem neq_pc (g g' : Int) (s s' : ByteArray) (w : World) : (Op.equalIn 10000 34 (.agg #[.int .i64 g, .string s]) (.agg #[.int .i64 g', .string s'])).run Tryz.prog w = .ok (g == g' && s.toList == s'.toList) w := by
 have u3 := Tryz.underlying3
 have a3 := Tryz.isAgg3
 have z3 := Tryz.sizeOf3
 have u9 := Tryz.underlying9
 have a9 := Tryz.isAgg9
 have z9 := Tryz.sizeOf9
 rw [show (10000 : Nat) = 9999 + 1 from rfl, Op.equalIn]
 simp only [Sem.run_bind, run_underlying Tryz.underlying34, Result.andThen_ok]
 go_simp
 by_cases h1 : g = g' <;> by_cases h2 : s.toList = s'.toList <;> simp [h1, h2]
theorem str_eq (s t : ByteArray) : (s.toList == t.toList) = (s.data.toList == t.data.toList) := by rw [ByteArray.toList_eq, ByteArray.toList_eq]

set_option maxHeartbeats 2000000 in
set_option maxRecDepth 100000 in
theorem pcsEqual_any (P P' : List Pc) (ad ad' : Option Addr) (l c l' c' : Nat) (w : World) (hP : PcAt w P ad l c) (hP' : PcAt w P' ad' l' c') (hl : P.length ≤ 1000000) : Calls Tryz.prog 34 #[.slice ad l c, .slice ad' l' c'] w fun e w' => e = .returned (.bool (pcsEq P P')) ∧ Kp w w' := by
 obtain ⟨B, hB⟩ : ∃ B, pcsEq P P' = B := ⟨_, rfl⟩
 rw [hB]
 have HB := hid hB
 clear hB
 obtain ⟨L, hL⟩ : ∃ L, P.length = L := ⟨_, rfl⟩
 obtain ⟨L', hL'⟩ : ∃ L, P'.length = L := ⟨_, rfl⟩
 have hll := hP.ln
 have hcp := hP.cp
 have hll' := hP'.ln
 have hcp' := hP'.cp
 rw [hL] at hll hl
 rw [hL'] at hll'
 subst hll
 subst hll'
 have HP := hid hP
 have HP' := hid hP'
 have HL := hid hL
 have HL' := hid hL'
 clear hP hL hP' hL'
 go_enter Tryz.func34, Tryz.ntmps34
 by_cases hne : l = l'
 ·
  subst hne
  have HLE := hid (HL.out.trans HL'.out.symm)
  go_wp2_with fail
  go_loopg [13] l (fun gg v wr => ∃ q : Nat, q + gg = l ∧ v = .int .i64 (q : Int) ∧ (∀ (j : Nat) (x y : Pc), j < q → P[j]? = some x → P'[j]? = some y → pcEq x y = true) ∧ Kp w wr)
  case atStart => exact ⟨0, by omega, rfl, fun j x y hj => absurd hj (by omega), Kp.refl _⟩
  case round =>
   obtain ⟨q, hq, rfl, h1, hK⟩ := hrel
   have H1 := hid h1
   have K := hid hK
   clear h1 hK
   by_cases hlt : q < l
   ·
    have gkw : IntKind.i64.wrap ((q : Int) + 1) = (q : Int) + 1 := by rw [IntKind.wrap_i64]; omega
    have ga : (q : Int) < (l : Int) := by omega
    have g0 : (0 : Int) ≤ (q : Int) := by omega
    obtain ⟨p, hp⟩ : ∃ p, P[q]? = some p := ⟨_, List.getElem?_eq_getElem (by rw [HL.out]; exact hlt)⟩
    obtain ⟨p', hp'⟩ : ∃ p, P'[q]? = some p := ⟨_, List.getElem?_eq_getElem (by rw [HL'.out]; omega)⟩
    obtain ⟨bb, oo, e1, hbb, c1, c2⟩ := (HP.out.kp K.out).get q p hp
    obtain ⟨b2, o2, e2, hb2, d1, d2⟩ := (HP'.out.kp K.out).get q p' hp'
    subst e1
    subst e2
    obtain ⟨g, s⟩ := p
    obtain ⟨g', s'⟩ := p'
    have C1 := hid c1
    have C2 := hid c2
    have D1 := hid d1
    have D2 := hid d2
    have HQ := hid hp
    have HQ' := hid hp'
    have ev := neq_pc g g' s s'
    obtain ⟨R, hR⟩ : ∃ R, (g == g' && s.toList == s'.toList) = R := ⟨_, rfl⟩
    rw [hR] at ev
    have HR : Hid (pcEq ⟨g, s⟩ ⟨g', s'⟩ = R) := by show _ = _; rw [← hR, str_eq]; unfold pcEq; by_cases h : g = g' <;> simp [h]
    clear hR hp hp' c1 c2 d1 d2
    go_upto_region 6 with fail
    have Q0 : Kp wr wr.drew := (Kp.refl _).drew
    have MK : Hid (∀ W, Kp wr W → W.cell? ⟨bb, (oo + q * 2), none⟩ = some (.int .i64 g) ∧ W.cell? ⟨bb, (oo + q * 2 + 1), none⟩ = some (.string s) ∧ W.cell? ⟨b2, (o2 + q * 2), none⟩ = some (.int .i64 g') ∧ W.cell? ⟨b2, (o2 + q * 2 + 1), none⟩ = some (.string s') ∧ Hid (Kp wr W)) := fun W k => ⟨(k.cell (World.block_lt_of_cell? wr _ C1.out)).trans C1.out, (k.cell (World.block_lt_of_cell? wr _ C2.out)).trans C2.out, (k.cell (World.block_lt_of_cell? wr _ D1.out)).trans D1.out, (k.cell (World.block_lt_of_cell? wr _ D2.out)).trans D2.out, k⟩
    refine wp_region_noPanic ?_
    refine wp_region_held_drew (S := (fun W => W.cell? ⟨bb, (oo + q * 2), none⟩ = some (.int .i64 g) ∧ W.cell? ⟨bb, (oo + q * 2 + 1), none⟩ = some (.string s) ∧ W.cell? ⟨b2, (o2 + q * 2), none⟩ = some (.int .i64 g') ∧ W.cell? ⟨b2, (o2 + q * 2 + 1), none⟩ = some (.string s') ∧ Hid (Kp wr W))) (by kernel_rfl) ?_ (fun hH => ?_)
    ·
     exact MK.out _ Q0
    have KQ := Q0
    refine wpAnyH_take (i := 0) (oi := { dst := some 16, op := Op.move (Operand.tmp 0), type := 35, pos := "slices.go:25", after := #[], guard := none }) (v := ?v0t1) rfl (by kernel_rfl) (by kernel_rfl) (by kernel_rfl) (fun _ _ _ h => h) (Or.inl ⟨by rfl, ?hy0t1⟩) hH ?r0t1
    case hy0t1 => (intro W hSw; (try dsimp only at hSw); go_simp; try (with_reducible rfl))
    try simp only [Act.put, List.setIfInBounds_toArray, List.set_cons_zero, List.set_cons_succ]
    refine wpAnyH_take (i := 1) (oi := { dst := some 17, op := Op.move (Operand.tmp 5), type := 3, pos := "slices.go:25", after := #[], guard := none }) (v := ?v1t2) rfl (by kernel_rfl) (by kernel_rfl) (by kernel_rfl) (fun _ _ _ h => h) (Or.inl ⟨by rfl, ?hy1t2⟩) hH ?r1t2
    case hy1t2 => (intro W hSw; (try dsimp only at hSw); go_simp; try (with_reducible rfl))
    try simp only [Act.put, List.setIfInBounds_toArray, List.set_cons_zero, List.set_cons_succ]
    refine wpAnyH_take (i := 2) (oi := { dst := some 18, op := Op.indexAddr 35 (Operand.tmp 16) (Operand.tmp 17), type := 0, pos := "slices.go:25", after := #[{ on := 0, ground := Ground.data }, { on := 1, ground := Ground.data }], guard := none }) (v := ?v2t3) rfl (by kernel_rfl) (by kernel_rfl) (by kernel_rfl) (fun _ _ _ h => h) (Or.inl ⟨by rfl, ?hy2t3⟩) hH ?r2t3
    case hy2t3 => (intro W hSw; (try dsimp only at hSw); go_simp; try (with_reducible rfl))
    try simp only [Act.put, List.setIfInBounds_toArray, List.set_cons_zero, List.set_cons_succ]
    refine wpAnyH_take (i := 3) (oi := { dst := some 19, op := Op.load 34 (Operand.tmp 18), type := 34, pos := "slices.go:25", after := #[{ on := 2, ground := Ground.data }], guard := none }) (v := ?v3t4) rfl (by kernel_rfl) (by kernel_rfl) (by kernel_rfl) (fun _ _ _ h => h) (Or.inl ⟨by rfl, ?hy3t4⟩) hH ?r3t4
    case hy3t4 => (intro W hSw; (try dsimp only at hSw); go_simp; try (with_reducible rfl))
    try simp only [Act.put, List.setIfInBounds_toArray, List.set_cons_zero, List.set_cons_succ]
    refine wpAnyH_take (i := 4) (oi := { dst := some 20, op := Op.move (Operand.tmp 1), type := 35, pos := "slices.go:25", after := #[], guard := none }) (v := ?v4t5) rfl (by kernel_rfl) (by kernel_rfl) (by kernel_rfl) (fun _ _ _ h => h) (Or.inl ⟨by rfl, ?hy4t5⟩) hH ?r4t5
    case hy4t5 => (intro W hSw; (try dsimp only at hSw); go_simp; try (with_reducible rfl))
    try simp only [Act.put, List.setIfInBounds_toArray, List.set_cons_zero, List.set_cons_succ]
    refine wpAnyH_take (i := 5) (oi := { dst := some 21, op := Op.move (Operand.tmp 5), type := 3, pos := "slices.go:25", after := #[], guard := none }) (v := ?v5t6) rfl (by kernel_rfl) (by kernel_rfl) (by kernel_rfl) (fun _ _ _ h => h) (Or.inl ⟨by rfl, ?hy5t6⟩) hH ?r5t6
    case hy5t6 => (intro W hSw; (try dsimp only at hSw); go_simp; try (with_reducible rfl))
    try simp only [Act.put, List.setIfInBounds_toArray, List.set_cons_zero, List.set_cons_succ]
    refine wpAnyH_take (i := 6) (oi := { dst := some 22, op := Op.indexAddr 35 (Operand.tmp 20) (Operand.tmp 21), type := 0, pos := "slices.go:25", after := #[{ on := 4, ground := Ground.data }, { on := 5, ground := Ground.data }], guard := none }) (v := ?v6t7) rfl (by kernel_rfl) (by kernel_rfl) (by kernel_rfl) (fun _ _ _ h => h) (Or.inl ⟨by rfl, ?hy6t7⟩) hH ?r6t7
    case hy6t7 => (intro W hSw; (try dsimp only at hSw); go_simp; try (with_reducible rfl))
    try simp only [Act.put, List.setIfInBounds_toArray, List.set_cons_zero, List.set_cons_succ]
    refine wpAnyH_take (i := 7) (oi := { dst := some 23, op := Op.load 34 (Operand.tmp 22), type := 34, pos := "slices.go:25", after := #[{ on := 6, ground := Ground.data }], guard := none }) (v := ?v7t8) rfl (by kernel_rfl) (by kernel_rfl) (by kernel_rfl) (fun _ _ _ h => h) (Or.inl ⟨by rfl, ?hy7t8⟩) hH ?r7t8
    case hy7t8 => (intro W hSw; (try dsimp only at hSw); go_simp; try (with_reducible rfl))
    try simp only [Act.put, List.setIfInBounds_toArray, List.set_cons_zero, List.set_cons_succ]
    refine wpAnyH_take (i := 8) (oi := { dst := some 24, op := Op.binOp BinOp.neq 34 (Operand.tmp 19) (Operand.tmp 23) 34, type := 4, pos := "slices.go:25", after := #[{ on := 3, ground := Ground.data }, { on := 7, ground := Ground.data }], guard := none }) (v := ?v8t9) rfl (by kernel_rfl) (by kernel_rfl) (by kernel_rfl) (fun _ _ _ h => h) (Or.inl ⟨by rfl, ?hy8t9⟩) hH ?r8t9
    case hy8t9 => (intro W hSw; (try dsimp only at hSw); go_simp; try (with_reducible rfl))
    try simp only [Act.put, List.setIfInBounds_toArray, List.set_cons_zero, List.set_cons_succ]
    refine wpAnyH_done (by kernel_rfl) ?_ _
    refine NoPanic.normal ?_
    have KF := hid (K.out.trans KQ)
    cases R
    ·
     have E : Hid (B = false) := by show _ = _; rw [← HB.out]; exact pcsEq_not P P' q _ _ HQ.out HQ'.out HR.out
     go_wp2_with fail
     go_ret
     exact ⟨by rw [E.out]; rfl, KF.out⟩
    ·
     go_wp2_with fail
     go_roundg (gk - 1)
     case measure => omega
     case rel =>
      refine ⟨q + 1, by omega, by go_num, fun j x y hj hx hy => ?_, KF.out⟩
      by_cases hjq : j = q
      ·
       subst hjq
       rw [HQ.out] at hx
       rw [HQ'.out] at hy
       injection hx with hx
       injection hy with hy
       subst hx
       subst hy
       exact HR.out
      ·
       exact H1.out j x y (by omega) hx hy
   ·
    have ga : ¬ (q : Int) < (l : Int) := by omega
    have E : Hid (B = true) := by
     show _ = _
     rw [← HB.out]
     refine pcsEq_all P P' HLE.out (fun j x y hx hy => H1.out j x y ?_ hx hy)
     have := (List.getElem?_eq_some_iff.1 hx).1
     rw [HL.out] at this
     omega
    go_wp2_with fail
    go_ret
    exact ⟨by rw [E.out]; rfl, K.out⟩
 ·
  have gne : ((l : Int) != (l' : Int)) = true := by simp; omega
  have E : Hid (B = false) := by show _ = _; rw [← HB.out]; exact pcsEq_len P P' (by rw [HL.out, HL'.out]; exact hne)
  go_wp2_with fail
  go_ret
  exact ⟨by rw [E.out]; rfl, Kp.refl _⟩

end Go.Proofs.YtommgdgilcemdaaGreatDoor
