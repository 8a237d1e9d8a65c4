/-
 Proved: the law WayRuns of glosslaw5 returns true, whatever the world in which it is called (the chapter's runs of package way, at two texts); no condition.
-/
import Derived.Test.YtnajcnhgeggngaaGreatM32
import Derived.Test.YtnajcnhgeggngaaGreatM23
import Derived.Test.YtnajcnhgeggngaaGreatM9
import Derived.Test.YtnajcnhgeggngaaGreatRows
import Derived.HandedShaped
import Derived.ProofKit
import Derived.Shelf.Vars
import Derived.Below

/-! ### Wys -/

namespace Go.Proofs.YtnajcnhgeggngaaGreat.Way
set_option maxHeartbeats 2000000
set_option maxRecDepth 100000
open Go.RowKit Go.Proofs.YtnajcnhgeggngaaGreat

structure WysD (W : List Sp) (w : World) (e : Ending) (w' : World) : Prop where
 ex : ∃ v, e = .returned v ∧ StL w' (fun b => w.heap.size ≤ b) v W ∧ Kp w w'
theorem stl_row {base : Nat} {w : World} {v : Value} {xs : List Sp} (h : StR base w v xs) {n : Nat} (hn : n ≤ base) : StL w (fun b => n ≤ b) v xs := h.stl (fun b e => Nat.le_trans hn (h.block b e).1)
theorem wys_any (r : Rx) (s : ByteArray) (bol : Bool) (at_ : Nat) (h60 : s.size ≤ 60) (hr : right true r = true) (ha : at_ ≤ s.size) (W : List Sp) (hW : ways s.data.toList bol (heed 7 (bldE r)) (Sp.at_ (at_ : Int)) = W) (hWn : W.length ≤ 1000000000000) (ok : Nat → Prop) (k mn mx m : Int) (t : W4) (ad : Option Addr) (l c : Nat) (w : World) (hR : RxOk r) (hI : Is w ok r (rxv k mn mx m t (.slice ad l c))) :
  Calls Tryz.prog 10 #[rxv k mn mx m t (.slice ad l c), .string s, .bool bol, .int .i64 (at_ : Int)] w fun e w' => WysD W w e w' := by
 have OA := hid (fun W hI => over_any r s bol 7 (by decide) ok k mn mx m t ad l c W hR hI)
 have HI := hid hI
 have H60 := hid h60
 have HRT := hid hr
 have HAT := hid ha
 have HW := hid hW
 have HWN := hid hWn
 clear hR hI h60 hr ha hW hWn
 go_enter Tryz.func10, Tryz.ntmps10
 go_upto_region 1 with fail
 refine opq (fun W0 => W0.heap[w.heap.size]? = some (rxo k mn mx m t (.slice ad l c)) ∧ Kp w W0) ⟨by exact last_of _ _, by exact kpt⟩ ?_
 rintro W0 ⟨xR0, xK0⟩
 have R0 := hid xR0
 have K0 := hid xK0
 clear xR0 xK0
 obtain ⟨a0, a1, a2, a3, a4, a5, a6, a7, a8⟩ := cells9 (R0.out)
 go_wp2_with fail
 clear a0 a1 a2 a3 a4 a5 a6 a7 a8
 refine (OA.out _ (HI.out.kp K0.out)).mono ?_
 rintro e w1 hd0
 obtain ⟨p, M, rfl, hE, hrd, hnew⟩ := hd0.yes H60.out HRT.out
 have K1 := hid (K0.out.trans hd0.kp)
 have HNEW := hid (fun b (hb : M b ≠ none) => Nat.le_trans K0.out.size (hnew b hb))
 have SP := hid (spots_any s bol H60.out p M at_ HAT.out w1 hrd)
 have HWE := hid (show ways s.data.toList bol p (Sp.at_ (at_ : Int)) = W from by rw [← ways_er, hE, HW.out])
 clear hd0 hE hrd hnew
 obtain ⟨P, hP⟩ : ∃ P, p.P = P := ⟨_, rfl⟩
 rw [hP] at SP ⊢
 clear hP
 go_wp2_with fail
 refine (SP.out).mono ?_
 rintro e w2 hd0
 obtain ⟨v, rfl, hv, hk⟩ := hd0.ex
 rw [HWE.out] at hv
 have K2 := hid (show Kp w w2 from Kx.kp (Kx.past2 (S := fun _ => False) (Kp.kx K1.out) hk (fun b hb e => absurd (HNEW.out b e) (by omega))))
 obtain ⟨ad2, c2, rfl, hc2, hcell⟩ := hv.ex
 have HV := hid hv
 obtain ⟨L, hL⟩ : ∃ L, W.length = L := ⟨_, rfl⟩
 rw [hL] at HV HWN ⊢
 have HL := hid hL
 clear hd0 hv hk hcell hL hc2 SP HWE
 go_wp2_with fail
 refine (grow_any L HWN.out _).mono ?_
 rintro e w3 ⟨v3, rfl, hg, hk⟩
 have G3 := hid hg
 have K3 := hid hk
 obtain ⟨ad3, c3, rfl, -⟩ := hg.form
 clear hg hk
 go_wp2_with fail
 go_loopg [10, 24] L (fun gg v i wr => ∃ q : Nat, q + gg = L ∧ i = .int .i64 (q : Int) ∧ StR w2.heap.size wr v (W.take q) ∧ Kp w2 wr)
 case atStart => exact ⟨0, by omega, rfl, G3.out, K3.out⟩
 case round =>
  obtain ⟨q, hq, rfl, hS, hK⟩ := hrel
  obtain ⟨ad6, c6, hv6, -⟩ := hS.form
  obtain ⟨N6, hN6⟩ : ∃ N, (W.take q).length = N := ⟨_, rfl⟩
  rw [hN6] at hv6
  subst hv6
  clear hN6
  have S6 := hid hS
  have K6 := hid hK
  have V6 := hid (HV.out.keep (ok' := fun b => b < w2.heap.size) hK.size (fun b hb hl => ⟨hl, hK.block b hl⟩))
  have HLW := hid (HWN.out)
  clear hS hK
  by_cases hlt : q < L
  ·
   have gkw : IntKind.i64.wrap ((q : Int) + 1) = (q : Int) + 1 := by have := HLW.out; rw [IntKind.wrap_i64]; omega
   have ga : (q : Int) < (L : Int) := by omega
   have g0 : (0 : Int) ≤ (q : Int) := by omega
   obtain ⟨y, hy⟩ : ∃ y, W[q]? = some y := ⟨_, List.getElem?_eq_getElem (by rw [HL.out]; exact hlt)⟩
   obtain ⟨adz, cz, hvz, _, hcz⟩ := V6.out.ex
   injection hvz with e1 e2 e3
   obtain ⟨b2, hbb, _, hbl, hce⟩ := hcz (by rw [HL.out]; omega)
   rw [← e1] at hbb
   subst hbb
   have hsp := hce q y hy
   have HYO := hid (V6.out.good y (List.mem_of_getElem? hy))
   have HTK := hid (show W.take (q + 1) = W.take q ++ [y] from by rw [List.take_add_one, hy]; rfl)
   have HTL := hid (show (W.take q).length ≤ 1000000000000 from by rw [List.length_take, HL.out]; have := HLW.out; omega)
   have x0 := hsp.c0
   have x1 := hsp.c1
   have x2 := hsp.c2
   have x3 := hsp.c3
   have x4 := hsp.c4
   have x5 := hsp.c5
   have x6 := hsp.c6
   clear hsp hce hy e1 e2 e3 hcz
   go_upto_region 6 with fail
   clear x0 x1 x2 x3 x4 x5 x6
   refine opq (fun W5 => W5.heap[wr.heap.size]? = some (spo y) ∧ Kp w2 W5 ∧ StR w2.heap.size W5 (.slice ad6 N6 c6) (W.take q)) ⟨by exact last_of _ _, by exact K6.out.alloc _, by exact S6.out.kp ((Kp.refl _).alloc _)⟩ ?_
   rintro W5 ⟨xY5, xK5, xS5⟩
   have Y5 := hid xY5
   have K5 := hid xK5
   have S5 := hid xS5
   clear xY5 xK5 xS5
   obtain ⟨y0, y1, y2, y3, y4, y5, y6⟩ := cells7 (Y5.out)
   go_wp2_with fail
   clear y0 y1 y2 y3 y4 y5 y6
   refine (state_any y HYO.out _).mono ?_
   rintro e w7 ⟨rfl, hk⟩
   have K7 := hid (K5.out.trans hk)
   have S7 := hid (S5.out.kp hk)
   clear hk S6 K6 V6
   go_wp2_with (at_builtin; go_must (refine wpList_append_st (w7.alloc (sto y)) (by rfl) _ _ (by rfl) w2.heap.size _ (W.take q) y (by rfl) w7.heap.size (by rfl) ?hG ?hB HTL.out ?hb ?_))
   case hG => exact S7.out.kp ((Kp.refl _).alloc _)
   case hB => exact last_of _ _
   case hb => have := K7.out.size; simp; omega
   intro v' w' md
   have MD := hid md
   clear md
   go_wp2_with fail
   go_roundg (gk - 1)
   case measure => omega
   case rel => exact ⟨q + 1, by omega, by go_num, by rw [HTK.out]; exact MD.out.row, Kx.kp (Kx.grown (S := fun _ => False) (Kp.kx (K7.out.alloc _)) MD.out.grown (fun b e hb => by have := (S7.out.block b e).1; omega))⟩
  ·
   have ga : ¬ (q : Int) < (L : Int) := by omega
   obtain rfl : q = L := by omega
   have HTK := hid (show W.take q = W from by rw [← HL.out]; exact List.take_length)
   go_wp2_with fail
   go_ret
   exact ⟨_, rfl, stl_row (by rw [← HTK.out]; exact S6.out) K2.out.size, K2.out.trans K6.out⟩
end Go.Proofs.YtnajcnhgeggngaaGreat.Way

/-! ### Ens -/

namespace Go.Proofs.YtnajcnhgeggngaaGreat.Way
set_option maxHeartbeats 2000000
set_option maxRecDepth 100000
open Go.RowKit Go.Proofs.YtnajcnhgeggngaaGreat

def endN (W : List Sp) : List Nat := W.map (fun y => y.a.toNat)
structure EnsD (W : List Sp) (w : World) (e : Ending) (w' : World) : Prop where
 ex : ∃ v, e = .returned v ∧ NuL w' (fun b => w.heap.size ≤ b) v ((endN W).mergeSort (fun a b => decide (a ≤ b))) ∧ Kp w w'
theorem nul_row {base : Nat} {w : World} {v : Value} {xs : List Nat} (h : NuR base w v xs) {n : Nat} (hn : n ≤ base) : NuL w (fun b => n ≤ b) v xs := h.nul (fun b e => Nat.le_trans hn (h.block b e).1)
theorem ens_done {W V : List Sp} {base : Nat} {v : Value} {w w2 w3 w4 : World} (hV : V = W) (hd : SrtD base v (endN V) w3 (.returned (.tuple #[])) w4) (h2 : Kp w w2) (h6 : Kp w2 w3) (hb : ∀ b, v.ownBlock = some b → base ≤ b) (hbs : base = w2.heap.size) : EnsD W w (.returned v) w4 := by
 subst hbs
 subst hV
 obtain ⟨-, hr, hk⟩ := hd.ex
 exact ⟨_, rfl, nul_row hr h2.size, h2.trans (Kx.kp (Kx.past2 (S := fun _ => False) (Kp.kx h6) hk (fun b hb2 e => by have := hb b e; omega)))⟩
theorem ens_any (r : Rx) (s : ByteArray) (bol : Bool) (at_ : Nat) (h60 : s.size ≤ 60) (hr : right true r = true) (ha : at_ ≤ s.size) (W : List Sp) (hW : ways s.data.toList bol (heed 0 (bldE r)) (Sp.at_ (at_ : Int)) = W) (hWn : W.length ≤ 1000000000000) (ok : Nat → Prop) (k mn mx m : Int) (t : W4) (ad : Option Addr) (l c : Nat) (w : World) (hR : RxOk r) (hI : Is w ok r (rxv k mn mx m t (.slice ad l c))) :
  Calls Tryz.prog 12 #[rxv k mn mx m t (.slice ad l c), .string s, .bool bol, .int .i64 (at_ : Int)] w fun e w' => EnsD W w e w' := by
 have OA := hid (fun W hI => over_any r s bol 0 (by decide) ok k mn mx m t ad l c W hR hI)
 have HI := hid hI
 have H60 := hid h60
 have HRT := hid hr
 have HAT := hid ha
 have HW := hid hW
 have HWN := hid hWn
 clear hR hI h60 hr ha hW hWn
 go_enter Tryz.func12, Tryz.ntmps12
 go_upto_region 1 with fail
 refine opq (fun W0 => W0.heap[w.heap.size]? = some (rxo k mn mx m t (.slice ad l c)) ∧ Kp w W0) ⟨by exact last_of _ _, by exact kpt⟩ ?_
 rintro W0 ⟨xR0, xK0⟩
 have R0 := hid xR0
 have K0 := hid xK0
 clear xR0 xK0
 obtain ⟨a0, a1, a2, a3, a4, a5, a6, a7, a8⟩ := cells9 (R0.out)
 go_wp2_with fail
 clear a0 a1 a2 a3 a4 a5 a6 a7 a8
 refine (OA.out _ (HI.out.kp K0.out)).mono ?_
 rintro e w1 hd0
 obtain ⟨p, M, rfl, hE, hrd, hnew⟩ := hd0.yes H60.out HRT.out
 have K1 := hid (K0.out.trans hd0.kp)
 have HNEW := hid (fun b (hb : M b ≠ none) => Nat.le_trans K0.out.size (hnew b hb))
 have SP := hid (spots_any s bol H60.out p M at_ HAT.out w1 hrd)
 have HWE := hid (show ways s.data.toList bol p (Sp.at_ (at_ : Int)) = W from by rw [← ways_er, hE, HW.out])
 clear hd0 hE hrd hnew
 obtain ⟨P, hP⟩ : ∃ P, p.P = P := ⟨_, rfl⟩
 rw [hP] at SP ⊢
 clear hP
 go_wp2_with fail
 refine (SP.out).mono ?_
 rintro e w2 hd0
 obtain ⟨v, rfl, hv, hk⟩ := hd0.ex
 rw [HWE.out] at hv
 have K2 := hid (show Kp w w2 from Kx.kp (Kx.past2 (S := fun _ => False) (Kp.kx K1.out) hk (fun b hb e => absurd (HNEW.out b e) (by omega))))
 obtain ⟨ad2, c2, rfl, hc2, hcell⟩ := hv.ex
 have HV := hid hv
 obtain ⟨L, hL⟩ : ∃ L, W.length = L := ⟨_, rfl⟩
 rw [hL] at HV HWN ⊢
 have HL := hid hL
 clear hd0 hv hk hcell hL hc2 SP HWE
 go_wp2_with fail
 go_loopg [9, 19] L (fun gg v i wr => ∃ q : Nat, q + gg = L ∧ i = .int .i64 (q : Int) ∧ NuR w2.heap.size wr v (endN (W.take q)) ∧ Kp w2 wr)
 case atStart => exact ⟨0, by omega, rfl, NuR.nil _ _, Kp.refl _⟩
 case round =>
  obtain ⟨q, hq, rfl, hS, hK⟩ := hrel
  obtain ⟨ad6, c6, hv6, -⟩ := hS.form
  obtain ⟨N6, hN6⟩ : ∃ N, (endN (W.take q)).length = N := ⟨_, rfl⟩
  rw [hN6] at hv6
  subst hv6
  clear hN6
  have S6 := hid hS
  have K6 := hid hK
  have V6 := hid (HV.out.keep (ok' := fun b => b < w2.heap.size) hK.size (fun b hb hl => ⟨hl, hK.block b hl⟩))
  have HLW := hid (HWN.out)
  clear hS hK
  by_cases hlt : q < L
  ·
   have gkw : IntKind.i64.wrap ((q : Int) + 1) = (q : Int) + 1 := by have := HLW.out; rw [IntKind.wrap_i64]; omega
   have ga : (q : Int) < (L : Int) := by omega
   have g0 : (0 : Int) ≤ (q : Int) := by omega
   obtain ⟨y, hy⟩ : ∃ y, W[q]? = some y := ⟨_, List.getElem?_eq_getElem (by rw [HL.out]; exact hlt)⟩
   obtain ⟨adz, cz, hvz, _, hcz⟩ := V6.out.ex
   injection hvz with e1 e2 e3
   obtain ⟨b2, hbb, _, hbl, hce⟩ := hcz (by rw [HL.out]; omega)
   rw [← e1] at hbb
   subst hbb
   have hsp := hce q y hy
   have HYO := hid (V6.out.good y (List.mem_of_getElem? hy))
   have ca : IntKind.i64.wrap y.a = y.a := by have := HYO.out.a0; have := HYO.out.a1; rw [IntKind.wrap_i64]; omega
   have HYN : Hid (Value.int .i64 y.a = nuc y.a.toNat) := by have := HYO.out.a0; show _ = _; unfold nuc; rw [Int.toNat_of_nonneg this]
   have HTK := hid (show endN (W.take (q + 1)) = endN (W.take q) ++ [y.a.toNat] from by rw [List.take_add_one, hy]; unfold endN; rw [List.map_append]; rfl)
   have HTL := hid (show (endN (W.take q)).length + [y.a.toNat].length ≤ 5000000000000 from by unfold endN; rw [List.length_map, List.length_take, HL.out]; have := HLW.out; simp; omega)
   have x0 := hsp.c0
   have x1 := hsp.c1
   have x2 := hsp.c2
   have x3 := hsp.c3
   have x4 := hsp.c4
   have x5 := hsp.c5
   have x6 := hsp.c6
   clear hsp hce hy e1 e2 e3 hcz
   go_upto_region 5 with fail
   clear x0 x1 x2 x3 x4 x5 x6
   refine opq (fun W5 => W5.heap[wr.heap.size]? = some (spo y) ∧ Kp w2 W5 ∧ NuR w2.heap.size W5 (.slice ad6 N6 c6) (endN (W.take q))) ⟨by exact last_of _ _, by exact K6.out.alloc _, by exact S6.out.kp ((Kp.refl _).alloc _)⟩ ?_
   rintro W5 ⟨xY5, xK5, xS5⟩
   have Y5 := hid xY5
   have K5 := hid xK5
   have S5 := hid xS5
   clear xY5 xK5 xS5
   obtain ⟨y0, y1, y2, y3, y4, y5, y6⟩ := cells7 (Y5.out)
   have S7 := hid (S5.out.kp ((Kp.refl W5).alloc (.cells #[.int .i64 y.a] 3)))
   have B7 : Hid (∀ (j : Nat) z, [y.a.toNat][j]? = some z → (W5.alloc (.cells #[.int .i64 y.a] 3)).cell? ⟨W5.heap.size, j, none⟩ = some (nuc z)) := fun j z hj => by
    match j, hj with
    | 0, hj =>
     obtain rfl : y.a.toNat = z := by simpa using hj
     rw [← HYN.out]
     exact bl_cell (last_of _ _) 0 _ rfl
    | j + 1, hj => simp at hj
   clear S6 K6 V6
   go_wp2_with (at_builtin; go_must (refine wpList_append_nu (W5.alloc (.cells #[.int .i64 y.a] 3)) (by rfl) _ _ (by rfl) w2.heap.size _ (endN (W.take q)) [y.a.toNat] (by rfl) W5.heap.size 1 (by rfl) S7 B7 HTL.out ?hb ?_))
   case hb => have := K5.out.size; simp; omega
   intro v' w' md
   have MD := hid md
   clear md
   go_wp2_with fail
   go_roundg (gk - 1)
   case measure => omega
   case rel => exact ⟨q + 1, by omega, by go_num, by rw [HTK.out]; exact MD.out.row, Kx.kp (Kx.grown (S := fun _ => False) (Kp.kx (K5.out.alloc _)) MD.out.grown (fun b e hb => by have := (S7.out.block b e).1; omega))⟩
  ·
   have ga : ¬ (q : Int) < (L : Int) := by omega
   obtain rfl : q = L := by omega
   have HTK := hid (show W.take q = W from by rw [← HL.out]; exact List.take_length)
   have HLE := hid (show (endN (W.take q)).length ≤ 5000000000000 from by rw [HTK.out]; unfold endN; rw [List.length_map, HL.out]; have := HLW.out; omega)
   go_wp2_with fail
   refine (sort_nu w2.heap.size _ (endN (W.take q)) wr S6.out HLE.out).mono ?_
   rintro e w4 hd0
   have HD := hid hd0
   obtain ⟨rfl, -⟩ := hd0.ex
   clear hd0
   go_wp2_with fail
   go_ret
   exact ens_done HTK.out HD.out K2.out K6.out (fun b e => (S6.out.block b e).1) rfl
end Go.Proofs.YtnajcnhgeggngaaGreat.Way

/-! ### Eqn -/

namespace Go.Proofs.YtnajcnhgeggngaaGreat.Way
set_option maxHeartbeats 2000000
set_option maxRecDepth 100000
open Go.RowKit Go.Proofs.YtnajcnhgeggngaaGreat

theorem bl_lt2 {w : World} {b o : Nat} {v : Value} (h : w.cell? ⟨b, o, none⟩ = some v) : b < w.heap.size := World.block_lt_of_cell? w _ h
theorem take_eq_next {xs ys : List Nat} {q : Nat} {a b : Nat} (h : xs.take q = ys.take q) (ha : xs[q]? = some a) (hb : ys[q]? = some b) (e : a = b) : xs.take (q + 1) = ys.take (q + 1) := by
 rw [List.take_add_one, List.take_add_one, h, ha, hb, e]
theorem eqn_any (xs ys : List Nat) (v u : Value) (ok1 ok2 : Nat → Prop) (hx : xs.length ≤ 5000000000000) (w : World) (hv : NuL w ok1 v xs) (hu : NuL w ok2 u ys) :
  Calls Tryz.prog 11 #[v, u] w fun e w' => e = .returned (.bool (decide (xs = ys))) ∧ Kp w w' := by
 obtain ⟨ad, c, rfl, -, hc⟩ := hv.ex
 obtain ⟨ad2, c2, rfl, -, hc2⟩ := hu.ex
 obtain ⟨N, hN⟩ : ∃ N, xs.length = N := ⟨_, rfl⟩
 obtain ⟨N2, hN2⟩ : ∃ N, ys.length = N := ⟨_, rfl⟩
 rw [hN] at hc hx ⊢
 rw [hN2] at hc2 ⊢
 have HN := hid hN
 have HN2 := hid hN2
 have HC := hid hc
 have HC2 := hid hc2
 have HX := hid hx
 clear hN hN2 hc hc2 hx hv hu
 obtain ⟨B, hB⟩ : ∃ B, decide (xs = ys) = B := ⟨_, rfl⟩
 have HB := hid hB
 rw [hB]
 clear hB
 go_enter Tryz.func11, Tryz.ntmps11
 by_cases hne : N = N2
 ·
  subst hne
  go_wp2_with fail
  go_loopg [5] N (fun gg i wr => ∃ q : Nat, q + gg = N ∧ i = .int .i64 (q : Int) ∧ xs.take q = ys.take q ∧ Kp w wr)
  case atStart => exact ⟨0, by omega, rfl, rfl, Kp.refl _⟩
  case round =>
   obtain ⟨q, hq, rfl, hT, hK⟩ := hrel
   have HT := hid hT
   have K6 := hid hK
   clear hT hK
   by_cases hlt : q < N
   ·
    have gkw : IntKind.i64.wrap ((q : Int) + 1) = (q : Int) + 1 := by have := HX.out; rw [IntKind.wrap_i64]; omega
    have ga : (q : Int) < (N : Int) := by omega
    have g0 : (0 : Int) ≤ (q : Int) := by omega
    obtain ⟨a, hya⟩ : ∃ a, xs[q]? = some a := ⟨_, List.getElem?_eq_getElem (by rw [HN.out]; exact hlt)⟩
    obtain ⟨b, hyb⟩ : ∃ b, ys[q]? = some b := ⟨_, List.getElem?_eq_getElem (by rw [HN2.out]; exact hlt)⟩
    obtain ⟨p1, e1, -, hl1, hc1⟩ := HC.out (by omega)
    obtain ⟨p2, e2, -, hl2, hc2⟩ := HC2.out (by omega)
    subst e1
    subst e2
    have d1 : wr.cell? ⟨p1, q, none⟩ = some (.int .i64 (a : Int)) := (cell_same (K6.out.block p1 hl1) _).trans (hc1 q a hya)
    have d2 : wr.cell? ⟨p2, q, none⟩ = some (.int .i64 (b : Int)) := (cell_same (K6.out.block p2 hl2) _).trans (hc2 q b hyb)
    have HYA := hid hya
    have HYB := hid hyb
    have L1 := hid (bl_lt2 d1)
    have L2 := hid (bl_lt2 d2)
    have D1 := hid d1
    have D2 := hid d2
    clear hya hyb hl1 hl2 hc1 hc2 HC HC2 d1 d2
    by_cases he : a = b
    ·
     have HT2 := hid (take_eq_next HT.out HYA.out HYB.out he)
     subst he
     go_upto_region 6 with fail
     have Q0 : Kp wr wr.drew := (Kp.refl _).drew
     have MK : Hid (∀ W, Kp wr W → W.cell? ⟨p1, q, none⟩ = some (.int .i64 (a : Int)) ∧ W.cell? ⟨p2, q, none⟩ = some (.int .i64 (a : Int)) ∧ Hid (Kp wr W)) := fun W k => ⟨(cell_same (k.block p1 L1.out) _).trans D1.out, (cell_same (k.block p2 L2.out) _).trans D2.out, k⟩
     refine wp_region_noPanic ?_
     refine hdrew MK Q0 (fun hH => ?_)
     have KQ := Q0
     refine tk 0 (some 17) (Op.move (Operand.tmp 0)) 40 (v := ?v0e1) rfl ?h0e1 hH ?_
     case h0e1 => intro _ _; go_simp; try with_reducible rfl
     try simp only [ps]
     refine tk 1 (some 18) (Op.move (Operand.tmp 5)) 3 (v := ?v1e2) rfl ?h1e2 hH ?_
     case h1e2 => intro _ _; go_simp; try with_reducible rfl
     try simp only [ps]
     refine tk 2 (some 19) (Op.indexAddr 40 (Operand.tmp 17) (Operand.tmp 18)) 0 (v := ?v2e3) rfl ?h2e3 hH ?_
     case h2e3 => intro _ _; go_simp; try with_reducible rfl
     try simp only [ps]
     refine tk 3 (some 20) (Op.load 3 (Operand.tmp 19)) 3 (v := ?v3e4) rfl ?h3e4 hH ?_
     case h3e4 => intro _ _; go_simp; try with_reducible rfl
     try simp only [ps]
     refine tk 4 (some 21) (Op.move (Operand.tmp 1)) 40 (v := ?v4e5) rfl ?h4e5 hH ?_
     case h4e5 => intro _ _; go_simp; try with_reducible rfl
     try simp only [ps]
     refine tk 5 (some 22) (Op.move (Operand.tmp 5)) 3 (v := ?v5e6) rfl ?h5e6 hH ?_
     case h5e6 => intro _ _; go_simp; try with_reducible rfl
     try simp only [ps]
     refine tk 6 (some 23) (Op.indexAddr 40 (Operand.tmp 21) (Operand.tmp 22)) 0 (v := ?v6e7) rfl ?h6e7 hH ?_
     case h6e7 => intro _ _; go_simp; try with_reducible rfl
     try simp only [ps]
     refine tk 7 (some 24) (Op.load 3 (Operand.tmp 23)) 3 (v := ?v7e8) rfl ?h7e8 hH ?_
     case h7e8 => intro _ _; go_simp; try with_reducible rfl
     try simp only [ps]
     refine tk 8 (some 25) (Op.binOp BinOp.neq 3 (Operand.tmp 20) (Operand.tmp 24) 3) 4 (v := ?v8e9) rfl ?h8e9 hH ?_
     case h8e9 => intro _ _; go_simp; try with_reducible rfl
     try simp only [ps]
     refine wpAnyH_done (by kernel_rfl) ?_ _
     refine NoPanic.normal ?_
     have KF := hid KQ
     go_wp2_with fail
     go_roundg (gk - 1)
     case measure => omega
     case rel => exact ⟨q + 1, by omega, by go_num, HT2.out, K6.out.trans KF.out⟩
    ·
     have hne : ¬ (a : Int) = (b : Int) := by omega
     have HE := hid (show B = false from by rw [← HB.out]; refine decide_eq_false (fun e => he ?_); rw [e, HYB.out] at HYA; exact (Option.some.inj HYA.out).symm)
     go_upto_region 6 with fail
     have Q0 : Kp wr wr.drew := (Kp.refl _).drew
     have MK : Hid (∀ W, Kp wr W → W.cell? ⟨p1, q, none⟩ = some (.int .i64 (a : Int)) ∧ W.cell? ⟨p2, q, none⟩ = some (.int .i64 (b : Int)) ∧ Hid (Kp wr W)) := fun W k => ⟨(cell_same (k.block p1 L1.out) _).trans D1.out, (cell_same (k.block p2 L2.out) _).trans D2.out, k⟩
     refine wp_region_noPanic ?_
     refine hdrew MK Q0 (fun hH => ?_)
     have KQ := Q0
     refine tk 0 (some 17) (Op.move (Operand.tmp 0)) 40 (v := ?v0f1) rfl ?h0f1 hH ?_
     case h0f1 => intro _ _; go_simp; try with_reducible rfl
     try simp only [ps]
     refine tk 1 (some 18) (Op.move (Operand.tmp 5)) 3 (v := ?v1f2) rfl ?h1f2 hH ?_
     case h1f2 => intro _ _; go_simp; try with_reducible rfl
     try simp only [ps]
     refine tk 2 (some 19) (Op.indexAddr 40 (Operand.tmp 17) (Operand.tmp 18)) 0 (v := ?v2f3) rfl ?h2f3 hH ?_
     case h2f3 => intro _ _; go_simp; try with_reducible rfl
     try simp only [ps]
     refine tk 3 (some 20) (Op.load 3 (Operand.tmp 19)) 3 (v := ?v3f4) rfl ?h3f4 hH ?_
     case h3f4 => intro _ _; go_simp; try with_reducible rfl
     try simp only [ps]
     refine tk 4 (some 21) (Op.move (Operand.tmp 1)) 40 (v := ?v4f5) rfl ?h4f5 hH ?_
     case h4f5 => intro _ _; go_simp; try with_reducible rfl
     try simp only [ps]
     refine tk 5 (some 22) (Op.move (Operand.tmp 5)) 3 (v := ?v5f6) rfl ?h5f6 hH ?_
     case h5f6 => intro _ _; go_simp; try with_reducible rfl
     try simp only [ps]
     refine tk 6 (some 23) (Op.indexAddr 40 (Operand.tmp 21) (Operand.tmp 22)) 0 (v := ?v6f7) rfl ?h6f7 hH ?_
     case h6f7 => intro _ _; go_simp; try with_reducible rfl
     try simp only [ps]
     refine tk 7 (some 24) (Op.load 3 (Operand.tmp 23)) 3 (v := ?v7f8) rfl ?h7f8 hH ?_
     case h7f8 => intro _ _; go_simp; try with_reducible rfl
     try simp only [ps]
     refine tk 8 (some 25) (Op.binOp BinOp.neq 3 (Operand.tmp 20) (Operand.tmp 24) 3) 4 (v := ?v8f9) rfl ?h8f9 hH ?_
     case h8f9 => intro _ _; go_simp; try with_reducible rfl
     try simp only [ps]
     refine wpAnyH_done (by kernel_rfl) ?_ _
     refine NoPanic.normal ?_
     have KF := hid KQ
     go_wp2_with fail
     go_ret
     exact ⟨by rw [HE.out]; rfl, K6.out.trans KF.out⟩
   ·
    have ga : ¬ (q : Int) < (N : Int) := by omega
    obtain rfl : q = N := by omega
    have HE := hid (show B = true from by rw [← HB.out]; refine decide_eq_true ?_; have h := HT.out; rwa [List.take_of_length_le (by rw [HN.out]; exact Nat.le_refl _), List.take_of_length_le (by rw [HN2.out]; exact Nat.le_refl _)] at h)
    go_wp2_with fail
    go_ret
    exact ⟨by rw [HE.out]; rfl, K6.out⟩
 ·
  have hne2 : ¬ (N : Int) = (N2 : Int) := by omega
  have HE := hid (show B = false from by rw [← HB.out]; exact decide_eq_false (fun e => hne (by rw [← HN.out, ← HN2.out, e])))
  go_wp2_with fail
  go_ret
  exact ⟨by rw [HE.out]; rfl, kpt⟩
end Go.Proofs.YtnajcnhgeggngaaGreat.Way

/-! ### Runs0 -/

namespace Go.Proofs.YtnajcnhgeggngaaGreat.Way
open Go.RowKit Go.Proofs.YtnajcnhgeggngaaGreat

mutual
def rxOkB : Rx → Bool
 | .mk _ _ _ _ s kids => decide (kids.length ≤ 1000000) && decide (s.a < 18446744073709551616) && decide (s.b < 18446744073709551616) && decide (s.c < 18446744073709551616) && decide (s.d < 18446744073709551616) && rxOkL kids
def rxOkL : List Rx → Bool
 | [] => true
 | r :: rs => rxOkB r && rxOkL rs
end
theorem rxOkL_mem : ∀ (rs : List Rx), rxOkL rs = true → ∀ r ∈ rs, rxOkB r = true
 | [], _, r, h => by simp at h
 | x :: rs, h, r, hr => by
  unfold rxOkL at h
  rw [Bool.and_eq_true] at h
  rcases List.mem_cons.1 hr with rfl | hr
  ·
   exact h.1
  ·
   exact rxOkL_mem rs h.2 r hr
theorem rxOk_of : ∀ r, rxOkB r = true → RxOk r
 | .mk k mn mx n s kids, h => by
  unfold rxOkB at h
  simp only [Bool.and_eq_true, decide_eq_true_eq] at h
  obtain ⟨⟨⟨⟨⟨h1, h2⟩, h3⟩, h4⟩, h5⟩, h6⟩ := h
  unfold RxOk
  exact ⟨h1, ⟨h2, h3, h4, h5⟩, fun a ha => rxOk_of a (rxOkL_mem kids h6 a ha)⟩
termination_by r => SizeOf.sizeOf r
decreasing_by
 have := List.sizeOf_lt_of_mem ha
 simp
 omega
structure Pd (w : World) (T : Rx) (k mn mx m : Int) (t : W4) (ad : Option Addr) (l c : Nat) : Prop where
 is : Is w (fun _ => True) T (rxv k mn mx m t (.slice ad l c))
theorem Pd.kp {w w' : World} {T : Rx} {k mn mx m : Int} {t : W4} {ad : Option Addr} {l c : Nat} (h : Pd w T k mn mx m t ad l c) (q : Kp w w') : Pd w' T k mn mx m t ad l c := ⟨h.is.kp q⟩
theorem parse_at (s : ByteArray) (ere : Bool) (T : Rx) (n e : Nat) (hs : s.size ≤ 1000000) (hp : pParse s ere = (T, n, e)) (w : World) (h0 : ∃ m, w.cell? ⟨0, 0, none⟩ = some (.int .i64 m)) :
  Calls Tryz.prog 9 #[.string s, .bool ere] w fun en w' => ∃ k mn mx m t ad l c, en = .returned (.tuple #[rxv k mn mx m t (.slice ad l c), .int .i64 (n : Int), .int .i64 (e : Int)]) ∧ Pd w' T k mn mx m t ad l c ∧ Kp w w' := by
 refine (parse_any s ere w h0 hs).mono ?_
 intro en w' hx
 obtain ⟨v, rfl, hI, hk⟩ := hx.ex
 rw [hp] at hI ⊢
 obtain ⟨k, mn, mx, m, t, ad, l, c, rfl⟩ := hI.form
 exact ⟨k, mn, mx, m, t, ad, l, c, rfl, ⟨hI.weak (fun _ _ _ => trivial)⟩, hk⟩
theorem cell0 {w w' : World} (h : ∃ m, w.cell? ⟨0, 0, none⟩ = some (.int .i64 m)) (k : Kp w w') : ∃ m, w'.cell? ⟨0, 0, none⟩ = some (.int .i64 m) := by
 obtain ⟨m, hm⟩ := h
 exact ⟨m, (k.cell (World.block_lt_of_cell? w _ hm)).trans hm⟩


def u1 : ByteArray := ⟨#[97, 42]⟩
def u2 : ByteArray := ⟨#[40, 97, 124, 97, 98, 41, 40, 99, 124, 98, 99, 100, 41]⟩
def x1 : ByteArray := ⟨#[97, 97, 98]⟩
def x2 : ByteArray := ⟨#[97, 98, 99, 100]⟩
def o1 : List Sp := [⟨2, -1, -1, -1, -1, -1, -1⟩, ⟨1, -1, -1, -1, -1, -1, -1⟩, ⟨0, -1, -1, -1, -1, -1, -1⟩]
def o2 : List Sp := [⟨4, 0, 1, 1, 4, -1, -1⟩, ⟨3, 0, 2, 2, 3, -1, -1⟩]
theorem q1 : (pParse u1 false).2 = (0, 0) ∧ right true (pParse u1 false).1 = true ∧ rxOkB (pParse u1 false).1 = true ∧ ways x1.data.toList true (heed 7 (bldE (pParse u1 false).1)) (Sp.at_ 0) = o1 := by decide +kernel
theorem q2 : (pParse u2 true).2 = (0, 0) ∧ right true (pParse u2 true).1 = true ∧ rxOkB (pParse u2 true).1 = true ∧ ways x2.data.toList true (heed 7 (bldE (pParse u2 true).1)) (Sp.at_ 0) = o2 ∧ ways x2.data.toList true (heed 0 (bldE (pParse u2 true).1)) (Sp.at_ 0) = o2 := by decide +kernel
theorem ens2 : (endN o2).mergeSort (fun a b => decide (a ≤ b)) = [3, 4] := by
 rw [show endN o2 = [4, 3] from by decide +kernel]
 simp [List.mergeSort, List.MergeSort.Internal.splitInTwo, List.splitAt, List.splitAt.go]
end Go.Proofs.YtnajcnhgeggngaaGreat.Way

/-! ### Runs1 -/

namespace Go.Proofs.YtnajcnhgeggngaaGreat.Way
set_option maxHeartbeats 2000000
set_option maxRecDepth 100000
open Go.RowKit Go.Proofs.YtnajcnhgeggngaaGreat

theorem stl_at {w : World} {ok : Nat → Prop} {v : Value} {xs : List Sp} (h : StL w ok v xs) (n : Nat) (hn : xs.length = n) (h0 : 0 < n) : ∃ b c, v = .slice (some ⟨b, 0, none⟩) n c ∧ n ≤ c ∧ ∀ (j : Nat) x, xs[j]? = some x → ∀ i u, (stc x)[i]? = some u → w.cell? ⟨b, j * 9 + i, none⟩ = some u := by
 subst hn
 obtain ⟨ad, c, h1, h2, h3⟩ := h.ex
 obtain ⟨b, e, -, -, hc⟩ := h3 h0
 subst e
 exact ⟨b, c, h1, h2, hc⟩
theorem StL.kp {w w' : World} {ok : Nat → Prop} {v : Value} {xs : List Sp} (h : StL w ok v xs) (k : Kp w w') : StL w' ok v xs := h.keep k.size (fun b hb hl => ⟨hb, k.block b hl⟩)
theorem NuL.kp {w w' : World} {ok : Nat → Prop} {v : Value} {xs : List Nat} (h : NuL w ok v xs) (k : Kp w w') : NuL w' ok v xs := h.keep k.size (fun b hb hl => ⟨hb, k.block b hl⟩)
theorem nul34 (w : World) : NuL (w.alloc (.cells #[.int .i64 3, .int .i64 4] 3)) (fun _ => True) (.slice (some ⟨w.heap.size, 0, none⟩) 2 2) [3, 4] := by
 refine ⟨_, _, rfl, Nat.le_refl _, fun _ => ⟨_, rfl, trivial, by simp, fun j x hj => ?_⟩⟩
 match j, hj with
 | 0, hj =>
  obtain rfl : 3 = x := by simpa using hj
  exact bl_cell (last_of _ _) 0 _ rfl
 | 1, hj =>
  obtain rfl : 4 = x := by simpa using hj
  exact bl_cell (last_of _ _) 1 _ rfl
 | j + 2, hj => simp at hj
theorem runs_any (w : World) (h0 : ∃ m, w.cell? ⟨0, 0, none⟩ = some (.int .i64 m)) : Calls Tryz.prog 3 #[] w fun e w' => e = .returned (.bool true) ∧ Kp w w' := by
 have Z0 := hid h0
 clear h0
 obtain ⟨T1, n1, e1, hp1⟩ : ∃ T n e, pParse u1 false = (T, n, e) := ⟨_, _, _, rfl⟩
 have f1 := q1
 rw [hp1] at f1
 have PA1 := hid (parse_at u1 false T1 n1 e1 (by decide) hp1)
 have F1 := hid f1
 have hn1 : n1 = 0 := by have := f1.1; injection this
 have he1 : e1 = 0 := by have := f1.1; injection this
 subst hn1
 subst he1
 clear hp1 f1
 obtain ⟨T2, n2, e2, hp2⟩ : ∃ T n e, pParse u2 true = (T, n, e) := ⟨_, _, _, rfl⟩
 have f2 := q2
 rw [hp2] at f2
 have PA2 := hid (parse_at u2 true T2 n2 e2 (by decide) hp2)
 have F2 := hid f2
 have hn2 : n2 = 0 := by have := f2.1; injection this
 have he2 : e2 = 0 := by have := f2.1; injection this
 subst hn2
 subst he2
 clear hp2 f2
 go_enter Tryz.func3, Tryz.ntmps3
 go_wp2_with fail
 refine (PA1.out _ Z0.out).mono ?_
 rintro e w1 ⟨k1, mn1, mx1, m1, t1, ad1, l1, c1, rfl, hd, hk⟩
 have D1 := hid hd
 have K1 := hid hk
 clear hd hk
 go_upto_region 2 with fail
 refine opq (fun W2 => W2.heap[w1.heap.size]? = some (rxo k1 mn1 mx1 m1 t1 (.slice ad1 l1 c1)) ∧ Pd W2 T1 k1 mn1 mx1 m1 t1 ad1 l1 c1 ∧ Kp w W2) ⟨by exact last_of _ _, by exact D1.out.kp ((Kp.refl _).alloc _), by exact K1.out.alloc _⟩ ?_
 rintro W2 ⟨xR2, xD2, xK2⟩
 have R2 := hid xR2
 have D2 := hid xD2
 have K2 := hid xK2
 clear xR2 xD2 xK2
 go_wp2_with fail
 refine (PA2.out _ (cell0 Z0.out K2.out)).mono ?_
 rintro e w3 ⟨k2, mn2, mx2, m2, t2, ad2, l2, c2, rfl, hd, hk⟩
 have E3 := hid hd
 have D3 := hid (D2.out.kp hk)
 have R3 := hid (bl_kp R2.out hk)
 have K3 := hid (K2.out.trans hk)
 clear hd hk
 go_upto_region 3 with fail
 refine opq (fun W4 => W4.heap[w3.heap.size]? = some (rxo k2 mn2 mx2 m2 t2 (.slice ad2 l2 c2)) ∧ W4.heap[w1.heap.size]? = some (rxo k1 mn1 mx1 m1 t1 (.slice ad1 l1 c1)) ∧ Pd W4 T1 k1 mn1 mx1 m1 t1 ad1 l1 c1 ∧ Pd W4 T2 k2 mn2 mx2 m2 t2 ad2 l2 c2 ∧ Kp w W4) ⟨by exact last_of _ _, by exact bl_alloc R3.out _, by exact D3.out.kp ((Kp.refl _).alloc _), by exact E3.out.kp ((Kp.refl _).alloc _), by exact K3.out.alloc _⟩ ?_
 rintro W4 ⟨xQ4, xR4, xD4, xE4, xKW⟩
 have Q4 := hid xQ4
 have R4 := hid xR4
 have D4 := hid xD4
 have E4 := hid xE4
 have KW := hid xKW
 clear xQ4 xR4 xD4 xE4 xKW
 have WA1 := hid (fun W (k : Kp W4 W) => wys_any T1 x1 true 0 (by decide) F1.out.2.1 (by decide) o1 F1.out.2.2.2 (by decide) _ k1 mn1 mx1 m1 t1 ad1 l1 c1 W (rxOk_of _ F1.out.2.2.1) (D4.out.kp k).is)
 have WA2 := hid (fun W (k : Kp W4 W) => wys_any T2 x2 true 0 (by decide) F2.out.2.1 (by decide) o2 F2.out.2.2.2.1 (by decide) _ k2 mn2 mx2 m2 t2 ad2 l2 c2 W (rxOk_of _ F2.out.2.2.1) (E4.out.kp k).is)
 have EA2 := hid (fun W (k : Kp W4 W) => ens_any T2 x2 true 0 (by decide) F2.out.2.1 (by decide) o2 F2.out.2.2.2.2 (by decide) _ k2 mn2 mx2 m2 t2 ad2 l2 c2 W (rxOk_of _ F2.out.2.2.1) (E4.out.kp k).is)
 clear D1 D2 D3 E3 D4 E4 R2 R3 K1 K2 K3 PA1 PA2 F1 F2 Z0
 have Q0 : Kp W4 W4.drew := (Kp.refl _).drew
 have MK : Hid (∀ W, Kp W4 W → W.cell? ⟨w1.heap.size, 0, none⟩ = some (.int .i64 k1) ∧ W.cell? ⟨w1.heap.size, 1, none⟩ = some (.int .i64 mn1) ∧ W.cell? ⟨w1.heap.size, 2, none⟩ = some (.int .i64 mx1) ∧ W.cell? ⟨w1.heap.size, 3, none⟩ = some (.int .i64 m1) ∧ W.cell? ⟨w1.heap.size, 4, none⟩ = some (.int .u64 (t1.a : Int)) ∧ W.cell? ⟨w1.heap.size, 5, none⟩ = some (.int .u64 (t1.b : Int)) ∧ W.cell? ⟨w1.heap.size, 6, none⟩ = some (.int .u64 (t1.c : Int)) ∧ W.cell? ⟨w1.heap.size, 7, none⟩ = some (.int .u64 (t1.d : Int)) ∧ W.cell? ⟨w1.heap.size, 8, none⟩ = some (.slice ad1 l1 c1) ∧ W.cell? ⟨w3.heap.size, 0, none⟩ = some (.int .i64 k2) ∧ W.cell? ⟨w3.heap.size, 1, none⟩ = some (.int .i64 mn2) ∧ W.cell? ⟨w3.heap.size, 2, none⟩ = some (.int .i64 mx2) ∧ W.cell? ⟨w3.heap.size, 3, none⟩ = some (.int .i64 m2) ∧ W.cell? ⟨w3.heap.size, 4, none⟩ = some (.int .u64 (t2.a : Int)) ∧ W.cell? ⟨w3.heap.size, 5, none⟩ = some (.int .u64 (t2.b : Int)) ∧ W.cell? ⟨w3.heap.size, 6, none⟩ = some (.int .u64 (t2.c : Int)) ∧ W.cell? ⟨w3.heap.size, 7, none⟩ = some (.int .u64 (t2.d : Int)) ∧ W.cell? ⟨w3.heap.size, 8, none⟩ = some (.slice ad2 l2 c2) ∧ Hid (Kp W4 W)) := fun W k => ⟨bl_cell (bl_kp R4.out k) 0 _ rfl, bl_cell (bl_kp R4.out k) 1 _ rfl, bl_cell (bl_kp R4.out k) 2 _ rfl, bl_cell (bl_kp R4.out k) 3 _ rfl, bl_cell (bl_kp R4.out k) 4 _ rfl, bl_cell (bl_kp R4.out k) 5 _ rfl, bl_cell (bl_kp R4.out k) 6 _ rfl, bl_cell (bl_kp R4.out k) 7 _ rfl, bl_cell (bl_kp R4.out k) 8 _ rfl, bl_cell (bl_kp Q4.out k) 0 _ rfl, bl_cell (bl_kp Q4.out k) 1 _ rfl, bl_cell (bl_kp Q4.out k) 2 _ rfl, bl_cell (bl_kp Q4.out k) 3 _ rfl, bl_cell (bl_kp Q4.out k) 4 _ rfl, bl_cell (bl_kp Q4.out k) 5 _ rfl, bl_cell (bl_kp Q4.out k) 6 _ rfl, bl_cell (bl_kp Q4.out k) 7 _ rfl, bl_cell (bl_kp Q4.out k) 8 _ rfl, k⟩
 refine wp_region_noPanic ?_
 refine hdrew MK Q0 (fun hH => ?_)
 have KQ := Q0
 refine tk 0 (some 19) (Op.load 27 (Operand.tmp 1)) 27 (v := ?v0r1) rfl ?h0r1 hH ?_
 case h0r1 => intro _ _; go_simp; try with_reducible rfl
 try simp only [ps]
 refine tk 2 (some 21) (Op.load 27 (Operand.tmp 4)) 27 (v := ?v2r2) rfl ?h2r2 hH ?_
 case h2r2 => intro _ _; go_simp; try with_reducible rfl
 try simp only [ps]
 refine wpAnyH_ready (rs := [1]) (by kernel_rfl) (by simp) ?_
 refine AllReadyH.cons (o := { dst := some 20, op := Op.call { callee := Callee.value (Operand.func 10), args := #[Operand.tmp 19, Operand.const (Value.string { data := #[97, 97, 98] }), Operand.const (Value.bool true), Operand.const (Value.int IntKind.i64 0)], argTypes := #[27, 9, 4, 3] }, type := 31, pos := "law.go:18", after := #[{ on := 0, ground := Ground.data }], guard := none }) rfl (fun K hKq => ?_) AllReadyH.nil
 go_simp
 refine (WA1.out _ KQ).mono ?_
 rintro e y1 hd0
 obtain ⟨v1, rfl, hs1, kq⟩ := hd0.ex
 have S1 := hid hs1
 clear hd0 hs1
 refine hKq.out _ _ (MK.out _ (KQ.trans kq)) (fun hN => ?_)
 clear kq
 clear hKq K hH KQ
 have hH := hN
 clear hN
 have KQ := hH.2.2.2.2.2.2.2.2.2.2.2.2.2.2.2.2.2.2.out
 try simp only [ps]
 refine wpAnyH_ready (rs := [3]) (by kernel_rfl) (by simp) ?_
 refine AllReadyH.cons (o := { dst := some 22, op := Op.call { callee := Callee.value (Operand.func 10), args := #[Operand.tmp 21, Operand.const (Value.string { data := #[97, 98, 99, 100] }), Operand.const (Value.bool true), Operand.const (Value.int IntKind.i64 0)], argTypes := #[27, 9, 4, 3] }, type := 31, pos := "law.go:18", after := #[{ on := 2, ground := Ground.data }, { on := 1, ground := Ground.chain }], guard := none }) rfl (fun K hKq => ?_) AllReadyH.nil
 go_simp
 refine (WA2.out _ KQ).mono ?_
 rintro e y2 hd0
 obtain ⟨v2, rfl, hs2, kq⟩ := hd0.ex
 have S2 := hid hs2
 have S12 := hid (S1.out.kp kq)
 clear hd0 hs2
 refine hKq.out _ _ (MK.out _ (KQ.trans kq)) (fun hN => ?_)
 clear kq
 clear hKq K hH KQ
 have hH := hN
 clear hN
 have KQ := hH.2.2.2.2.2.2.2.2.2.2.2.2.2.2.2.2.2.2.out
 try simp only [ps]
 refine tk 4 (some 7) (Op.assign (Operand.tmp 20)) 31 (v := ?v4r3) rfl ?h4r3 hH ?_
 case h4r3 => intro _ _; go_simp; try with_reducible rfl
 try simp only [ps]
 refine tk 5 (some 8) (Op.assign (Operand.tmp 22)) 31 (v := ?v5r4) rfl ?h5r4 hH ?_
 case h5r4 => intro _ _; go_simp; try with_reducible rfl
 try simp only [ps]
 refine wpAnyH_done (by kernel_rfl) ?_ _
 refine NoPanic.normal ?_
 have KF := hid KQ
 obtain ⟨b1, d1, rfl, -, hc1⟩ := stl_at S12.out 3 rfl (by decide)
 obtain ⟨b2, d2, rfl, -, hc2⟩ := stl_at S2.out 2 rfl (by decide)
 have g1 : y2.cell? ⟨b1, 0, none⟩ = some (.int .i64 2) := hc1 0 _ rfl 0 _ rfl
 have g2 : y2.cell? ⟨b1, 18, none⟩ = some (.int .i64 0) := hc1 2 _ rfl 0 _ rfl
 have g3 : y2.cell? ⟨b2, 0, none⟩ = some (.int .i64 4) := hc2 0 _ rfl 0 _ rfl
 have g4 : y2.cell? ⟨b2, 3, none⟩ = some (.int .i64 0) := hc2 0 _ rfl 3 _ rfl
 have g5 : y2.cell? ⟨b2, 4, none⟩ = some (.int .i64 1) := hc2 0 _ rfl 4 _ rfl
 have g6 : y2.cell? ⟨b2, 9, none⟩ = some (.int .i64 3) := hc2 1 _ rfl 0 _ rfl
 clear hc1 hc2 S1 S12 S2
 obtain ⟨q0, q1, q2, q3, q4, q5, q6, q7, q8⟩ := cells9 (bl_kp Q4.out KF.out)
 go_wp2_with fail
 refine (EA2.out _ KF.out).mono ?_
 rintro e y3 hd0
 obtain ⟨v3, rfl, hn, kq⟩ := hd0.ex
 rw [ens2] at hn
 have N3 := hid (hn.kp ((Kp.refl _).alloc (.cells #[.int .i64 3, .int .i64 4] 3)))
 have K3 := hid (KF.out.trans kq)
 clear hd0 hn kq g1 g2 g3 g4 g5 g6 q0 q1 q2 q3 q4 q5 q6 q7 q8
 go_wp2_with fail
 refine (eqn_any [3, 4] [3, 4] _ _ _ _ (by decide) _ N3.out (nul34 _)).mono ?_
 rintro e y4 ⟨rfl, kq⟩
 have K4 := hid ((K3.out.alloc _).trans kq)
 clear kq
 go_wp2_with fail
 go_ret
 exact ⟨rfl, KW.out.trans K4.out⟩
end Go.Proofs.YtnajcnhgeggngaaGreat.Way

/-! ### WayRunsProof -/

namespace Go.Proofs.YtnajcnhgeggngaaGreat.wayRuns
set_option maxHeartbeats 2000000
set_option maxRecDepth 100000
open Go.ChangeShapes Go.WideShapes Go.ChangeAt Go.RowKit

theorem own : ownKnob Tryz.prog.godebug = none := by kernel_rfl

theorem lifted (os : Os) (started : os.Started) (H : Type) (enc : TypeId × Value → H) :
  ReturnsInHanded {} Tryz.checked os 3 .any (Rows.wayRunsSpec.pre6 enc Tryz.prog Tryz.f3 Rows.wayRunsRow.domain false) (Rows.wayRunsSpec.post enc Tryz.prog Tryz.f3 false true false false) := by
 refine returnsInHanded_of_change_shaped (C := Tryz.checked) own started (by kernel_rfl) Tryz.func3
  (ChangeSpec.witness6 (enc := enc) (C := Tryz.checked) false ⟨#[], #[], []⟩ 8 (by kernel_rfl) (by kernel_rfl) (by kernel_rfl) (by kernel_rfl)) ?_
 intro W base args ds gs before hval0 hW _ _ hsh _
 have hW' := hW
 obtain ⟨p, q, hA0, hV, rfl, _, _⟩ := hW
 have hA : DataW.TrodAll enc Tryz.prog W 0 (fun _ => true) true Tryz.f3.params.toList args.toList ds p := hA0
 rw [Tryz.params3] at hA
 obtain ⟨rfl, rfl, rfl⟩ := trodAll_none hA
 obtain ⟨rfl, rfl⟩ := trodVars_none hV
 clear hA0 hval0
 refine (Way.runs_any W (cell_of_shapedOpen_int (P := Tryz.prog) (g := 0) (t := 3) (zero := #[.int .i64 0]) hsh (of_decide_eq_true (by kernel_rfl)) (by kernel_rfl) rfl (by kernel_rfl) (by kernel_rfl) Tryz.underlying3)).mono fun e W' ⟨he, hg⟩ => ?_
 subst he
 exact ⟨_, rfl, _, _, _, [], _, [], hW', trodAll_mk1 (shut_bool Tryz.underlying4 _), rfl, rfl, Below.frame hg _, fun h => by cases h⟩

end Go.Proofs.YtnajcnhgeggngaaGreat.wayRuns
namespace Go.Proofs.YtnajcnhgeggngaaGreat
open Go.ChangeShapes Go.WideShapes Go.ChangeAt Go.RowKit

theorem wayRuns_holds : Rows.WayRunsSaid :=
 OpenClaim.holds_of_wide 3 Tryz.f3 rfl rfl rfl rfl rfl rfl rfl ⟨rfl, rfl, rfl, rfl, rfl⟩ rfl rfl rfl rfl rfl (by kernel_rfl) Tryz.func3 (by kernel_rfl)
  (of_decide_eq_true (by kernel_rfl)) (by unfold Func.isWrapper; first | (rw [if_pos (by decide +kernel)]; kernel_rfl) | (rw [if_neg (by decide +kernel)]; exact ⟨rfl, rfl⟩))
  (fun os started H enc _ => wayRuns.lifted os started H enc)

end Go.Proofs.YtnajcnhgeggngaaGreat
