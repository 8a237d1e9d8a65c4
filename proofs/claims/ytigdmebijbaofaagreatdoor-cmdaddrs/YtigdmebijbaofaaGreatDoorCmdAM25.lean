/-
  Texts of this claim: Cm9, CmG.
-/
import Derived.Test.YtigdmebijbaofaaGreatDoorCmdAM4
import Derived.Test.YtigdmebijbaofaaGreatDoorCmdAM20
import Derived.Test.YtigdmebijbaofaaGreatDoorCmdAM24

/-! ### Cm9 -/

namespace Go.Proofs.YtigdmebijbaofaaGreatDoor
set_option maxHeartbeats 2000000
set_option maxRecDepth 100000
open Go.RowKit

theorem writtenP_any (p : Pc) (w : World) (hs : p.s.size ≤ 1000000) : Calls Tryz.prog 138 #[.agg #[.int .i64 p.g, .string p.s]] w fun e w' => e = .returned (.string (bs (pcT p))) ∧ Kp w w' := by
 obtain ⟨g, s⟩ := p
 obtain ⟨S, hS⟩ : ∃ S, pcT ⟨g, s⟩ = S := ⟨_, rfl⟩
 rw [hS]
 have HS : Hid (pcT ⟨g, s⟩ = S) := hS
 have hs' : s.size ≤ 1000000 := hs
 clear hS hs
 show Calls Tryz.prog 138 #[.agg #[.int .i64 g, .string s]] w fun e w' => e = .returned (.string (bs S)) ∧ Kp w w'
 go_enter Tryz.func138, Tryz.ntmps138
 by_cases h1 : g = -1
 ·
  subst h1
  have E : Hid (S = quotT s.data.toList) := by show _ = _; rw [← HS.out]; rfl
  go_wp2_with fail
  refine (quoted2_any s _ hs').mono ?_
  rintro e w1 ⟨rfl, k1⟩
  have K1 : Hid (Kp w w1) := ((Kp.refl _).alloc _).trans k1
  clear k1
  go_wp2_with fail
  go_ret
  exact ⟨by rw [E.out]; rfl, K1.out⟩
 have n1 : (g == -1) = false := by simp [h1]
 by_cases h2 : g = 0
 ·
  subst h2
  have E : Hid (S = [38]) := by show _ = _; rw [← HS.out]; rfl
  go_wp2_with fail
  go_ret
  exact ⟨by rw [E.out]; rfl, (Kp.refl _).alloc _⟩
 have n2 : (g == 0) = false := by simp [h2]
 by_cases h3 : 0 < g
 ·
  obtain ⟨m, rfl⟩ : ∃ m : Nat, g = m := ⟨g.toNat, by omega⟩
  by_cases h9 : (m : Int) ≤ 9
  ·
   have E : Hid (bs S = bs [92] ++ bs (dec m)) := by
    show _ = _
    rw [← HS.out, bs_app]
    unfold pcT
    rw [if_neg h1, if_neg h2, if_pos ⟨h3, h9⟩]
    rfl
   rw [E.out]
   obtain ⟨X, hX⟩ : ∃ X, bs (dec m) = X := ⟨_, rfl⟩
   have hz : X.size ≤ 2 := by rw [← hX, bs_size]; exact dec_len m (by omega)
   have IT : Hid (∀ w, Calls Tryz.prog 76 #[.int .i64 (m : Int)] w fun e w' => e = .returned (.string X) ∧ w' = w) := fun w => by rw [← hX]; exact itoa_any m (by omega) w
   rw [hX]
   clear hX E
   go_wp2_with fail
   refine (IT.out _).mono ?_
   rintro e w1 ⟨rfl, rfl⟩
   go_wp2_with fail
   go_ret
   exact ⟨rfl, (Kp.refl _).alloc _⟩
  ·
   have E : Hid (S = []) := by
    show _ = _
    rw [← HS.out]
    unfold pcT
    rw [if_neg h1, if_neg h2, if_neg (fun h => h9 h.2)]
   go_wp2_with fail
   go_ret
   exact ⟨by rw [E.out]; rfl, (Kp.refl _).alloc _⟩
 ·
  have E : Hid (S = []) := by
   show _ = _
   rw [← HS.out]
   unfold pcT
   rw [if_neg h1, if_neg h2, if_neg (fun h => h3 h.1)]
  go_wp2_with fail
  go_ret
  exact ⟨by rw [E.out]; rfl, (Kp.refl _).alloc _⟩

theorem pcT_size (p : Pc) : (pcT p).length ≤ 2 * p.s.size + 3 := by
 unfold pcT
 split
 ·
  have := quotT_len p.s.data.toList
  have e : p.s.data.toList.length = p.s.size := Array.length_toList
  omega
 ·
  split
  ·
   simp
  ·
   split
   ·
    rename_i h3
    have := dec_len p.g.toNat (by omega)
    simp; omega
   ·
    simp
theorem tplT_more (P : List Pc) (q : Nat) (p : Pc) (h : P[q]? = some p) : Lib.byteCells (tplT (P.take (q + 1))) = Lib.byteCells (tplT (P.take q)) ++ Lib.strCells (bs (pcT p)) := by
 rw [List.take_add_one, h]
 simp [tplT, Lib.byteCells, Lib.strCells, bs]
structure PcFew (P : List Pc) : Prop where
 few : P.length ≤ 1000000
 all : ∀ p ∈ P, p.s.size ≤ 400

theorem tplP_any (P : List Pc) (ad : Option Addr) (l c : Nat) (w : World) (hP : PcAt w P ad l c) (hF : PcFew P) : Calls Tryz.prog 98 #[.slice ad l c] w fun e w' => e = .returned (.string (bs (tplT P))) ∧ Kp w w' := by
 obtain ⟨S, hS⟩ : ∃ S, tplT P = S := ⟨_, rfl⟩
 rw [hS]
 have HS := hid hS
 obtain ⟨L, hL⟩ : ∃ L, P.length = L := ⟨_, rfl⟩
 have hll := hP.ln
 have hcp := hP.cp
 have hfew := hF.few
 rw [hL] at hll hfew
 subst hll
 have HP := hid hP
 have HL := hid hL
 have HF := hid hF
 clear hP hL hS hF
 go_enter Tryz.func98, Tryz.ntmps98
 go_upto_region 2 with fail
 refine opq (fun W => Bd (w.heap.size + 1) w.heap.size [] W ∧ Kp w W ∧ w.heap.size + 1 ≤ W.heap.size) ⟨Bd.new _ w.heap.size _ (last_of _ _) rfl _, (Kp.refl _).alloc _, by simp⟩ ?_
 rintro W0 ⟨y1, y2, y3⟩
 have BD := hid y1
 have K0 := hid y2
 have HZ := hid y3
 clear y1 y2 y3
 go_wp2_with fail
 go_loopg [8] l (fun gg v wr => ∃ (q : Nat) (Lv : List Value), q + gg = l ∧ v = .int .i64 (q : Int) ∧ Lv = Lib.byteCells (tplT (P.take q)) ∧ Lv.length ≤ 803 * q ∧ Bd (w.heap.size + 1) w.heap.size Lv wr ∧ Kb (w.heap.size + 1) w.heap.size W0 wr)
 case atStart => exact ⟨0, [], by omega, rfl, by simp [tplT, Lib.byteCells], by simp, BD.out, Kb.refl _ _ _⟩
 case round =>
  obtain ⟨q, Lv, hq, rfl, hLv, hl, hB, hK⟩ := hrel
  have HLv := hid hLv
  have B := hid hB
  have K := hid hK
  have hzr : w.heap.size + 1 ≤ wr.heap.size := by have := K.out.size; have := HZ.out; omega
  clear hLv hB hK BD
  by_cases hlt : q < l
  ·
   have gkw : IntKind.i64.wrap ((q : Int) + 1) = (q : Int) + 1 := by rw [IntKind.wrap_i64]; omega
   have ga : (q : Int) < (l : Int) := by omega
   have g0 : (0 : Int) ≤ (q : Int) := by omega
   obtain ⟨p, hp⟩ : ∃ p, P[q]? = some p := ⟨_, List.getElem?_eq_getElem (by rw [HL.out]; exact hlt)⟩
   obtain ⟨bb, oo, e1, hbb, c1', c2'⟩ := HP.out.get q p hp
   subst e1
   have KW : Hid (Kp w wr) := Below.trans K0.out (K.out.below w.heap.size (by omega) (by omega))
   have c1 := (KW.out.cell (p := ⟨bb, oo + q * 2, none⟩) hbb).trans c1'
   have c2 := (KW.out.cell (p := ⟨bb, oo + q * 2 + 1, none⟩) hbb).trans c2'
   clear c1' c2'
   have hpf := HF.out.all p (List.mem_of_getElem? hp)
   have hpl := pcT_size p
   have ST := hid (tplT_more P q p hp)
   obtain ⟨X, hX⟩ : ∃ X, bs (pcT p) = X := ⟨_, rfl⟩
   have WR : Hid (∀ w, Calls Tryz.prog 138 #[.agg #[.int .i64 p.g, .string p.s]] w fun e w' => e = .returned (.string X) ∧ Kp w w') := fun w => by rw [← hX]; exact writtenP_any p w (by omega)
   have hxs : X.size ≤ 803 := by rw [← hX, bs_size]; omega
   rw [hX] at ST
   clear hX hp hpl
   obtain ⟨g, s⟩ := p
   have hzr' := hid hzr
   clear hzr
   go_upto_region 5 with fail
   clear c1 c2
   refine opq (fun W => W.heap[wr.heap.size]? = some (.cells #[.int .i64 g, .string s] 34) ∧ Kp wr W) ⟨by first | exact last_at _ _ _ (by simp) | exact bl_put (bl_put (last_at _ _ _ (by simp)) _) _, by repeat (first | exact Kp.refl _ | refine Kp.alloc ?_ _ | refine Kp.setCell ?_ ?_ _ | (simp; omega))⟩ ?_
   rintro W1 ⟨y1, y2⟩
   have A1 := hid y1
   have K1 := hid y2
   clear y1 y2
   have a0 := bl_cell A1.out 0 _ rfl
   have a1 := bl_cell A1.out 1 _ rfl
   go_wp2_with fail
   clear a0 a1
   refine (WR.out _).mono ?_
   rintro e W2 ⟨rfl, k2⟩
   have K2 := hid (K1.out.trans k2)
   have hz2 : Hid (w.heap.size + 1 ≤ W2.heap.size) := by have := K2.out.size; have := hzr'.out; show _ ≤ _; omega
   clear k2
   go_wp2_with fail
   refine (writeString_any (w.heap.size + 1) w.heap.size Lv X _ (B.out.kp K2.out) (by omega) hz2.out (by omega)).mono ?_
   rintro e W3 ⟨rfl, b1, k1⟩
   have B3 := hid b1
   have K3 := hid (K.out.trans ((K2.out.kb hzr'.out).trans k1))
   clear b1 k1
   go_wp2_with fail
   go_roundg (gk - 1)
   case measure => omega
   case rel => exact ⟨q + 1, Lv ++ Lib.strCells X, by omega, by go_num, by rw [ST.out, ← HLv.out], by simp only [List.length_append, Lib.strCells_length]; omega, B3.out, K3.out⟩
  ·
   have ga : ¬ (q : Int) < (l : Int) := by omega
   have hLe : Lv = Lib.byteCells S := by rw [HLv.out, List.take_of_length_le (by rw [HL.out]; omega), HS.out]
   subst hLe
   go_wp2_with fail
   refine (builderString_any (w.heap.size + 1) w.heap.size S _ w.heap.size B.out (by omega) (by omega) (by omega)).mono ?_
   rintro e y ⟨rfl, k1⟩
   have KY : Hid (Kp w y) := Below.trans (Below.trans K0.out (K.out.below w.heap.size (by omega) (by omega))) k1
   clear k1
   go_wp2_with fail
   go_ret
   exact ⟨rfl, KY.out⟩

end Go.Proofs.YtigdmebijbaofaaGreatDoor

/-! ### CmG -/

namespace Go.Proofs.YtigdmebijbaofaaGreatDoor
set_option maxHeartbeats 2000000
set_option maxRecDepth 100000
open Go.RowKit

theorem kind_top {op n : Nat} (h : kindN op = n) : n ≤ 6 := by
 rw [← h]
 unfold kindN
 repeat' split
 all_goals omega
theorem yields_cv {ops : Array Oper} {S : World → Prop} {op : Oper} {a : Act} (hw : Region.wanted op (yielded ops a.tmps) = true) {x : Operand} (ho : op.op = .load 37 x) {B : Nat} (hx : a.eval x = .pointer (some ⟨B, 0, none⟩)) (c : Cv) (hS : ∀ w, S w → w.heap[B]? = some c.o) : YieldsIf Tryz.prog ops S op c.v a :=
 yieldsIf_load_mid hw 37 x ho B 0 hx c.cs.toList _ (fun w h j v hv => by rw [Nat.zero_add]; exact bl_cell (hS w h) j v (by rw [← Array.getElem?_toList]; exact hv)) Tryz.underlying37 rfl (by kernel_rfl)
theorem tplT_len (P : List Pc) (h : PcFew P) : (tplT P).length ≤ 803 * P.length := by
 have : ∀ P : List Pc, (∀ p ∈ P, p.s.size ≤ 400) → (tplT P).length ≤ 803 * P.length := by
  intro P
  induction P with
  | nil => intro _; simp [tplT]
  | cons x P ih =>
   intro h
   have h1 := ih (fun p hp => h p (by simp [hp]))
   have h2 := pcT_size x
   have h3 := h x (by simp)
   unfold tplT at h1 ⊢
   rw [List.flatMap_cons, List.length_append, List.length_cons]
   omega
 exact this P h.all
theorem few_of_tpl (P : List Pc) (G : Int) (hl : P.length ≤ 1000000) (h : tplR P G = true) : PcFew P := by
 refine ⟨hl, ?_⟩
 have : ∀ (P : List Pc) (t : Bool), tplL t P G = true → ∀ p ∈ P, p.s.size ≤ 400 := by
  intro P
  induction P with
  | nil => intro _ _ p hp; cases hp
  | cons x P ih =>
   intro t h p hp
   rw [tplL] at h
   simp only [Bool.and_eq_true] at h
   rcases List.mem_cons.1 hp with rfl | hp
   ·
    have := h.1.1
    unfold pcR at this
    split at this
    ·
     simp only [Bool.and_eq_true, decide_eq_true_eq] at this; omega
    ·
     simp only [Bool.and_eq_true, decide_eq_true_eq] at this; omega
   ·
    exact ih _ h.2 p hp
 exact this P false h
theorem flagsT_len (c : Cv) (h : c.tx.size ≤ 1000000) (h0 : 0 ≤ c.nth) (h9 : c.nth ≤ 99) : (flagsT c).length ≤ 1000010 := by
 unfold flagsT nameT
 have e : c.tx.data.toList.length = c.tx.size := Array.length_toList
 have := dec_len c.nth.toNat (by omega)
 simp only [List.length_append]
 have a1 : (if c.g = true then [103] else ([] : List UInt8)).length ≤ 1 := by split <;> simp
 have a2 : (if c.s = true then [112] else ([] : List UInt8)).length ≤ 1 := by split <;> simp
 have a3 : (if c.nth = 0 then ([] : List UInt8) else dec c.nth.toNat).length ≤ 2 := by split; simp; exact this
 have a4 : (if c.tx.data.toList = [] then ([] : List UInt8) else [119] ++ if c.tx.data.toList = [] then [] else [32] ++ c.tx.data.toList).length ≤ 1000002 := by
  split
  ·
   simp
  ·
   simp; omega
 omega

theorem rest_any (c : Cv) (A B R : Rx) (P : List Pc) (ere : Bool) (hO : COk c A B R P) (hA : askedR c R P ere = true) (w : World) (hc : CIs w c A B R P) : Calls Tryz.prog 53 #[c.v, .bool ere] w fun e w' => e = .returned (.string (bs (restT c R P ere))) ∧ Kp w w' := by
 obtain ⟨E, hE⟩ : ∃ E, bs (restT c R P ere) = E := ⟨_, rfl⟩
 rw [hE]
 obtain ⟨n, hn⟩ : ∃ n, kindN c.op = n := ⟨_, rfl⟩
 unfold restT at hE
 unfold askedR at hA
 rw [hn] at hE hA
 have C1 : Hid (∀ w, Calls Tryz.prog 95 #[.int .u8 (c.op : Int)] w fun e w' => e = .returned (.int .i64 (n : Int)) ∧ w' = w) := fun w => by rw [← hn]; exact kind_any c.op w
 have HE := hid hE
 have HA := hid hA
 have HC := hid hc
 have hnn : n ≤ 6 := kind_top hn
 clear hE hn hc hA
 have z1 : (bs [92, 10]).size = 2 := rfl
 have z2 : (bs [47]).size = 1 := rfl
 go_enter Tryz.func53, Tryz.ntmps53
 go_upto_region 1 with fail
 refine opq (fun W0 => W0.heap[w.heap.size]? = some c.o ∧ Kp w W0 ∧ CIs W0 c A B R P) ⟨by (first | exact last_at _ _ _ (by simp) | (refine bl_alloc ?_ _; first | exact last_at _ _ _ (by simp) | (refine bl_alloc ?_ _; first | exact last_at _ _ _ (by simp) | (refine bl_alloc ?_ _; exact last_at _ _ _ (by simp))))), by exact kpt, by exact HC.out.kp kpt⟩ ?_
 rintro W0 ⟨xA0, xK0, xI0⟩
 have A0 := hidT xA0
 have K0 := hidT xK0
 have I0 := hidT xI0
 clear xA0 xK0 xI0
 clear HC
 have a23 := bl_cell A0.out 23 (.int .u8 (c.op : Int)) rfl
 go_wp2_with fail
 refine (C1.out _).mono ?_
 rintro e W0 ⟨rfl, rfl⟩
 clear a23
 by_cases h2 : n = 2
 ·
  subst h2
  as_aux_lemma =>
  obtain ⟨X, hX⟩ : ∃ X, bs (linesT c.tx.data.toList) = X := ⟨_, rfl⟩
  have hz : X.size ≤ 2000000 := by
   rw [← hX, bs_size]
   have e : c.tx.data.toList.length = c.tx.size := Array.length_toList
   have := hO.tx
   have := linesT_len c.tx.data.toList
   omega
  have CQ := hid (fun w => linesText_any c.tx w hO.tx)
  have E2 : Hid (E = bs [92, 10] ++ X) := by show _ = _; rw [← HE.out, ← hX]; first | rfl | (rw [bs_app])
  rw [hX] at CQ
  clear hX HE
  have a24 := bl_cell A0.out 24 (.string c.tx) rfl
  go_wp2_with fail
  clear a24
  refine (CQ.out _).mono ?_
  rintro e W1 k1
  obtain ⟨rfl, k1⟩ := k1
  have K1 : Hid (Kp w W1) := by first | exact K0.out.trans k1 | (rw [k1]; exact K0.out)
  clear k1
  go_wp2_with fail
  go_ret
  exact ⟨by rw [E2.out]; rfl, K1.out⟩
 by_cases h3 : n = 3
 ·
  subst h3
  as_aux_lemma =>
  obtain ⟨X, hX⟩ : ∃ X, bs (nameT c.tx.data.toList) = X := ⟨_, rfl⟩
  have hz : X.size ≤ 2000000 := by
   rw [← hX, bs_size]
   have e : c.tx.data.toList.length = c.tx.size := Array.length_toList
   have := hO.tx
   unfold nameT
   split <;> simp <;> omega
  have CQ := hid (fun w => nameText_any c.tx w hO.tx)
  have E2 : Hid (E = X) := by show _ = _; rw [← HE.out, ← hX]; first | rfl | (rw [bs_app])
  rw [hX] at CQ
  clear hX HE
  have a24 := bl_cell A0.out 24 (.string c.tx) rfl
  go_wp2_with fail
  clear a24
  refine (CQ.out _).mono ?_
  rintro e W1 k1
  obtain ⟨rfl, k1⟩ := k1
  have K1 : Hid (Kp w W1) := by first | exact K0.out.trans k1 | (rw [k1]; exact K0.out)
  clear k1
  go_wp2_with fail
  go_ret
  exact ⟨by rw [E2.out]; rfl, K1.out⟩
 by_cases h4 : n = 4
 ·
  subst h4
  as_aux_lemma =>
  obtain ⟨X, hX⟩ : ∃ X, bs (nameT c.tx.data.toList) = X := ⟨_, rfl⟩
  have hz : X.size ≤ 2000000 := by
   rw [← hX, bs_size]
   have e : c.tx.data.toList.length = c.tx.size := Array.length_toList
   have := hO.tx
   unfold nameT
   split <;> simp <;> omega
  have CQ := hid (fun w => nameText_any c.tx w hO.tx)
  have E2 : Hid (E = X) := by show _ = _; rw [← HE.out, ← hX]; first | rfl | (rw [bs_app])
  rw [hX] at CQ
  clear hX HE
  have a24 := bl_cell A0.out 24 (.string c.tx) rfl
  go_wp2_with fail
  clear a24
  refine (CQ.out _).mono ?_
  rintro e W1 k1
  obtain ⟨rfl, k1⟩ := k1
  have K1 : Hid (Kp w W1) := by first | exact K0.out.trans k1 | (rw [k1]; exact K0.out)
  clear k1
  go_wp2_with fail
  go_ret
  exact ⟨by rw [E2.out]; rfl, K1.out⟩
 by_cases h5 : n = 5
 ·
  subst h5
  as_aux_lemma =>
  have hS : substR c R P ere = true := HA.out
  have hS' := hS
  unfold substR at hS'
  simp only [Bool.and_eq_true, decide_eq_true_eq] at hS'
  obtain ⟨⟨⟨⟨s1, s2⟩, s3⟩, s4⟩, s5⟩ := hS'
  have hF := few_of_tpl P _ hO.p s2
  obtain ⟨X, hX⟩ : ∃ X, bs (printT ere R) = X := ⟨_, rfl⟩
  obtain ⟨T, hT⟩ : ∃ X, bs (tplT P) = X := ⟨_, rfl⟩
  obtain ⟨F, hF'⟩ : ∃ X, bs (flagsT c) = X := ⟨_, rfl⟩
  have x1 : X.size ≤ 1000000 := by rw [← hX]; exact print_size ere R hO.r
  have x2 : T.size ≤ 803000000 := by rw [← hT, bs_size]; have := tplT_len P hF; have := hO.p; omega
  have x3 : F.size ≤ 1000010 := by rw [← hF', bs_size]; exact flagsT_len c hO.tx s3 s4
  have Q1 := hid (talk_print R ere hO.r X hX)
  have Q2 : Hid (∀ w, PcAt w P c.pa c.pl c.pc → Calls Tryz.prog 98 #[.slice c.pa c.pl c.pc] w fun e w' => e = .returned (.string T) ∧ Kp w w') := fun w h => by rw [← hT]; exact tplP_any P _ _ _ w h hF
  have Q3 : Hid (∀ w, CIs w c A B R P → Calls Tryz.prog 99 #[c.v] w fun e w' => e = .returned (.string F) ∧ Kp w w') := fun w h => by rw [← hF']; exact flags_any c A B R P hO s3 s4 w h
  have E2 : Hid (E = bs [47] ++ X ++ bs [47] ++ T ++ bs [47] ++ F) := by show _ = _; rw [← hX, ← hT, ← hF', bs_app, bs_app, bs_app, bs_app, bs_app]; exact HE.out.symm
  clear hX hT hF' hF hS s1 s2 s3 s4 s5 HA HE
  go_upto_region 8 with fail
  have Q0 : Kp W0 W0.drew := (Kp.refl _).drew
  have MK : Hid (∀ W, Kp W0 W → W.cell? ⟨w.heap.size, 25, none⟩ = some (.int .i64 c.r.k) ∧ W.cell? ⟨w.heap.size, 26, none⟩ = some (.int .i64 c.r.mn) ∧ W.cell? ⟨w.heap.size, 27, none⟩ = some (.int .i64 c.r.mx) ∧ W.cell? ⟨w.heap.size, 28, none⟩ = some (.int .i64 c.r.m) ∧ W.cell? ⟨w.heap.size, 29, none⟩ = some (.int .u64 (c.r.t.a : Int)) ∧ W.cell? ⟨w.heap.size, 30, none⟩ = some (.int .u64 (c.r.t.b : Int)) ∧ W.cell? ⟨w.heap.size, 31, none⟩ = some (.int .u64 (c.r.t.c : Int)) ∧ W.cell? ⟨w.heap.size, 32, none⟩ = some (.int .u64 (c.r.t.d : Int)) ∧ W.cell? ⟨w.heap.size, 33, none⟩ = some (.slice c.r.ad c.r.l c.r.c) ∧ W.cell? ⟨w.heap.size, 34, none⟩ = some (.slice c.pa c.pl c.pc) ∧ Hid (Kp W0 W)) := fun W k => ⟨bl_cell (bl_kp A0.out k) 25 _ rfl, bl_cell (bl_kp A0.out k) 26 _ rfl, bl_cell (bl_kp A0.out k) 27 _ rfl, bl_cell (bl_kp A0.out k) 28 _ rfl, bl_cell (bl_kp A0.out k) 29 _ rfl, bl_cell (bl_kp A0.out k) 30 _ rfl, bl_cell (bl_kp A0.out k) 31 _ rfl, bl_cell (bl_kp A0.out k) 32 _ rfl, bl_cell (bl_kp A0.out k) 33 _ rfl, bl_cell (bl_kp A0.out k) 34 _ rfl, k⟩
  refine wp_region_noPanic ?_
  refine hdrew MK Q0 (fun hH => ?_)
  have KQ := Q0
  refine tk 0 (some 22) (Op.fieldAddr 37 (Operand.tmp 2) 5) 0 (v := ?v0r1) rfl ?h0r1 hH ?_
  case h0r1 => intro _ _; go_simp; try with_reducible rfl
  try simp only [ps]
  refine tk 1 (some 23) (Op.load 27 (Operand.tmp 22)) 27 (v := ?v1r2) rfl ?h1r2 hH ?_
  case h1r2 => intro _ _; go_simp; try with_reducible rfl
  try simp only [ps]
  refine tk 2 (some 24) (Op.move (Operand.tmp 1)) 4 (v := ?v2r3) rfl ?h2r3 hH ?_
  case h2r3 => intro _ _; go_simp; try with_reducible rfl
  try simp only [ps]
  refine tk 6 (some 28) (Op.fieldAddr 37 (Operand.tmp 2) 6) 0 (v := ?v6r4) rfl ?h6r4 hH ?_
  case h6r4 => intro _ _; go_simp; try with_reducible rfl
  try simp only [ps]
  refine tk 7 (some 29) (Op.load 35 (Operand.tmp 28)) 35 (v := ?v7r5) rfl ?h7r5 hH ?_
  case h7r5 => intro _ _; go_simp; try with_reducible rfl
  try simp only [ps]
  refine wpAnyH_take (i := 11) (oi := { dst := some 33, op := Op.load 37 (Operand.tmp 2), type := 37, pos := "print.go:56", after := #[], guard := none }) (v := Cv.v c) rfl (by kernel_rfl) (by kernel_rfl) (by kernel_rfl) (fun _ _ _ h => h) (yields_cv (by rfl) rfl rfl c (fun W hSw => bl_kp A0.out hSw.2.2.2.2.2.2.2.2.2.2.out)) hH ?r11r7
  try simp only [ps]
  refine wpAnyH_ready (rs := [3]) (by kernel_rfl) (by simp) ?_
  refine AllReadyH.cons (o := { dst := some 25, op := Op.call { callee := Callee.value (Operand.func 37), args := #[Operand.tmp 23, Operand.tmp 24], argTypes := #[27, 4] }, type := 9, pos := "print.go:56", after := #[{ on := 1, ground := Ground.data }, { on := 2, ground := Ground.data }], guard := none }) rfl (fun K hKq => ?_) AllReadyH.nil
  go_simp
  refine (Q1.out _ (I0.out.kp KQ).r).mono ?_
  rintro e y1 ⟨rfl, kq⟩
  refine hKq.out _ _ (MK.out _ (KQ.trans kq)) (fun hN => ?_)
  clear kq
  clear hKq K hH KQ
  have hH := hN
  clear hN
  have KQ := hH.2.2.2.2.2.2.2.2.2.2.out
  try simp only [ps]
  refine tk 4 (some 26) (Op.binOp BinOp.add 9 (Operand.const (Value.string { data := #[47] })) (Operand.tmp 25) 9) 9 (v := ?v4r8) rfl ?h4r8 hH ?_
  case h4r8 => (intro W hSw; (try dsimp only at hSw); go_simp; (try rw [if_neg (by omega)]); try (with_reducible rfl))
  try simp only [ps]
  refine tk 5 (some 27) (Op.binOp BinOp.add 9 (Operand.tmp 26) (Operand.const (Value.string { data := #[47] })) 9) 9 (v := ?v5r9) rfl ?h5r9 hH ?_
  case h5r9 => (intro W hSw; (try dsimp only at hSw); go_simp; (try rw [if_neg (by omega)]); try (with_reducible rfl))
  try simp only [ps]
  refine wpAnyH_ready (rs := [8]) (by kernel_rfl) (by simp) ?_
  refine AllReadyH.cons (o := { dst := some 30, op := Op.call { callee := Callee.value (Operand.func 98), args := #[Operand.tmp 29], argTypes := #[35] }, type := 9, pos := "print.go:56", after := #[{ on := 7, ground := Ground.data }, { on := 3, ground := Ground.chain }], guard := none }) rfl (fun K hKq => ?_) AllReadyH.nil
  go_simp
  refine (Q2.out _ (I0.out.kp KQ).p).mono ?_
  rintro e y2 ⟨rfl, kq⟩
  refine hKq.out _ _ (MK.out _ (KQ.trans kq)) (fun hN => ?_)
  clear kq
  clear hKq K hH KQ
  have hH := hN
  clear hN
  have KQ := hH.2.2.2.2.2.2.2.2.2.2.out
  try simp only [ps]
  refine tk 9 (some 31) (Op.binOp BinOp.add 9 (Operand.tmp 27) (Operand.tmp 30) 9) 9 (v := ?v9r10) rfl ?h9r10 hH ?_
  case h9r10 => (intro W hSw; (try dsimp only at hSw); go_simp; (try rw [if_neg (by omega)]); try (with_reducible rfl))
  try simp only [ps]
  refine tk 10 (some 32) (Op.binOp BinOp.add 9 (Operand.tmp 31) (Operand.const (Value.string { data := #[47] })) 9) 9 (v := ?v10r11) rfl ?h10r11 hH ?_
  case h10r11 => (intro W hSw; (try dsimp only at hSw); go_simp; (try rw [if_neg (by omega)]); try (with_reducible rfl))
  try simp only [ps]
  refine wpAnyH_ready (rs := [12]) (by kernel_rfl) (by simp) ?_
  refine AllReadyH.cons (o := { dst := some 34, op := Op.call { callee := Callee.value (Operand.func 99), args := #[Operand.tmp 33], argTypes := #[37] }, type := 9, pos := "print.go:56", after := #[{ on := 11, ground := Ground.data }, { on := 8, ground := Ground.chain }], guard := none }) rfl (fun K hKq => ?_) AllReadyH.nil
  go_simp
  refine (Q3.out _ (I0.out.kp KQ)).mono ?_
  rintro e y3 ⟨rfl, kq⟩
  refine hKq.out _ _ (MK.out _ (KQ.trans kq)) (fun hN => ?_)
  clear kq
  clear hKq K hH KQ
  have hH := hN
  clear hN
  have KQ := hH.2.2.2.2.2.2.2.2.2.2.out
  try simp only [ps]
  refine tk 13 (some 35) (Op.binOp BinOp.add 9 (Operand.tmp 32) (Operand.tmp 34) 9) 9 (v := ?v13r12) rfl ?h13r12 hH ?_
  case h13r12 => (intro W hSw; (try dsimp only at hSw); go_simp; (try rw [if_neg (by omega)]); try (with_reducible rfl))
  try simp only [ps]
  refine tk 14 (some 4) (Op.assign (Operand.tmp 35)) 9 (v := ?v14r13) rfl ?h14r13 hH ?_
  case h14r13 => intro _ _; go_simp; try with_reducible rfl
  try simp only [ps]
  refine wpAnyH_done (by kernel_rfl) ?_ _
  refine NoPanic.normal ?_
  go_wp2_with fail
  go_ret
  exact ⟨by rw [E2.out]; rfl, K0.out.trans KQ⟩
 by_cases h6 : n = 6
 ·
  subst h6
  as_aux_lemma =>
  obtain ⟨X, hX⟩ : ∃ X, bs (tableT c.y.data.toList) = X := ⟨_, rfl⟩
  obtain ⟨T, hT⟩ : ∃ X, bs (tableT c.z.data.toList) = X := ⟨_, rfl⟩
  have e1 : c.y.data.toList.length = c.y.size := Array.length_toList
  have e2 : c.z.data.toList.length = c.z.size := Array.length_toList
  have o1 := hO.y
  have o2 := hO.z
  have x1 : X.size ≤ 2000000 := by rw [← hX, bs_size]; have := tableT_len c.y.data.toList; omega
  have x2 : T.size ≤ 2000000 := by rw [← hT, bs_size]; have := tableT_len c.z.data.toList; omega
  have Q1 : Hid (∀ w, Calls Tryz.prog 100 #[.string c.y] w fun e w' => e = .returned (.string X) ∧ Kp w w') := fun w => by rw [← hX]; exact tableText_any c.y w hO.y
  have Q2 : Hid (∀ w, Calls Tryz.prog 100 #[.string c.z] w fun e w' => e = .returned (.string T) ∧ Kp w w') := fun w => by rw [← hT]; exact tableText_any c.z w hO.z
  have E2 : Hid (E = bs [47] ++ X ++ bs [47] ++ T ++ bs [47]) := by show _ = _; rw [← hX, ← hT, bs_app, bs_app, bs_app, bs_app]; exact HE.out.symm
  clear hX hT HA HE e1 e2 o1 o2
  go_upto_region 10 with fail
  have Q0 : Kp W0 W0.drew := (Kp.refl _).drew
  have MK : Hid (∀ W, Kp W0 W → W.cell? ⟨w.heap.size, 38, none⟩ = some (.string c.y) ∧ W.cell? ⟨w.heap.size, 39, none⟩ = some (.string c.z) ∧ Hid (Kp W0 W)) := fun W k => ⟨bl_cell (bl_kp A0.out k) 38 _ rfl, bl_cell (bl_kp A0.out k) 39 _ rfl, k⟩
  refine wp_region_noPanic ?_
  refine hdrew MK Q0 (fun hH => ?_)
  have KQ := Q0
  refine tk 0 (some 38) (Op.fieldAddr 37 (Operand.tmp 2) 10) 0 (v := ?v0t1) rfl ?h0t1 hH ?_
  case h0t1 => intro _ _; go_simp; try with_reducible rfl
  try simp only [ps]
  refine tk 1 (some 39) (Op.load 9 (Operand.tmp 38)) 9 (v := ?v1t2) rfl ?h1t2 hH ?_
  case h1t2 => intro _ _; go_simp; try with_reducible rfl
  try simp only [ps]
  refine tk 5 (some 43) (Op.fieldAddr 37 (Operand.tmp 2) 11) 0 (v := ?v5t3) rfl ?h5t3 hH ?_
  case h5t3 => intro _ _; go_simp; try with_reducible rfl
  try simp only [ps]
  refine tk 6 (some 44) (Op.load 9 (Operand.tmp 43)) 9 (v := ?v6t4) rfl ?h6t4 hH ?_
  case h6t4 => intro _ _; go_simp; try with_reducible rfl
  try simp only [ps]
  refine wpAnyH_ready (rs := [2]) (by kernel_rfl) (by simp) ?_
  refine AllReadyH.cons (o := { dst := some 40, op := Op.call { callee := Callee.value (Operand.func 100), args := #[Operand.tmp 39], argTypes := #[9] }, type := 9, pos := "print.go:58", after := #[{ on := 1, ground := Ground.data }], guard := none }) rfl (fun K hKq => ?_) AllReadyH.nil
  go_simp
  refine (Q1.out _).mono ?_
  rintro e y1 ⟨rfl, kq⟩
  refine hKq.out _ _ (MK.out _ (KQ.trans kq)) (fun hN => ?_)
  clear kq
  clear hKq K hH KQ
  have hH := hN
  clear hN
  have KQ := hH.2.2.out
  try simp only [ps]
  refine tk 3 (some 41) (Op.binOp BinOp.add 9 (Operand.const (Value.string { data := #[47] })) (Operand.tmp 40) 9) 9 (v := ?v3t5) rfl ?h3t5 hH ?_
  case h3t5 => (intro W hSw; (try dsimp only at hSw); go_simp; (try rw [if_neg (by omega)]); try (with_reducible rfl))
  try simp only [ps]
  refine tk 4 (some 42) (Op.binOp BinOp.add 9 (Operand.tmp 41) (Operand.const (Value.string { data := #[47] })) 9) 9 (v := ?v4t6) rfl ?h4t6 hH ?_
  case h4t6 => (intro W hSw; (try dsimp only at hSw); go_simp; (try rw [if_neg (by omega)]); try (with_reducible rfl))
  try simp only [ps]
  refine wpAnyH_ready (rs := [7]) (by kernel_rfl) (by simp) ?_
  refine AllReadyH.cons (o := { dst := some 45, op := Op.call { callee := Callee.value (Operand.func 100), args := #[Operand.tmp 44], argTypes := #[9] }, type := 9, pos := "print.go:58", after := #[{ on := 6, ground := Ground.data }, { on := 2, ground := Ground.chain }], guard := none }) rfl (fun K hKq => ?_) AllReadyH.nil
  go_simp
  refine (Q2.out _).mono ?_
  rintro e y2 ⟨rfl, kq⟩
  refine hKq.out _ _ (MK.out _ (KQ.trans kq)) (fun hN => ?_)
  clear kq
  clear hKq K hH KQ
  have hH := hN
  clear hN
  have KQ := hH.2.2.out
  try simp only [ps]
  refine tk 8 (some 46) (Op.binOp BinOp.add 9 (Operand.tmp 42) (Operand.tmp 45) 9) 9 (v := ?v8t7) rfl ?h8t7 hH ?_
  case h8t7 => (intro W hSw; (try dsimp only at hSw); go_simp; (try rw [if_neg (by omega)]); try (with_reducible rfl))
  try simp only [ps]
  refine tk 9 (some 47) (Op.binOp BinOp.add 9 (Operand.tmp 46) (Operand.const (Value.string { data := #[47] })) 9) 9 (v := ?v9t8) rfl ?h9t8 hH ?_
  case h9t8 => (intro W hSw; (try dsimp only at hSw); go_simp; (try rw [if_neg (by omega)]); try (with_reducible rfl))
  try simp only [ps]
  refine tk 10 (some 4) (Op.assign (Operand.tmp 47)) 9 (v := ?v10t9) rfl ?h10t9 hH ?_
  case h10t9 => intro _ _; go_simp; try with_reducible rfl
  try simp only [ps]
  refine wpAnyH_done (by kernel_rfl) ?_ _
  refine NoPanic.normal ?_
  go_wp2_with fail
  go_ret
  exact ⟨by rw [E2.out]; rfl, K0.out.trans KQ⟩
 have h01 : n = 0 ∨ n = 1 := by omega
 have E2 : Hid (E = bs []) := by show _ = _; rw [← HE.out]; rcases h01 with rfl | rfl <;> rfl
 have n2 : ((n : Int) == 2) = false := by simp; omega
 have n3 : ((n : Int) == 3) = false := by simp; omega
 have n4 : ((n : Int) == 4) = false := by simp; omega
 have n5 : ((n : Int) == 5) = false := by simp; omega
 have n6 : ((n : Int) == 6) = false := by simp; omega
 go_wp2_with fail
 go_ret
 exact ⟨by rw [E2.out]; rfl, K0.out⟩

end Go.Proofs.YtigdmebijbaofaaGreatDoor
