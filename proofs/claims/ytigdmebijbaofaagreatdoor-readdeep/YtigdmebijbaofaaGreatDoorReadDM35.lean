/-
  Texts of this claim: ReK, ReL0, ReL, Wrap, Wrap2.
-/
import Derived.Test.YtigdmebijbaofaaGreatDoorReadDM4
import Derived.Test.YtigdmebijbaofaaGreatDoorReadDM34
import Derived.Test.YtigdmebijbaofaaGreatDoorReadDM25
import Derived.Test.YtigdmebijbaofaaGreatDoorRows
import Derived.Test.YtigdmebijbaofaaGreatDoorChecked
import Derived.HandedShaped
import Derived.Shelf.Vars
import Derived.LaidMore
import Derived.LaidHandle
import Derived.LaidLaws
import Derived.Stop.Joined
import Derived.ProofKit
import Derived.Test.YtigdmebijbaofaaGreatDoorReadDM8
import Derived.Lib.LaidTab
import Derived.LaidSub
/-! ### ReK -/
namespace Go.Proofs.YtigdmebijbaofaaGreatDoor
set_option maxHeartbeats 2000000
set_option maxRecDepth 100000
open Go.RowKit
def r1 : ByteArray := ⟨#[49, 44, 51, 123, 112, 59, 115, 47, 97, 47, 98, 47, 103, 125]⟩
def r2 : ByteArray := ⟨#[112, 32, 112]⟩
def r3 : ByteArray := ⟨#[97, 92, 10, 120, 92, 10, 121]⟩
theorem fk1 : (pRead r1 false).2 = (0, 0) ∧ (pRead r1 false).1.length = 4 ∧ (pRead r1 false).1[0]?.map (·.op) = some 123 ∧ (pRead r1 false).1[3]?.map (·.op) = some 125 ∧ (pRead r1 false).1.all (fun m => cOkB m && decide ((cmdM m false).length ≤ 100)) = true ∧
  textMs false (pRead r1 false).1 = [49, 44, 51, 123, 10, 112, 10, 115, 47, 97, 47, 98, 47, 103, 10, 125, 10] := by decide +kernel
theorem fk2 : (pRead r2 false).2.2 = 1 := by decide +kernel
theorem fk3 : (pRead r3 false).2 = (0, 0) ∧ (pRead r3 false).1.length = 1 ∧ (pRead r3 false).1[0]?.map (·.x.tx) = some ⟨#[120, 10, 121]⟩ := by decide +kernel
theorem readRuns_any (w : World) (h0 : ∃ m, w.cell? ⟨1, 0, none⟩ = some (.int .i64 m)) (hT : Tb w) : Calls Tryz.prog 9 #[] w fun e w' => e = .returned (.bool true) ∧ Kp w w' := by
 obtain ⟨g1, g2, g3, g4, g5, g6⟩ := fk1
 obtain ⟨ms, x1, x2, hx⟩ : ∃ a b c, pRead r1 false = (a, b, c) := ⟨_, _, _, rfl⟩
 rw [hx] at g1 g2 g3 g4 g5 g6
 injection g1 with g1 g1'
 subst g1
 subst g1'
 dsimp only at g2 g3 g4 g5 g6
 obtain ⟨ns, y1, y2, hy⟩ : ∃ a b c, pRead r2 false = (a, b, c) := ⟨_, _, _, rfl⟩
 have k1 := fk2
 rw [hy] at k1
 dsimp only at k1
 subst k1
 obtain ⟨l1, l2, l3⟩ := fk3
 obtain ⟨os, z1, z2, hz⟩ : ∃ a b c, pRead r3 false = (a, b, c) := ⟨_, _, _, rfl⟩
 rw [hz] at l1 l2 l3
 injection l1 with l1 l1'
 subst l1
 subst l1'
 dsimp only at l2 l3
 have P1 := hid (fun w h t => read_any r1 false w h t)
 have P2 := hid (fun w h t => read_any r2 false w h t)
 have P3 := hid (fun w h t => read_any r3 false w h t)
 rw [hx] at P1
 rw [hy] at P2
 rw [hz] at P3
 have G1 := hid g2
 have G2 := hid g3
 have G3 := hid g4
 have G4 := hid g5
 have G5 := hid g6
 have L2 := hid l2
 have L3 := hid l3
 have Z0 := hid h0
 have T0 := hid hT
 clear h0 hT hx hy hz g2 g3 g4 g5 g6 l2 l3
 go_enter Tryz.func9, Tryz.ntmps9
 go_wp2_with fail
 refine (P1.out _ Z0.out T0.out).mono ?_
 rintro e w1 ⟨⟨ad, l, cp, rfl, m1, k1⟩⟩
 have M1 := hid m1
 have K1 := hid k1
 have T1 := hid (T0.out.kp k1)
 clear m1 k1 P1
 go_wp2_with fail
 refine (P2.out _ (cell0 Z0.out K1.out) T1.out).mono ?_
 rintro e w2 ⟨⟨ad2, l2, cp2, rfl, m2, k2⟩⟩
 have M2 := hid (M1.out.kp k2)
 have K2 := hid (K1.out.trans k2)
 have T2 := hid (T1.out.kp k2)
 clear m2 k2 P2 M1 K1 T1
 go_wp2_with fail
 refine (P3.out _ (cell0 Z0.out K2.out) T2.out).mono ?_
 rintro e w3 ⟨⟨ad3, l3, cp3, rfl, m3, k3⟩⟩
 have M3 := hid (M2.out.kp k3)
 have N3 := hid m3
 have K3 := hid (K2.out.trans k3)
 have T3 := hid (T2.out.kp k3)
 clear m3 k3 P3 M2 K2 T2 Z0 T0
 obtain ⟨qs, hql, hqa, hqm⟩ := M3.out.at'
 obtain ⟨rs, hrl, hra, hrm⟩ := N3.out.at'
 have hl4 : l = 4 := by rw [hqa.ln, hql, G1.out]
 have hl1 : l3 = 1 := by rw [hra.ln, hrl, L2.out]
 subst hl4
 subst hl1
 have hcp := hqa.cp
 have hcp3 := hra.cp
 obtain ⟨q0, hq0⟩ : ∃ q, qs[0]? = some q := ⟨_, List.getElem?_eq_getElem (by rw [hql, G1.out]; decide)⟩
 obtain ⟨q3, hq3⟩ : ∃ q, qs[3]? = some q := ⟨_, List.getElem?_eq_getElem (by rw [hql, G1.out]; decide)⟩
 obtain ⟨s0, hs0⟩ : ∃ q, rs[0]? = some q := ⟨_, List.getElem?_eq_getElem (by rw [hrl, L2.out]; decide)⟩
 have hop0 : q0.c.op = 123 := by
  have := G2.out
  cases hm : ms[0]? with
  | none => rw [hm] at this; cases this
  | some m =>
   rw [hm] at this
   rw [(hqm 0 q0 m hq0 hm).op]
   injection this
 have hop3 : q3.c.op = 125 := by
  have := G3.out
  cases hm : ms[3]? with
  | none => rw [hm] at this; cases this
  | some m =>
   rw [hm] at this
   rw [(hqm 3 q3 m hq3 hm).op]
   injection this
 have htx : s0.c.tx = ⟨#[120, 10, 121]⟩ := by
  have := L3.out
  cases hm : os[0]? with
  | none => rw [hm] at this; cases this
  | some m =>
   rw [hm] at this
   rw [(hrm 0 s0 m hs0 hm).tx]
   injection this
 have HOK : ∀ q ∈ qs, q.ok ∧ (q.t false).length ≤ 10000000 := by
  intro q hq
  obtain ⟨j, hj⟩ := List.getElem?_of_mem hq
  have hlt := (List.getElem?_eq_some_iff.1 hj).1
  obtain ⟨m, hm⟩ : ∃ m, ms[j]? = some m := ⟨_, List.getElem?_eq_getElem (by rw [← hql]; exact hlt)⟩
  have hM := hqm j q m hj hm
  have := List.all_eq_true.1 G4.out m (List.mem_of_getElem? hm)
  simp only [Bool.and_eq_true, decide_eq_true_eq] at this
  exact ⟨hM.ok this.1, by rw [hM.t]; omega⟩
 have PR : Hid (Calls Tryz.prog 39 #[.slice ad 4 cp, .bool false] w3 fun e w' => e = .returned (.string ⟨#[49, 44, 51, 123, 10, 112, 10, 115, 47, 97, 47, 98, 47, 103, 10, 125, 10]⟩) ∧ Kp w3 w') := by
  have := textL_any false qs w3 hqa (fun q hq => (HOK q hq).1) T3.out (fun q hq => (HOK q hq).2)
  rw [textMs_eq false qs ms hql hqm, G5.out] at this
  exact this
 obtain ⟨B, O, e0, hb0, hc0, _⟩ := hqa.get 0 q0 hq0
 obtain ⟨B', O', e3, hb3, hc3, _⟩ := hqa.get 3 q3 hq3
 rw [e0] at e3
 injection e3 with e3
 injection e3 with e3 e3' _
 subst e3
 subst e3'
 subst e0
 obtain ⟨B2, O2, e0, hb2, hc2, _⟩ := hra.get 0 s0 hs0
 subst e0
 have c0 : w3.cell? ⟨B, O + 23, none⟩ = some (.int .u8 123) := by
  have := hc0 23 (.int .u8 (q0.c.op : Int)) rfl
  rw [hop0] at this
  simpa using this
 have c3 : w3.cell? ⟨B, O + 120 + 23, none⟩ = some (.int .u8 125) := by
  have := hc3 23 (.int .u8 (q3.c.op : Int)) rfl
  rw [hop3] at this
  simpa using this
 have c2 : w3.cell? ⟨B2, O2 + 24, none⟩ = some (.string ⟨#[120, 10, 121]⟩) := by
  have := hc2 24 (.string s0.c.tx) rfl
  rw [htx] at this
  simpa using this
 clear hc0 hc3 hc2 HOK htx hop0 hop3 hq0 hq3 hs0 hqm hrm hqa hra hql hrl M3 N3 G1 G2 G3 G4 G5 L2 L3 hb0 hb3 hb2
 go_wp2_with fail
 refine PR.out.mono ?_
 rintro e w4 ⟨rfl, k4⟩
 have K4 := hid (K3.out.trans k4)
 clear k4 PR
 go_wp2_with fail
 go_ret
 exact ⟨rfl, K4.out⟩
def dS (k : Nat) : ByteArray := bs (List.replicate k 123)
def dE (k q : Nat) : ByteArray := bs (List.replicate k 123 ++ (List.replicate q [125, 59]).flatten)
def pS (q : Nat) : ByteArray := bs (List.replicate q [112, 59]).flatten
theorem dS_size (k : Nat) : (dS k).size = k := by unfold dS; rw [bs_size]; simp
theorem dE_size (k q : Nat) : (dE k q).size = k + 2 * q := by unfold dE; rw [bs_size]; simp; omega
theorem pS_size (q : Nat) : (pS q).size = 2 * q := by unfold pS; rw [bs_size]; simp; omega
theorem dS_more (k : Nat) : dS k ++ bs [123] = dS (k + 1) := by unfold dS; rw [bs_app, List.replicate_succ']
theorem dE_zero (k : Nat) : dE k 0 = dS k := by unfold dE dS; simp
theorem flat_more (q : Nat) (l : List UInt8) : (List.replicate q l).flatten ++ l = (List.replicate (q + 1) l).flatten := by
 rw [List.replicate_succ', List.flatten_append]
 simp
theorem dE_more (k q : Nat) : dE k q ++ bs [125, 59] = dE k (q + 1) := by unfold dE; rw [bs_app, List.append_assoc, flat_more]
theorem pS_more (q : Nat) : pS q ++ bs [112, 59] = pS (q + 1) := by unfold pS; rw [bs_app, flat_more]
def deepOk (k : Nat) : Bool :=
 if k ≤ 6 then decide ((pRead (dE k k) false).2.2 = 0) && decide ((pRead (dE k k) false).1.length = 2 * k) else decide ((pRead (dE k k) false).2.2 = 2)
def manyOk (j : Nat) : Bool :=
 if j ≤ 40 then decide ((pRead (pS j) false).2.2 = 0) && decide ((pRead (pS j) false).1.length = j) else decide ((pRead (pS j) false).2.2 = 4)
theorem fd1 : (List.range 13).all deepOk = true := by decide +kernel
theorem fd2_0 : (List.range' 0 4).all manyOk = true := by decide +kernel
theorem fd2_4 : (List.range' 4 4).all manyOk = true := by decide +kernel
theorem fd2_8 : (List.range' 8 4).all manyOk = true := by decide +kernel
theorem fd2_12 : (List.range' 12 4).all manyOk = true := by decide +kernel
theorem fd2_16 : (List.range' 16 4).all manyOk = true := by decide +kernel
theorem fd2_20 : (List.range' 20 4).all manyOk = true := by decide +kernel
theorem fd2_24 : (List.range' 24 4).all manyOk = true := by decide +kernel
theorem fd2_28 : (List.range' 28 4).all manyOk = true := by decide +kernel
theorem fd2_32 : (List.range' 32 4).all manyOk = true := by decide +kernel
theorem fd2_36 : (List.range' 36 4).all manyOk = true := by decide +kernel
theorem fd2_40 : (List.range' 40 4).all manyOk = true := by decide +kernel
theorem fd2_44 : (List.range' 44 4).all manyOk = true := by decide +kernel
theorem fd2_48 : (List.range' 48 4).all manyOk = true := by decide +kernel
theorem fd2_52 : (List.range' 52 4).all manyOk = true := by decide +kernel
theorem fd2_56 : (List.range' 56 4).all manyOk = true := by decide +kernel
theorem fd2_60 : (List.range' 60 1).all manyOk = true := by decide +kernel
theorem fd2 (j : Nat) (hj : j ≤ 60) : manyOk j = true := by
 have h : (0 ≤ j ∧ j < 0 + 4) ∨ (4 ≤ j ∧ j < 4 + 4) ∨ (8 ≤ j ∧ j < 8 + 4) ∨ (12 ≤ j ∧ j < 12 + 4) ∨ (16 ≤ j ∧ j < 16 + 4) ∨ (20 ≤ j ∧ j < 20 + 4) ∨ (24 ≤ j ∧ j < 24 + 4) ∨ (28 ≤ j ∧ j < 28 + 4) ∨ (32 ≤ j ∧ j < 32 + 4) ∨ (36 ≤ j ∧ j < 36 + 4) ∨ (40 ≤ j ∧ j < 40 + 4) ∨ (44 ≤ j ∧ j < 44 + 4) ∨ (48 ≤ j ∧ j < 48 + 4) ∨ (52 ≤ j ∧ j < 52 + 4) ∨ (56 ≤ j ∧ j < 56 + 4) ∨ (60 ≤ j ∧ j < 60 + 1) := by omega
 rcases h with h | h | h | h | h | h | h | h | h | h | h | h | h | h | h | h
 ·
  exact List.all_eq_true.1 fd2_0 j (List.mem_range'_1.2 h)
 ·
  exact List.all_eq_true.1 fd2_4 j (List.mem_range'_1.2 h)
 ·
  exact List.all_eq_true.1 fd2_8 j (List.mem_range'_1.2 h)
 ·
  exact List.all_eq_true.1 fd2_12 j (List.mem_range'_1.2 h)
 ·
  exact List.all_eq_true.1 fd2_16 j (List.mem_range'_1.2 h)
 ·
  exact List.all_eq_true.1 fd2_20 j (List.mem_range'_1.2 h)
 ·
  exact List.all_eq_true.1 fd2_24 j (List.mem_range'_1.2 h)
 ·
  exact List.all_eq_true.1 fd2_28 j (List.mem_range'_1.2 h)
 ·
  exact List.all_eq_true.1 fd2_32 j (List.mem_range'_1.2 h)
 ·
  exact List.all_eq_true.1 fd2_36 j (List.mem_range'_1.2 h)
 ·
  exact List.all_eq_true.1 fd2_40 j (List.mem_range'_1.2 h)
 ·
  exact List.all_eq_true.1 fd2_44 j (List.mem_range'_1.2 h)
 ·
  exact List.all_eq_true.1 fd2_48 j (List.mem_range'_1.2 h)
 ·
  exact List.all_eq_true.1 fd2_52 j (List.mem_range'_1.2 h)
 ·
  exact List.all_eq_true.1 fd2_56 j (List.mem_range'_1.2 h)
 ·
  exact List.all_eq_true.1 fd2_60 j (List.mem_range'_1.2 h)
theorem fd3 : (pRead (bs (List.replicate 4001 0)) false).2.2 = 4 := by
 unfold pRead
 rw [if_pos (by rw [bs_size, List.length_replicate]; omega)]
theorem readDeep_any (n m : Int) (w : World) (h0 : ∃ m, w.cell? ⟨1, 0, none⟩ = some (.int .i64 m)) (hT : Tb w) : Calls Tryz.prog 13 #[.int .i64 n, .int .i64 m] w fun e w' => e = .returned (.bool true) ∧ Kp w w' := by
 have Z0 := hid h0
 have T0 := hid hT
 clear h0 hT
 have z1 : (⟨#[123]⟩ : ByteArray).size = 1 := rfl
 have z2 : (⟨#[125, 59]⟩ : ByteArray).size = 2 := rfl
 have z3 : (⟨#[112, 59]⟩ : ByteArray).size = 2 := rfl
 go_enter Tryz.func13, Tryz.ntmps13
 go_wp2_with fail
 refine (within_n n 12 (by omega) _).mono ?_
 rintro e w' ⟨k, hk, rfl, rfl⟩
 go_wp2_with fail
 refine (within_n m 60 (by omega) _).mono ?_
 rintro e w' ⟨j, hj, rfl, rfl⟩
 go_wp2_with fail
 go_loopg [7, 23] k (fun gg s v wr => ∃ q : Nat, q + gg = k ∧ v = .int .i64 (q : Int) ∧ s = .string (dS q) ∧ wr = w')
 case atStart => exact ⟨0, by omega, rfl, rfl, rfl⟩
 case round =>
  obtain ⟨q, hq, rfl, rfl, rfl⟩ := hrel
  by_cases hlt : q < k
  ·
   have gkw : IntKind.i64.wrap ((q : Int) + 1) = (q : Int) + 1 := by rw [IntKind.wrap_i64]; omega
   have ga : (q : Int) < (k : Int) := by omega
   have zq : (dS q).size ≤ 1000 := by rw [dS_size]; omega
   go_wp2_with fail
   go_roundg (gk - 1)
   case measure => omega
   case rel => exact ⟨q + 1, by omega, by go_num, by rw [← dS_more]; rfl, rfl⟩
  ·
   have ga : ¬ (q : Int) < (k : Int) := by omega
   obtain rfl : k = q := by omega
   clear hq ga hlt
   rename World => w1
   go_wp2_with fail
   go_loopg [7, 29] k (fun gg s v wr => ∃ q : Nat, q + gg = k ∧ v = .int .i64 (q : Int) ∧ s = .string (dE k q) ∧ wr = w1)
   case atStart => exact ⟨0, by omega, rfl, by rw [dE_zero], rfl⟩
   case round =>
    obtain ⟨q, hq, rfl, rfl, rfl⟩ := hrel
    by_cases hlt : q < k
    ·
     have gkw : IntKind.i64.wrap ((q : Int) + 1) = (q : Int) + 1 := by rw [IntKind.wrap_i64]; omega
     have ga : (q : Int) < (k : Int) := by omega
     have zq : (dE k q).size ≤ 1000 := by rw [dE_size]; omega
     go_wp2_with fail
     go_roundg (gk - 1)
     case measure => omega
     case rel => exact ⟨q + 1, by omega, by go_num, by rw [← dE_more]; rfl, rfl⟩
    ·
     have ga : ¬ (q : Int) < (k : Int) := by omega
     obtain rfl : k = q := by omega
     clear hq ga hlt
     rename World => w2
     go_wp2_with fail
     -- P1
     obtain ⟨ms, x1, e1, hx⟩ : ∃ a b c, pRead (dE k k) false = (a, b, c) := ⟨_, _, _, rfl⟩
     have RD := read_any (dE k k) false w2 Z0.out T0.out
     have HD := List.all_eq_true.1 fd1 k (List.mem_range.2 (by omega))
     unfold deepOk at HD
     rw [hx] at RD HD
     clear hx
     refine RD.mono ?_
     rintro e w3 ⟨⟨ad, l, cp, rfl, m1, k1⟩⟩
     have hl : l = ms.length := by
      obtain ⟨a', c', he⟩ := m1.form
      injection he
     have HE : Hid ((k ≤ 6 ∧ e1 = 0 ∧ (l : Int) = 2 * (k : Int)) ∨ (6 < k ∧ e1 = 2)) := by
      by_cases h6 : k ≤ 6
      ·
       rw [if_pos h6] at HD
       simp only [Bool.and_eq_true, decide_eq_true_eq] at HD
       exact .inl ⟨h6, HD.1, by have := HD.2; omega⟩
      ·
       rw [if_neg h6] at HD
       exact .inr ⟨by omega, of_decide_eq_true HD⟩
     have K3 := hid k1
     have Z3 := hid (cell0 Z0.out k1)
     have T3 := hid (T0.out.kp k1)
     clear RD HD m1 k1 hl Z0 T0
     go_wp2_with fail
     go_loopg [11, 41] j (fun gg s v wr => ∃ q : Nat, q + gg = j ∧ v = .int .i64 (q : Int) ∧ s = .string (pS q) ∧ wr = w3)
     case atStart => exact ⟨0, by omega, rfl, rfl, rfl⟩
     case round =>
      obtain ⟨q, hq, rfl, rfl, rfl⟩ := hrel
      by_cases hlt : q < j
      ·
       have gkw : IntKind.i64.wrap ((q : Int) + 1) = (q : Int) + 1 := by rw [IntKind.wrap_i64]; omega
       have ga : (q : Int) < (j : Int) := by omega
       have zq : (pS q).size ≤ 1000 := by rw [pS_size]; omega
       go_wp2_with fail
       go_roundg (gk - 1)
       case measure => omega
       case rel => exact ⟨q + 1, by omega, by go_num, by rw [← pS_more]; rfl, rfl⟩
      ·
       have ga : ¬ (q : Int) < (j : Int) := by omega
       obtain rfl : j = q := by omega
       clear hq ga hlt
       rename World => w4
       go_wp2_with fail
       obtain ⟨os, y1, f1, hy⟩ : ∃ a b c, pRead (pS j) false = (a, b, c) := ⟨_, _, _, rfl⟩
       have RD := read_any (pS j) false w4 Z3.out T3.out
       have HD := fd2 j hj
       unfold manyOk at HD
       rw [hy] at RD HD
       clear hy
       refine RD.mono ?_
       rintro e w5 ⟨⟨ad2, l2, cp2, rfl, m1, k1⟩⟩
       have hl : l2 = os.length := by
        obtain ⟨a', c', he⟩ := m1.form
        injection he
       have HF : Hid ((j ≤ 40 ∧ f1 = 0 ∧ l2 = j) ∨ (40 < j ∧ f1 = 4)) := by
        by_cases h6 : j ≤ 40
        ·
         rw [if_pos h6] at HD
         simp only [Bool.and_eq_true, decide_eq_true_eq] at HD
         exact .inl ⟨h6, HD.1, by have := HD.2; omega⟩
        ·
         rw [if_neg h6] at HD
         exact .inr ⟨by omega, of_decide_eq_true HD⟩
       have K5 := hid (K3.out.trans k1)
       have Z5 := hid (cell0 Z3.out k1)
       have T5 := hid (T3.out.kp k1)
       clear RD HD m1 k1 hl Z3 T3 K3
       obtain ⟨i0, hi, hz0, hz1, hz2⟩ := info5
       obtain ⟨w6, hmk, hown, hgr⟩ := run_makeSlice_full (P := Tryz.prog) (w := w5) w5.heap.size 59 5 i0 (.int .u8 0) 1 Tryz.underlying59 hi hz0 hz1 .i64 .i64 4001 (by omega) (by rw [hz2]; omega) (by unfold maxLen; omega) (Nat.le_refl _)
       have OB : Ob w5.heap.size (List.replicate 4001 0) (.slice (some ⟨w5.heap.size, 0, none⟩) 4001 4001) w6 := ⟨by
        have e : (madeCells (Value.int .u8 0).cells (4001 * 1)).toList = Lib.byteCells (List.replicate 4001 0) := by
         show (madeCells #[Value.int .u8 0] 4001).toList = _
         rw [toList_madeCells_one]
         simp only [Lib.byteCells, List.map_replicate]
         rfl
        rw [e] at hown
        exact hown⟩
       have cf := OB.str
       have KG : Kp w5 w6 := grown_kp hgr
       have K6 := hid (K5.out.trans KG)
       have Z6 := hid (cell0 Z5.out KG)
       have T6 := hid (T5.out.kp KG)
       have R6 := hid (read_any (bs (List.replicate 4001 0)) false w6 Z6.out T6.out)
       obtain ⟨vs, v1, v2, hv⟩ : ∃ a b c, pRead (bs (List.replicate 4001 0)) false = (a, b, c) := ⟨_, _, _, rfl⟩
       have h4 := fd3
       rw [hv] at h4 R6
       dsimp only at h4
       subst h4
       obtain ⟨S, hS⟩ : ∃ S, bs (List.replicate 4001 0) = S := ⟨_, rfl⟩
       rw [hS] at cf R6
       clear hS hv OB KG hown hgr K5 Z5 T5 hi hz0 hz1 hz2
       have hmq : (Instr.makeSlice 59 (.int .i64 4001) (.int .i64 4001)).run Tryz.prog w5 = .ok (.slice (some ⟨w5.heap.size, 0, none⟩) 4001 4001) w6 := hmk
       clear hmk
       go_wp2_with fail
       try (rw [hmq]; go_wp2_with fail)
       refine R6.out.mono ?_
       rintro e w7 ⟨⟨ad3, l3, cp3, rfl, _, k1⟩⟩
       have K7 := hid (K6.out.trans k1)
       have RU := hid (readRuns_any w7 (cell0 Z6.out k1) (T6.out.kp k1))
       have gm : IntKind.i64.wrap (2 * (k : Int)) = 2 * (k : Int) := by rw [IntKind.wrap_i64]; omega
       clear k1 K6 Z6 T6 R6
       rcases HE.out with ⟨h6, rfl, gl⟩ | ⟨h6, rfl⟩ <;> rcases HF.out with ⟨h7, rfl, gj⟩ | ⟨h7, rfl⟩
       ·
        have g6 : (k : Int) ≤ 6 := by omega
        have g7 : (j : Int) ≤ 40 := by omega
        clear HE HF h6 h7
        go_wp2_with fail
        refine RU.out.mono ?_
        rintro e w8 ⟨rfl, k8⟩
        have K8 := hid (K7.out.trans k8)
        clear k8 RU K7
        go_wp2_with fail
        go_ret
        exact ⟨rfl, K8.out⟩
       ·
        have g6 : (k : Int) ≤ 6 := by omega
        have g7 : ¬ (j : Int) ≤ 40 := by omega
        have d7 : decide ((j : Int) ≤ 40) = false := decide_eq_false g7
        clear HE HF h6 h7
        go_wp2_with fail
        refine RU.out.mono ?_
        rintro e w8 ⟨rfl, k8⟩
        have K8 := hid (K7.out.trans k8)
        clear k8 RU K7
        go_wp2_with fail
        go_ret
        exact ⟨rfl, K8.out⟩
       ·
        have g6 : ¬ (k : Int) ≤ 6 := by omega
        have d6 : decide ((k : Int) ≤ 6) = false := decide_eq_false g6
        have g7 : (j : Int) ≤ 40 := by omega
        clear HE HF h6 h7
        go_wp2_with fail
        refine RU.out.mono ?_
        rintro e w8 ⟨rfl, k8⟩
        have K8 := hid (K7.out.trans k8)
        clear k8 RU K7
        go_wp2_with fail
        go_ret
        exact ⟨rfl, K8.out⟩
       ·
        have g6 : ¬ (k : Int) ≤ 6 := by omega
        have d6 : decide ((k : Int) ≤ 6) = false := decide_eq_false g6
        have g7 : ¬ (j : Int) ≤ 40 := by omega
        have d7 : decide ((j : Int) ≤ 40) = false := decide_eq_false g7
        clear HE HF h6 h7
        go_wp2_with fail
        refine RU.out.mono ?_
        rintro e w8 ⟨rfl, k8⟩
        have K8 := hid (K7.out.trans k8)
        clear k8 RU K7
        go_wp2_with fail
        go_ret
        exact ⟨rfl, K8.out⟩
open Go.ChangeShapes Go.WideShapes Go.ChangeAt Go.RowKit
theorem and_shaped {H : Type} {enc : TypeId × Value → H} {a : Assume} {C : Checked} {os : Go.Os} {f : FuncId} {fn : Func} {s : ChangeSpec} {conds : List PathCond} {apart fresh handsOn again : Bool} {X : World → Array Value → Prop}
  (hX : ∀ (w w' : World) (args : Array Value), w.heap = w'.heap → X w args → X w' args)
  (own : ownKnob C.prog.godebug = none) (started : os.Started) (noInit : C.prog.inits.idxOf? f = none) (hfn : C.prog.funcs[f]? = some fn)
  (witness : ∃ (w : World) (tape : Tape) (i : Input), w.os = os ∧ (w.forCall tape i).Shaped C.prog ∧ i.vars = [] ∧ Input.okWide C.prog (w.forCall tape i) .any w.heap.size f i ∧
   ((s.pre enc C.prog fn conds apart (w.forCall tape i).memory i.args ∧ X (w.forCall tape i).memory i.args) ∧ sizedMet enc C.prog fn (OpenSpec.ofChange s) apart (w.forCall tape i).memory i.args) ∧ a.holds C.prog (lone (Frame.enter C.prog f i.args .normal) [] (w.forCall tape i)))
  (contract : ∀ (W : World) (base : Nat) (args : Array Value) (ds gs : List (DataW H)) (before : List MemPlace),
   (∀ (j : Nat) t v, fn.params[j]? = some t → args[j]? = some v → Value.okWide C.prog W .any base t v) →
   DataW.Whole enc C.prog fn.params.toList s.vars apart W args.toList ds gs before →
   conds.all (PathCond.test C.prog ⟨fn.params.toList, ds, s.plain.varTypes C.prog, gs⟩) = true →
   (DataW.weightsEach C.prog (fn.params.toList ++ s.plain.varTypes C.prog) (ds ++ gs)).all (· ≤ reachBytes) = true → X W args → W.ShapedOpen C.prog →
   Calls C.prog f args W fun e W' => ∃ v, e = .returned v ∧ s.post enc C.prog fn apart fresh handsOn again W args v W') :
  ReturnsInHanded a C os f .any (fun w args => (s.pre enc C.prog fn conds apart w args ∧ X w args) ∧ sizedMet enc C.prog fn (OpenSpec.ofChange s) apart w args) (s.post enc C.prog fn apart fresh handsOn again) := by
 refine returnsInHanded_of_calls own started noInit witness ?_
 intro w tape i _ hsh _ hok hpre hholds
 obtain ⟨_, _, _, fn', hfn', _, _, _, _, hval⟩ := hok
 have e : fn' = fn := Option.some.inj (hfn'.symm.trans hfn)
 subst e
 obtain ⟨⟨⟨ds, gs, before, hw, hc⟩, hx⟩, hz⟩ := hpre
 have hw' := DataW.Whole.of_heap (w' := w.forCall tape i) (by rfl) hw
 refine (contract (w.forCall tape i) w.heap.size i.args ds gs before hval hw' hc (hz.weights hw) (hX _ _ _ (by rfl) hx) hsh).mono fun e W' ⟨v, he, hp⟩ => ?_
 subst he
 exact ChangeSpec.post_blind hp
theorem own : ownKnob Tryz.prog.godebug = none := by kernel_rfl
abbrev laid3 : List (String × DataW Unit) := [("math/bits.deBruijn32tab", Rows.laid_math_bits_deBruijn32tab), ("math/bits.deBruijn64tab", Rows.laid_math_bits_deBruijn64tab), ("internal/strconv.uint64pow10", Rows.laid_internal_strconv_uint64pow10)]
theorem door_met (os : Go.Os) (args : Array Value) : laidMetH Tryz.prog laid3 ((World.doorLaid Tryz.prog 24 os).forCall (fun _ _ => 0) ⟨#[], args, []⟩).memory :=
 laidMetH_of_parts3 (fuel := 8) (laidMet_of_run' 8 (by kernel_rfl) (by kernel_rfl)) (by kernel_rfl) (by kernel_rfl)
theorem maxLen {W : World} (h : W.ShapedOpen Tryz.prog) : ∃ m, W.cell? ⟨1, 0, none⟩ = some (.int .i64 m) :=
 cell_of_shapedOpen_int (P := Tryz.prog) (g := 1) (t := 3) (zero := #[.int .i64 0]) h (of_decide_eq_true (by kernel_rfl)) (by kernel_rfl) rfl (by kernel_rfl) (by kernel_rfl) Tryz.underlying3
theorem laid3_tab : laid3.filter (fun x => x.1 == "internal/strconv.uint64pow10") = ([("internal/strconv.uint64pow10", Lib.tabData .u64 Lib.pow10Tab)] : List (String × DataW Unit)) := by kernel_rfl
theorem tb_of {W : World} (h : laidMetH Tryz.prog laid3 W) : Tb W := by
 have h1 : laidMet Tryz.prog laid3 W := h
 have h2 := h1.filter (fun x => x.1 == "internal/strconv.uint64pow10")
 rw [laid3_tab] at h2
 exact Lib.tabIs_of_head (g := 0) (t := 231) (by kernel_rfl) (by kernel_rfl) Tryz.underlying231 Tryz.underlying22 (by kernel_rfl) (by kernel_rfl) h2
end Go.Proofs.YtigdmebijbaofaaGreatDoor
