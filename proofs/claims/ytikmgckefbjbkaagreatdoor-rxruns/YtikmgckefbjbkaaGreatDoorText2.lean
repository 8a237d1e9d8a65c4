/-
  The text of a set.
-/
import Derived.Test.YtikmgckefbjbkaaGreatDoorRow3
namespace Go.Proofs.YtikmgckefbjbkaaGreatDoor
open Go.RowKit

def setRow (p : Nat → Bool) : List UInt8 := if rowT p = [94, 45] then [45, 94] else rowT p
def setT (p : Nat → Bool) (ere : Bool) : List UInt8 :=
  match lst p 256 with
  | [x] => byteT x ere
  | _ => if cnt (notB p) 256 = 0 then [46] else if cnt p 256 > 128 then [91, 94] ++ rowT (notB p) ++ [93] else [91] ++ setRow p ++ [93]
theorem rowT_len (p : Nat → Bool) : (rowT p).length ≤ 1024 := by
  have h := lst_len p 256
  unfold rowT u8s
  simp only [List.length_append, List.length_map]
  have a := List.length_filter_le (· == 93) (lst p 256)
  have b := List.length_filter_le mid (lst p 256)
  have c := List.length_filter_le (· == 94) (lst p 256)
  have d := List.length_filter_le (· == 45) (lst p 256)
  omega
theorem setT_many (p : Nat → Bool) (ere : Bool) (h : cnt p 256 ≠ 1) : setT p ere = if cnt (notB p) 256 = 0 then [46] else if cnt p 256 > 128 then [91, 94] ++ rowT (notB p) ++ [93] else [91] ++ setRow p ++ [93] := by
  unfold setT
  split
  · rename_i x hx
    rw [← lst_length, hx] at h
    exact absurd rfl h
  · rfl
theorem setT_one (p : Nat → Bool) (ere : Bool) (x : Nat) (h : lst p 256 = [x]) : setT p ere = byteT x ere := by unfold setT; rw [h]

set_option maxHeartbeats 2000000 in
set_option maxRecDepth 100000 in
theorem setText_any (p : Nat → Bool) (ere : Bool) (w : World) : Calls Tryz.prog 36 #[sv p, .bool ere] w fun e w' => e = .returned (.string (bs (setT p ere))) ∧ Kp w w' := by
  by_cases h1 : cnt p 256 = 1
  · obtain ⟨x, hx⟩ : ∃ x, lst p 256 = [x] := List.length_eq_one_iff.1 (by rw [lst_length]; exact h1)
    have hx256 : x < 256 := lst_lt p 256 x (by rw [hx]; simp)
    have OY := hid (only_yes p x hx)
    have E : Hid (setT p ere = byteT x ere) := setT_one p ere x hx
    clear hx
    go_enter Tryz.func36, Tryz.ntmps36
    go_wp2_with fail
    refine (OY.out _).mono ?_
    rintro e W1 ⟨rfl, k1⟩
    have K1 : Hid (Kp w W1) := ((Kp.refl _).alloc _).trans k1
    clear k1
    go_wp2_with fail
    refine (byteText_any x hx256 ere _).mono ?_
    rintro e W2 ⟨rfl, k2⟩
    have K2 := hid (K1.out.trans k2)
    clear k2
    go_wp2_with fail
    go_ret
    exact ⟨by rw [E.out]; rfl, K2.out⟩
  have ON := hid (only_no p h1)
  have E0 := hid (setT_many p ere h1)
  go_enter Tryz.func36, Tryz.ntmps36
  go_upto_region 1 with fail
  refine opq (fun W0 => At W0 w.heap.size p ∧ Kp w W0) ⟨by exact At.new _ _, by exact (by repeat (first | exact Kp.refl _ | refine Kp.alloc ?_ _ | refine Kp.drew ?_ | refine Kp.drewN _ ?_))⟩ ?_
  rintro W0 ⟨xA0, xK0⟩
  have A0 : Hid (At W0 w.heap.size p) := xA0
  have K0 : Hid (Kp w W0) := xK0
  clear xA0 xK0
  obtain ⟨x0, x1, x2, x3⟩ := A0.out.cells
  go_wp2_with fail
  refine (ON.out _).mono ?_
  rintro e W1 ⟨rfl, k1⟩
  have A1 := hid (A0.out.kp k1)
  have K1 := hid (K0.out.trans k1)
  clear k1 x0 x1 x2 x3 A0 K0
  obtain ⟨x0, x1, x2, x3⟩ := A1.out.cells
  go_wp2_with fail
  refine (not_any p _).mono ?_
  rintro e W2 ⟨rfl, k2⟩
  have A2 := hid (A1.out.kp k2)
  have K2 := hid (K1.out.trans k2)
  clear k2 x0 x1 x2 x3 A1 K1
  go_upto_region 5 with fail
  refine opq (fun W3 => At W3 w.heap.size p ∧ At W3 W2.heap.size (notB p) ∧ Kp w W3) ⟨by exact A2.out.kp (by repeat (first | exact Kp.refl _ | refine Kp.alloc ?_ _ | refine Kp.drew ?_ | refine Kp.drewN _ ?_)), by exact At.new _ _, by exact K2.out.trans (by repeat (first | exact Kp.refl _ | refine Kp.alloc ?_ _ | refine Kp.drew ?_ | refine Kp.drewN _ ?_))⟩ ?_
  rintro W3 ⟨xA3, xN3, xK3⟩
  have A3 : Hid (At W3 w.heap.size p) := xA3
  have N3 : Hid (At W3 W2.heap.size (notB p)) := xN3
  have K3 : Hid (Kp w W3) := xK3
  clear xA3 xN3 xK3
  clear A2 K2
  obtain ⟨y0, y1, y2, y3⟩ := N3.out.cells
  go_wp2_with fail
  refine (count_any (notB p) _).mono ?_
  rintro e W4 ⟨rfl, k4⟩
  have A4 := hid (A3.out.kp k4)
  have N4 := hid (N3.out.kp k4)
  have K4 := hid (K3.out.trans k4)
  clear k4 y0 y1 y2 y3 A3 N3 K3
  by_cases hn : cnt (notB p) 256 = 0
  · have g0 : ((cnt (notB p) 256 : Int) == 0) = true := by simp; omega
    have g0' : (cnt (notB p) 256 : Int) = 0 := by omega
    have E : Hid (setT p ere = [46]) := by show _ = _; rw [E0.out, if_pos hn]
    clear hn
    go_wp2_with fail
    go_ret
    exact ⟨by rw [E.out]; rfl, K4.out⟩
  have g0 : ((cnt (notB p) 256 : Int) == 0) = false := by simp; omega
  have g0' : ¬ (cnt (notB p) 256 : Int) = 0 := by omega
  obtain ⟨x0, x1, x2, x3⟩ := A4.out.cells
  go_wp2_with fail
  refine (count_any p _).mono ?_
  rintro e W5 ⟨rfl, k5⟩
  have A5 := hid (A4.out.kp k5)
  have N5 := hid (N4.out.kp k5)
  have K5 := hid (K4.out.trans k5)
  clear k5 x0 x1 x2 x3 A4 N4 K4
  by_cases hc : cnt p 256 > 128
  · have gc : (128 : Int) < (cnt p 256 : Int) := by omega
    have hz : (bs (rowT (notB p))).size ≤ 1024 := by rw [bs_size]; exact rowT_len _
    have E : Hid (bs (setT p ere) = bs [91, 94] ++ bs (rowT (notB p)) ++ bs [93]) := by show _ = _; rw [E0.out, if_neg hn, if_pos hc, bs_app, bs_app]
    obtain ⟨T, hT⟩ : ∃ T, bs (rowT (notB p)) = T := ⟨_, rfl⟩
    have HT := hid hT
    rw [hT] at hz E
    clear hT hc hn
    obtain ⟨y0, y1, y2, y3⟩ := N5.out.cells
    go_wp2_with fail
    refine (bracketRow_any (notB p) _).mono ?_
    rintro e W6 ⟨rfl, k6⟩
    rw [HT.out]
    have K6 := hid (K5.out.trans k6)
    clear k6 y0 y1 y2 y3
    go_wp2_with fail
    go_ret
    exact ⟨by rw [E.out]; rfl, K6.out⟩
  have gc : ¬ (128 : Int) < (cnt p 256 : Int) := by omega
  have E1 : Hid (setT p ere = [91] ++ setRow p ++ [93]) := by show _ = _; rw [E0.out, if_neg hn, if_neg hc]
  have hz : (bs (rowT p)).size ≤ 1024 := by rw [bs_size]; exact rowT_len _
  have tl : (bs (rowT p)).toList = rowT p := bs_toList _
  obtain ⟨T, hT⟩ : ∃ T, bs (rowT p) = T := ⟨_, rfl⟩
  have HT := hid hT
  rw [hT] at hz tl
  have TL := hid tl
  clear hT tl hc hn
  obtain ⟨x0, x1, x2, x3⟩ := A5.out.cells
  go_wp2_with fail
  refine (bracketRow_any p _).mono ?_
  rintro e W6 ⟨rfl, k6⟩
  rw [HT.out]
  have K6 := hid (K5.out.trans k6)
  clear k6 x0 x1 x2 x3
  by_cases hr : rowT p = [94, 45]
  · have gt : (T.toList == [94, 45]) = true := by rw [TL.out, hr]; rfl
    have gt' : T.toList = [94, 45] := by rw [TL.out, hr]
    have E : Hid (setT p ere = [91, 45, 94, 93]) := by show _ = _; rw [E1.out]; unfold setRow; rw [if_pos hr]; rfl
    clear hr
    go_wp2_with fail
    go_ret
    exact ⟨by rw [E.out]; rfl, K6.out⟩
  · have gt : (T.toList == [94, 45]) = false := by rw [TL.out]; simpa using hr
    have gt' : ¬ T.toList = [94, 45] := by rw [TL.out]; exact hr
    have E : Hid (bs (setT p ere) = bs [91] ++ T ++ bs [93]) := by show _ = _; rw [E1.out, ← HT.out]; unfold setRow; rw [if_neg hr, bs_app, bs_app]
    clear hr
    go_wp2_with fail
    go_ret
    exact ⟨by rw [E.out]; rfl, K6.out⟩
end Go.Proofs.YtikmgckefbjbkaaGreatDoor
