/-
  Texts of this claim: Cm5, Cm3, Cm6, Within2, Row2.
-/
import Derived.Test.YtigdmebijbaofaaGreatDoorReadDM4
import Derived.Test.YtigdmebijbaofaaGreatDoorReadDM7
import Derived.Test.YtigdmebijbaofaaGreatDoorReadDM2
import Derived.Lib.AppendIntMem
import Derived.Test.YtigdmebijbaofaaGreatDoorReadDM6
import Derived.Test.YtigdmebijbaofaaGreatDoorReadDM5
import Derived.Lib.BufferRead
import Derived.Deep.LoopGhost
/-! ### Cm5 -/
namespace Go.Proofs.YtigdmebijbaofaaGreatDoor
set_option maxHeartbeats 2000000
set_option maxRecDepth 100000
open Go.RowKit
theorem cells_step (f : UInt8 → List UInt8) (l : List UInt8) (q : Nat) (x : UInt8) (h : l[q]? = some x) : Lib.byteCells ((l.take (q + 1)).flatMap f) = Lib.byteCells ((l.take q).flatMap f) ++ Lib.byteCells (f x) := by
 rw [List.take_add_one, h]
 simp [Lib.byteCells]
theorem byte_at (s : ByteArray) (q : Nat) (h : q < s.size) : ∃ x : UInt8, s.data.toList[q]? = some x ∧ ch s q = x.toNat := by
 have h' : q < s.data.size := h
 refine ⟨s.data[q], by simp, ?_⟩
 unfold ch
 rw [Array.getElem?_eq_getElem h']
 rfl
theorem u8_ne {x : UInt8} {n m : Nat} (h : x.toNat = n) (hm : m < 256) (hn : n ≠ m) : x ≠ UInt8.ofNat m := by
 intro he
 rw [he] at h
 simp [Nat.mod_eq_of_lt hm] at h
 omega
theorem u8_eq {x : UInt8} {n : Nat} (h : x.toNat = n) : x = UInt8.ofNat n := by rw [← h]; simp
theorem take_full (s : ByteArray) (q : Nat) (h : s.size ≤ q) : s.data.toList.take q = s.data.toList := List.take_of_length_le (by rw [Array.length_toList]; exact h)
def linesT1 (b : UInt8) : List UInt8 := if b = 92 ∨ b = 10 then [92, b] else [b]
def tableT1 (b : UInt8) : List UInt8 := if b = 10 then [92, 110] else if b = 47 ∨ b = 92 then [92, b] else [b]
def quotT1 (b : UInt8) : List UInt8 := if b = 10 then [92, 110] else if b = 38 ∨ b = 47 ∨ b = 92 then [92, b] else [b]
theorem linesText_any (s : ByteArray) (w : World) (hs : s.size ≤ 1000000) : Calls Tryz.prog 96 #[.string s] w fun e w' => e = .returned (.string (bs (linesT s.data.toList))) ∧ Kp w w' := by
 obtain ⟨f, hf⟩ : ∃ f, f = (linesT1 : UInt8 → List UInt8) := ⟨_, rfl⟩
 obtain ⟨S, hS⟩ : ∃ S, bs (linesT s.data.toList) = S := ⟨_, rfl⟩
 rw [hS]
 have HS : Hid (bs (s.data.toList.flatMap f) = S) := by subst hf; exact hS
 have HF := hid hf
 clear hS hf
 have gs : (0 : Int) ≤ (s.size : Int) := by omega
 go_enter Tryz.func96, Tryz.ntmps96
 go_upto_region 2 with fail
 obtain ⟨C, W0, kc, hC, k0, hz, hb⟩ := conv_str (w.alloc (.cells #[.pointer none, .slice none 0 0] 128)) s
 have hz' : W0.heap.size = w.heap.size + 2 := by rw [hz]; simp
 have hbd : Bd (w.heap.size + 2) w.heap.size [] W0 := Bd.new W0 w.heap.size _ (bl_kp (last_of _ _) k0) rfl _
 have hbe : ∀ j, j < s.size → W0.cell? ⟨w.heap.size + 1, j, none⟩ = some (.int .u8 (ch s j : Nat)) := fun j hj => by
  have := hb j hj
  rw [show (w.alloc (.cells #[.pointer none, .slice none 0 0] 128)).heap.size = w.heap.size + 1 by simp] at this
  exact this
 have BD := hid hbd
 have HC := hid hbe
 have K0 : Hid (Kp w W0) := ((Kp.refl _).alloc _).trans k0
 have HZ := hid hz'
 clear hb hbe hbd k0 hz hz'
 go_wp2_with fail
 clear kc
 go_loopg [9] s.size (fun gg v wr => ∃ (q : Nat) (L : List Value), q + gg = s.size ∧ v = .int .i64 (q : Int) ∧ L = Lib.byteCells ((s.data.toList.take q).flatMap f) ∧ L.length ≤ 2 * q ∧ Bd (w.heap.size + 2) w.heap.size L wr ∧ Kb (w.heap.size + 2) w.heap.size W0 wr)
 case atStart => exact ⟨0, [], by omega, rfl, rfl, by simp, BD.out, Kb.refl _ _ _⟩
 case round =>
  obtain ⟨q, L, hq, rfl, hL, hl, hB, hK⟩ := hrel
  have HL := hid hL
  have B := hid hB
  have K := hid hK
  have hzr : w.heap.size + 2 ≤ wr.heap.size := by have := K.out.size; have := HZ.out; omega
  clear hL hB hK BD
  by_cases hlt : q < s.size
  ·
   have gkw : IntKind.i64.wrap ((q : Int) + 1) = (q : Int) + 1 := by rw [IntKind.wrap_i64]; omega
   have ga : (q : Int) < (s.size : Int) := by omega
   have g0 : (0 : Int) ≤ (q : Int) := by omega
   obtain ⟨x, hx, hc⟩ := byte_at s q hlt
   have cb : wr.cell? ⟨w.heap.size + 1, q, none⟩ = some (.int .u8 (ch s q : Nat)) := (World.cell?_of_block (w := W0) (K.out.block (w.heap.size + 1) (by omega) (by omega))).trans (HC.out q hlt)
   obtain ⟨n, hn⟩ : ∃ n : Nat, ch s q = n := ⟨_, rfl⟩
   rw [hn] at cb hc
   have ST := hid (cells_step f _ q x hx)
   have HX : Hid (x.toNat = n) := hc.symm
   clear hx hn hc
   have hzr' := hid hzr
   clear hzr
   by_cases h1 : n = 92
   ·
    subst h1
    go_wp2_with fail
    refine (writeByte_any (w.heap.size + 2) w.heap.size L 92 _ B.out (by omega) hzr'.out (by omega)).mono ?_
    rintro e Y0 ⟨rfl, b1, k1⟩
    have B0 := hid b1
    have K0 := hid (K.out.trans k1)
    have hzY0 : Hid (w.heap.size + 2 ≤ Y0.heap.size) := Nat.le_trans hzr'.out k1.size
    clear b1 k1 hzr'
    have hzr' := hzY0
    clear hzY0
    go_wp2_with fail
    refine (writeByte_any (w.heap.size + 2) w.heap.size (L ++ [.int .u8 92]) 92 _ B0.out (by simp only [List.length_append, List.length_cons, List.length_nil]; omega) hzr'.out (by omega)).mono ?_
    rintro e Y1 ⟨rfl, b1, k1⟩
    have B1 := hid b1
    have K1 := hid (K0.out.trans k1)
    have hzY1 : Hid (w.heap.size + 2 ≤ Y1.heap.size) := Nat.le_trans hzr'.out k1.size
    clear b1 k1 hzr'
    have hzr' := hzY1
    clear hzY1
    go_wp2_with fail
    go_roundg (gk - 1)
    case measure => omega
    case rel =>
     refine ⟨q + 1, ((L ++ [.int .u8 92]) ++ [.int .u8 92]), by omega, by go_num, ?_, by simp only [List.length_append, List.length_cons, List.length_nil]; omega, B1.out, K1.out⟩
     rw [ST.out, ← HL.out]
     have hfx : f x = [92, 92] := by rw [HF.out]; unfold linesT1; rw [u8_eq HX.out]; rfl
     rw [hfx]
     simp [Lib.byteCells]
   have gh1 : ((n : Int) == 92) = false := by simp; omega
   by_cases h2 : n = 10
   ·
    subst h2
    go_wp2_with fail
    refine (writeByte_any (w.heap.size + 2) w.heap.size L 92 _ B.out (by omega) hzr'.out (by omega)).mono ?_
    rintro e Y0 ⟨rfl, b1, k1⟩
    have B0 := hid b1
    have K0 := hid (K.out.trans k1)
    have hzY0 : Hid (w.heap.size + 2 ≤ Y0.heap.size) := Nat.le_trans hzr'.out k1.size
    clear b1 k1 hzr'
    have hzr' := hzY0
    clear hzY0
    go_wp2_with fail
    refine (writeByte_any (w.heap.size + 2) w.heap.size (L ++ [.int .u8 92]) 10 _ B0.out (by simp only [List.length_append, List.length_cons, List.length_nil]; omega) hzr'.out (by omega)).mono ?_
    rintro e Y1 ⟨rfl, b1, k1⟩
    have B1 := hid b1
    have K1 := hid (K0.out.trans k1)
    have hzY1 : Hid (w.heap.size + 2 ≤ Y1.heap.size) := Nat.le_trans hzr'.out k1.size
    clear b1 k1 hzr'
    have hzr' := hzY1
    clear hzY1
    go_wp2_with fail
    go_roundg (gk - 1)
    case measure => omega
    case rel =>
     refine ⟨q + 1, ((L ++ [.int .u8 92]) ++ [.int .u8 10]), by omega, by go_num, ?_, by simp only [List.length_append, List.length_cons, List.length_nil]; omega, B1.out, K1.out⟩
     rw [ST.out, ← HL.out]
     have hfx : f x = [92, 10] := by rw [HF.out]; unfold linesT1; rw [u8_eq HX.out]; rfl
     rw [hfx]
     simp [Lib.byteCells]
   have gh2 : ((n : Int) == 10) = false := by simp; omega
   go_wp2_with fail
   refine (writeByte_any (w.heap.size + 2) w.heap.size L (n : Int) _ B.out (by omega) hzr'.out (by omega)).mono ?_
   rintro e Y0 ⟨rfl, b1, k1⟩
   have B0 := hid b1
   have K0 := hid (K.out.trans k1)
   have hzY0 : Hid (w.heap.size + 2 ≤ Y0.heap.size) := Nat.le_trans hzr'.out k1.size
   clear b1 k1 hzr'
   have hzr' := hzY0
   clear hzY0
   go_wp2_with fail
   go_roundg (gk - 1)
   case measure => omega
   case rel =>
    refine ⟨q + 1, (L ++ [.int .u8 (n : Int)]), by omega, by go_num, ?_, by simp only [List.length_append, List.length_cons, List.length_nil]; omega, B0.out, K0.out⟩
    rw [ST.out, ← HL.out]
    have hfx : f x = [x] := by rw [HF.out]; unfold linesT1; exact if_neg (by rintro (h | h); exact u8_ne HX.out (by decide) h1 h; exact u8_ne HX.out (by decide) h2 h)
    rw [hfx]
    have := HX.out; subst this; simp [Lib.byteCells]
  ·
   have ga : ¬ (q : Int) < (s.size : Int) := by omega
   have hLe : L = Lib.byteCells (s.data.toList.flatMap f) := by rw [HL.out, take_full s q (by omega)]
   subst hLe
   go_wp2_with fail
   refine (builderString_any (w.heap.size + 2) w.heap.size (s.data.toList.flatMap f) _ w.heap.size B.out (by omega) (by omega) (by omega)).mono ?_
   rintro e y ⟨rfl, k1⟩
   have KY : Hid (Kp w y) := Below.trans (Below.trans K0.out (K.out.below w.heap.size (by omega) (by omega))) k1
   clear k1
   go_wp2_with fail
   go_ret
   exact ⟨by rw [← HS.out]; rfl, KY.out⟩
theorem tableText_any (s : ByteArray) (w : World) (hs : s.size ≤ 1000000) : Calls Tryz.prog 100 #[.string s] w fun e w' => e = .returned (.string (bs (tableT s.data.toList))) ∧ Kp w w' := by
 obtain ⟨f, hf⟩ : ∃ f, f = (tableT1 : UInt8 → List UInt8) := ⟨_, rfl⟩
 obtain ⟨S, hS⟩ : ∃ S, bs (tableT s.data.toList) = S := ⟨_, rfl⟩
 rw [hS]
 have HS : Hid (bs (s.data.toList.flatMap f) = S) := by subst hf; exact hS
 have HF := hid hf
 clear hS hf
 have gs : (0 : Int) ≤ (s.size : Int) := by omega
 go_enter Tryz.func100, Tryz.ntmps100
 go_upto_region 2 with fail
 obtain ⟨C, W0, kc, hC, k0, hz, hb⟩ := conv_str (w.alloc (.cells #[.pointer none, .slice none 0 0] 128)) s
 have hz' : W0.heap.size = w.heap.size + 2 := by rw [hz]; simp
 have hbd : Bd (w.heap.size + 2) w.heap.size [] W0 := Bd.new W0 w.heap.size _ (bl_kp (last_of _ _) k0) rfl _
 have hbe : ∀ j, j < s.size → W0.cell? ⟨w.heap.size + 1, j, none⟩ = some (.int .u8 (ch s j : Nat)) := fun j hj => by
  have := hb j hj
  rw [show (w.alloc (.cells #[.pointer none, .slice none 0 0] 128)).heap.size = w.heap.size + 1 by simp] at this
  exact this
 have BD := hid hbd
 have HC := hid hbe
 have K0 : Hid (Kp w W0) := ((Kp.refl _).alloc _).trans k0
 have HZ := hid hz'
 clear hb hbe hbd k0 hz hz'
 go_wp2_with fail
 clear kc
 go_loopg [9] s.size (fun gg v wr => ∃ (q : Nat) (L : List Value), q + gg = s.size ∧ v = .int .i64 (q : Int) ∧ L = Lib.byteCells ((s.data.toList.take q).flatMap f) ∧ L.length ≤ 2 * q ∧ Bd (w.heap.size + 2) w.heap.size L wr ∧ Kb (w.heap.size + 2) w.heap.size W0 wr)
 case atStart => exact ⟨0, [], by omega, rfl, rfl, by simp, BD.out, Kb.refl _ _ _⟩
 case round =>
  obtain ⟨q, L, hq, rfl, hL, hl, hB, hK⟩ := hrel
  have HL := hid hL
  have B := hid hB
  have K := hid hK
  have hzr : w.heap.size + 2 ≤ wr.heap.size := by have := K.out.size; have := HZ.out; omega
  clear hL hB hK BD
  by_cases hlt : q < s.size
  ·
   have gkw : IntKind.i64.wrap ((q : Int) + 1) = (q : Int) + 1 := by rw [IntKind.wrap_i64]; omega
   have ga : (q : Int) < (s.size : Int) := by omega
   have g0 : (0 : Int) ≤ (q : Int) := by omega
   obtain ⟨x, hx, hc⟩ := byte_at s q hlt
   have cb : wr.cell? ⟨w.heap.size + 1, q, none⟩ = some (.int .u8 (ch s q : Nat)) := (World.cell?_of_block (w := W0) (K.out.block (w.heap.size + 1) (by omega) (by omega))).trans (HC.out q hlt)
   obtain ⟨n, hn⟩ : ∃ n : Nat, ch s q = n := ⟨_, rfl⟩
   rw [hn] at cb hc
   have ST := hid (cells_step f _ q x hx)
   have HX : Hid (x.toNat = n) := hc.symm
   clear hx hn hc
   have hzr' := hid hzr
   clear hzr
   by_cases h1 : n = 10
   ·
    subst h1
    go_wp2_with fail
    refine (writeString_any (w.heap.size + 2) w.heap.size L ⟨#[92, 110]⟩ _ B.out (by rw [show ByteArray.size _ = 2 from rfl]; omega) hzr'.out (by omega)).mono ?_
    rintro e Y0 ⟨rfl, b1, k1⟩
    have B0 := hid b1
    have K0 := hid (K.out.trans k1)
    have hzY0 : Hid (w.heap.size + 2 ≤ Y0.heap.size) := Nat.le_trans hzr'.out k1.size
    clear b1 k1 hzr'
    have hzr' := hzY0
    clear hzY0
    go_wp2_with fail
    go_roundg (gk - 1)
    case measure => omega
    case rel =>
     refine ⟨q + 1, (L ++ Lib.strCells ⟨#[92, 110]⟩), by omega, by go_num, ?_, by simp only [List.length_append, Lib.strCells_length]; rw [show ByteArray.size _ = 2 from rfl]; omega, B0.out, K0.out⟩
     rw [ST.out, ← HL.out]
     have hfx : f x = [92, 110] := by rw [HF.out]; unfold tableT1; rw [u8_eq HX.out]; rfl
     rw [hfx]
     simp [Lib.byteCells, Lib.strCells]
   have gh1 : ((n : Int) == 10) = false := by simp; omega
   by_cases h2 : n = 47
   ·
    subst h2
    go_wp2_with fail
    refine (writeByte_any (w.heap.size + 2) w.heap.size L 92 _ B.out (by omega) hzr'.out (by omega)).mono ?_
    rintro e Y0 ⟨rfl, b1, k1⟩
    have B0 := hid b1
    have K0 := hid (K.out.trans k1)
    have hzY0 : Hid (w.heap.size + 2 ≤ Y0.heap.size) := Nat.le_trans hzr'.out k1.size
    clear b1 k1 hzr'
    have hzr' := hzY0
    clear hzY0
    go_wp2_with fail
    refine (writeByte_any (w.heap.size + 2) w.heap.size (L ++ [.int .u8 92]) 47 _ B0.out (by simp only [List.length_append, List.length_cons, List.length_nil]; omega) hzr'.out (by omega)).mono ?_
    rintro e Y1 ⟨rfl, b1, k1⟩
    have B1 := hid b1
    have K1 := hid (K0.out.trans k1)
    have hzY1 : Hid (w.heap.size + 2 ≤ Y1.heap.size) := Nat.le_trans hzr'.out k1.size
    clear b1 k1 hzr'
    have hzr' := hzY1
    clear hzY1
    go_wp2_with fail
    go_roundg (gk - 1)
    case measure => omega
    case rel =>
     refine ⟨q + 1, ((L ++ [.int .u8 92]) ++ [.int .u8 47]), by omega, by go_num, ?_, by simp only [List.length_append, List.length_cons, List.length_nil]; omega, B1.out, K1.out⟩
     rw [ST.out, ← HL.out]
     have hfx : f x = [92, 47] := by rw [HF.out]; unfold tableT1; rw [u8_eq HX.out]; rfl
     rw [hfx]
     simp [Lib.byteCells]
   have gh2 : ((n : Int) == 47) = false := by simp; omega
   by_cases h3 : n = 92
   ·
    subst h3
    go_wp2_with fail
    refine (writeByte_any (w.heap.size + 2) w.heap.size L 92 _ B.out (by omega) hzr'.out (by omega)).mono ?_
    rintro e Y0 ⟨rfl, b1, k1⟩
    have B0 := hid b1
    have K0 := hid (K.out.trans k1)
    have hzY0 : Hid (w.heap.size + 2 ≤ Y0.heap.size) := Nat.le_trans hzr'.out k1.size
    clear b1 k1 hzr'
    have hzr' := hzY0
    clear hzY0
    go_wp2_with fail
    refine (writeByte_any (w.heap.size + 2) w.heap.size (L ++ [.int .u8 92]) 92 _ B0.out (by simp only [List.length_append, List.length_cons, List.length_nil]; omega) hzr'.out (by omega)).mono ?_
    rintro e Y1 ⟨rfl, b1, k1⟩
    have B1 := hid b1
    have K1 := hid (K0.out.trans k1)
    have hzY1 : Hid (w.heap.size + 2 ≤ Y1.heap.size) := Nat.le_trans hzr'.out k1.size
    clear b1 k1 hzr'
    have hzr' := hzY1
    clear hzY1
    go_wp2_with fail
    go_roundg (gk - 1)
    case measure => omega
    case rel =>
     refine ⟨q + 1, ((L ++ [.int .u8 92]) ++ [.int .u8 92]), by omega, by go_num, ?_, by simp only [List.length_append, List.length_cons, List.length_nil]; omega, B1.out, K1.out⟩
     rw [ST.out, ← HL.out]
     have hfx : f x = [92, 92] := by rw [HF.out]; unfold tableT1; rw [u8_eq HX.out]; rfl
     rw [hfx]
     simp [Lib.byteCells]
   have gh3 : ((n : Int) == 92) = false := by simp; omega
   go_wp2_with fail
   refine (writeByte_any (w.heap.size + 2) w.heap.size L (n : Int) _ B.out (by omega) hzr'.out (by omega)).mono ?_
   rintro e Y0 ⟨rfl, b1, k1⟩
   have B0 := hid b1
   have K0 := hid (K.out.trans k1)
   have hzY0 : Hid (w.heap.size + 2 ≤ Y0.heap.size) := Nat.le_trans hzr'.out k1.size
   clear b1 k1 hzr'
   have hzr' := hzY0
   clear hzY0
   go_wp2_with fail
   go_roundg (gk - 1)
   case measure => omega
   case rel =>
    refine ⟨q + 1, (L ++ [.int .u8 (n : Int)]), by omega, by go_num, ?_, by simp only [List.length_append, List.length_cons, List.length_nil]; omega, B0.out, K0.out⟩
    rw [ST.out, ← HL.out]
    have hfx : f x = [x] := by rw [HF.out]; unfold tableT1; rw [if_neg (show ¬ x = 10 from u8_ne (m := 10) HX.out (by decide) h1)]; exact if_neg (by rintro (h | h); exact u8_ne HX.out (by decide) h2 h; exact u8_ne HX.out (by decide) h3 h)
    rw [hfx]
    have := HX.out; subst this; simp [Lib.byteCells]
  ·
   have ga : ¬ (q : Int) < (s.size : Int) := by omega
   have hLe : L = Lib.byteCells (s.data.toList.flatMap f) := by rw [HL.out, take_full s q (by omega)]
   subst hLe
   go_wp2_with fail
   refine (builderString_any (w.heap.size + 2) w.heap.size (s.data.toList.flatMap f) _ w.heap.size B.out (by omega) (by omega) (by omega)).mono ?_
   rintro e y ⟨rfl, k1⟩
   have KY : Hid (Kp w y) := Below.trans (Below.trans K0.out (K.out.below w.heap.size (by omega) (by omega))) k1
   clear k1
   go_wp2_with fail
   go_ret
   exact ⟨by rw [← HS.out]; rfl, KY.out⟩
theorem quoted2_any (s : ByteArray) (w : World) (hs : s.size ≤ 1000000) : Calls Tryz.prog 176 #[.string s] w fun e w' => e = .returned (.string (bs (quotT s.data.toList))) ∧ Kp w w' := by
 obtain ⟨f, hf⟩ : ∃ f, f = (quotT1 : UInt8 → List UInt8) := ⟨_, rfl⟩
 obtain ⟨S, hS⟩ : ∃ S, bs (quotT s.data.toList) = S := ⟨_, rfl⟩
 rw [hS]
 have HS : Hid (bs (s.data.toList.flatMap f) = S) := by subst hf; exact hS
 have HF := hid hf
 clear hS hf
 have gs : (0 : Int) ≤ (s.size : Int) := by omega
 go_enter Tryz.func176, Tryz.ntmps176
 go_upto_region 2 with fail
 obtain ⟨C, W0, kc, hC, k0, hz, hb⟩ := conv_str (w.alloc (.cells #[.pointer none, .slice none 0 0] 128)) s
 have hz' : W0.heap.size = w.heap.size + 2 := by rw [hz]; simp
 have hbd : Bd (w.heap.size + 2) w.heap.size [] W0 := Bd.new W0 w.heap.size _ (bl_kp (last_of _ _) k0) rfl _
 have hbe : ∀ j, j < s.size → W0.cell? ⟨w.heap.size + 1, j, none⟩ = some (.int .u8 (ch s j : Nat)) := fun j hj => by
  have := hb j hj
  rw [show (w.alloc (.cells #[.pointer none, .slice none 0 0] 128)).heap.size = w.heap.size + 1 by simp] at this
  exact this
 have BD := hid hbd
 have HC := hid hbe
 have K0 : Hid (Kp w W0) := ((Kp.refl _).alloc _).trans k0
 have HZ := hid hz'
 clear hb hbe hbd k0 hz hz'
 go_wp2_with fail
 clear kc
 go_loopg [9] s.size (fun gg v wr => ∃ (q : Nat) (L : List Value), q + gg = s.size ∧ v = .int .i64 (q : Int) ∧ L = Lib.byteCells ((s.data.toList.take q).flatMap f) ∧ L.length ≤ 2 * q ∧ Bd (w.heap.size + 2) w.heap.size L wr ∧ Kb (w.heap.size + 2) w.heap.size W0 wr)
 case atStart => exact ⟨0, [], by omega, rfl, rfl, by simp, BD.out, Kb.refl _ _ _⟩
 case round =>
  obtain ⟨q, L, hq, rfl, hL, hl, hB, hK⟩ := hrel
  have HL := hid hL
  have B := hid hB
  have K := hid hK
  have hzr : w.heap.size + 2 ≤ wr.heap.size := by have := K.out.size; have := HZ.out; omega
  clear hL hB hK BD
  by_cases hlt : q < s.size
  ·
   have gkw : IntKind.i64.wrap ((q : Int) + 1) = (q : Int) + 1 := by rw [IntKind.wrap_i64]; omega
   have ga : (q : Int) < (s.size : Int) := by omega
   have g0 : (0 : Int) ≤ (q : Int) := by omega
   obtain ⟨x, hx, hc⟩ := byte_at s q hlt
   have cb : wr.cell? ⟨w.heap.size + 1, q, none⟩ = some (.int .u8 (ch s q : Nat)) := (World.cell?_of_block (w := W0) (K.out.block (w.heap.size + 1) (by omega) (by omega))).trans (HC.out q hlt)
   obtain ⟨n, hn⟩ : ∃ n : Nat, ch s q = n := ⟨_, rfl⟩
   rw [hn] at cb hc
   have ST := hid (cells_step f _ q x hx)
   have HX : Hid (x.toNat = n) := hc.symm
   clear hx hn hc
   have hzr' := hid hzr
   clear hzr
   by_cases h1 : n = 10
   ·
    subst h1
    go_wp2_with fail
    refine (writeString_any (w.heap.size + 2) w.heap.size L ⟨#[92, 110]⟩ _ B.out (by rw [show ByteArray.size _ = 2 from rfl]; omega) hzr'.out (by omega)).mono ?_
    rintro e Y0 ⟨rfl, b1, k1⟩
    have B0 := hid b1
    have K0 := hid (K.out.trans k1)
    have hzY0 : Hid (w.heap.size + 2 ≤ Y0.heap.size) := Nat.le_trans hzr'.out k1.size
    clear b1 k1 hzr'
    have hzr' := hzY0
    clear hzY0
    go_wp2_with fail
    go_roundg (gk - 1)
    case measure => omega
    case rel =>
     refine ⟨q + 1, (L ++ Lib.strCells ⟨#[92, 110]⟩), by omega, by go_num, ?_, by simp only [List.length_append, Lib.strCells_length]; rw [show ByteArray.size _ = 2 from rfl]; omega, B0.out, K0.out⟩
     rw [ST.out, ← HL.out]
     have hfx : f x = [92, 110] := by rw [HF.out]; unfold quotT1; rw [u8_eq HX.out]; rfl
     rw [hfx]
     simp [Lib.byteCells, Lib.strCells]
   have gh1 : ((n : Int) == 10) = false := by simp; omega
   by_cases h2 : n = 38
   ·
    subst h2
    go_wp2_with fail
    refine (tspecial_any 38 _).mono ?_
    rintro e w' ⟨rfl, rfl⟩
    rw [show (decide (38 = 38) || decide (38 = 47) || decide (38 = 92)) = true by decide]
    go_wp2_with fail
    refine (writeByte_any (w.heap.size + 2) w.heap.size L 92 _ B.out (by omega) hzr'.out (by omega)).mono ?_
    rintro e Y1 ⟨rfl, b1, k1⟩
    have B1 := hid b1
    have K1 := hid (K.out.trans k1)
    have hzY1 : Hid (w.heap.size + 2 ≤ Y1.heap.size) := Nat.le_trans hzr'.out k1.size
    clear b1 k1 hzr'
    have hzr' := hzY1
    clear hzY1
    go_wp2_with fail
    refine (writeByte_any (w.heap.size + 2) w.heap.size (L ++ [.int .u8 92]) 38 _ B1.out (by simp only [List.length_append, List.length_cons, List.length_nil]; omega) hzr'.out (by omega)).mono ?_
    rintro e Y2 ⟨rfl, b1, k1⟩
    have B2 := hid b1
    have K2 := hid (K1.out.trans k1)
    have hzY2 : Hid (w.heap.size + 2 ≤ Y2.heap.size) := Nat.le_trans hzr'.out k1.size
    clear b1 k1 hzr'
    have hzr' := hzY2
    clear hzY2
    go_wp2_with fail
    go_roundg (gk - 1)
    case measure => omega
    case rel =>
     refine ⟨q + 1, ((L ++ [.int .u8 92]) ++ [.int .u8 38]), by omega, by go_num, ?_, by simp only [List.length_append, List.length_cons, List.length_nil]; omega, B2.out, K2.out⟩
     rw [ST.out, ← HL.out]
     have hfx : f x = [92, 38] := by rw [HF.out]; unfold quotT1; rw [u8_eq HX.out]; rfl
     rw [hfx]
     simp [Lib.byteCells]
   by_cases h3 : n = 47
   ·
    subst h3
    go_wp2_with fail
    refine (tspecial_any 47 _).mono ?_
    rintro e w' ⟨rfl, rfl⟩
    rw [show (decide (47 = 38) || decide (47 = 47) || decide (47 = 92)) = true by decide]
    go_wp2_with fail
    refine (writeByte_any (w.heap.size + 2) w.heap.size L 92 _ B.out (by omega) hzr'.out (by omega)).mono ?_
    rintro e Y1 ⟨rfl, b1, k1⟩
    have B1 := hid b1
    have K1 := hid (K.out.trans k1)
    have hzY1 : Hid (w.heap.size + 2 ≤ Y1.heap.size) := Nat.le_trans hzr'.out k1.size
    clear b1 k1 hzr'
    have hzr' := hzY1
    clear hzY1
    go_wp2_with fail
    refine (writeByte_any (w.heap.size + 2) w.heap.size (L ++ [.int .u8 92]) 47 _ B1.out (by simp only [List.length_append, List.length_cons, List.length_nil]; omega) hzr'.out (by omega)).mono ?_
    rintro e Y2 ⟨rfl, b1, k1⟩
    have B2 := hid b1
    have K2 := hid (K1.out.trans k1)
    have hzY2 : Hid (w.heap.size + 2 ≤ Y2.heap.size) := Nat.le_trans hzr'.out k1.size
    clear b1 k1 hzr'
    have hzr' := hzY2
    clear hzY2
    go_wp2_with fail
    go_roundg (gk - 1)
    case measure => omega
    case rel =>
     refine ⟨q + 1, ((L ++ [.int .u8 92]) ++ [.int .u8 47]), by omega, by go_num, ?_, by simp only [List.length_append, List.length_cons, List.length_nil]; omega, B2.out, K2.out⟩
     rw [ST.out, ← HL.out]
     have hfx : f x = [92, 47] := by rw [HF.out]; unfold quotT1; rw [u8_eq HX.out]; rfl
     rw [hfx]
     simp [Lib.byteCells]
   by_cases h4 : n = 92
   ·
    subst h4
    go_wp2_with fail
    refine (tspecial_any 92 _).mono ?_
    rintro e w' ⟨rfl, rfl⟩
    rw [show (decide (92 = 38) || decide (92 = 47) || decide (92 = 92)) = true by decide]
    go_wp2_with fail
    refine (writeByte_any (w.heap.size + 2) w.heap.size L 92 _ B.out (by omega) hzr'.out (by omega)).mono ?_
    rintro e Y1 ⟨rfl, b1, k1⟩
    have B1 := hid b1
    have K1 := hid (K.out.trans k1)
    have hzY1 : Hid (w.heap.size + 2 ≤ Y1.heap.size) := Nat.le_trans hzr'.out k1.size
    clear b1 k1 hzr'
    have hzr' := hzY1
    clear hzY1
    go_wp2_with fail
    refine (writeByte_any (w.heap.size + 2) w.heap.size (L ++ [.int .u8 92]) 92 _ B1.out (by simp only [List.length_append, List.length_cons, List.length_nil]; omega) hzr'.out (by omega)).mono ?_
    rintro e Y2 ⟨rfl, b1, k1⟩
    have B2 := hid b1
    have K2 := hid (K1.out.trans k1)
    have hzY2 : Hid (w.heap.size + 2 ≤ Y2.heap.size) := Nat.le_trans hzr'.out k1.size
    clear b1 k1 hzr'
    have hzr' := hzY2
    clear hzY2
    go_wp2_with fail
    go_roundg (gk - 1)
    case measure => omega
    case rel =>
     refine ⟨q + 1, ((L ++ [.int .u8 92]) ++ [.int .u8 92]), by omega, by go_num, ?_, by simp only [List.length_append, List.length_cons, List.length_nil]; omega, B2.out, K2.out⟩
     rw [ST.out, ← HL.out]
     have hfx : f x = [92, 92] := by rw [HF.out]; unfold quotT1; rw [u8_eq HX.out]; rfl
     rw [hfx]
     simp [Lib.byteCells]
   go_wp2_with fail
   refine (tspecial_any n _).mono ?_
   rintro e w' ⟨rfl, rfl⟩
   rw [show (decide (n = 38) || decide (n = 47) || decide (n = 92)) = false by simp [h2, h3, h4]]
   go_wp2_with fail
   refine (writeByte_any (w.heap.size + 2) w.heap.size L (n : Int) _ B.out (by omega) hzr'.out (by omega)).mono ?_
   rintro e Y1 ⟨rfl, b1, k1⟩
   have B1 := hid b1
   have K1 := hid (K.out.trans k1)
   have hzY1 : Hid (w.heap.size + 2 ≤ Y1.heap.size) := Nat.le_trans hzr'.out k1.size
   clear b1 k1 hzr'
   have hzr' := hzY1
   clear hzY1
   go_wp2_with fail
   go_roundg (gk - 1)
   case measure => omega
   case rel =>
    refine ⟨q + 1, (L ++ [.int .u8 (n : Int)]), by omega, by go_num, ?_, by simp only [List.length_append, List.length_cons, List.length_nil]; omega, B1.out, K1.out⟩
    rw [ST.out, ← HL.out]
    have hfx : f x = [x] := by rw [HF.out]; unfold quotT1; rw [if_neg (show ¬ x = 10 from u8_ne (m := 10) HX.out (by decide) h1)]; exact if_neg (by rintro (h | h | h); exact u8_ne HX.out (by decide) h2 h; exact u8_ne HX.out (by decide) h3 h; exact u8_ne HX.out (by decide) h4 h)
    rw [hfx]
    have := HX.out; subst this; simp [Lib.byteCells]
  ·
   have ga : ¬ (q : Int) < (s.size : Int) := by omega
   have hLe : L = Lib.byteCells (s.data.toList.flatMap f) := by rw [HL.out, take_full s q (by omega)]
   subst hLe
   go_wp2_with fail
   refine (builderString_any (w.heap.size + 2) w.heap.size (s.data.toList.flatMap f) _ w.heap.size B.out (by omega) (by omega) (by omega)).mono ?_
   rintro e y ⟨rfl, k1⟩
   have KY : Hid (Kp w y) := Below.trans (Below.trans K0.out (K.out.below w.heap.size (by omega) (by omega))) k1
   clear k1
   go_wp2_with fail
   go_ret
   exact ⟨by rw [← HS.out]; rfl, KY.out⟩
theorem tplL_not : ∀ (P : List Pc) (t : Bool) (G : Int) (j : Nat) (p : Pc), P[j]? = some p → pcR p G = false → tplL t P G = false
 | [], _, _, _, _, h, _ => by simp at h
 | x :: P, t, G, 0, p, h, hp => by
  simp at h; subst h
  simp [tplL, hp]
 | x :: P, t, G, j + 1, p, h, hp => by
  simp at h
  simp [tplL, tplL_not P _ G j p h hp]
theorem tplL_two : ∀ (P : List Pc) (t : Bool) (G : Int) (j : Nat) (p q : Pc), P[j]? = some p → P[j + 1]? = some q → p.g = -1 → q.g = -1 → tplL t P G = false
 | [], _, _, _, _, _, h, _, _, _ => by simp at h
 | [x], _, _, j, _, _, _, h, _, _ => by simp at h
 | x :: y :: P, t, G, 0, p, q, h, h', hp, hq => by
  simp at h h'; subst h; subst h'
  simp [tplL, hp, hq]
 | x :: y :: P, t, G, j + 1, p, q, h, h', hp, hq => by
  have := tplL_two (y :: P) (decide (x.g = -1)) G j p q (by simpa using h) (by simpa using h') hp hq
  rw [tplL, this]; simp
theorem tplL_all : ∀ (P : List Pc) (t : Bool) (G : Int), (∀ (j : Nat) (p : Pc), P[j]? = some p → pcR p G = true) → (∀ (j : Nat) (p q : Pc), P[j]? = some p → P[j + 1]? = some q → p.g = -1 → q.g = -1 → False) → (t = true → ∀ p : Pc, P[0]? = some p → p.g ≠ -1) → tplL t P G = true
 | [], _, _, _, _, _ => rfl
 | x :: P, t, G, h1, h2, h3 => by
  have e1 : pcR x G = true := h1 0 x rfl
  have e2 : (t && decide (x.g = -1)) = false := by
   cases t with
   | false => rfl
   | true => simp [h3 rfl x rfl]
  have e3 := tplL_all P (decide (x.g = -1)) G (fun j p h => h1 (j + 1) p (by simpa using h)) (fun j p q h h' => h2 (j + 1) p q (by simpa using h) (by simpa using h')) (fun ht p hp hg => h2 0 x p rfl (by simpa using hp) (by simpa using ht) hg)
  rw [tplL, e1, e2, e3]; rfl
theorem PcAt.get {w : World} {P : List Pc} {ad : Option Addr} {l c : Nat} (h : PcAt w P ad l c) (j : Nat) (p : Pc) (hj : P[j]? = some p) : ∃ b o, ad = some ⟨b, o, none⟩ ∧ b < w.heap.size ∧ w.cell? ⟨b, o + j * 2, none⟩ = some (.int .i64 p.g) ∧ w.cell? ⟨b, o + j * 2 + 1, none⟩ = some (.string p.s) := by
 obtain ⟨b, o, h1, h2, h3⟩ := h.at' (by intro hn; rw [hn] at hj; simp at hj)
 exact ⟨b, o, h1, h2, h3 j p hj⟩
theorem tplRight_any (P : List Pc) (G : Int) (ad : Option Addr) (l c : Nat) (w : World) (hP : PcAt w P ad l c) (hl : P.length ≤ 1000000) : Calls Tryz.prog 139 #[.slice ad l c, .int .i64 G] w fun e w' => e = .returned (.bool (tplR P G)) ∧ Kp w w' := by
 obtain ⟨B, hB⟩ : ∃ B, tplR P G = B := ⟨_, rfl⟩
 rw [hB]
 have HB : Hid (tplL false P G = B) := hB
 clear hB
 obtain ⟨L, hL⟩ : ∃ L, P.length = L := ⟨_, rfl⟩
 have hll := hP.ln
 have hcp := hP.cp
 rw [hL] at hll hl
 subst hll
 have HP := hid hP
 have HL := hid hL
 clear hP hL
 go_enter Tryz.func139, Tryz.ntmps139
 go_wp2_with fail
 go_loopg [9] l (fun gg v wr => ∃ q : Nat, q + gg = l ∧ v = .int .i64 (q : Int) ∧ (∀ j p, j < q → P[j]? = some p → pcR p G = true) ∧ (∀ j p p', j + 1 < q → P[j]? = some p → P[j + 1]? = some p' → p.g = -1 → p'.g = -1 → False) ∧ Kp w wr)
 case atStart => exact ⟨0, by omega, rfl, fun j p hj => absurd hj (by omega), fun j p p' hj => absurd hj (by omega), Kp.refl _⟩
 case round =>
  obtain ⟨q, hq, rfl, h1, h2, hK⟩ := hrel
  have H1 := hid h1
  have H2 := hid h2
  have K := hid hK
  clear h1 h2 hK
  by_cases hlt : q < l
  ·
   have gkw : IntKind.i64.wrap ((q : Int) + 1) = (q : Int) + 1 := by rw [IntKind.wrap_i64]; omega
   have ga : (q : Int) < (l : Int) := by omega
   have g0 : (0 : Int) ≤ (q : Int) := by omega
   obtain ⟨p, hp⟩ : ∃ p, P[q]? = some p := ⟨_, List.getElem?_eq_getElem (by rw [HL.out]; exact hlt)⟩
   obtain ⟨bb, oo, e1, hbb, c1, c2⟩ := (HP.out.kp K.out).get q p hp
   subst e1
   have PR : Hid (∀ w, Calls Tryz.prog 177 #[.agg #[.int .i64 p.g, .string p.s], .int .i64 G] w fun e w' => e = .returned (.bool (pcR p G)) ∧ Kp w w') := fun w => pieceRight_any p G w
   obtain ⟨g, s⟩ := p
   obtain ⟨R, hR⟩ : ∃ R, pcR ⟨g, s⟩ G = R := ⟨_, rfl⟩
   rw [hR] at PR
   have HR := hid hR
   have HPQ := hid hp
   clear hR hp
   go_upto_region 4 with fail
   clear c1 c2
   refine opq (fun W => W.heap[wr.heap.size]? = some (.cells #[.int .i64 g, .string s] 34) ∧ Kp wr W) ⟨by first | exact last_at _ _ _ (by simp) | exact bl_put (bl_put (last_at _ _ _ (by simp)) _) _, by repeat (first | exact Kp.refl _ | refine Kp.alloc ?_ _ | refine Kp.setCell ?_ ?_ _ | (simp; omega))⟩ ?_
   rintro W1 ⟨y1, y2⟩
   have A1 := hid y1
   have K1 := hid y2
   clear y1 y2
   have a0 := bl_cell A1.out 0 _ rfl
   have a1 := bl_cell A1.out 1 _ rfl
   go_wp2_with fail
   clear a0 a1
   refine (PR.out _).mono ?_
   rintro e W2 ⟨rfl, k2⟩
   have A2 := hid (bl_kp A1.out k2)
   have K2 := hid (K.out.trans (K1.out.trans k2))
   clear k2
   cases R
   ·
    have E : Hid (B = false) := by show _ = _; rw [← HB.out]; exact tplL_not P false G q _ HPQ.out HR.out
    go_wp2_with fail
    go_ret
    exact ⟨by rw [E.out]; rfl, K2.out⟩
   have a0 := bl_cell A2.out 0 _ rfl
   have ST : ∀ j p, j < q + 1 → P[j]? = some p → pcR p G = true := fun j p' hj hp => by
    by_cases hjq : j = q
    ·
     subst hjq
     rw [HPQ.out] at hp
     injection hp with hp
     subst hp
     exact HR.out
    ·
     exact H1.out j p' (by omega) hp
   have HST := hid ST
   clear ST
   by_cases hq0 : q = 0
   ·
    subst hq0
    have gq : ¬ ((0 : Nat) : Int) > 0 := by omega
    go_wp2_with fail
    clear a0
    go_roundg (gk - 1)
    case measure => omega
    case rel => exact ⟨1, by omega, by go_num, HST.out, fun j p p' hj => absurd hj (by omega), K2.out⟩
   ·
    have gq : (q : Int) > 0 := by omega
    by_cases hg : g = -1
    ·
     subst hg
     obtain ⟨r, rfl⟩ : ∃ r, q = r + 1 := ⟨q - 1, by omega⟩
     obtain ⟨p0, hp0⟩ : ∃ p, P[r]? = some p := ⟨_, List.getElem?_eq_getElem (by rw [HL.out]; omega)⟩
     obtain ⟨b0, o0, e2, hb0, d1, d2⟩ := (HP.out.kp K2.out).get r p0 hp0
     injection e2 with e2
     injection e2 with e2 e3 e4
     subst e2
     subst e3
     have gw : IntKind.i64.wrap (((r + 1 : Nat) : Int) - 1) = (r : Int) := by rw [IntKind.wrap_i64]; omega
     have gr0 : (0 : Int) ≤ (r : Int) := by omega
     have grl : (r : Int) < (l : Int) := by omega
     obtain ⟨g', s'⟩ := p0
     have HP0 := hid hp0
     clear hp0 d2
     by_cases hg' : g' = -1
     ·
      subst hg'
      have E : Hid (B = false) := by show _ = _; rw [← HB.out]; exact tplL_two P false G r _ _ HP0.out HPQ.out rfl rfl
      go_wp2_with fail
      go_ret
      exact ⟨by rw [E.out]; rfl, K2.out⟩
     ·
      have gn : (g' == -1) = false := by simp [hg']
      have HG := hid hg'
      clear hg'
      go_wp2_with fail
      clear a0 d1
      go_roundg (gk - 1)
      case measure => omega
      case rel => exact ⟨r + 1 + 1, by omega, by go_num, HST.out, fun j p p' hj hp hp' hpg hpg' => by
        by_cases hjr : j = r
        ·
         subst hjr
         rw [HP0.out] at hp
         injection hp with hp
         subst hp
         exact HG.out hpg
        ·
         exact H2.out j p p' (by omega) hp hp' hpg hpg', K2.out⟩
    ·
     have gn : (g == -1) = false := by simp [hg]
     have HG := hid hg
     clear hg
     go_wp2_with fail
     clear a0
     go_roundg (gk - 1)
     case measure => omega
     case rel => exact ⟨q + 1, by omega, by go_num, HST.out, fun j p p' hj hp hp' hpg hpg' => by
       by_cases hjr : j + 1 = q
       ·
        subst hjr
        rw [HPQ.out] at hp'
        injection hp' with hp'
        subst hp'
        exact HG.out hpg'
       ·
        exact H2.out j p p' (by omega) hp hp' hpg hpg', K2.out⟩
  ·
   have ga : ¬ (q : Int) < (l : Int) := by omega
   have hql : q = l := by omega
   subst hql
   have E : Hid (B = true) := by
    show _ = _
    rw [← HB.out]
    refine tplL_all P false G (fun j p h => H1.out j p ?_ h) (fun j p p' h h' => H2.out j p p' ?_ h h') (fun h => absurd h (by simp))
    ·
     have := (List.getElem?_eq_some_iff.1 h).1; rw [HL.out] at this; exact this
    ·
     have := (List.getElem?_eq_some_iff.1 h').1; rw [HL.out] at this; exact this
   go_wp2_with fail
   go_ret
   exact ⟨by rw [E.out]; rfl, K.out⟩
theorem Tryz.laysM171 : Go.Proofs.LaysM.n171 Tryz.prog Tryz.lays171_ren := { Tryz.lays171 with
 i0 := by kernel_rfl
 i2 := by kernel_rfl
 i3 := by kernel_rfl
 i4 := by kernel_rfl
 i5 := by kernel_rfl
 i9 := by kernel_rfl
 i20 := by kernel_rfl
 i37 := by kernel_rfl
 i46 := by kernel_rfl
 i51 := by kernel_rfl
 i53 := by kernel_rfl
 i171 := by kernel_rfl
 i173 := by kernel_rfl
 i212 := by kernel_rfl
 i232 := by kernel_rfl
 i233 := by kernel_rfl
 m17 := by kernel_rfl
 m18 := by kernel_rfl
 m19 := by kernel_rfl }
def Tb (w : World) : Prop := Lib.TabIs Tryz.prog w "internal/strconv.uint64pow10" .u64 Lib.pow10Tab
theorem Tb.kp {w w' : World} (h : Tb w) (k : Kp w w') : Tb w' := Lib.tabBelow_of_tabIs h w' k
theorem kp_grow (w : World) (n : Nat) (os : Array Obj) : Kp w (Sort.grow (w.drewN n) os) :=
 ⟨rfl, rfl, rfl, by simp [Sort.grow, World.drewN], fun k hk => by simp [Sort.grow, World.drewN, Array.getElem?_append, hk]⟩
theorem itoa_all (n : Nat) (h : n ≤ 1000000000) (w : World) (hT : Tb w) : Calls Tryz.prog 76 #[.int .i64 (n : Int)] w fun e w' => e = .returned (.string (bs (dec n))) ∧ Kp w w' := by
 refine (Any.strconv_Itoa Tryz.laysM171 (n : Int) (by omega) (by omega) w hT).mono ?_
 rintro e w' ⟨rfl, k, os, rfl⟩
 refine ⟨?_, kp_grow w k os⟩
 have : Lib.itoa (n : Int) = Lib.decDigits n := by unfold Lib.itoa; rw [if_neg (by omega), Int.toNat_natCast]
 rw [this]
 rfl
theorem dec_more (n k : Nat) (h : n / 10 < 10 ^ k) (ih : ∀ m, m < 10 ^ k → (Lib.decDigits m).length ≤ k) (_ : 1 ≤ k) : (Lib.decDigits n).length ≤ k + 1 := by
 rw [Lib.decDigits]
 split
 ·
  simp
 ·
  have := ih _ h
  simp
  exact this
theorem dec_len4 (n : Nat) (h : n < 10000) : (dec n).length ≤ 4 :=
 dec_more n 3 (by omega) (fun m hm => dec_more m 2 (by omega) (fun k hk => dec_len k hk) (by omega)) (by omega)
theorem flatMap_len (f : UInt8 → List UInt8) (h : ∀ x, (f x).length ≤ 2) : ∀ s : List UInt8, (s.flatMap f).length ≤ 2 * s.length
 | [] => by simp
 | x :: s => by
  have h1 := h x
  have h2 := flatMap_len f h s
  rw [List.flatMap_cons, List.length_append, List.length_cons]
  omega
theorem quotT_len (s : List UInt8) : (quotT s).length ≤ 2 * s.length := flatMap_len _ (fun x => by split; simp; split <;> simp) s
theorem linesT_len (s : List UInt8) : (linesT s).length ≤ 2 * s.length := flatMap_len _ (fun x => by split <;> simp) s
theorem tableT_len (s : List UInt8) : (tableT s).length ≤ 2 * s.length := flatMap_len _ (fun x => by split; simp; split <;> simp) s
theorem nameText_any (s : ByteArray) (w : World) (hs : s.size ≤ 1000000) : Calls Tryz.prog 97 #[.string s] w fun e w' => e = .returned (.string (bs (nameT s.data.toList))) ∧ w' = w := by
 by_cases h : s.size = 0
 ·
  obtain rfl := size0 s h
  go_enter Tryz.func97, Tryz.ntmps97
  go_wp2
  go_ret
  exact ⟨rfl, rfl⟩
 ·
  have ne := ne0 s h
  have E : Hid (bs (nameT s.data.toList) = bs [32] ++ s) := by
   show _ = _
   unfold nameT
   rw [if_neg (fun he => h (by have := congrArg List.length he; simpa using this)), ← bs_app]
   rfl
  rw [E.out]
  clear E
  go_enter Tryz.func97, Tryz.ntmps97
  go_wp2
  go_ret
  exact ⟨rfl, rfl⟩
def wit (n lo hi : Int) : Int := if n.tmod (hi - lo + 1) < 0 then lo + (n.tmod (hi - lo + 1) + (hi - lo + 1)) else lo + n.tmod (hi - lo + 1)
theorem wit_le (n lo hi : Int) (h : lo ≤ hi) : lo ≤ wit n lo hi ∧ wit n lo hi ≤ hi := by
 have hm1 : -(hi - lo + 1) < n.tmod (hi - lo + 1) := by
  have h2 := Int.tmod_lt_of_pos (-n) (show 0 < hi - lo + 1 by omega)
  rw [Int.neg_tmod] at h2; omega
 have hm2 : n.tmod (hi - lo + 1) < hi - lo + 1 := Int.tmod_lt_of_pos n (by omega)
 unfold wit; split <;> omega
theorem within_any (n lo hi : Int) (w : World) (h : lo ≤ hi) (h0 : -10 ≤ lo) (h1 : hi ≤ 1000000) :
  Calls Tryz.prog 33 #[.int .i64 n, .int .i64 lo, .int .i64 hi] w fun e w' => e = .returned (.int .i64 (wit n lo hi)) ∧ w' = w := by
 have hm1 : -(hi - lo + 1) < n.tmod (hi - lo + 1) := by
  have h2 := Int.tmod_lt_of_pos (-n) (show 0 < hi - lo + 1 by omega)
  rw [Int.neg_tmod] at h2; omega
 have hm2 : n.tmod (hi - lo + 1) < hi - lo + 1 := Int.tmod_lt_of_pos n (by omega)
 have ri : ∀ {a b : Int}, a = b → Ending.returned (.int .i64 a) = .returned (.int .i64 b) := fun h => by rw [h]
 by_cases hneg : n.tmod (hi - lo + 1) < 0
 ·
  have E : Hid (wit n lo hi = lo + (n.tmod (hi - lo + 1) + (hi - lo + 1))) := by show _ = _; unfold wit; rw [if_pos hneg]
  go_enter Tryz.func33, Tryz.ntmps33
  go_wp2
  go_ret
  exact ⟨ri (by rw [E.out]; omega), rfl⟩
 ·
  have E : Hid (wit n lo hi = lo + n.tmod (hi - lo + 1)) := by show _ = _; unfold wit; rw [if_neg hneg]
  go_enter Tryz.func33, Tryz.ntmps33
  go_wp2
  go_ret
  exact ⟨ri (by rw [E.out]), rfl⟩
def u8s (l : List Nat) : List UInt8 := l.map UInt8.ofNat
def mid (b : Nat) : Bool := !(b == 93) && !(b == 94) && !(b == 45)
def rowT (p : Nat → Bool) : List UInt8 := u8s ((lst p 256).filter (· == 93)) ++ u8s ((lst p 256).filter mid) ++ u8s ((lst p 256).filter (· == 94)) ++ u8s ((lst p 256).filter (· == 45))
theorem lst_lt (p : Nat → Bool) (k : Nat) : ∀ x ∈ lst p k, x < k := by
 intro x hx
 unfold lst at hx
 simp at hx
 exact hx.1
theorem lst_len (p : Nat → Bool) (k : Nat) : (lst p k).length ≤ k := by rw [lst_length]; exact cnt_le p k
def Ow (base : Nat) (w : World) (v : Value) (l : List Nat) : Prop := w.ownsRow base 5 1 v l.length (l.map u8v)
theorem Ow.kp {base : Nat} {w w' : World} {v : Value} {l : List Nat} (h : Ow base w v l) (k : Kp w w') : Ow base w' v l := owns_kp h k
theorem Ow.conv {base : Nat} {w : World} {v : Value} {l : List Nat} (h : Ow base w v l) (hl : ∀ x ∈ l, x < 256) : (convert 59 9 v).run Tryz.prog w = .ok (.string (bs (u8s l))) w := by
 obtain ⟨h1, h2⟩ := h
 rcases h2 with ⟨rfl, h0⟩ | ⟨g, cap, cur, rfl, hb, hg, hc, hm, hs, ht⟩
 ·
  have : l = [] := List.eq_nil_of_length_eq_zero h0
  subst this
  exact Lib.run_convert_nil_bytes w 59 9 5 0 Tryz.underlying59 Tryz.underlying5 Tryz.underlying9
 ·
  have hlen : (u8s l).length = l.length := by simp [u8s]
  rw [← hlen]
  refine run_convert_bytes_back w 59 9 5 ⟨g, 0, none⟩ cap (u8s l) Tryz.underlying59 Tryz.underlying5 Tryz.underlying9 ?_
  intro j hj
  have hj' : j < l.length := by rw [← hlen]; exact hj
  have hx : (u8s l)[j] = UInt8.ofNat l[j] := by simp [u8s]
  rw [hx]
  have hlt := hl l[j] (List.getElem_mem hj')
  rw [show (⟨g, 0, none⟩ : Addr).add j = ⟨g, j, none⟩ by simp [Addr.add]; exact Eq.symm]
  refine bl_cell hg j _ ?_
  have e1 : (cur.toList.take (l.length * 1))[j]? = (l.map u8v)[j]? := by rw [ht]
  rw [List.getElem?_take, if_pos (by omega), Array.getElem?_toList] at e1
  rw [e1, List.getElem?_map, List.getElem?_eq_getElem hj']
  show some _ = some _
  congr 1
  show Value.int .u8 _ = Value.int .u8 _
  congr 1
  rw [UInt8.toNat_ofNat_of_lt' (by simpa using hlt)]
theorem Ow.at {base : Nat} {w : World} {v : Value} {l : List Nat} (h : Ow base w v l) (j x : Nat) (hj : l[j]? = some x) : ∃ g cap, v = .slice (some ⟨g, 0, none⟩) l.length cap ∧ w.cell? ⟨g, j, none⟩ = some (.int .u8 (x : Int)) := by
 obtain ⟨h1, h2⟩ := h
 rcases h2 with ⟨rfl, h0⟩ | ⟨g, cap, cur, rfl, hb, hg, hc, hm, hs, ht⟩
 ·
  rw [List.eq_nil_of_length_eq_zero h0] at hj; simp at hj
 ·
  have hj' : j < l.length := (List.getElem?_eq_some_iff.1 hj).1
  refine ⟨g, cap, rfl, bl_cell hg j _ ?_⟩
  have e1 : (cur.toList.take (l.length * 1))[j]? = (l.map u8v)[j]? := by rw [ht]
  rw [List.getElem?_take, if_pos (by omega), Array.getElem?_toList] at e1
  rw [e1, List.getElem?_map, hj]
  rfl
theorem Ow.turn {base : Nat} {w w' : World} {row : Option Nat} {v : Value} {l : List Nat} (h : Ow base w v l) (g : w.grownBy w' row) (hne : ∀ b, v.ownBlock = some b → row ≠ some b) : Ow base w' v l := by
 obtain ⟨h1, h2⟩ := h
 refine ⟨h1, ?_⟩
 rcases h2 with h2 | ⟨gb, cap, cur, hv, hb, hg, hr⟩
 ·
  exact .inl h2
 ·
  exact .inr ⟨gb, cap, cur, hv, hb, (g.block gb (Array.getElem?_eq_some_iff.1 hg).1 (Ne.symm (hne gb (by rw [hv]; rfl)))).trans hg, hr⟩
def Off (u v : Value) : Prop := ∀ b, u.ownBlock = some b → v.ownBlock ≠ some b
theorem wpList_append_b {ops : Array Oper} {rest : List Oper} {o : Oper} {a : Act} {Q : Exit → Act → World → Prop} (W : World) (hgd : o.guard = none) (s x : Operand)
  (ho : o.op = .call { callee := .builtin .append, args := #[s, x], argTypes := #[59, 59] })
  (base : Nat) (v : Value) (b : Nat) (l : List Nat) (hs : a.eval s = v) (hown : Hid (Ow base W v l)) (B : Nat) (hB : B = W.heap.size)
  (hx : a.eval x = .slice (some ⟨B, 0, none⟩) 1 1) (h63 : l.length ≤ 900) (hbase : base ≤ W.heap.size)
  (h : ∀ v' w', Ow base w' v' (l ++ [b]) → W.grownBy w' v.ownBlock → (v'.ownBlock = v.ownBlock ∨ v'.ownBlock = some (W.heap.size + 1)) → wpList Tryz.prog ops Q rest (a.put o.dst v') w') :
  wpList Tryz.prog ops Q (o :: rest) a (W.alloc (.cells #[.int .u8 (b : Int)] 5)) := by
 obtain ⟨i, hi, hz, hsz, hby⟩ := info5
 have kal : Kp W (W.alloc (.cells #[.int .u8 (b : Int)] 5)) := (Kp.refl _).alloc _
 subst hB
 refine wpList_append_own_at (W.alloc (.cells #[.int .u8 (b : Int)] 5)) hgd s x 59 ho base 5 i (.int .u8 0) 1 1 Tryz.underlying59 hi hz hsz hby rfl (by omega) v l.length (l.map u8v) hs (hown.out.alloc _) ⟨W.heap.size, 0, none⟩ 1 1 [u8v b] hx rfl ?_ ?_ (by unfold maxLen; omega) (by omega) (by simp; omega) ?_
 ·
  intro j y hj
  match j, hj with
  | 0, hj => simp at hj; subst hj; simp [Addr.add]
 ·
  intro y hy; simp at hy; subst hy; rfl
 ·
  intro v' w' a1 a2 _ a4
  refine h v' w' ?_ ⟨a2.os.trans rfl, a2.tape.trans rfl, a2.output.trans rfl, Nat.le_trans kal.size a2.size, fun k hk hne => (a2.block k (Nat.lt_of_lt_of_le hk kal.size) hne).trans (kal.block k hk)⟩ ?_
  ·
   unfold Ow
   rw [List.length_append, List.map_append]
   exact a1
  ·
   rcases a4 with a4 | a4
   ·
    exact Or.inl a4
   ·
    refine Or.inr (a4.trans ?_)
    simp
end Go.Proofs.YtigdmebijbaofaaGreatDoor
