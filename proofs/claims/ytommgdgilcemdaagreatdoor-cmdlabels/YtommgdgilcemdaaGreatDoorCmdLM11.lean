/-
  Texts of this claim: Brk, SignIn.
-/
import Derived.Test.YtommgdgilcemdaaGreatDoorCmdLM6
import Derived.Test.YtommgdgilcemdaaGreatDoorCmdLM10
import Derived.Deep.LoopGhost

/-! ### Brk -/

namespace Go.Proofs.YtommgdgilcemdaaGreatDoor
open Go.RowKit

theorem pClass_le (s : ByteArray) (i : Nat) (hi : i + 2 ≤ s.size) : (pClass s i).2 ≤ s.size ∧ ((pClass s i).1 ≠ none → i < (pClass s i).2) := by
 have z : s.data.toList.length = s.size := Array.length_toList
 unfold pClass
 dsimp only
 split
 ·
  split
  ·
   refine ⟨by show s.size - _ ≤ s.size; omega, fun _ => ?_⟩
   have hl : (Lib.cut (List.drop (i + 2) s.data.toList) [58, 93]).2.1.length ≤ s.size - (i + 2) := by
    unfold Lib.cut
    split
    ·
     show (List.drop _ (List.drop (i + 2) s.data.toList)).length ≤ _
     rw [List.length_drop, List.length_drop, z]; omega
    ·
     exact Nat.zero_le _
   show i < s.size - (Lib.cut (List.drop (i + 2) s.data.toList) [58, 93]).2.1.length
   omega
  ·
   exact ⟨by show i ≤ s.size; omega, fun h => absurd rfl h⟩
 ·
  exact ⟨by show i ≤ s.size; omega, fun h => absurd rfl h⟩
theorem pIn_le (s : ByteArray) (i : Nat) (hi : i ≤ s.size) : (pIn s i).2 ≤ s.size ∧ ((pIn s i).1 ≠ none → i < (pIn s i).2) := by
 unfold pIn
 split
 ·
  exact ⟨hi, fun h => absurd rfl h⟩
 ·
  split
  ·
   rename_i hp; exact pClass_le s i (pfx_le hp hi)
  ·
   split
   ·
    rename_i hd
    have h3 : i + 3 ≤ s.size := by unfold dash at hd; simp at hd; omega
    split
    ·
     exact ⟨by show i + 2 ≤ s.size; omega, fun h => absurd rfl h⟩
    ·
     exact ⟨h3, fun _ => by show i < i + 3; omega⟩
   ·
    exact ⟨by show i + 1 ≤ s.size; omega, fun _ => by show i < i + 1; omega⟩

/-- In the loop: what was read so far, and what is to come. -/
structure Br (s : ByteArray) (i2 k : Nat) (ok : Bool) (p : Nat → Bool) (j : Nat) : Prop where
 yes : ok = true → j ≤ s.size ∧ s.size < k + j ∧ pBrL s k p j = pBr s i2
 no : ok = false → pBr s i2 = (none, j)

set_option maxRecDepth 100000 in
theorem bracket_any (s : ByteArray) (ere : Bool) (i n g d P : Nat) (w : World) (h : Rd w P s ere i n g d) (hi : i < s.size) (hs : s.size ≤ 1000000) (hn : n ≤ 1000000000) :
  Calls Tryz.prog 158 #[.pointer (some ⟨P, 0, none⟩)] w fun e w' => RetE w P s ere (pBracket s ⟨i, n, g, d⟩) e w' := by
 have R : Hid (Rd w P s ere i n g d) := h
 have hP : P < w.heap.size := h.lt
 clear h
 have gi : IntKind.i64.wrap ((i : Int) + 1) = (i : Int) + 1 := by rw [IntKind.wrap_i64]; omega
 obtain ⟨tn, htn⟩ : ∃ tn, bTurn s i = tn := ⟨_, rfl⟩
 have T1 : Hid (∀ w, Rd w P s ere (i + 1) n g d → Calls Tryz.prog 166 #[.pointer (some ⟨P, 0, none⟩), .string ⟨#[94]⟩] w fun e w' => e = .returned (.bool tn) ∧ Rd w' P s ere (bFrom s i) n g d ∧ Ks P w w') := by
  intro w h
  have := takes_any ⟨#[94]⟩ s ere (i + 1) n g d P w h hi hs
  rw [show pfx s (i + 1) (⟨#[94]⟩ : ByteArray).data.toList = tn from htn] at this
  unfold bFrom
  rw [htn]
  cases tn <;> exact this
 have hf : bFrom s i ≤ s.size := by
  unfold bFrom
  split
  ·
   rename_i ht; exact pfx_le ht hi
  ·
   exact hi
 have HTN := hid htn
 clear htn
 obtain ⟨i2, hi2⟩ : ∃ i2, bFrom s i = i2 := ⟨_, rfl⟩
 rw [hi2] at T1 hf
 have HI2 := hid hi2
 clear hi2
 go_enter Tryz.func158, Tryz.ntmps158
 go_upto_region 1 with fail
 refine opq (fun W0 => Rd W0 P s ere i n g d ∧ W0.heap[w.heap.size]? = some rzo ∧ Ks P w W0) ⟨by exact R.out.kp (by repeat (first | exact Kp.refl _ | refine Kp.alloc ?_ _ | refine Kp.drew ?_ | refine Kp.drewN _ ?_)), by (first | exact last_at _ _ _ (by simp) | (refine bl_alloc ?_ _; first | exact last_at _ _ _ (by simp) | (refine bl_alloc ?_ _; first | exact last_at _ _ _ (by simp) | (refine bl_alloc ?_ _; exact last_at _ _ _ (by simp))))), by exact (Kp.ks (by repeat (first | exact Kp.refl _ | refine Kp.alloc ?_ _ | refine Kp.drew ?_ | refine Kp.drewN _ ?_)) (Nat.le_of_lt hP))⟩ ?_
 rintro W0 ⟨xR0, xB0, xK0⟩
 have R0 : Hid (Rd W0 P s ere i n g d) := xR0
 have B0 : Hid (W0.heap[w.heap.size]? = some rzo) := xB0
 have K0 : Hid (Ks P w W0) := xK0
 clear xR0 xB0 xK0
 clear R
 have p2 := R0.out.cells.2.2.1
 have fp2 := bl_frozen R0.out.b 2
 go_upto_region 3 with fail
 refine opq (fun W1 => Rd W1 P s ere (i + 1) n g d ∧ W1.heap[w.heap.size]? = some rzo ∧ Ks P w W1) ⟨by exact R0.out.at (i + 1), by exact bl_set B0.out (by omega) _, by exact K0.out.set 2 _⟩ ?_
 rintro W1 ⟨xR1, xB1, xK1⟩
 have R1 : Hid (Rd W1 P s ere (i + 1) n g d) := xR1
 have B1 : Hid (W1.heap[w.heap.size]? = some rzo) := xB1
 have K1 : Hid (Ks P w W1) := xK1
 clear xR1 xB1 xK1
 clear p2 fp2 R0 B0 K0
 go_wp2_with fail
 refine (T1.out _ R1.out).mono ?_
 rintro e W2 ⟨rfl, r2, k2⟩
 have R2 := hid r2
 have B2 : Hid (W2.heap[w.heap.size]? = some rzo) := bl_ks B1.out (by omega) k2
 have K2 : Hid (Ks P w W2) := K1.out.trans k2
 clear r2 k2 R1 B1 K1 T1
 go_wp2_with fail
 refine (inBracket_any s ere i2 n g d P _ R2.out hf hs).mono ?_
 rintro e w3 ⟨⟨q, ok, rfl, r3⟩⟩
 have hsz3 : w.heap.size < w3.heap.size := bl_lt (bl_ks B2.out (by omega) r3.ks)
 have R3 := hid r3
 have B3 : Hid (w3.heap[w.heap.size]? = some rzo) := bl_ks B2.out (by omega) r3.ks
 have K3 : Hid (Ks P w w3) := K2.out.trans r3.ks
 clear r3 R2 B2 K2
 obtain ⟨oo, jj, ho⟩ : ∃ oo jj, pIn s i2 = (oo, jj) := ⟨_, _, rfl⟩
 have HO := hid ho
 have hle := pIn_le s i2 hf
 rw [ho] at hle
 have HLE := hid hle
 clear hle ho
 have BR0 : Hid (Br s i2 (s.size + 1) ok q jj) := by
  have e := R3.out.eq
  rw [HO.out] at e
  refine ⟨fun h => ?_, fun h => ?_⟩
  ·
   subst h
   refine ⟨HLE.out.1, by omega, ?_⟩
   unfold pBr
   rw [HO.out, show oo = some q from e]
  ·
   subst h
   unfold pBr
   rw [HO.out, show oo = none from e]
 have RJ : Hid (Rd w3 P s ere jj n g d) := by have := R3.out.rd; rw [HO.out] at this; exact this
 clear R3 HO HLE
 go_wp2_with fail
 go_loopg [7] (s.size + 1) (fun k v wr => ∃ (ok : Bool) (p : Nat → Bool) (j : Nat), v = .bool ok ∧ Br s i2 k ok p j ∧ At wr w3.heap.size p ∧ Rd wr P s ere j n g d ∧ wr.heap[w.heap.size]? = some rzo ∧ Ks P w wr)
 case atStart => exact ⟨ok, q, jj, rfl, BR0.out, At.new _ _, RJ.out.kp ((Kp.refl _).alloc _), bl_alloc B3.out _, K3.out.kpt ((Kp.refl _).alloc _) hP⟩
 case round =>
  obtain ⟨ok, p, j, rfl, hbr, hA, hR, hB, hK⟩ := hrel
  have BR := hid hbr
  have A := hid hA
  have R := hid hR
  have B := hid hB
  have K := hid hK
  have hszr : w3.heap.size < wr.heap.size := hA.lt
  clear hbr hA hR hB hK B3 K3 RJ BR0
  cases ok with
  | false =>
   have E : Hid (pBracket s ⟨i, n, g, d⟩ = ⟨rx0, 1, ⟨j, n, g, d⟩⟩) := by show _ = _; unfold pBracket; rw [HI2.out, BR.out.no rfl]
   have b0 := bl_cell (B.out) 0 _ rfl
   have fb0 := bl_frozen (B.out) 0
   have b1 := bl_cell (B.out) 1 _ rfl
   have fb1 := bl_frozen (B.out) 1
   have b2 := bl_cell (B.out) 2 _ rfl
   have fb2 := bl_frozen (B.out) 2
   have b3 := bl_cell (B.out) 3 _ rfl
   have fb3 := bl_frozen (B.out) 3
   have b4 := bl_cell (B.out) 4 _ rfl
   have fb4 := bl_frozen (B.out) 4
   have b5 := bl_cell (B.out) 5 _ rfl
   have fb5 := bl_frozen (B.out) 5
   have b6 := bl_cell (B.out) 6 _ rfl
   have fb6 := bl_frozen (B.out) 6
   have b7 := bl_cell (B.out) 7 _ rfl
   have fb7 := bl_frozen (B.out) 7
   have b8 := bl_cell (B.out) 8 _ rfl
   have fb8 := bl_frozen (B.out) 8
   go_wp2_with fail
   refine bodyPost_ret (v := .tuple #[rz, .int .i64 1]) (rx_ret2 rfl _ _ _ _ _ rfl rfl (bl_set9 B.out _ _ _ _ _ _ _ _ _) rfl) rfl ?_
   rw [E.out]
   exact ⟨_, rfl, Ret.fail R.out K.out (ks_set9 _ _ _ _ _ _ _ _ _) hP (by omega)⟩
  | true =>
   obtain ⟨hj1, hj2, hj3⟩ := BR.out.yes rfl
   obtain ⟨k, rfl⟩ : ∃ k, gk = k + 1 := ⟨gk - 1, by omega⟩
   have HJ := hid hj3
   clear hj3 BR
   obtain ⟨sh, hsh⟩ : ∃ sh, pfx s j [93] = sh := ⟨_, rfl⟩
   have HSH := hid hsh
   have hsl : sh = true → j + 1 ≤ s.size := fun h => by rw [h] at hsh; exact pfx_le hsh hj1
   have HSL := hid hsl
   clear hsh hsl
   go_wp2_with fail
   refine (takes_any ⟨#[93]⟩ s ere j n g d P _ R.out hj1 hs).mono ?_
   rintro e V4 ⟨rfl, r4, k4⟩
   rw [show pfx s j (⟨#[93]⟩ : ByteArray).data.toList = sh from HSH.out] at r4 ⊢
   have A4 : Hid (At V4 w3.heap.size p) := bl_ks A.out (by omega) k4
   have B4 : Hid (V4.heap[w.heap.size]? = some rzo) := bl_ks B.out (by omega) k4
   have K4 : Hid (Ks P w V4) := K.out.trans k4
   have hsz4 : w3.heap.size < V4.heap.size := A4.out.lt
   cases sh with
   | false =>
    have R4 : Hid (Rd V4 P s ere j n g d) := r4
    clear r4 k4 A B K R
    obtain ⟨oo, jj, ho⟩ : ∃ oo jj, pIn s j = (oo, jj) := ⟨_, _, rfl⟩
    have HO := hid ho
    have hle := pIn_le s j hj1
    rw [ho] at hle
    have HLE := hid hle
    clear hle ho
    go_upto_region 7 with fail
    refine opq (fun W5 => Rd W5 P s ere j n g d ∧ At W5 w3.heap.size p ∧ At W5 V4.heap.size (fun _ => false) ∧ W5.heap[w.heap.size]? = some rzo ∧ Ks P w W5) ⟨by exact R4.out.kp (by repeat (first | exact Kp.refl _ | refine Kp.alloc ?_ _ | refine Kp.drew ?_ | refine Kp.drewN _ ?_)), by exact A4.out.kp (by repeat (first | exact Kp.refl _ | refine Kp.alloc ?_ _ | refine Kp.drew ?_ | refine Kp.drewN _ ?_)), by exact At.zero _, by exact bl_kp B4.out (by repeat (first | exact Kp.refl _ | refine Kp.alloc ?_ _ | refine Kp.drew ?_ | refine Kp.drewN _ ?_)), by exact K4.out.kpt (by repeat (first | exact Kp.refl _ | refine Kp.alloc ?_ _ | refine Kp.drew ?_ | refine Kp.drewN _ ?_)) hP⟩ ?_
    rintro W5 ⟨xR5, xA5, xM5, xB5, xK5⟩
    have R5 : Hid (Rd W5 P s ere j n g d) := xR5
    have A5 : Hid (At W5 w3.heap.size p) := xA5
    have M5 : Hid (At W5 V4.heap.size (fun _ => false)) := xM5
    have B5 : Hid (W5.heap[w.heap.size]? = some rzo) := xB5
    have K5 : Hid (Ks P w W5) := xK5
    clear xR5 xA5 xM5 xB5 xK5
    clear R4 A4 B4 K4
    have hsz5 : V4.heap.size < W5.heap.size := M5.out.lt
    go_wp2_with fail
    refine (inBracket_any s ere j n g d P _ R5.out hj1 hs).mono ?_
    rintro e W6 ⟨⟨q, ok, rfl, r6⟩⟩
    have EQ := hid r6.eq
    rw [HO.out] at EQ
    have R6 : Hid (Rd W6 P s ere jj n g d) := by have := r6.rd; rw [HO.out] at this; exact this
    have A6 : Hid (At W6 w3.heap.size p) := bl_ks A5.out (by omega) r6.ks
    have M6 : Hid (At W6 V4.heap.size (fun _ => false)) := bl_ks M5.out (by omega) r6.ks
    have B6 : Hid (W6.heap[w.heap.size]? = some rzo) := bl_ks B5.out (by omega) r6.ks
    have K6 : Hid (Ks P w W6) := K5.out.trans r6.ks
    clear r6 R5 A5 M5 B5 K5
    have NX : Hid (Br s i2 k ok (orB p q) jj) := by
     have hj := HJ.out
     unfold pBrL at hj
     rw [HSH.out, HO.out] at hj
     have e := EQ.out
     refine ⟨fun h => ?_, fun h => ?_⟩
     ·
      subst h
      have e' : oo = some q := e
      subst e'
      have h4 : j < jj := HLE.out.2 (by simp)
      exact ⟨HLE.out.1, by omega, hj⟩
     ·
      subst h
      have e' : oo = none := e
      subst e'
      exact hj.symm
    obtain ⟨m0, m1, m2, m3⟩ := M6.out.cells
    have fm0 := M6.out.frozen 0
    have fm1 := M6.out.frozen 1
    have fm2 := M6.out.frozen 2
    have fm3 := M6.out.frozen 3
    go_upto_region 8 with fail
    clear m0 m1 m2 m3 fm0 fm1 fm2 fm3
    refine opq (fun W7 => Rd W7 P s ere jj n g d ∧ At W7 w3.heap.size p ∧ At W7 V4.heap.size q ∧ W7.heap[w.heap.size]? = some rzo ∧ Ks P w W7) ⟨by exact R6.out.ks (ks_set4 _ _ _ _) (by omega) (by omega), by exact bl_ks A6.out (by omega) (ks_set4 _ _ _ _), by exact M6.out.set4 q, by exact bl_ks B6.out (by omega) (ks_set4 _ _ _ _), by exact K6.out.off (ks_set4 _ _ _ _) (by omega) hP⟩ ?_
    rintro W7 ⟨xR7, xA7, xM7, xB7, xK7⟩
    have R7 : Hid (Rd W7 P s ere jj n g d) := xR7
    have A7 : Hid (At W7 w3.heap.size p) := xA7
    have M7 : Hid (At W7 V4.heap.size q) := xM7
    have B7 : Hid (W7.heap[w.heap.size]? = some rzo) := xB7
    have K7 : Hid (Ks P w W7) := xK7
    clear xR7 xA7 xM7 xB7 xK7
    clear R6 A6 M6 B6 K6
    obtain ⟨c0, c1, c2, c3⟩ := A7.out.cells
    obtain ⟨m0, m1, m2, m3⟩ := M7.out.cells
    go_wp2_with fail
    clear c0 c1 c2 c3 m0 m1 m2 m3
    refine (join2 p q _ W7.heap.size (by simp) (last_of _ _)).mono ?_
    rintro e W8 ⟨rfl, k8⟩
    have k8' := ((Kp.refl W7).alloc (two p q)).trans k8
    have R8 : Hid (Rd W8 P s ere jj n g d) := R7.out.kp k8'
    have A8 : Hid (At W8 w3.heap.size p) := A7.out.kp k8'
    have B8 : Hid (W8.heap[w.heap.size]? = some rzo) := bl_kp B7.out k8'
    have K8 : Hid (Ks P w W8) := K7.out.kpt k8' hP
    clear k8 k8' R7 A7 M7 B7 K7
    obtain ⟨c0, c1, c2, c3⟩ := A8.out.cells
    have fc0 := A8.out.frozen 0
    have fc1 := A8.out.frozen 1
    have fc2 := A8.out.frozen 2
    have fc3 := A8.out.frozen 3
    go_wp2_with fail
    go_roundg k
    case measure => omega
    case rel => exact ⟨ok, orB p q, jj, rfl, NX.out, A8.out.set4 (orB p q), R8.out.ks (ks_set4 _ _ _ _) (by omega) (by omega), bl_ks B8.out (by omega) (ks_set4 _ _ _ _), K8.out.off (ks_set4 _ _ _ _) (by omega) hP⟩
   | true =>
    have R4 : Hid (Rd V4 P s ere (j + 1) n g d) := r4
    have hj5 := HSL.out (by trivial)
    clear r4 k4 A B K R
    obtain ⟨t, ht⟩ : ∃ t, (if tn then notB p else p) = t := ⟨_, rfl⟩
    have HT := hid ht
    clear ht
    have E0 : Hid (pBracket s ⟨i, n, g, d⟩ = if cnt t 256 = 0 then ⟨rx0, 1, ⟨i, n, g, d⟩⟩ else ⟨rset t, 0, ⟨j + 1, n + 1, g, d⟩⟩) := by
     have hj := HJ.out
     unfold pBrL at hj
     rw [HSH.out] at hj
     show _ = _
     unfold pBracket
     rw [HI2.out, ← hj]
     simp only [if_true, HTN.out, HT.out]
    go_upto_if 45 with fail
    go_cut [] (fun wc => At wc w3.heap.size t ∧ Rd wc P s ere (j + 1) n g d ∧ wc.heap[w.heap.size]? = some rzo ∧ Ks P w wc)
    case first =>
     cases tn with
     | false =>
      have ht : p = t := HT.out
      subst ht
      go_wp2_with fail
      go_meet
      case rel => exact ⟨A4.out, R4.out, B4.out, K4.out⟩
     | true =>
      have ht : notB p = t := HT.out
      subst ht
      obtain ⟨c0, c1, c2, c3⟩ := A4.out.cells
      go_wp2_with fail
      clear c0 c1 c2 c3
      refine (not_any p _).mono ?_
      rintro e W5 ⟨rfl, k5⟩
      have A5 := hid (A4.out.kp k5)
      have R5 := hid (R4.out.kp k5)
      have B5 := hid (bl_kp B4.out k5)
      have K5 := hid (K4.out.kpt k5 hP)
      clear k5 A4 R4 B4 K4
      obtain ⟨c0, c1, c2, c3⟩ := A5.out.cells
      have fc0 := A5.out.frozen 0
      have fc1 := A5.out.frozen 1
      have fc2 := A5.out.frozen 2
      have fc3 := A5.out.frozen 3
      go_wp2_with fail
      go_meet
      case rel => exact ⟨A5.out.set4 (notB p), R5.out.ks (ks_set4 _ _ _ _) (by omega) (by omega), bl_ks B5.out (by omega) (ks_set4 _ _ _ _), K5.out.off (ks_set4 _ _ _ _) (by omega) hP⟩
    case rest =>
     obtain ⟨a5, r5, b5, k5⟩ := hcut
     rename World => W5
     have A5 := hid a5
     have R5 := hid r5
     have B5 := hid b5
     have K5 := hid k5
     clear a5 r5 b5 k5 A4 R4 B4 K4
     obtain ⟨c0, c1, c2, c3⟩ := A5.out.cells
     go_wp2_with fail
     clear c0 c1 c2 c3
     refine (count_any t _).mono ?_
     rintro e W6 ⟨rfl, k6⟩
     have A6 := hid (A5.out.kp k6)
     have R6 := hid (R5.out.kp k6)
     have B6 := hid (bl_kp B5.out k6)
     have K6 := hid (K5.out.kpt k6 hP)
     clear k6 A5 R5 B5 K5
     by_cases hc : cnt t 256 = 0
     ·
      have gc : ((cnt t 256 : Int) == 0) = true := by simp; omega
      have gc' : (cnt t 256 : Int) = 0 := by omega
      have E : Hid (pBracket s ⟨i, n, g, d⟩ = ⟨rx0, 1, ⟨i, n, g, d⟩⟩) := by show _ = _; rw [E0.out, if_pos hc]
      clear hc
      have p2 := R6.out.cells.2.2.1
      have fp2 := bl_frozen R6.out.b 2
      have b0 := bl_cell (B6.out) 0 _ rfl
      have fb0 := bl_frozen (B6.out) 0
      have b1 := bl_cell (B6.out) 1 _ rfl
      have fb1 := bl_frozen (B6.out) 1
      have b2 := bl_cell (B6.out) 2 _ rfl
      have fb2 := bl_frozen (B6.out) 2
      have b3 := bl_cell (B6.out) 3 _ rfl
      have fb3 := bl_frozen (B6.out) 3
      have b4 := bl_cell (B6.out) 4 _ rfl
      have fb4 := bl_frozen (B6.out) 4
      have b5 := bl_cell (B6.out) 5 _ rfl
      have fb5 := bl_frozen (B6.out) 5
      have b6 := bl_cell (B6.out) 6 _ rfl
      have fb6 := bl_frozen (B6.out) 6
      have b7 := bl_cell (B6.out) 7 _ rfl
      have fb7 := bl_frozen (B6.out) 7
      have b8 := bl_cell (B6.out) 8 _ rfl
      have fb8 := bl_frozen (B6.out) 8
      go_wp2_with fail
      refine bodyPost_ret (v := .tuple #[rz, .int .i64 1]) (rx_ret2 rfl _ _ _ _ _ rfl rfl (bl_set9 (bl_set B6.out (by omega) _) _ _ _ _ _ _ _ _ _) rfl) rfl ?_
      rw [E.out]
      exact ⟨_, rfl, Ret.fail (R6.out.at i) (K6.out.set 2 _) (ks_set9 _ _ _ _ _ _ _ _ _) hP (by omega)⟩
     ·
      have gc : ((cnt t 256 : Int) == 0) = false := by simp; omega
      have gc' : ¬ (cnt t 256 : Int) = 0 := by omega
      have E : Hid (pBracket s ⟨i, n, g, d⟩ = ⟨rset t, 0, ⟨j + 1, n + 1, g, d⟩⟩) := by show _ = _; rw [E0.out, if_neg hc]
      clear hc
      obtain ⟨c0, c1, c2, c3⟩ := A6.out.cells
      go_wp2_with fail
      clear c0 c1 c2 c3
      refine (oneOf_any t _).mono ?_
      rintro e W7 ⟨rfl, k7⟩
      have R7 := hid (R6.out.kp k7)
      have B7 := hid (bl_kp B6.out k7)
      have K7 := hid (K6.out.kpt k7 hP)
      clear k7 A6 R6 B6 K6
      go_wp2_with fail
      refine (node_any 1 0 0 0 (W4.of t) none 0 0 s ere (j + 1) n g d P _ R7.out hn).mono ?_
      rintro e W8 ⟨rfl, r8, k8⟩
      have R8 := hid r8
      have B8 : Hid (W8.heap[w.heap.size]? = some rzo) := bl_ks B7.out (by omega) k8
      have K8 := hid (K7.out.trans k8)
      clear r8 k8 R7 B7 K7
      have b0 := bl_cell (B8.out) 0 _ rfl
      have fb0 := bl_frozen (B8.out) 0
      have b1 := bl_cell (B8.out) 1 _ rfl
      have fb1 := bl_frozen (B8.out) 1
      have b2 := bl_cell (B8.out) 2 _ rfl
      have fb2 := bl_frozen (B8.out) 2
      have b3 := bl_cell (B8.out) 3 _ rfl
      have fb3 := bl_frozen (B8.out) 3
      have b4 := bl_cell (B8.out) 4 _ rfl
      have fb4 := bl_frozen (B8.out) 4
      have b5 := bl_cell (B8.out) 5 _ rfl
      have fb5 := bl_frozen (B8.out) 5
      have b6 := bl_cell (B8.out) 6 _ rfl
      have fb6 := bl_frozen (B8.out) 6
      have b7 := bl_cell (B8.out) 7 _ rfl
      have fb7 := bl_frozen (B8.out) 7
      have b8 := bl_cell (B8.out) 8 _ rfl
      have fb8 := bl_frozen (B8.out) 8
      go_wp2_with fail
      refine bodyPost_ret (v := .tuple #[rxv 1 0 0 0 (W4.of t) (.slice none 0 0), .int .i64 0]) (rx_ret2 rfl _ _ _ _ _ rfl rfl (bl_set9 B8.out _ _ _ _ _ _ _ _ _) rfl) rfl ?_
      rw [E.out]
      exact ⟨_, rfl, Ret.fin (Is.leaf _ _ _ _ _ _ _) R8.out K8.out (ks_set9 _ _ _ _ _ _ _ _ _) hP (by omega)⟩
end Go.Proofs.YtommgdgilcemdaaGreatDoor

/-! ### SignIn -/

namespace Go.Proofs.YtommgdgilcemdaaGreatDoor
open Go.RowKit
attribute [local go_sem] field91

theorem sgnIn_eq {s : ByteArray} {began i x y z : Nat} (hg : sgn s false i = (x, y, z)) : sgnIn s false began i = if plainIn s began i x then (2, y, z) else (x, y, z) := by
 unfold sgnIn; rw [hg]; rfl
theorem sgn_lt {s : ByteArray} {ere : Bool} {i x y z : Nat} (hg : sgn s ere i = (x, y, z)) (hi : i ≤ s.size) (hx : x ≠ 1) : i < s.size := by
 unfold sgn at hg
 by_cases h : i = s.size
 ·
  rw [if_pos h] at hg; injection hg with h1 _; omega
 ·
  omega

set_option maxRecDepth 100000 in
theorem signIn_any (began : Nat) (s : ByteArray) (ere : Bool) (i n g d P : Nat) (w : World) (h : Rd w P s ere i n g d) (hi : i ≤ s.size) (hb : began ≤ i) (hs : s.size ≤ 1000000) :
  Calls Tryz.prog 137 #[.pointer (some ⟨P, 0, none⟩), .int .i64 (began : Int)] w fun e w' => e = .returned (sg (sgnIn s ere began i)) ∧ Kp w w' := by
 obtain ⟨x, y, z, hg⟩ : ∃ x y z, sgn s ere i = (x, y, z) := ⟨_, _, _, rfl⟩
 have HG : Hid (sgn s ere i = (x, y, z)) := hg
 have R : Hid (Rd w P s ere i n g d) := h
 have hlt : x ≠ 1 → i < s.size := fun hx => sgn_lt hg hi hx
 have HL := hid hlt
 clear h hg hlt
 have gb : IntKind.i64.wrap ((began : Int) + 1) = (began : Int) + 1 := by rw [IntKind.wrap_i64]; omega
 have gi : IntKind.i64.wrap ((i : Int) + 1) = (i : Int) + 1 := by rw [IntKind.wrap_i64]; omega
 go_enter Tryz.func137, Tryz.ntmps137
 go_upto_region 1 with fail
 refine opq (fun W0 => Rd W0 P s ere i n g d ∧ W0.heap[w.heap.size]? = some sgz ∧ Kp w W0) ⟨by exact R.out.kp (by repeat (first | exact Kp.refl _ | refine Kp.alloc ?_ _ | refine Kp.drew ?_ | refine Kp.drewN _ ?_)), by (first | exact last_at _ _ _ (by simp) | (refine bl_alloc ?_ _; first | exact last_at _ _ _ (by simp) | (refine bl_alloc ?_ _; first | exact last_at _ _ _ (by simp) | (refine bl_alloc ?_ _; exact last_at _ _ _ (by simp))))), by exact (by repeat (first | exact Kp.refl _ | refine Kp.alloc ?_ _ | refine Kp.drew ?_ | refine Kp.drewN _ ?_))⟩ ?_
 rintro W0 ⟨xR0, xB0, xK0⟩
 have R0 : Hid (Rd W0 P s ere i n g d) := xR0
 have B0 : Hid (W0.heap[w.heap.size]? = some sgz) := xB0
 have K0 : Hid (Kp w W0) := xK0
 clear xR0 xB0 xK0
 go_wp2_with fail
 refine (sign_any s ere i n g d P _ R0.out hi hs).mono ?_
 rintro e w1 ⟨rfl, kq⟩
 rw [HG.out, sg3]
 have hs1 : w.heap.size < w1.heap.size := bl_lt (bl_kp B0.out kq)
 have KQ : Hid (Kp W0 w1) := kq
 clear kq
 go_upto_region 2 with fail
 refine opq (fun W1 => Rd W1 P s ere i n g d ∧ W1.heap[w.heap.size]? = some sgz ∧ W1.heap[w1.heap.size]? = some (sgo x y z) ∧ Kp w W1) ⟨by exact R0.out.kp (KQ.out.trans (by repeat (first | exact Kp.refl _ | refine Kp.alloc ?_ _ | refine Kp.drew ?_ | refine Kp.drewN _ ?_))), by exact bl_kp B0.out (KQ.out.trans (by repeat (first | exact Kp.refl _ | refine Kp.alloc ?_ _ | refine Kp.drew ?_ | refine Kp.drewN _ ?_))), by (first | exact last_at _ _ _ (by simp) | (refine bl_alloc ?_ _; first | exact last_at _ _ _ (by simp) | (refine bl_alloc ?_ _; first | exact last_at _ _ _ (by simp) | (refine bl_alloc ?_ _; exact last_at _ _ _ (by simp))))), by exact K0.out.trans (KQ.out.trans (by repeat (first | exact Kp.refl _ | refine Kp.alloc ?_ _ | refine Kp.drew ?_ | refine Kp.drewN _ ?_)))⟩ ?_
 rintro W1 ⟨xR1, xB1, xG1, xK1⟩
 have R1 : Hid (Rd W1 P s ere i n g d) := xR1
 have B1 : Hid (W1.heap[w.heap.size]? = some sgz) := xB1
 have G1 : Hid (W1.heap[w1.heap.size]? = some (sgo x y z)) := xG1
 have K1 : Hid (Kp w W1) := xK1
 clear xR1 xB1 xG1 xK1
 clear R0 B0 K0 KQ
 have p0 := R1.out.cells.1
 have p1 := R1.out.cells.2.1
 have p2 := R1.out.cells.2.2.1
 have q0 := bl_cell (G1.out) 0 _ rfl
 have fq0 := bl_frozen (G1.out) 0
 have q1 := bl_cell (G1.out) 1 _ rfl
 have fq1 := bl_frozen (G1.out) 1
 have q2 := bl_cell (G1.out) 2 _ rfl
 have fq2 := bl_frozen (G1.out) 2
 have b0 := bl_cell (B1.out) 0 _ rfl
 have fb0 := bl_frozen (B1.out) 0
 have b1 := bl_cell (B1.out) 1 _ rfl
 have fb1 := bl_frozen (B1.out) 1
 have b2 := bl_cell (B1.out) 2 _ rfl
 have fb2 := bl_frozen (B1.out) 2
 cases ere with
 | true =>
  have E : Hid (sgnIn s true began i = (x, y, z)) := by show _ = _; unfold sgnIn; rw [HG.out]; rfl
  go_wp2_with fail
  exact bodyPost_ret (v := .agg #[_, _, _]) (sg_ret rfl _ _ _ _ _ _ rfl (bl_set3 B1.out _ _ _)) rfl ⟨by rw [E.out]; rfl, (ks_set3 _ _ _).up K1.out (Nat.le_refl _)⟩
 | false =>
  by_cases x10 : x = 10
  ·
   subst x10
   have hl := HL.out (by omega)
   by_cases e0 : i = began
   ·
    have g0 : ((i : Int) == (began : Int)) = true := by rw [e0]; simp
    have E : Hid (sgnIn s false began i = (2, y, z)) := by show _ = _; rw [sgnIn_eq HG.out, show plainIn s began i _ = true by simp [plainIn, e0]]; rfl
    clear e0
    go_wp2_with fail
    exact bodyPost_ret (v := .agg #[_, _, _]) (sg_ret rfl _ _ _ _ _ _ rfl (bl_set3 (bl_set B1.out (by omega) _) _ _ _)) rfl ⟨by rw [E.out]; rfl, (ks_set3 _ _ _).up (K1.out.setCell (by show w.heap.size ≤ w1.heap.size; omega) _) (Nat.le_refl _)⟩
   have g0 : ((i : Int) == (began : Int)) = false := by simp; omega
   by_cases e1 : i = began + 1
   ·
    have g1 : ((i : Int) == (began : Int) + 1) = true := by rw [e1]; simp
    have ec := run_ch s began (by omega)
    obtain ⟨b, hb'⟩ : ∃ b, ch s began = b := ⟨_, rfl⟩
    have HB := hid hb'
    rw [hb'] at ec
    clear hb'
    by_cases e2 : b = 94
    ·
     subst e2
     rw [show ((94 : Nat) : Int) = 94 from rfl] at ec
     have E : Hid (sgnIn s false began i = (2, y, z)) := by show _ = _; rw [sgnIn_eq HG.out, show plainIn s began i _ = true by simp [plainIn, e1, HB.out]]; rfl
     clear e1 e0
     go_wp2_with fail
     exact bodyPost_ret (v := .agg #[_, _, _]) (sg_ret rfl _ _ _ _ _ _ rfl (bl_set3 (bl_set B1.out (by omega) _) _ _ _)) rfl ⟨by rw [E.out]; rfl, (ks_set3 _ _ _).up (K1.out.setCell (by show w.heap.size ≤ w1.heap.size; omega) _) (Nat.le_refl _)⟩
    ·
     have g2 : ((b : Int) == 94) = false := by simp; omega
     have E : Hid (sgnIn s false began i = (10, y, z)) := by show _ = _; rw [sgnIn_eq HG.out, show plainIn s began i _ = false by simp [plainIn, e1, HB.out, e2]]; rfl
     clear e1 e0
     go_wp2_with fail
     exact bodyPost_ret (v := .agg #[_, _, _]) (sg_ret rfl _ _ _ _ _ _ rfl (bl_set3 B1.out _ _ _)) rfl ⟨by rw [E.out]; rfl, (ks_set3 _ _ _).up K1.out (Nat.le_refl _)⟩
   ·
    have g1 : ((i : Int) == (began : Int) + 1) = false := by simp; omega
    have E : Hid (sgnIn s false began i = (10, y, z)) := by show _ = _; rw [sgnIn_eq HG.out, show plainIn s began i _ = false by simp [plainIn, e0, e1]]; rfl
    go_wp2_with fail
    exact bodyPost_ret (v := .agg #[_, _, _]) (sg_ret rfl _ _ _ _ _ _ rfl (bl_set3 B1.out _ _ _)) rfl ⟨by rw [E.out]; rfl, (ks_set3 _ _ _).up K1.out (Nat.le_refl _)⟩
  by_cases x5 : x = 5
  ·
   subst x5
   by_cases e0 : i = began
   ·
    have g0 : ((i : Int) != (began : Int)) = false := by rw [e0]; simp
    have E : Hid (sgnIn s false began i = (5, y, z)) := by show _ = _; rw [sgnIn_eq HG.out, show plainIn s began i _ = false by simp [plainIn, e0]]; rfl
    clear e0
    go_wp2_with fail
    exact bodyPost_ret (v := .agg #[_, _, _]) (sg_ret rfl _ _ _ _ _ _ rfl (bl_set3 B1.out _ _ _)) rfl ⟨by rw [E.out]; rfl, (ks_set3 _ _ _).up K1.out (Nat.le_refl _)⟩
   ·
    have g0 : ((i : Int) != (began : Int)) = true := by simp; omega
    have E : Hid (sgnIn s false began i = (2, y, z)) := by show _ = _; rw [sgnIn_eq HG.out, show plainIn s began i _ = true by simp [plainIn, e0]]; rfl
    go_wp2_with fail
    exact bodyPost_ret (v := .agg #[_, _, _]) (sg_ret rfl _ _ _ _ _ _ rfl (bl_set3 (bl_set B1.out (by omega) _) _ _ _)) rfl ⟨by rw [E.out]; rfl, (ks_set3 _ _ _).up (K1.out.setCell (by show w.heap.size ≤ w1.heap.size; omega) _) (Nat.le_refl _)⟩
  by_cases x6 : x = 6
  ·
   subst x6
   have hl := HL.out (by omega)
   obtain ⟨x', y', z', hg'⟩ : ∃ x' y' z', sgn s false (i + 1) = (x', y', z') := ⟨_, _, _, rfl⟩
   have HG' := hid hg'
   clear hg'
   have SA : Hid (∀ w, Calls Tryz.prog 116 #[.string s, .int .i64 ((i : Int) + 1), .bool false] w fun e w' => e = .returned (.agg #[.int .i64 (x' : Int), .int .u8 (y' : Int), .int .i64 (z' : Int)]) ∧ Kp w w') := by
    intro w
    have := signAt_any s false (i + 1) w (by omega) hs
    rw [HG'.out] at this
    exact this
   go_upto_region 11 with fail
   go_cut [7] (fun v wc => v = .int .i64 (x' : Int) ∧ Kp W1 wc)
   case first =>
    have Q0 : Kp W1 W1.drew := (Kp.refl _).drew
    have MK : Hid (∀ W, Kp W1 W → W.cell? ⟨P, 0, none⟩ = some (.string s) ∧ W.cell? ⟨P, 1, none⟩ = some (.bool false) ∧ W.cell? ⟨P, 2, none⟩ = some (.int .i64 (i : Int)) ∧ Hid (Kp W1 W)) := fun W k => ⟨(R1.out.kp k).cells.1, (R1.out.kp k).cells.2.1, (R1.out.kp k).cells.2.2.1, k⟩
    refine wp_region_noPanic ?_
    refine wp_region_held_drew (S := (fun W => W.cell? ⟨P, 0, none⟩ = some (.string s) ∧ W.cell? ⟨P, 1, none⟩ = some (.bool false) ∧ W.cell? ⟨P, 2, none⟩ = some (.int .i64 (i : Int)) ∧ Hid (Kp W1 W))) (by kernel_rfl) ?_ (fun hH => ?_)
    ·
     exact MK.out _ Q0
    have KQ := Q0
    refine wpAnyH_take (i := 0) (oi := { dst := some 53, op := Op.move (Operand.tmp 0), type := 90, pos := "parse.go:107", after := #[], guard := none }) (v := ?v0a1) rfl (by kernel_rfl) (by kernel_rfl) (by kernel_rfl) (fun _ _ _ h => h) (Or.inl ⟨by rfl, ?hy0a1⟩) hH ?r0a1
    case hy0a1 => (intro W hSw; (try dsimp only at hSw); go_simp; try (with_reducible rfl))
    try simp only [Act.put, List.setIfInBounds_toArray, List.set_cons_zero, List.set_cons_succ]
    refine wpAnyH_take (i := 1) (oi := { dst := some 54, op := Op.nilCheck (Operand.tmp 53), type := 0, pos := "parse.go:107", after := #[{ on := 0, ground := Ground.data }], guard := none }) (v := ?v1a2) rfl (by kernel_rfl) (by kernel_rfl) (by kernel_rfl) (fun _ _ _ h => h) (Or.inl ⟨by rfl, ?hy1a2⟩) hH ?r1a2
    case hy1a2 => (intro W hSw; (try dsimp only at hSw); go_simp; try (with_reducible rfl))
    try simp only [Act.put, List.setIfInBounds_toArray, List.set_cons_zero, List.set_cons_succ]
    refine wpAnyH_take (i := 2) (oi := { dst := some 55, op := Op.fieldAddr 66 (Operand.tmp 54) 0, type := 0, pos := "parse.go:107", after := #[{ on := 1, ground := Ground.data }], guard := none }) (v := ?v2a3) rfl (by kernel_rfl) (by kernel_rfl) (by kernel_rfl) (fun _ _ _ h => h) (Or.inl ⟨by rfl, ?hy2a3⟩) hH ?r2a3
    case hy2a3 => (intro W hSw; (try dsimp only at hSw); go_simp; try (with_reducible rfl))
    try simp only [Act.put, List.setIfInBounds_toArray, List.set_cons_zero, List.set_cons_succ]
    refine wpAnyH_take (i := 3) (oi := { dst := some 56, op := Op.load 9 (Operand.tmp 55), type := 9, pos := "parse.go:107", after := #[{ on := 2, ground := Ground.data }], guard := none }) (v := ?v3a4) rfl (by kernel_rfl) (by kernel_rfl) (by kernel_rfl) (fun _ _ _ h => h) (Or.inl ⟨by rfl, ?hy3a4⟩) hH ?r3a4
    case hy3a4 => (intro W hSw; (try dsimp only at hSw); go_simp; try (with_reducible rfl))
    try simp only [Act.put, List.setIfInBounds_toArray, List.set_cons_zero, List.set_cons_succ]
    refine wpAnyH_take (i := 4) (oi := { dst := some 57, op := Op.move (Operand.tmp 0), type := 90, pos := "parse.go:107", after := #[], guard := none }) (v := ?v4a5) rfl (by kernel_rfl) (by kernel_rfl) (by kernel_rfl) (fun _ _ _ h => h) (Or.inl ⟨by rfl, ?hy4a5⟩) hH ?r4a5
    case hy4a5 => (intro W hSw; (try dsimp only at hSw); go_simp; try (with_reducible rfl))
    try simp only [Act.put, List.setIfInBounds_toArray, List.set_cons_zero, List.set_cons_succ]
    refine wpAnyH_take (i := 5) (oi := { dst := some 58, op := Op.nilCheck (Operand.tmp 57), type := 0, pos := "parse.go:107", after := #[{ on := 4, ground := Ground.data }], guard := none }) (v := ?v5a6) rfl (by kernel_rfl) (by kernel_rfl) (by kernel_rfl) (fun _ _ _ h => h) (Or.inl ⟨by rfl, ?hy5a6⟩) hH ?r5a6
    case hy5a6 => (intro W hSw; (try dsimp only at hSw); go_simp; try (with_reducible rfl))
    try simp only [Act.put, List.setIfInBounds_toArray, List.set_cons_zero, List.set_cons_succ]
    refine wpAnyH_take (i := 6) (oi := { dst := some 59, op := Op.fieldAddr 66 (Operand.tmp 58) 2, type := 0, pos := "parse.go:107", after := #[{ on := 5, ground := Ground.data }], guard := none }) (v := ?v6a7) rfl (by kernel_rfl) (by kernel_rfl) (by kernel_rfl) (fun _ _ _ h => h) (Or.inl ⟨by rfl, ?hy6a7⟩) hH ?r6a7
    case hy6a7 => (intro W hSw; (try dsimp only at hSw); go_simp; try (with_reducible rfl))
    try simp only [Act.put, List.setIfInBounds_toArray, List.set_cons_zero, List.set_cons_succ]
    refine wpAnyH_take (i := 7) (oi := { dst := some 60, op := Op.load 3 (Operand.tmp 59), type := 3, pos := "parse.go:107", after := #[{ on := 6, ground := Ground.data }], guard := none }) (v := ?v7a8) rfl (by kernel_rfl) (by kernel_rfl) (by kernel_rfl) (fun _ _ _ h => h) (Or.inl ⟨by rfl, ?hy7a8⟩) hH ?r7a8
    case hy7a8 => (intro W hSw; (try dsimp only at hSw); go_simp; try (with_reducible rfl))
    try simp only [Act.put, List.setIfInBounds_toArray, List.set_cons_zero, List.set_cons_succ]
    refine wpAnyH_take (i := 8) (oi := { dst := some 61, op := Op.binOp BinOp.add 3 (Operand.tmp 60) (Operand.const (Value.int IntKind.i64 1)) 3, type := 3, pos := "parse.go:107", after := #[{ on := 7, ground := Ground.data }], guard := none }) (v := ?v8a9) rfl (by kernel_rfl) (by kernel_rfl) (by kernel_rfl) (fun _ _ _ h => h) (Or.inl ⟨by rfl, ?hy8a9⟩) hH ?r8a9
    case hy8a9 => (intro W hSw; (try dsimp only at hSw); go_simp; try (with_reducible rfl))
    try simp only [Act.put, List.setIfInBounds_toArray, List.set_cons_zero, List.set_cons_succ]
    refine wpAnyH_take (i := 9) (oi := { dst := some 62, op := Op.move (Operand.tmp 0), type := 90, pos := "parse.go:107", after := #[], guard := none }) (v := ?v9a10) rfl (by kernel_rfl) (by kernel_rfl) (by kernel_rfl) (fun _ _ _ h => h) (Or.inl ⟨by rfl, ?hy9a10⟩) hH ?r9a10
    case hy9a10 => (intro W hSw; (try dsimp only at hSw); go_simp; try (with_reducible rfl))
    try simp only [Act.put, List.setIfInBounds_toArray, List.set_cons_zero, List.set_cons_succ]
    refine wpAnyH_take (i := 10) (oi := { dst := some 63, op := Op.nilCheck (Operand.tmp 62), type := 0, pos := "parse.go:107", after := #[{ on := 9, ground := Ground.data }], guard := none }) (v := ?v10a11) rfl (by kernel_rfl) (by kernel_rfl) (by kernel_rfl) (fun _ _ _ h => h) (Or.inl ⟨by rfl, ?hy10a11⟩) hH ?r10a11
    case hy10a11 => (intro W hSw; (try dsimp only at hSw); go_simp; try (with_reducible rfl))
    try simp only [Act.put, List.setIfInBounds_toArray, List.set_cons_zero, List.set_cons_succ]
    refine wpAnyH_take (i := 11) (oi := { dst := some 64, op := Op.fieldAddr 66 (Operand.tmp 63) 1, type := 0, pos := "parse.go:107", after := #[{ on := 10, ground := Ground.data }], guard := none }) (v := ?v11a12) rfl (by kernel_rfl) (by kernel_rfl) (by kernel_rfl) (fun _ _ _ h => h) (Or.inl ⟨by rfl, ?hy11a12⟩) hH ?r11a12
    case hy11a12 => (intro W hSw; (try dsimp only at hSw); go_simp; try (with_reducible rfl))
    try simp only [Act.put, List.setIfInBounds_toArray, List.set_cons_zero, List.set_cons_succ]
    refine wpAnyH_take (i := 12) (oi := { dst := some 65, op := Op.load 4 (Operand.tmp 64), type := 4, pos := "parse.go:107", after := #[{ on := 11, ground := Ground.data }], guard := none }) (v := ?v12a13) rfl (by kernel_rfl) (by kernel_rfl) (by kernel_rfl) (fun _ _ _ h => h) (Or.inl ⟨by rfl, ?hy12a13⟩) hH ?r12a13
    case hy12a13 => (intro W hSw; (try dsimp only at hSw); go_simp; try (with_reducible rfl))
    try simp only [Act.put, List.setIfInBounds_toArray, List.set_cons_zero, List.set_cons_succ]
    refine wpAnyH_ready (rs := [13]) (by kernel_rfl) (by simp) ?_
    refine AllReadyH.cons (o := { dst := some 66, op := Op.call { callee := Callee.value (Operand.func 116), args := #[Operand.tmp 56, Operand.tmp 61, Operand.tmp 65], argTypes := #[9, 3, 4] }, type := 110, pos := "parse.go:107", after := #[{ on := 3, ground := Ground.data }, { on := 8, ground := Ground.data }, { on := 12, ground := Ground.data }], guard := none }) rfl (fun K hKq => ?_) AllReadyH.nil
    go_simp
    refine (SA.out _).mono ?_
    rintro e y1 ⟨rfl, kq⟩
    refine hKq.out _ _ (MK.out _ (KQ.trans kq)) (fun hN => ?_)
    clear kq
    clear hKq K hH KQ
    have hH := hN
    clear hN
    have KQ := hH.2.2.2.out
    try simp only [Act.put, List.setIfInBounds_toArray, List.set_cons_zero, List.set_cons_succ]
    refine wpAnyH_take (i := 14) (oi := { dst := some 67, op := Op.field 110 (Operand.tmp 66) 0, type := 3, pos := "parse.go:107", after := #[{ on := 13, ground := Ground.data }], guard := none }) (v := ?v14a14) rfl (by kernel_rfl) (by kernel_rfl) (by kernel_rfl) (fun _ _ _ h => h) (Or.inl ⟨by rfl, ?hy14a14⟩) hH ?r14a14
    case hy14a14 => (intro W hSw; (try dsimp only at hSw); go_simp; try (with_reducible rfl))
    try simp only [Act.put, List.setIfInBounds_toArray, List.set_cons_zero, List.set_cons_succ]
    refine wpAnyH_take (i := 15) (oi := { dst := some 7, op := Op.assign (Operand.tmp 67), type := 3, pos := "parse.go:107", after := #[{ on := 14, ground := Ground.data }, { on := 13, ground := Ground.chain }, { on := 0, ground := Ground.phase }, { on := 1, ground := Ground.phase }, { on := 2, ground := Ground.phase }, { on := 3, ground := Ground.phase }, { on := 4, ground := Ground.phase }, { on := 5, ground := Ground.phase }, { on := 6, ground := Ground.phase }, { on := 7, ground := Ground.phase }, { on := 8, ground := Ground.phase }, { on := 9, ground := Ground.phase }, { on := 10, ground := Ground.phase }, { on := 11, ground := Ground.phase }, { on := 12, ground := Ground.phase }, { on := 13, ground := Ground.phase }, { on := 14, ground := Ground.phase }], guard := none }) (v := ?v15a15) rfl (by kernel_rfl) (by kernel_rfl) (by kernel_rfl) (fun _ _ _ h => h) (Or.inl ⟨by rfl, ?hy15a15⟩) hH ?r15a15
    case hy15a15 => (intro W hSw; (try dsimp only at hSw); go_simp; try (with_reducible rfl))
    try simp only [Act.put, List.setIfInBounds_toArray, List.set_cons_zero, List.set_cons_succ]
    refine wpAnyH_done (by kernel_rfl) ?_ _
    refine NoPanic.normal ?_
    go_wp2_with fail
    go_meet
    case rel => exact ⟨rfl, KQ⟩
   case rest =>
    obtain ⟨rfl, k2⟩ := hcut
    rename World => W2
    have hs2 := k2.size
    have B2 : Hid (W2.heap[w.heap.size]? = some sgz) := bl_kp B1.out k2
    have G2 : Hid (W2.heap[w1.heap.size]? = some (sgo 6 y z)) := bl_kp G1.out k2
    have K2 : Hid (Kp w W2) := K1.out.trans k2
    clear k2 p0 p1 p2 q0 q1 q2 fq0 fq1 fq2 b0 b1 b2 fb0 fb1 fb2 B1 G1 K1 R1
    have q0 := bl_cell (G2.out) 0 _ rfl
    have fq0 := bl_frozen (G2.out) 0
    have q1 := bl_cell (G2.out) 1 _ rfl
    have fq1 := bl_frozen (G2.out) 1
    have q2 := bl_cell (G2.out) 2 _ rfl
    have fq2 := bl_frozen (G2.out) 2
    have b0 := bl_cell (B2.out) 0 _ rfl
    have fb0 := bl_frozen (B2.out) 0
    have b1 := bl_cell (B2.out) 1 _ rfl
    have fb1 := bl_frozen (B2.out) 1
    have b2 := bl_cell (B2.out) 2 _ rfl
    have fb2 := bl_frozen (B2.out) 2
    by_cases n1 : x' = 1
    ·
     subst n1
     have E : Hid (sgnIn s false began i = (6, y, z)) := by show _ = _; rw [sgnIn_eq HG.out, show plainIn s began i _ = false by simp [plainIn, HG'.out]]; rfl
     go_wp2_with fail
     exact bodyPost_ret (v := .agg #[_, _, _]) (sg_ret rfl _ _ _ _ _ _ rfl (bl_set3 B2.out _ _ _)) rfl ⟨by rw [E.out]; rfl, (ks_set3 _ _ _).up K2.out (Nat.le_refl _)⟩
    by_cases n8 : x' = 8
    ·
     subst n8
     have E : Hid (sgnIn s false began i = (6, y, z)) := by show _ = _; rw [sgnIn_eq HG.out, show plainIn s began i _ = false by simp [plainIn, HG'.out]]; rfl
     go_wp2_with fail
     exact bodyPost_ret (v := .agg #[_, _, _]) (sg_ret rfl _ _ _ _ _ _ rfl (bl_set3 B2.out _ _ _)) rfl ⟨by rw [E.out]; rfl, (ks_set3 _ _ _).up K2.out (Nat.le_refl _)⟩
    have g1 : ((x' : Int) != 1) = true := by simp; omega
    have g8 : ((x' : Int) != 8) = true := by simp; omega
    have E : Hid (sgnIn s false began i = (2, y, z)) := by show _ = _; rw [sgnIn_eq HG.out, show plainIn s began i _ = true by simp [plainIn, HG'.out, n1, n8]]; rfl
    go_wp2_with fail
    exact bodyPost_ret (v := .agg #[_, _, _]) (sg_ret rfl _ _ _ _ _ _ rfl (bl_set3 (bl_set B2.out (by omega) _) _ _ _)) rfl ⟨by rw [E.out]; rfl, (ks_set3 _ _ _).up (K2.out.setCell (by show w.heap.size ≤ w1.heap.size; omega) _) (Nat.le_refl _)⟩
  have g10 : ((x : Int) == 10) = false := by simp; omega
  have g5 : ((x : Int) == 5) = false := by simp; omega
  have g6 : ((x : Int) == 6) = false := by simp; omega
  have E : Hid (sgnIn s false began i = (x, y, z)) := by show _ = _; rw [sgnIn_eq HG.out, show plainIn s began i _ = false by simp [plainIn, x10, x5, x6]]; rfl
  go_wp2_with fail
  exact bodyPost_ret (v := .agg #[_, _, _]) (sg_ret rfl _ _ _ _ _ _ rfl (bl_set3 B1.out _ _ _)) rfl ⟨by rw [E.out]; rfl, (ks_set3 _ _ _).up K1.out (Nat.le_refl _)⟩
end Go.Proofs.YtommgdgilcemdaaGreatDoor
