/-
  Texts: the small pieces.
-/
import Derived.Test.YtikmgckefbjbkaaGreatDoorShelf
import Derived.Test.YtikmgckefbjbkaaGreatDoorKeep
import Derived.Laws.IdiomStrings
namespace Go.Proofs.YtikmgckefbjbkaaGreatDoor
open Go.RowKit

/-- A text of bytes. -/
def bs (l : List UInt8) : ByteArray := ⟨l.toArray⟩
theorem bs_app (a b : List UInt8) : bs a ++ bs b = bs (a ++ b) := by
  apply ByteArray.ext
  apply Array.toList_inj.1
  rw [ByteArray.data_append, Array.toList_append]
  simp [bs]
theorem bs_size (a : List UInt8) : (bs a).size = a.length := by
  show a.toArray.size = a.length
  simp
theorem bs_toList (a : List UInt8) : (bs a).toList = a := ByteArray.toList_mk a
def dec (n : Nat) : List UInt8 := Lib.decDigits n
theorem dec_len (n : Nat) (h : n < 100) : (dec n).length ≤ 2 := (by decide +kernel : ∀ n : Fin 100, (dec n.val).length ≤ 2) ⟨n, h⟩
theorem itoa_any (n : Nat) (h : n < 100) (w : World) : Calls Tryz.prog 41 #[.int .i64 (n : Int)] w fun e w' => e = .returned (.string (bs (dec n))) ∧ w' = w := Tryz.strconv_Itoa_small n h w

def framedT (a x b : List UInt8) (ere : Bool) : List UInt8 := if ere then a ++ x ++ b else [92] ++ a ++ x ++ [92] ++ b
theorem lit92 : (⟨#[92]⟩ : ByteArray) = bs [92] := rfl

set_option maxHeartbeats 2000000 in
set_option maxRecDepth 100000 in
theorem framed_any (a x b : List UInt8) (ere : Bool) (ha : a.length ≤ 100) (hx : x.length ≤ 10000000) (hb : b.length ≤ 100) (w : World) : Calls Tryz.prog 40 #[.string (bs a), .string (bs x), .string (bs b), .bool ere] w fun e w' => e = .returned (.string (bs (framedT a x b ere))) ∧ w' = w := by
  rw [← bs_size] at ha hx hb
  have E : Hid (bs (framedT a x b ere) = if ere then bs a ++ bs x ++ bs b else bs [92] ++ bs a ++ bs x ++ bs [92] ++ bs b) := by
    show _ = _
    unfold framedT
    cases ere <;> simp [bs_app]
  obtain ⟨A, hA⟩ : ∃ A, bs a = A := ⟨_, rfl⟩
  obtain ⟨X, hX⟩ : ∃ X, bs x = X := ⟨_, rfl⟩
  obtain ⟨B, hB⟩ : ∃ B, bs b = B := ⟨_, rfl⟩
  rw [hA, hX, hB] at E
  rw [hA] at ha ⊢
  rw [hX] at hx ⊢
  rw [hB] at hb ⊢
  clear hA hX hB
  cases ere with
  | true =>
    go_enter Tryz.func40, Tryz.ntmps40
    go_wp2
    go_ret
    exact ⟨by rw [E.out]; rfl, rfl⟩
  | false =>
    go_enter Tryz.func40, Tryz.ntmps40
    go_wp2
    go_ret
    exact ⟨by rw [E.out]; rfl, rfl⟩

def ivT (lo : Nat) (hi : Int) : List UInt8 := if hi = lo then dec lo else if hi = -1 then dec lo ++ [44] else dec lo ++ [44] ++ dec hi.toNat

set_option maxHeartbeats 2000000 in
set_option maxRecDepth 100000 in
theorem ivText_any (lo : Nat) (hi : Int) (hlo : lo ≤ 20) (h1 : -1 ≤ hi) (h2 : hi ≤ 20) (w : World) : Calls Tryz.prog 60 #[.int .i64 (lo : Int), .int .i64 hi] w fun e w' => e = .returned (.string (bs (ivT lo hi))) ∧ w' = w := by
  have hd : (bs (dec lo)).size ≤ 2 := by rw [bs_size]; exact dec_len lo (by omega)
  obtain ⟨A, hA⟩ : ∃ A, bs (dec lo) = A := ⟨_, rfl⟩
  have IT : Hid (∀ w, Calls Tryz.prog 41 #[.int .i64 (lo : Int)] w fun e w' => e = .returned (.string A) ∧ w' = w) := fun w => by rw [← hA]; exact itoa_any lo (by omega) w
  have HA := hid hA
  rw [hA] at hd
  clear hA
  by_cases e1 : hi = lo
  · subst e1
    have E : Hid (bs (ivT lo (lo : Int)) = A) := by show _ = _; unfold ivT; rw [if_pos rfl, HA.out]
    go_enter Tryz.func60, Tryz.ntmps60
    go_wp2_with fail
    refine (IT.out _).mono ?_
    rintro e w1 ⟨rfl, rfl⟩
    go_wp2_with fail
    go_ret
    exact ⟨by rw [E.out]; rfl, rfl⟩
  have g1 : (hi == (lo : Int)) = false := by simp [e1]
  by_cases e2 : hi = -1
  · subst e2
    have E : Hid (bs (ivT lo (-1)) = A ++ bs [44]) := by show _ = _; unfold ivT; rw [if_neg e1, if_pos rfl, ← HA.out, bs_app]
    go_enter Tryz.func60, Tryz.ntmps60
    go_wp2_with fail
    refine (IT.out _).mono ?_
    rintro e w1 ⟨rfl, rfl⟩
    go_wp2_with fail
    go_ret
    exact ⟨by rw [E.out]; rfl, rfl⟩
  have g2 : (hi == -1) = false := by simp [e2]
  obtain ⟨h, rfl⟩ : ∃ h : Nat, hi = h := ⟨hi.toNat, by omega⟩
  have hd2 : (bs (dec h)).size ≤ 2 := by rw [bs_size]; exact dec_len h (by omega)
  obtain ⟨B, hB⟩ : ∃ B, bs (dec h) = B := ⟨_, rfl⟩
  have IT2 : Hid (∀ w, Calls Tryz.prog 41 #[.int .i64 (h : Int)] w fun e w' => e = .returned (.string B) ∧ w' = w) := fun w => by rw [← hB]; exact itoa_any h (by omega) w
  have E : Hid (bs (ivT lo (h : Int)) = A ++ bs [44] ++ B) := by show _ = _; unfold ivT; rw [if_neg e1, if_neg e2, ← HA.out, ← hB, bs_app, bs_app]; simp
  rw [hB] at hd2
  clear hB
  go_enter Tryz.func60, Tryz.ntmps60
  go_wp2_with fail
  refine (IT.out _).mono ?_
  rintro e w1 ⟨rfl, rfl⟩
  go_wp2_with fail
  refine (IT2.out _).mono ?_
  rintro e w2 ⟨rfl, rfl⟩
  go_wp2_with fail
  go_ret
  exact ⟨by rw [E.out]; rfl, rfl⟩

def timesT (lo : Nat) (hi : Int) (ere : Bool) : List UInt8 :=
  if lo = 0 ∧ hi = -1 then [42] else if ere = true ∧ lo = 1 ∧ hi = -1 then [43] else if ere = true ∧ lo = 0 ∧ hi = 1 then [63] else framedT [123] (ivT lo hi) [125] ere
theorem ivT_len (lo : Nat) (hi : Int) (hlo : lo ≤ 20) (h1 : -1 ≤ hi) (h2 : hi ≤ 20) : (ivT lo hi).length ≤ 5 := by
  have a := dec_len lo (by omega)
  have b := dec_len hi.toNat (by omega)
  unfold ivT
  split
  · omega
  · split
    · simp; omega
    · simp; omega

set_option maxHeartbeats 2000000 in
set_option maxRecDepth 100000 in
theorem timesText_any (lo : Nat) (hi : Int) (ere : Bool) (hlo : lo ≤ 20) (h1 : -1 ≤ hi) (h2 : hi ≤ 20) (w : World) : Calls Tryz.prog 39 #[.int .i64 (lo : Int), .int .i64 hi, .bool ere] w fun e w' => e = .returned (.string (bs (timesT lo hi ere))) ∧ w' = w := by
  have FR := hid (framed_any [123] (ivT lo hi) [125] ere (by simp) (by have := ivT_len lo hi hlo h1 h2; omega) (by simp))
  have IV := hid (ivText_any lo hi hlo h1 h2)
  by_cases l0 : lo = 0
  · subst l0
    by_cases m1 : hi = -1
    · subst m1
      have E : Hid (timesT 0 (-1) ere = [42]) := by show _ = _; unfold timesT; rw [if_pos ⟨rfl, rfl⟩]
      go_enter Tryz.func39, Tryz.ntmps39
      go_wp2
      go_ret
      exact ⟨by rw [E.out]; rfl, rfl⟩
    have n1 : (hi == -1) = false := by simp [m1]
    cases ere with
    | false =>
      have E : Hid (timesT 0 hi false = framedT [123] (ivT 0 hi) [125] false) := by show _ = _; unfold timesT; simp [m1]
      go_enter Tryz.func39, Tryz.ntmps39
      go_wp2_with fail
      refine (IV.out _).mono ?_
      rintro e w1 ⟨rfl, rfl⟩
      go_wp2_with fail
      refine (FR.out _).mono ?_
      rintro e w2 ⟨rfl, rfl⟩
      go_wp2_with fail
      go_ret
      exact ⟨by rw [E.out]; rfl, rfl⟩
    | true =>
      by_cases p1 : hi = 1
      · subst p1
        have E : Hid (timesT 0 1 true = [63]) := rfl
        go_enter Tryz.func39, Tryz.ntmps39
        go_wp2
        go_ret
        exact ⟨by rw [E.out]; rfl, rfl⟩
      have n2 : (hi == 1) = false := by simp [p1]
      have E : Hid (timesT 0 hi true = framedT [123] (ivT 0 hi) [125] true) := by show _ = _; unfold timesT; simp [m1, p1]
      go_enter Tryz.func39, Tryz.ntmps39
      go_wp2_with fail
      refine (IV.out _).mono ?_
      rintro e w1 ⟨rfl, rfl⟩
      go_wp2_with fail
      refine (FR.out _).mono ?_
      rintro e w2 ⟨rfl, rfl⟩
      go_wp2_with fail
      go_ret
      exact ⟨by rw [E.out]; rfl, rfl⟩
  have n0 : ((lo : Int) == 0) = false := by simp; omega
  cases ere with
  | false =>
    have E : Hid (timesT lo hi false = framedT [123] (ivT lo hi) [125] false) := by show _ = _; unfold timesT; simp [l0]
    go_enter Tryz.func39, Tryz.ntmps39
    go_wp2_with fail
    refine (IV.out _).mono ?_
    rintro e w1 ⟨rfl, rfl⟩
    go_wp2_with fail
    refine (FR.out _).mono ?_
    rintro e w2 ⟨rfl, rfl⟩
    go_wp2_with fail
    go_ret
    exact ⟨by rw [E.out]; rfl, rfl⟩
  | true =>
    by_cases l1 : lo = 1
    · subst l1
      by_cases m1 : hi = -1
      · subst m1
        have E : Hid (timesT 1 (-1) true = [43]) := rfl
        go_enter Tryz.func39, Tryz.ntmps39
        go_wp2
        go_ret
        exact ⟨by rw [E.out]; rfl, rfl⟩
      have n1 : (hi == -1) = false := by simp [m1]
      have E : Hid (timesT 1 hi true = framedT [123] (ivT 1 hi) [125] true) := by show _ = _; unfold timesT; simp [m1]
      go_enter Tryz.func39, Tryz.ntmps39
      go_wp2_with fail
      refine (IV.out _).mono ?_
      rintro e w1 ⟨rfl, rfl⟩
      go_wp2_with fail
      refine (FR.out _).mono ?_
      rintro e w2 ⟨rfl, rfl⟩
      go_wp2_with fail
      go_ret
      exact ⟨by rw [E.out]; rfl, rfl⟩
    have n3 : ((lo : Int) == 1) = false := by simp; omega
    have E : Hid (timesT lo hi true = framedT [123] (ivT lo hi) [125] true) := by show _ = _; unfold timesT; simp [l0, l1]
    go_enter Tryz.func39, Tryz.ntmps39
    go_wp2_with fail
    refine (IV.out _).mono ?_
    rintro e w1 ⟨rfl, rfl⟩
    go_wp2_with fail
    refine (FR.out _).mono ?_
    rintro e w2 ⟨rfl, rfl⟩
    go_wp2_with fail
    go_ret
    exact ⟨by rw [E.out]; rfl, rfl⟩

def byteT (b : Nat) (ere : Bool) : List UInt8 := if b = 10 then [92, 110] else if spec ere b then [92, UInt8.ofNat b] else [UInt8.ofNat b]
theorem conv_one (W : World) (b : Nat) (hb : b < 256) : (convert 47 9 (.slice (some ⟨W.heap.size, 0, none⟩) 1 1)).run Tryz.prog (W.alloc (.cells #[.int .u8 (b : Int)] 5)) = .ok (.string (bs [UInt8.ofNat b])) (W.alloc (.cells #[.int .u8 (b : Int)] 5)) := by
  refine run_convert_bytes_back (W.alloc (.cells #[.int .u8 (b : Int)] 5)) 47 9 5 ⟨W.heap.size, 0, none⟩ 1 [UInt8.ofNat b] Tryz.underlying47 Tryz.underlying5 Tryz.underlying9 ?_
  intro j hj
  have h0 : j = 0 := by simp at hj; exact hj
  subst h0
  refine bl_cell (last_of _ _) 0 _ ?_
  show some _ = some _
  simp
  omega

set_option maxHeartbeats 2000000 in
set_option maxRecDepth 100000 in
theorem byteText_any (b : Nat) (hb : b < 256) (ere : Bool) (w : World) : Calls Tryz.prog 54 #[.int .u8 (b : Int), .bool ere] w fun e w' => e = .returned (.string (bs (byteT b ere))) ∧ Kp w w' := by
  by_cases h10 : b = 10
  · subst h10
    have E : Hid (byteT 10 ere = [92, 110]) := rfl
    go_enter Tryz.func54, Tryz.ntmps54
    go_wp2
    go_ret
    exact ⟨by rw [E.out]; rfl, Kp.refl _⟩
  have g : ((b : Int) == 10) = false := by simp; omega
  obtain ⟨sp, hsp⟩ : ∃ sp, spec ere b = sp := ⟨_, rfl⟩
  have HSP := hid hsp
  have E0 : Hid (byteT b ere = if sp then [92, UInt8.ofNat b] else [UInt8.ofNat b]) := by show _ = _; unfold byteT; rw [if_neg h10, hsp]
  clear hsp
  go_enter Tryz.func54, Tryz.ntmps54
  go_wp2_with fail
  refine (special_any ere _).mono ?_
  rintro e W1 ⟨rfl, k1⟩
  have K1 := hid k1
  clear k1
  go_wp2_with fail
  refine (has_any (spec ere) b _ hb).mono ?_
  rintro e W2 ⟨rfl, k2⟩
  rw [HSP.out]
  have K2 := hid (K1.out.trans k2)
  have cv := conv_one W2 b hb
  have hz : (bs [UInt8.ofNat b]).size ≤ 10 := by rw [bs_size]; simp
  obtain ⟨T, hT⟩ : ∃ T, bs [UInt8.ofNat b] = T := ⟨_, rfl⟩
  rw [hT] at cv hz
  have HT := hid hT
  clear k2 hT K1
  cases sp with
  | true =>
    have E : Hid (bs (byteT b ere) = bs [92] ++ T) := by show _ = _; rw [E0.out, ← HT.out, bs_app]; rfl
    go_wp2_with fail
    go_ret
    exact ⟨by rw [E.out]; rfl, K2.out.alloc _⟩
  | false =>
    have E : Hid (bs (byteT b ere) = T) := by show _ = _; rw [E0.out, ← HT.out]; rfl
    go_wp2_with fail
    go_ret
    exact ⟨by rw [E.out]; rfl, K2.out.alloc _⟩
end Go.Proofs.YtikmgckefbjbkaaGreatDoor
