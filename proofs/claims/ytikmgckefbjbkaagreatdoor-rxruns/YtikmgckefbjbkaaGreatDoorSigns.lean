/-
  What the signs of a text are: the small functions of package rx that read one.
-/
import Derived.Test.YtikmgckefbjbkaaGreatDoorBlk
import Derived.Deep.RegionHeld3
namespace Go.Proofs.YtikmgckefbjbkaaGreatDoor
open Go.RowKit

/-- The byte at a place of a text. -/
def ch (s : ByteArray) (i : Nat) : Nat := (s.data[i]?.getD 0).toNat
theorem ch_lt (s : ByteArray) (i : Nat) : ch s i < 256 := UInt8.toNat_lt _
theorem run_ch (s : ByteArray) (k : Nat) (h : k < s.size) (w : World) : (Instr.index 9 (.string s) (.int .i64 (k : Int))).run Tryz.prog w = .ok (.int .u8 (ch s k : Nat)) w := by
  rw [run_index_string w 9 s .i64 (k : Int) (by kernel_rfl), dif_pos ⟨by omega, by omega⟩]
  have e : (s[((k : Int)).toNat]'(by omega)) = s.data[k]'h := rfl
  rw [e]
  unfold ch
  rw [Array.getElem?_eq_getElem (show k < s.data.size from h)]
  rfl

def framing (b : Nat) : Nat := if b = 40 then 7 else if b = 41 then 8 else if b = 123 then 13 else 0
def bareE (b : Nat) : Nat := if b = 124 then 9 else if b = 43 then 11 else if b = 63 then 12 else if framing b = 0 then 2 else framing b
def bare (b : Nat) (ere : Bool) : Nat := if b = 46 then 3 else if b = 91 then 4 else if b = 94 then 5 else if b = 36 then 6 else if b = 42 then 10 else if ere then bareE b else 2

theorem framing_any (b : Nat) (w : World) : Calls Tryz.prog 97 #[.int .u8 (b : Int)] w fun e w' => e = .returned (.int .i64 (framing b : Nat)) ∧ w' = w := by
  by_cases h1 : b = 40
  · subst h1; go_enter Tryz.func97, Tryz.ntmps97; go_wp2; go_ret; exact ⟨rfl, rfl⟩
  by_cases h2 : b = 41
  · subst h2; go_enter Tryz.func97, Tryz.ntmps97; go_wp2; go_ret; exact ⟨rfl, rfl⟩
  by_cases h3 : b = 123
  · subst h3; go_enter Tryz.func97, Tryz.ntmps97; go_wp2; go_ret; exact ⟨rfl, rfl⟩
  have e : Hid (framing b = 0) := by show _ = _; unfold framing; rw [if_neg h1, if_neg h2, if_neg h3]
  have g1 : ((b : Int) == 40) = false := by simp; omega
  have g2 : ((b : Int) == 41) = false := by simp; omega
  have g3 : ((b : Int) == 123) = false := by simp; omega
  go_enter Tryz.func97, Tryz.ntmps97; go_wp2; go_ret
  exact ⟨by rw [e.out]; rfl, rfl⟩

theorem bareE_any (b : Nat) (w : World) : Calls Tryz.prog 98 #[.int .u8 (b : Int)] w fun e w' => e = .returned (.int .i64 (bareE b : Nat)) ∧ w' = w := by
  by_cases h1 : b = 124
  · subst h1; go_enter Tryz.func98, Tryz.ntmps98; go_wp2; go_ret; exact ⟨rfl, rfl⟩
  by_cases h2 : b = 43
  · subst h2; go_enter Tryz.func98, Tryz.ntmps98; go_wp2; go_ret; exact ⟨rfl, rfl⟩
  by_cases h3 : b = 63
  · subst h3; go_enter Tryz.func98, Tryz.ntmps98; go_wp2; go_ret; exact ⟨rfl, rfl⟩
  have e : Hid (bareE b = if framing b = 0 then 2 else framing b) := by show _ = _; unfold bareE; rw [if_neg h1, if_neg h2, if_neg h3]
  have g1 : ((b : Int) == 124) = false := by simp; omega
  have g2 : ((b : Int) == 43) = false := by simp; omega
  have g3 : ((b : Int) == 63) = false := by simp; omega
  obtain ⟨k, hk⟩ : ∃ k, framing b = k := ⟨_, rfl⟩
  have HK : Hid (framing b = k) := hk
  rw [hk] at e
  clear hk
  by_cases h0 : k = 0
  · subst h0
    go_enter Tryz.func98, Tryz.ntmps98
    go_wp2_with (go_at_call 97; refine (framing_any b _).mono ?_; rintro e w ⟨rfl, rfl⟩; rw [HK.out])
    go_ret
    exact ⟨by rw [e.out]; rfl, rfl⟩
  · have g4 : ((k : Int) != 0) = true := by simp; omega
    have g5 : ¬ (k : Int) = 0 := by omega
    go_enter Tryz.func98, Tryz.ntmps98
    go_wp2_with (go_at_call 97; refine (framing_any b _).mono ?_; rintro e w ⟨rfl, rfl⟩; rw [HK.out])
    go_ret
    exact ⟨by rw [e.out, if_neg h0]; rfl, rfl⟩

theorem bare_any (b : Nat) (ere : Bool) (w : World) : Calls Tryz.prog 83 #[.int .u8 (b : Int), .bool ere] w fun e w' => e = .returned (.int .i64 (bare b ere : Nat)) ∧ w' = w := by
  by_cases h1 : b = 46
  · subst h1; go_enter Tryz.func83, Tryz.ntmps83; go_wp2; go_ret; exact ⟨rfl, rfl⟩
  by_cases h2 : b = 91
  · subst h2; go_enter Tryz.func83, Tryz.ntmps83; go_wp2; go_ret; exact ⟨rfl, rfl⟩
  by_cases h3 : b = 94
  · subst h3; go_enter Tryz.func83, Tryz.ntmps83; go_wp2; go_ret; exact ⟨rfl, rfl⟩
  by_cases h4 : b = 36
  · subst h4; go_enter Tryz.func83, Tryz.ntmps83; go_wp2; go_ret; exact ⟨rfl, rfl⟩
  by_cases h5 : b = 42
  · subst h5; go_enter Tryz.func83, Tryz.ntmps83; go_wp2; go_ret; exact ⟨rfl, rfl⟩
  have e : Hid (bare b ere = if ere then bareE b else 2) := by show _ = _; unfold bare; rw [if_neg h1, if_neg h2, if_neg h3, if_neg h4, if_neg h5]
  have g1 : ((b : Int) == 46) = false := by simp; omega
  have g2 : ((b : Int) == 91) = false := by simp; omega
  have g3 : ((b : Int) == 94) = false := by simp; omega
  have g4 : ((b : Int) == 36) = false := by simp; omega
  have g5 : ((b : Int) == 42) = false := by simp; omega
  cases ere with
  | true =>
    go_enter Tryz.func83, Tryz.ntmps83
    go_wp2_with (go_at_call 98; refine (bareE_any b _).mono ?_; rintro e w ⟨rfl, rfl⟩)
    go_ret
    exact ⟨by rw [e.out]; rfl, rfl⟩
  | false =>
    go_enter Tryz.func83, Tryz.ntmps83
    go_wp2
    go_ret
    exact ⟨by rw [e.out]; rfl, rfl⟩

/-- What is written with a backslash ahead. -/
def spec (ere : Bool) (b : Nat) : Bool := (b == 46 || b == 91 || b == 93 || b == 42 || b == 94 || b == 36 || b == 92 || b == 47) || (ere && (b == 43 || b == 63 || b == 123 || b == 125 || b == 124 || b == 40 || b == 41))

/-- The bytes of a list. -/
def inL (l : List Nat) : Nat → Bool := fun k => l.elem k
theorem memb_list (l : List Nat) (n : Nat) (h : n ≤ l.length) : memb (fun j => l.getD j 0) n = inL (l.take n) := by
  induction n with
  | zero => funext k; simp [memb, inL]
  | succ n ih =>
    funext k
    have hn : n < l.length := by omega
    show (memb _ n k || k == l.getD n 0) = _
    rw [ih (by omega)]
    unfold inL
    rw [Bool.eq_iff_iff]
    simp [List.getD_eq_getElem?_getD, List.getElem?_eq_getElem hn]
    rw [List.take_succ_eq_append_getElem hn, List.mem_append, List.mem_singleton]
theorem of_list (l : List Nat) (n cap B : Nat) (w : World) (fr : Nat × Nat) (hl : l.length = n) (hn : n ≤ 4000) (hb : ∀ x ∈ l, x < 256)
    (h : w.heap[B]? = some (.cells (l.map fun x : Nat => (.int .u8 (x : Int) : Value)).toArray 5 fr)) :
    Calls Tryz.prog 24 #[.slice (some ⟨B, 0, none⟩) n cap] w fun e w' => e = .returned (sv (inL l)) ∧ Kp w w' := by
  refine (of_core (fun j => l.getD j 0) B 0 n cap w hn (Array.getElem?_eq_some_iff.1 h).1 ?_ ?_).mono ?_
  · intro j hj
    refine bl_cellf h _ _ ?_
    simp [List.getElem?_eq_getElem (show j < l.length by omega), List.getD_eq_getElem?_getD]
  · intro j
    by_cases hj : j < l.length
    · simp only [List.getD_eq_getElem?_getD, List.getElem?_eq_getElem hj, Option.getD_some]; exact hb _ (List.getElem_mem hj)
    · simp [List.getD_eq_getElem?_getD, List.getElem?_eq_none (show l.length ≤ j by omega)]
  · rintro e w' ⟨rfl, hk⟩
    refine ⟨?_, hk⟩
    rw [memb_list l n (by omega), List.take_of_length_le (by omega)]
end Go.Proofs.YtikmgckefbjbkaaGreatDoor
