/-
  A map of sets by name, as the law BsetClasses fills it.
-/
import Derived.Test.YtfijmepkbflahaaOwned
import Derived.Maps.Own
import Derived.Maps.OwnOps
import Derived.Maps.OwnSet
import Derived.Maps.Views
import Derived.Lib.Strings
namespace Go.Proofs.Ytfijmepkbflahaa
open Go.RowKit Go.Maps

def nm : Nat → ByteArray
  | 0 => ⟨#[97, 108, 112, 104, 97]⟩
  | 1 => ⟨#[100, 105, 103, 105, 116]⟩
  | 2 => ⟨#[97, 108, 110, 117, 109]⟩
  | 3 => ⟨#[117, 112, 112, 101, 114]⟩
  | 4 => ⟨#[108, 111, 119, 101, 114]⟩
  | 5 => ⟨#[115, 112, 97, 99, 101]⟩
  | 6 => ⟨#[98, 108, 97, 110, 107]⟩
  | 7 => ⟨#[112, 117, 110, 99, 116]⟩
  | 8 => ⟨#[112, 114, 105, 110, 116]⟩
  | 9 => ⟨#[103, 114, 97, 112, 104]⟩
  | 10 => ⟨#[99, 110, 116, 114, 108]⟩
  | 11 => ⟨#[120, 100, 105, 103, 105, 116]⟩
  | _ => ⟨#[]⟩

def cq : Nat → Nat → Bool
  | 0 => cAlpha
  | 1 => cDigit
  | 2 => cAlnum
  | 3 => cUpper
  | 4 => cLower
  | 5 => cSpace
  | 6 => cBlank
  | 7 => cPunct
  | 8 => cPrint
  | 9 => cGraph
  | 10 => cCntrl
  | 11 => cXdigit
  | _ => fun _ => false

theorem class_nth (k : Nat) (h : k < 12) (w : World) : Calls Try.prog 8 #[.string (nm k)] w fun e w' => e = .returned (.tuple #[sv (cq k), .bool true]) ∧ Kp w w' := by
  match k, h with
  | 0, _ => exact class_alpha w
  | 1, _ => exact class_digit w
  | 2, _ => exact class_alnum w
  | 3, _ => exact class_upper w
  | 4, _ => exact class_lower w
  | 5, _ => exact class_space w
  | 6, _ => exact class_blank w
  | 7, _ => exact class_punct w
  | 8, _ => exact class_print w
  | 9, _ => exact class_graph w
  | 10, _ => exact class_cntrl w
  | 11, _ => exact class_xdigit w

/-- An element is read as it is. -/
def RV (v : Value) : Option (DataW Value × List MemPlace) := some (.held v, [])

/-- The map after k names. -/
def dk : Nat → DataW Value
  | 0 => .map []
  | k + 1 => (dk k).put (.string (nm k).data.toList) (.held (sv (cq k)))

theorem keyed9 : Keyed Try.prog 9 := string_keyed Try.underlying9

theorem nm_size (k : Nat) : (nm k).size ≤ maxLen := by
  unfold maxLen
  match k with
  | 0 => decide
  | 1 => decide
  | 2 => decide
  | 3 => decide
  | 4 => decide
  | 5 => decide
  | 6 => decide
  | 7 => decide
  | 8 => decide
  | 9 => decide
  | 10 => decide
  | 11 => decide
  | k + 12 => exact Nat.zero_le _

theorem key_nm (k : Nat) : keyOf Try.prog 9 (.string (nm k)) = some (.string (nm k).data.toList) := WideMaps.keyOf_string_mk Try.underlying9 (nm_size k)

theorem isMap_dk (k : Nat) : IsMap (dk k) := by
  induction k with
  | zero => exact ⟨[], rfl⟩
  | succ k ih =>
    obtain ⟨es, he⟩ := ih
    rw [dk, he]
    exact ⟨_, rfl⟩

theorem isKey_str (l : List UInt8) : WideAt.IsKeyLit (.string l) := by trivial

theorem own_kp {w w' : World} {b n : Nat} {D : DataW Value} {k : TypeId} (h : w.ownsMap Try.prog k RV b n D) (hk : Kp w w') : w'.ownsMap Try.prog k RV b n D := by
  have hlt := h.lt
  obtain ⟨es, clock, hb, F, hs, hD⟩ := h
  exact ⟨es, clock, (hk.block b hlt).trans hb, F, hs, hD⟩

theorem atKey_dk (l : List UInt8) (z : DataW Value) (n : Nat) : (∃ j, j < n ∧ (nm j).data.toList = l ∧ ((dk n).atKey (.string l) z = .held (sv (cq j)))) ∨ ((∀ j, j < n → (nm j).data.toList ≠ l) ∧ (dk n).atKey (.string l) z = z) := by
  induction n with
  | zero => exact .inr ⟨fun j hj => by omega, rfl⟩
  | succ n ih =>
    by_cases he : (nm n).data.toList = l
    · refine .inl ⟨n, by omega, he, ?_⟩
      rw [dk, he]
      exact atKey_put_same (isMap_dk n) (isKey_str l) _ _
    · have hne : (Lit.string l) ≠ .string (nm n).data.toList := fun h => he (by injection h with h; exact h.symm)
      rw [dk, atKey_put_other hne]
      rcases ih with ⟨j, hj, h1, h2⟩ | ⟨h1, h2⟩
      · exact .inl ⟨j, by omega, h1, h2⟩
      · refine .inr ⟨fun j hj => ?_, h2⟩
        by_cases hjn : j = n
        · subst hjn; exact he
        · exact h1 j (by omega)

/-- Is it among the first n names? -/
def isNk (l : List UInt8) : Nat → Bool
  | 0 => false
  | n + 1 => isNk l n || (nm n).data.toList == l

theorem isNk_iff (l : List UInt8) (n : Nat) : isNk l n = true ↔ ∃ j, j < n ∧ (nm j).data.toList = l := by
  induction n with
  | zero => simp [isNk]
  | succ n ih =>
    rw [isNk, Bool.or_eq_true, ih, beq_iff_eq]
    constructor
    · rintro (⟨j, hj, h⟩ | h)
      · exact ⟨j, by omega, h⟩
      · exact ⟨n, by omega, h⟩
    · rintro ⟨j, hj, h⟩
      by_cases hjn : j = n
      · subst hjn; exact .inr h
      · exact .inl ⟨j, by omega, h⟩

theorem has_dk (l : List UInt8) (n : Nat) : Maps.has (dk n) (.string l) = isNk l n := by
  induction n with
  | zero => rfl
  | succ n ih =>
    rw [isNk]
    by_cases he : (nm n).data.toList = l
    · rw [dk, he, has_put_same (isMap_dk n) (isKey_str l)]
      simp
    · have hne : (Lit.string l) ≠ .string (nm n).data.toList := fun h => he (by injection h with h; exact h.symm)
      rw [dk, has_put_other hne, ih]
      have : ((nm n).data.toList == l) = false := by simpa using he
      rw [this, Bool.or_false]

/-- Is it one of the twelve? -/
def isN (s : ByteArray) : Bool := isNk s.data.toList 12

theorem isN_iff (s : ByteArray) : isN s = true ↔ named s := by
  unfold isN named
  rw [isNk_iff, Lib.toList_data]
  constructor
  · rintro ⟨j, hj, h⟩
    rw [← h]
    have : j = 0 ∨ j = 1 ∨ j = 2 ∨ j = 3 ∨ j = 4 ∨ j = 5 ∨ j = 6 ∨ j = 7 ∨ j = 8 ∨ j = 9 ∨ j = 10 ∨ j = 11 := by omega
    rcases this with rfl | rfl | rfl | rfl | rfl | rfl | rfl | rfl | rfl | rfl | rfl | rfl <;> decide
  · intro h
    rcases h with h | h | h | h | h | h | h | h | h | h | h | h
    · exact ⟨0, by omega, h.symm⟩
    · exact ⟨1, by omega, h.symm⟩
    · exact ⟨2, by omega, h.symm⟩
    · exact ⟨3, by omega, h.symm⟩
    · exact ⟨4, by omega, h.symm⟩
    · exact ⟨5, by omega, h.symm⟩
    · exact ⟨6, by omega, h.symm⟩
    · exact ⟨7, by omega, h.symm⟩
    · exact ⟨8, by omega, h.symm⟩
    · exact ⟨9, by omega, h.symm⟩
    · exact ⟨10, by omega, h.symm⟩
    · exact ⟨11, by omega, h.symm⟩

theorem str_ext {a b : ByteArray} (h : a.data.toList = b.data.toList) : a = b := by
  obtain ⟨⟨x⟩⟩ := a
  obtain ⟨⟨y⟩⟩ := b
  simp at h
  subst h
  rfl

theorem class_any (s : ByteArray) (w : World) : Calls Try.prog 8 #[.string s] w fun e w' => ∃ p, e = .returned (.tuple #[sv p, .bool (isN s)]) ∧ Kp w w' := by
  cases h : isN s
  · refine (class_other s (fun hn => by rw [(isN_iff s).2 hn] at h; cases h) w).mono ?_
    rintro e w' ⟨rfl, hk⟩
    exact ⟨_, rfl, hk⟩
  · have hd := h
    unfold isN at hd
    rw [isNk_iff] at hd
    obtain ⟨j, hj, hjs⟩ := hd
    have he : s = nm j := str_ext hjs.symm
    subst he
    refine (class_nth j hj w).mono ?_
    rintro e w' ⟨rfl, hk⟩
    exact ⟨_, rfl, hk⟩

theorem zero24 (w : World) : (zeroValue 24).run Try.prog w = .ok (vv 0 0 0 0) w := by kernel_rfl

/-- The twelve are in the map. -/
def MapAt (w : World) (M : Nat) : Prop := w.ownsMap Try.prog 9 RV M 12 (dk 12)

theorem MapAt.kp {w w' : World} {M : Nat} (h : MapAt w M) (hk : Kp w w') : MapAt w' M := own_kp h hk

theorem MapAt.nth {w : World} {M : Nat} (h : MapAt w M) (j : Nat) (hj : j < 12) (hu : ∀ i, i < 12 → (nm i).data.toList = (nm j).data.toList → i = j) :
    (Instr.lookup 43 (.map (some M)) (.string (nm j)) false).run Try.prog w = .ok (sv (cq j)) w := by
  obtain ⟨v, ps, hrun, hv⟩ := World.ownsMap.lookup h keyed9 Try.underlying43 (zero24 w) (zd := .held (vv 0 0 0 0)) (zp := []) rfl (key_nm j)
  rcases atKey_dk (nm j).data.toList (.held (vv 0 0 0 0)) 12 with ⟨i, hi, he, hat⟩ | ⟨hno, _⟩
  · rw [hat] at hv
    obtain rfl := hu i hi he
    have : v = sv (cq i) := by
      unfold RV at hv
      simp only [Option.some.injEq, Prod.mk.injEq, DataW.held.injEq] at hv
      exact hv.1
    rw [hrun, this]
  · exact absurd rfl (hno j hj)

theorem nm_inj (j : Nat) (hj : j < 12) : ∀ i, i < 12 → (nm i).data.toList = (nm j).data.toList → i = j := by
  have h : ∀ j, j < 12 → ∀ i, i < 12 → (nm i).data.toList = (nm j).data.toList → i = j := by decide +kernel
  exact h j hj

theorem MapAt.known {w : World} {M : Nat} (h : MapAt w M) (s : ByteArray) (hs : s.size ≤ maxLen) :
    ∃ p, (Instr.lookup 43 (.map (some M)) (.string s) true).run Try.prog w = .ok (.tuple #[sv p, .bool (isN s)]) w := by
  obtain ⟨v, ps, hrun, hv⟩ := World.ownsMap.look_ok h keyed9 Try.underlying43 (zero24 w) (zd := .held (vv 0 0 0 0)) (zp := []) rfl (WideMaps.keyOf_string_mk Try.underlying9 hs)
  rw [has_dk] at hrun
  rcases atKey_dk s.data.toList (.held (vv 0 0 0 0)) 12 with ⟨i, hi, he, hat⟩ | ⟨hno, hat⟩
  · rw [hat] at hv
    have : v = sv (cq i) := by
      unfold RV at hv
      simp only [Option.some.injEq, Prod.mk.injEq, DataW.held.injEq] at hv
      exact hv.1
    exact ⟨cq i, by rw [hrun, this]; rfl⟩
  · rw [hat] at hv
    have : v = vv 0 0 0 0 := by
      unfold RV at hv
      simp only [Option.some.injEq, Prod.mk.injEq, DataW.held.injEq] at hv
      exact hv.1
    exact ⟨fun _ => false, by rw [hrun, this, sv_none]; rfl⟩

theorem MapAt.alpha {w : World} {M : Nat} (h : MapAt w M) : (Instr.lookup 43 (.map (some M)) (.string ⟨#[97, 108, 112, 104, 97]⟩) false).run Try.prog w = .ok (sv cAlpha) w := h.nth 0 (by omega) (nm_inj 0 (by omega))
theorem MapAt.digit {w : World} {M : Nat} (h : MapAt w M) : (Instr.lookup 43 (.map (some M)) (.string ⟨#[100, 105, 103, 105, 116]⟩) false).run Try.prog w = .ok (sv cDigit) w := h.nth 1 (by omega) (nm_inj 1 (by omega))
theorem MapAt.alnum {w : World} {M : Nat} (h : MapAt w M) : (Instr.lookup 43 (.map (some M)) (.string ⟨#[97, 108, 110, 117, 109]⟩) false).run Try.prog w = .ok (sv cAlnum) w := h.nth 2 (by omega) (nm_inj 2 (by omega))
theorem MapAt.upper {w : World} {M : Nat} (h : MapAt w M) : (Instr.lookup 43 (.map (some M)) (.string ⟨#[117, 112, 112, 101, 114]⟩) false).run Try.prog w = .ok (sv cUpper) w := h.nth 3 (by omega) (nm_inj 3 (by omega))
theorem MapAt.lower {w : World} {M : Nat} (h : MapAt w M) : (Instr.lookup 43 (.map (some M)) (.string ⟨#[108, 111, 119, 101, 114]⟩) false).run Try.prog w = .ok (sv cLower) w := h.nth 4 (by omega) (nm_inj 4 (by omega))
theorem MapAt.space {w : World} {M : Nat} (h : MapAt w M) : (Instr.lookup 43 (.map (some M)) (.string ⟨#[115, 112, 97, 99, 101]⟩) false).run Try.prog w = .ok (sv cSpace) w := h.nth 5 (by omega) (nm_inj 5 (by omega))
theorem MapAt.blank {w : World} {M : Nat} (h : MapAt w M) : (Instr.lookup 43 (.map (some M)) (.string ⟨#[98, 108, 97, 110, 107]⟩) false).run Try.prog w = .ok (sv cBlank) w := h.nth 6 (by omega) (nm_inj 6 (by omega))
theorem MapAt.punct {w : World} {M : Nat} (h : MapAt w M) : (Instr.lookup 43 (.map (some M)) (.string ⟨#[112, 117, 110, 99, 116]⟩) false).run Try.prog w = .ok (sv cPunct) w := h.nth 7 (by omega) (nm_inj 7 (by omega))
theorem MapAt.print {w : World} {M : Nat} (h : MapAt w M) : (Instr.lookup 43 (.map (some M)) (.string ⟨#[112, 114, 105, 110, 116]⟩) false).run Try.prog w = .ok (sv cPrint) w := h.nth 8 (by omega) (nm_inj 8 (by omega))
theorem MapAt.graph {w : World} {M : Nat} (h : MapAt w M) : (Instr.lookup 43 (.map (some M)) (.string ⟨#[103, 114, 97, 112, 104]⟩) false).run Try.prog w = .ok (sv cGraph) w := h.nth 9 (by omega) (nm_inj 9 (by omega))
theorem MapAt.cntrl {w : World} {M : Nat} (h : MapAt w M) : (Instr.lookup 43 (.map (some M)) (.string ⟨#[99, 110, 116, 114, 108]⟩) false).run Try.prog w = .ok (sv cCntrl) w := h.nth 10 (by omega) (nm_inj 10 (by omega))
theorem MapAt.xdigit {w : World} {M : Nat} (h : MapAt w M) : (Instr.lookup 43 (.map (some M)) (.string ⟨#[120, 100, 105, 103, 105, 116]⟩) false).run Try.prog w = .ok (sv cXdigit) w := h.nth 11 (by omega) (nm_inj 11 (by omega))

end Go.Proofs.Ytfijmepkbflahaa
