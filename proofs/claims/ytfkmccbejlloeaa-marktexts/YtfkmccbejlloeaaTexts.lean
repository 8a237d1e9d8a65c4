/-
  Plain facts on texts: line ends, ends, lines of joined texts.
-/
import Derived.Test.YtfkmccbejlloeaaWalks
namespace Go.Proofs.Ytfkmccbejlloeaa
open Go.RowKit

theorem data_add (a b : ByteArray) : (a ++ b).data.toList = a.data.toList ++ b.data.toList := by
  rw [ByteArray.data_append, Array.toList_append]

theorem nl_add (a b : ByteArray) : nl (a ++ b) = nl a + nl b := by
  unfold nl; rw [data_add, List.count_append]

theorem ends_add (a b : ByteArray) (h : b.size ≠ 0) : ends (a ++ b) = ends b := by
  unfold ends
  have hb : b.data.toList ≠ [] := by intro hb; apply h; rw [Lib.size_eq, hb]; rfl
  rw [data_add]
  generalize b.data.toList = l at *
  obtain ⟨i, x, rfl⟩ : ∃ i x, l = i ++ [x] := ⟨l.dropLast, l.getLast hb, (List.dropLast_concat_getLast hb).symm⟩
  rw [← List.append_assoc, List.getLast?_concat, List.getLast?_concat]

theorem textLines_add (a b : ByteArray) (h : a.size = 0 ∨ ends a = true) : textLines (a ++ b) = textLines a + textLines b := by
  unfold textLines
  rw [nl_add, if_pos h, ByteArray.size_append]
  by_cases hb : b.size = 0
  · have e : a ++ b = a := by
      have : b = ByteArray.empty := by
        apply ByteArray.ext
        apply Array.eq_empty_of_size_eq_zero hb
      rw [this]; simp
    rw [if_pos (Or.inl hb)]
    rcases h with h | h
    · rw [if_pos (Or.inl (by omega))]; omega
    · rw [if_pos (Or.inr (by rw [e]; exact h))]; omega
  · rw [ends_add a b hb]
    by_cases he : ends b = true
    · rw [if_pos (Or.inr he), if_pos (Or.inr he)]; omega
    · rw [if_neg (fun q => q.elim (fun q => by omega) he), if_neg (fun q => q.elim hb he)]; omega

theorem nl_one (s : ByteArray) (j : Nat) (h : j < s.size) (hne : s[j].toNat ≠ 10) : nl (s.extract j (j + 1)) = 0 := by
  unfold nl
  rw [Lib.extract_data, show j + 1 - j = 1 by omega]
  have hl : j < s.data.toList.length := by rw [← Lib.size_eq]; exact h
  rw [List.drop_eq_getElem_cons hl, List.take_succ_cons, List.take_zero]
  have : s.data.toList[j] = s[j] := rfl
  rw [this, List.count_cons, List.count_nil]
  have hb : (s[j] == 10) = false := by
    rw [beq_eq_false_iff_ne]; intro hc; apply hne; rw [hc]; rfl
  rw [hb]; rfl

theorem size_one (s : ByteArray) (j : Nat) (h : j < s.size) : (s.extract j (j + 1)).size = 1 := by
  rw [ByteArray.size_extract]; omega

theorem nl_end : nl ⟨#[10]⟩ = 1 := by decide
theorem ends_end : ends ⟨#[10]⟩ = true := by decide
theorem size_end : (⟨#[10]⟩ : ByteArray).size = 1 := rfl

/-- What a line put behind a text of whole lines makes of it. -/
theorem line_put (st l : ByteArray) (k : Nat) (hk : nl st = k) (hl : nl l = 0) :
    ends (st ++ l ++ ⟨#[10]⟩) = true ∧ nl (st ++ l ++ ⟨#[10]⟩) = k + 1 ∧ (st ++ l ++ ⟨#[10]⟩ : ByteArray).size = st.size + l.size + 1 := by
  refine ⟨?_, ?_, ?_⟩
  · rw [ends_add _ _ (by rw [size_end]; omega)]; exact ends_end
  · rw [nl_add, nl_add, hk, hl, nl_end]
  · rw [ByteArray.size_append, ByteArray.size_append, size_end]

theorem textLines_whole (st : ByteArray) (h : st.size = 0 ∨ ends st = true) : textLines st = nl st := by
  unfold textLines; rw [if_pos h]; rfl

theorem textLines_le (s : ByteArray) : textLines s ≤ s.size := by
  unfold textLines
  by_cases h : s.size = 0 ∨ ends s = true
  · rw [if_pos h]; exact nl_le s
  · rw [if_neg h]
    have h0 : s.size ≠ 0 := by omega
    have hne : s.data.toList ≠ [] := by intro hb; apply h0; rw [Lib.size_eq, hb]; rfl
    have he : ends s ≠ true := fun e => h (Or.inr e)
    unfold nl; unfold ends at he
    rw [Lib.size_eq]
    generalize s.data.toList = l at *
    obtain ⟨i, x, rfl⟩ : ∃ i x, l = i ++ [x] := ⟨l.dropLast, l.getLast hne, (List.dropLast_concat_getLast hne).symm⟩
    have hx : (x == 10) = false := by
      rw [beq_eq_false_iff_ne]; intro e; apply he; rw [e]; simp
    rw [List.count_append, List.count_cons, List.count_nil, hx, List.length_append]
    have := List.count_le_length (a := 10) (l := i)
    simp; exact this
end Go.Proofs.Ytfkmccbejlloeaa
