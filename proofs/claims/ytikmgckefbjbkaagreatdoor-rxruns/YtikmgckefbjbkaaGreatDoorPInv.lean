/-
  The reader goes on, and not too far: plain facts on the functions of Pf.
-/
import Derived.Test.YtikmgckefbjbkaaGreatDoorRep
import Derived.Test.YtikmgckefbjbkaaGreatDoorBrk
import Derived.Test.YtikmgckefbjbkaaGreatDoorSignIn
namespace Go.Proofs.YtikmgckefbjbkaaGreatDoor
open Go.RowKit

structure Inv (s : ByteArray) (t : St) : Prop where
  i : t.i ≤ s.size
  n : t.n ≤ 3 * t.i + 1
  g : t.g ≤ t.i
/-- What is asked of the reading of a choice. -/
structure CGood (c : St → Out) (s : ByteArray) : Prop where
  all : ∀ t, Inv s t → (c t).st.i ≤ s.size ∧ ((c t).e = 0 → t.i ≤ (c t).st.i ∧ (c t).st.n ≤ 3 * (c t).st.i + 3 ∧ (c t).st.g ≤ (c t).st.i ∧ (c t).st.d = t.d)
/-- What a part leaves. -/
structure PGood (s : ByteArray) (t : St) (m : Nat) (o : Out) : Prop where
  le : o.st.i ≤ s.size
  ok : o.e = 0 → t.i + m ≤ o.st.i ∧ Inv s o.st ∧ o.st.d = t.d

theorem pTake_good {s : ByteArray} {t : St} {sz : Nat} (r : Rx) (h : Inv s t) (h1 : t.i + sz ≤ s.size) (h2 : 1 ≤ sz) : PGood s t 1 (pTake sz r t) := by
  have := h.n; have := h.g
  exact ⟨h1, fun _ => ⟨by show t.i + 1 ≤ t.i + sz; omega, ⟨h1, by show t.n + 1 ≤ 3 * (t.i + sz) + 1; omega, by show t.g ≤ t.i + sz; omega⟩, rfl⟩⟩
theorem fail_good {s : ByteArray} {t t' : St} {m e : Nat} (h : t'.i ≤ s.size) (he : e ≠ 0) : PGood s t m ⟨rx0, e, t'⟩ := ⟨h, fun h0 => absurd h0 he⟩

theorem pBrL_le (s : ByteArray) : ∀ f p i, i ≤ s.size → (pBrL s f p i).2 ≤ s.size ∧ ((pBrL s f p i).1 ≠ none → i < (pBrL s f p i).2)
  | 0, p, i, h => by unfold pBrL; exact ⟨h, fun h => absurd rfl h⟩
  | f + 1, p, i, h => by
    unfold pBrL
    split
    · rename_i hp; have h1 := pfx_le hp h; exact ⟨h1, fun _ => by show i < i + 1; omega⟩
    · have hl := pIn_le s i h
      split
      · rename_i j hj; rw [hj] at hl; exact ⟨hl.1, fun h => absurd rfl h⟩
      · rename_i q j hj
        rw [hj] at hl
        have h1 : i < j := hl.2 (by simp)
        have := pBrL_le s f (orB p q) j hl.1
        exact ⟨this.1, fun hn => by have := this.2 hn; omega⟩
theorem pBr_le (s : ByteArray) (i : Nat) (h : i ≤ s.size) : (pBr s i).2 ≤ s.size ∧ ((pBr s i).1 ≠ none → i < (pBr s i).2) := by
  unfold pBr
  have hl := pIn_le s i h
  split
  · rename_i j hj; rw [hj] at hl; exact ⟨hl.1, fun h => absurd rfl h⟩
  · rename_i q j hj
    rw [hj] at hl
    have h1 : i < j := hl.2 (by simp)
    have := pBrL_le s (s.size + 1) q j hl.1
    exact ⟨this.1, fun hn => by have := this.2 hn; omega⟩
theorem pBracket_good {s : ByteArray} {t : St} (h : Inv s t) (hi : t.i < s.size) : PGood s t 1 (pBracket s t) := by
  have hn := h.n; have hg := h.g
  have hf : t.i + 1 ≤ bFrom s t.i ∧ bFrom s t.i ≤ s.size := by
    unfold bFrom
    split
    · rename_i ht; exact ⟨by omega, pfx_le ht hi⟩
    · exact ⟨Nat.le_refl _, hi⟩
  have hl := pBr_le s (bFrom s t.i) hf.2
  unfold pBracket
  split
  · rename_i j hj; rw [hj] at hl; exact fail_good hl.1 (by omega)
  · rename_i p j hj
    rw [hj] at hl
    have h1 : bFrom s t.i < j := hl.2 (by simp)
    dsimp only
    generalize (if bTurn s t.i then notB p else p) = q
    split
    · exact fail_good h.i (by omega)
    · exact ⟨hl.1, fun _ => ⟨by show t.i + 1 ≤ j; omega, ⟨hl.1, by show t.n + 1 ≤ 3 * j + 1; omega, by show t.g ≤ j; omega⟩, rfl⟩⟩
theorem pGroup_good {c : St → Out} {s : ByteArray} {ere : Bool} {sz : Nat} {t : St} (hc : CGood c s) (h : Inv s t) (h1 : t.i + sz ≤ s.size) (h2 : 1 ≤ sz) : PGood s t 1 (pGroup c s ere sz t) := by
  have hn := h.n; have hg := h.g
  unfold pGroup
  split
  · exact fail_good h.i (by omega)
  · dsimp only
    have hi : Inv s ⟨t.i + sz, t.n, t.g + 1, t.d + 1⟩ := ⟨h1, by show t.n ≤ 3 * (t.i + sz) + 1; omega, by show t.g + 1 ≤ t.i + sz; omega⟩
    have ho := hc.all _ hi
    obtain ⟨o, hoo⟩ : ∃ o, c ⟨t.i + sz, t.n, t.g + 1, t.d + 1⟩ = o := ⟨_, rfl⟩
    rw [hoo] at ho ⊢
    split
    · rename_i he; exact fail_good ho.1 he
    · rename_i he
      have he' : o.e = 0 := by omega
      obtain ⟨a1, a2, a3, a4⟩ := ho.2 he'
      simp only at a1 a4
      have hz := sgn_sz s ere o.st.i ho.1
      split
      · exact fail_good ho.1 (by omega)
      · rename_i h8
        have h8' : (sgn s ere o.st.i).1 = 8 := by omega
        have hz1 := hz.2.2 (by omega) (by omega)
        exact ⟨hz.1, fun _ => ⟨by show t.i + 1 ≤ o.st.i + _; omega, ⟨hz.1, by show o.st.n + 1 ≤ 3 * (o.st.i + (sgn s ere o.st.i).2.2) + 1; omega, by show o.st.g ≤ o.st.i + (sgn s ere o.st.i).2.2; omega⟩, by show o.st.d - 1 = t.d; omega⟩⟩
theorem pOne_good {c : St → Out} {s : ByteArray} {ere : Bool} {k b sz : Nat} {t : St} (hc : CGood c s) (h : Inv s t) (h1 : t.i + sz ≤ s.size) (h2 : k ≠ 1 → k ≠ 0 → 1 ≤ sz) : PGood s t 1 (pOne c s ere k b sz t) := by
  unfold pOne
  split
  · exact pTake_good _ h h1 (h2 (by omega) (by omega))
  split
  · exact pTake_good _ h h1 (h2 (by omega) (by omega))
  split
  · exact pTake_good _ h h1 (h2 (by omega) (by omega))
  split
  · exact pTake_good _ h h1 (h2 (by omega) (by omega))
  split
  · unfold pBack
    split
    · exact fail_good h.i (by omega)
    · exact pTake_good _ h h1 (h2 (by omega) (by omega))
  split
  · have := h2 (by omega) (by omega)
    exact pBracket_good h (by omega)
  split
  · exact pGroup_good hc h h1 (h2 (by omega) (by omega))
  · exact fail_good h.i (by omega)
theorem pInt_ok {s : ByteArray} {ere : Bool} {i z : Nat} (h : i + z ≤ s.size) {a b : Int} {j : Nat} (he : pInt s ere i z = (some (a, b), j)) : i + 1 ≤ j := by
  have h1 := pNum_le s (i + z) h
  unfold pInt at he
  dsimp only at he
  split at he
  · have h2 := pHigh_le s (pNum s (i + z)).1 (pNum s (i + z)).2.2 h1.2.1 h1.2.2
    split at he
    · split at he
      · injection he with _ hj
        have : 1 ≤ (closeB ere).length := by unfold closeB; cases ere <;> simp
        omega
      · injection he with hx _; cases hx
    · injection he with hx _; cases hx
  · injection he with hx _; cases hx
theorem pRep_good {s : ByteArray} {ere : Bool} {r : Rx} {t : St} (h : Inv s t) : PGood s t 0 (pRep s ere r t) := by
  have hn := h.n; have hg := h.g
  have hz := sgn_sz s ere t.i h.i
  have tk : ∀ x, (sgn s ere t.i).1 = x → x ≠ 1 → x ≠ 0 → ∀ r', PGood s t 0 (pTake (sgn s ere t.i).2.2 r' t) := fun x hx h1 h0 r' => by
    have := pTake_good r' h hz.1 (hz.2.2 (by omega) (by omega))
    exact ⟨this.le, fun h => by have := this.ok h; exact ⟨by omega, this.2⟩⟩
  unfold pRep
  dsimp only
  split
  · exact tk _ rfl (by omega) (by omega) _
  split
  · exact tk _ rfl (by omega) (by omega) _
  split
  · exact tk _ rfl (by omega) (by omega) _
  split
  · have hl := pInt_le s ere t.i (sgn s ere t.i).2.2 hz.1
    split
    · rename_i j hj; rw [hj] at hl; exact fail_good hl (by omega)
    · rename_i a b j hj
      rw [hj] at hl
      have h1 := pInt_ok hz.1 hj
      exact ⟨hl, fun _ => ⟨by show t.i + 0 ≤ j + 0; omega, ⟨hl, by show t.n + 1 ≤ 3 * (j + 0) + 1; omega, by show t.g ≤ j + 0; omega⟩, rfl⟩⟩
  · exact ⟨h.i, fun _ => ⟨Nat.le_refl _, h, rfl⟩⟩
theorem sgnIn_sz (s : ByteArray) (ere : Bool) (began i : Nat) (hi : i ≤ s.size) : i + (sgnIn s ere began i).2.2 ≤ s.size ∧ (sgnIn s ere began i).2.2 ≤ 2 ∧ ((sgnIn s ere began i).1 ≠ 1 → (sgnIn s ere began i).1 ≠ 0 → 1 ≤ (sgnIn s ere began i).2.2) := by
  have hz := sgn_sz s ere i hi
  unfold sgnIn
  dsimp only
  split
  · exact hz
  · split
    · rename_i hp
      refine ⟨hz.1, hz.2.1, fun _ _ => hz.2.2 ?_ ?_⟩
      · intro h; rw [h] at hp; simp [plainIn] at hp
      · intro h; rw [h] at hp; simp [plainIn] at hp
    · exact hz
theorem pPart_good {c : St → Out} {s : ByteArray} {ere : Bool} {began : Nat} {t : St} (hc : CGood c s) (h : Inv s t) : PGood s t 1 (pPart c s ere began t) := by
  have hz := sgnIn_sz s ere began t.i h.i
  have ho := pOne_good (ere := ere) (b := (sgnIn s ere began t.i).2.1) hc h hz.1 hz.2.2
  unfold pPart
  dsimp only
  split
  · exact ho
  · rename_i he
    have he' : (pOne c s ere (sgnIn s ere began t.i).1 (sgnIn s ere began t.i).2.1 (sgnIn s ere began t.i).2.2 t).e = 0 := by
      apply Classical.byContradiction; intro h; exact he (Or.inl h)
    obtain ⟨a1, a2, a3⟩ := ho.ok he'
    have hr := pRep_good (ere := ere) (r := (pOne c s ere (sgnIn s ere began t.i).1 (sgnIn s ere began t.i).2.1 (sgnIn s ere began t.i).2.2 t).r) a2
    exact ⟨hr.le, fun h0 => by have := hr.ok h0; exact ⟨by omega, this.2.1, this.2.2.trans a3⟩⟩
/-- What a row leaves. -/
structure RGood (s : ByteArray) (t : St) (m : Nat) (o : Out) : Prop where
  le : o.st.i ≤ s.size
  ok : o.e = 0 → t.i ≤ o.st.i ∧ o.st.n ≤ 3 * o.st.i + m ∧ o.st.g ≤ o.st.i ∧ o.st.d = t.d
theorem pRowL_good {c : St → Out} {s : ByteArray} {ere : Bool} {began : Nat} (hc : CGood c s) : ∀ f ks t, Inv s t → RGood s t 2 (pRowL c s ere began f ks t)
  | 0, ks, t, h => by unfold pRowL; exact ⟨h.i, fun h => by cases h⟩
  | f + 1, ks, t, h => by
    have hn := h.n
    unfold pRowL
    split
    · unfold rowOut
      split
      · exact ⟨h.i, fun _ => ⟨Nat.le_refl _, by show t.n ≤ 3 * t.i + 2; omega, h.g, rfl⟩⟩
      · exact ⟨h.i, fun _ => ⟨Nat.le_refl _, by show t.n + 1 ≤ 3 * t.i + 2; omega, h.g, rfl⟩⟩
    · have hp := pPart_good (ere := ere) (began := began) hc h
      dsimp only
      split
      · rename_i he; exact ⟨hp.le, fun h0 => absurd h0 he⟩
      · rename_i he
        obtain ⟨a1, a2, a3⟩ := hp.ok (by omega)
        have := pRowL_good (ere := ere) (began := began) hc f (keepL (pPart c s ere began t).st.n ks (pPart c s ere began t).r) _ a2
        exact ⟨this.le, fun h0 => by have := this.ok h0; exact ⟨by omega, this.2.1, this.2.2.1, this.2.2.2.trans a3⟩⟩
theorem pRow_good {c : St → Out} {s : ByteArray} {ere : Bool} {t : St} (hc : CGood c s) (h : Inv s t) : RGood s t 2 (pRow c s ere t) := pRowL_good hc _ _ _ h
theorem pChL_good {c : St → Out} {s : ByteArray} {ere : Bool} (hc : CGood c s) : ∀ f ks t, t.i ≤ s.size → t.n ≤ 3 * t.i + 2 → t.g ≤ t.i → RGood s t 3 (pChL c s ere f ks t)
  | 0, ks, t, h, _, _ => by unfold pChL; exact ⟨h, fun h => by cases h⟩
  | f + 1, ks, t, h, hn, hg => by
    unfold pChL
    split
    · rename_i h9
      have hlt : t.i < s.size := by
        obtain ⟨x, y, z, hx⟩ : ∃ x y z, sgn s ere t.i = (x, y, z) := ⟨_, _, _, rfl⟩
        rw [hx] at h9
        have h9' : x = 9 := h9
        exact sgn_lt hx h (by omega)
      have hr := pRow_good (ere := ere) (t := ⟨t.i + 1, t.n, t.g, t.d⟩) hc ⟨hlt, by show t.n ≤ 3 * (t.i + 1) + 1; omega, by show t.g ≤ t.i + 1; omega⟩
      dsimp only
      split
      · rename_i he; exact ⟨hr.le, fun h0 => absurd h0 he⟩
      · rename_i he
        obtain ⟨a1, a2, a3, a4⟩ := hr.ok (by omega)
        simp only at a1 a4
        have := pChL_good (ere := ere) hc f (keepL (pRow c s ere ⟨t.i + 1, t.n, t.g, t.d⟩).st.n ks (pRow c s ere ⟨t.i + 1, t.n, t.g, t.d⟩).r) _ hr.le a2 a3
        exact ⟨this.le, fun h0 => by have := this.ok h0; exact ⟨by omega, this.2.1, this.2.2.1, this.2.2.2.trans a4⟩⟩
    · exact ⟨h, fun _ => ⟨Nat.le_refl _, by show t.n + 1 ≤ 3 * t.i + 3; omega, hg, rfl⟩⟩
theorem pCh1_good {c : St → Out} {s : ByteArray} {ere : Bool} {t : St} (hc : CGood c s) (h : Inv s t) : RGood s t 3 (pCh1 c s ere t) := by
  have hr := pRow_good (ere := ere) hc h
  unfold pCh1
  dsimp only
  split
  · exact ⟨hr.le, fun h0 => by have := hr.ok h0; exact ⟨this.1, by omega, this.2.2⟩⟩
  · rename_i he
    have he' : (pRow c s ere t).e = 0 := by
      apply Classical.byContradiction; intro h; exact he (Or.inl h)
    obtain ⟨a1, a2, a3, a4⟩ := hr.ok he'
    have := pChL_good (ere := ere) hc (s.size + 1) [(pRow c s ere t).r] _ hr.le a2 a3
    exact ⟨this.le, fun h0 => by have := this.ok h0; exact ⟨by omega, this.2.1, this.2.2.1, this.2.2.2.trans a4⟩⟩
theorem pCh_good (s : ByteArray) (ere : Bool) : ∀ D, CGood (pCh s ere D) s
  | 0 => ⟨fun t h => ⟨h.i, fun h => by cases h⟩⟩
  | D + 1 => ⟨fun t h => by
      have := pCh1_good (ere := ere) (pCh_good s ere D) h
      exact ⟨this.le, this.ok⟩⟩
end Go.Proofs.YtikmgckefbjbkaaGreatDoor
