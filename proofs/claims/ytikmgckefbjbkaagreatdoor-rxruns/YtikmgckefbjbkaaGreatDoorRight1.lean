/-
  The checker's parts: a row, a choice, a repetition, a group.
-/
import Derived.Test.YtikmgckefbjbkaaGreatDoorLean2
import Derived.Test.YtikmgckefbjbkaaGreatDoorKeep
import Derived.Deep.LoopGhost
namespace Go.Proofs.YtikmgckefbjbkaaGreatDoor
open Go.RowKit

theorem RowAt.ks {P : Nat} {w w' : World} {ok : Nat → Prop} {ts : List Rx} {ad : Option Addr} {l c : Nat} (h : RowAt w ok ts ad l c) (k : Ks P w w') (hP : ∀ x, ok x → x ≠ P) : RowAt w' ok ts ad l c :=
  ⟨h.ln, h.cp, fun hn => by
    obtain ⟨b, o, h1, h2, h3, h4⟩ := h.ex hn
    exact ⟨b, o, h1, h2, Nat.lt_of_lt_of_le h3 k.size, IsL.turn k.size (fun b hb hl => ⟨hb, k.block b hl (hP b hb)⟩) ts b o (k.block b h3 (hP b h2)) h4⟩⟩
theorem Cb.lt {w : World} {C : Nat} {ere : Bool} {n g d : Nat} (h : Cb w C ere n g d) : C < w.heap.size := bl_lt h
theorem Ckd.no {C : Nat} {ere : Bool} {o : Option Ck} {w w' : World} {d0 n g d : Nat} (ho : o = none) (hc : Cb w' C ere n g d) (hn : n ≤ 41) (hg : g ≤ 41) (hd : d ≤ 7) (h0 : d0 ≤ d) (k : Ks C w w') : Ckd C ere d0 o w (.returned (.bool false)) w' :=
  ⟨false, rfl, by rw [ho]; rfl, ⟨n, g, d, hc, hn, hg, hd, h0, fun c h => by rw [ho] at h; cases h⟩, k⟩
theorem Ckd.yes {C : Nat} {ere : Bool} {o : Option Ck} {w w' : World} {d0 n g d : Nat} (ho : o = some ⟨n, g, d⟩) (hc : Cb w' C ere n g d) (hn : n ≤ 41) (hg : g ≤ 41) (hd : d ≤ 7) (h0 : d0 ≤ d) (k : Ks C w w') : Ckd C ere d0 o w (.returned (.bool true)) w' :=
  ⟨true, rfl, by rw [ho]; rfl, ⟨n, g, d, hc, hn, hg, hd, h0, fun c h => by rw [ho] at h; injection h with h; subst h; exact ⟨rfl, rfl, rfl⟩⟩, k⟩

/-- The counts stay within their bounds. -/
structure CkOk (c c' : Ck) : Prop where
  n : c'.n ≤ 40
  g : c'.g ≤ c'.n
  d : c'.d = c.d
mutual
theorem chk_ok (ere : Bool) : ∀ (r : Rx) (b e : Bool) (c c' : Ck), c.n ≤ 40 → c.g ≤ c.n → chk ere r b e c = some c' → CkOk c c' ∧ c.n < c'.n
  | .mk k mn mx n s kids, b, e, c, c', hn, hg, h => by
    unfold chk at h
    split at h
    · cases h
    · rename_i h0
      have h40 : c.n + 1 ≤ 40 := by omega
      have one : some (⟨c.n + 1, c.g, c.d⟩ : Ck) = some c' → CkOk c c' ∧ c.n < c'.n := fun h => by
        injection h with h; subst h
        exact ⟨⟨h40, by show c.g ≤ c.n + 1; omega, rfl⟩, by show c.n < c.n + 1; omega⟩
      split at h
      · split at h
        · exact one h
        · cases h
      split at h
      · have := chkCat_ok ere kids true ⟨c.n + 1, c.g, c.d⟩ c' h40 (by show c.g ≤ c.n + 1; omega) h
        exact ⟨⟨this.1.n, this.1.g, this.1.d⟩, by have := this.2; simp only at this; omega⟩
      split at h
      · split at h
        · have := chkAlt_ok ere kids ⟨c.n + 1, c.g, c.d⟩ c' h40 (by show c.g ≤ c.n + 1; omega) h
          exact ⟨⟨this.1.n, this.1.g, this.1.d⟩, by have := this.2; simp only at this; omega⟩
        · cases h
      split at h
      · split at h
        · have := chkRep_ok ere kids ⟨c.n + 1, c.g, c.d⟩ c' h40 (by show c.g ≤ c.n + 1; omega) h
          exact ⟨⟨this.1.n, this.1.g, this.1.d⟩, by have := this.2; simp only at this; omega⟩
        · cases h
      split at h
      · split at h
        · cases h
        · have := chkGroup_ok ere kids ⟨c.n + 1, c.g + 1, c.d + 1⟩ c' h40 (by show c.g + 1 ≤ c.n + 1; omega) h
          exact ⟨⟨this.1, this.2.1, by have := this.2.2.1; simp only at this; omega⟩, by have := this.2.2.2; simp only at this; omega⟩
      split at h
      · split at h
        · exact one h
        · cases h
      split at h
      · split at h
        · exact one h
        · cases h
      split at h
      · split at h
        · exact one h
        · cases h
      · cases h
theorem chkCat_ok (ere : Bool) : ∀ (rs : List Rx) (f : Bool) (c c' : Ck), c.n ≤ 40 → c.g ≤ c.n → chkCat ere rs f c = some c' → CkOk c c' ∧ c.n ≤ c'.n
  | [], f, c, c', hn, hg, h => by
    unfold chkCat at h
    injection h with h; subst h
    exact ⟨⟨hn, hg, rfl⟩, Nat.le_refl _⟩
  | r :: rs, f, c, c', hn, hg, h => by
    unfold chkCat at h
    split at h
    · cases h
    · split at h
      · cases h
      · rename_i c1 hc1
        have h1 := chk_ok ere r f rs.isEmpty c c1 hn hg hc1
        have h2 := chkCat_ok ere rs false c1 c' h1.1.n h1.1.g h
        exact ⟨⟨h2.1.n, h2.1.g, h2.1.d.trans h1.1.d⟩, by omega⟩
theorem chkAlt_ok (ere : Bool) : ∀ (rs : List Rx) (c c' : Ck), c.n ≤ 40 → c.g ≤ c.n → chkAlt ere rs c = some c' → CkOk c c' ∧ c.n ≤ c'.n
  | [], c, c', hn, hg, h => by
    unfold chkAlt at h
    injection h with h; subst h
    exact ⟨⟨hn, hg, rfl⟩, Nat.le_refl _⟩
  | r :: rs, c, c', hn, hg, h => by
    unfold chkAlt at h
    split at h
    · cases h
    · split at h
      · cases h
      · rename_i c1 hc1
        have h1 := chk_ok ere r false false c c1 hn hg hc1
        have h2 := chkAlt_ok ere rs c1 c' h1.1.n h1.1.g h
        exact ⟨⟨h2.1.n, h2.1.g, h2.1.d.trans h1.1.d⟩, by omega⟩
theorem chkRep_ok (ere : Bool) : ∀ (rs : List Rx) (c c' : Ck), c.n ≤ 40 → c.g ≤ c.n → chkRep ere rs c = some c' → CkOk c c' ∧ c.n ≤ c'.n
  | [], c, c', hn, hg, h => by unfold chkRep at h; cases h
  | r :: rs, c, c', hn, hg, h => by
    unfold chkRep at h
    split at h
    · have h1 := chk_ok ere r false false c c' hn hg h
      exact ⟨h1.1, by omega⟩
    · cases h
theorem chkGroup_ok (ere : Bool) : ∀ (rs : List Rx) (c c' : Ck), c.n ≤ 40 → c.g ≤ c.n → chkGroup ere rs c = some c' → c'.n ≤ 40 ∧ c'.g ≤ c'.n ∧ c'.d = c.d - 1 ∧ c.n ≤ c'.n
  | [], c, c', hn, hg, h => by unfold chkGroup at h; cases h
  | r :: rs, c, c', hn, hg, h => by
    unfold chkGroup at h
    split at h
    · cases h
    · rename_i c1 hc1
      injection h with h; subst h
      have h1 := chk_ok ere r true true c c1 hn hg hc1
      exact ⟨h1.1.n, h1.1.g, by show c1.d - 1 = c.d - 1; rw [h1.1.d], by show c.n ≤ c1.n; omega⟩
end
end Go.Proofs.YtikmgckefbjbkaaGreatDoor
