/-
  bset.Of on what bset.Bytes gave; sums of counts; laws of sets.
-/
import Derived.Test.YtfijmepkbflahaaSets
namespace Go.Proofs.Ytfijmepkbflahaa
open Go.RowKit

theorem memb_any (f : Nat → Nat) (n i : Nat) : memb f n i = decide (∃ j, j < n ∧ f j = i) := by
  induction n with
  | zero => simp [memb]
  | succ n ih =>
    rw [memb, addB, ih, Bool.eq_iff_iff]
    simp only [Bool.or_eq_true, decide_eq_true_eq, beq_iff_eq]
    constructor
    · rintro (⟨j, hj, rfl⟩ | rfl)
      · exact ⟨j, by omega, rfl⟩
      · exact ⟨n, by omega, rfl⟩
    · rintro ⟨j, hj, rfl⟩
      by_cases h : j = n
      · subst h; exact .inr rfl
      · exact .inl ⟨j, by omega, rfl⟩

theorem mem_lst (p : Nat → Bool) (k i : Nat) : i ∈ lst p k ↔ i < k ∧ p i = true := by
  unfold lst
  simp

theorem memb_lst (p : Nat → Bool) : ∀ i, i < 256 → memb (fun j => (lst p 256).getD j 0) (lst p 256).length i = p i := by
  intro i hi
  rw [memb_any, Bool.eq_iff_iff]
  simp only [decide_eq_true_eq]
  constructor
  · rintro ⟨j, hj, hji⟩
    rw [List.getD_eq_getElem?_getD, List.getElem?_eq_getElem hj] at hji
    have : i ∈ lst p 256 := hji ▸ List.getElem_mem hj
    exact ((mem_lst p 256 i).1 this).2
  · intro hp
    obtain ⟨j, hj, hji⟩ := List.getElem_of_mem ((mem_lst p 256 i).2 ⟨hi, hp⟩)
    exact ⟨j, hj, by rw [List.getD_eq_getElem?_getD, List.getElem?_eq_getElem hj]; exact hji⟩

theorem lst_lt (p : Nat → Bool) (k j : Nat) (hk : k ≤ 256) : (lst p k).getD j 0 < 256 := by
  rw [List.getD_eq_getElem?_getD]
  by_cases hj : j < (lst p k).length
  · rw [List.getElem?_eq_getElem hj]
    have := (mem_lst p k _).1 (List.getElem_mem hj)
    exact Nat.lt_of_lt_of_le this.1 hk
  · rw [List.getElem?_eq_none (by omega)]; decide

theorem lst_len (p : Nat → Bool) : (lst p 256).length ≤ 256 := by rw [lst_length]; exact cnt_le p 256

/-- Of, of the bytes of a set: the set. -/
theorem of_owned (p : Nat → Bool) (v : Value) (base : Nat) (w : World) (hO : w.ownsRow base 5 1 v (lst p 256).length ((lst p 256).map u8v)) :
    Calls Try.prog 12 #[v] w fun e w' => e = .returned (sv p) ∧ Kp w w' := by
  rcases hO.2 with ⟨hv, h0⟩ | ⟨g, cap, cur, hv, _, hg, _, _, hcs, htk⟩
  · subst hv
    refine (of_nil w).mono ?_
    rintro e w' ⟨rfl, hk⟩
    refine ⟨?_, hk⟩
    rw [sv_congr (p := fun _ => false) (q := p)]
    intro i hi
    have hn : ¬ i ∈ lst p 256 := by rw [List.eq_nil_of_length_eq_zero h0]; exact List.not_mem_nil
    rw [mem_lst] at hn
    cases hp : p i
    · rfl
    · exact absurd ⟨hi, hp⟩ hn
  · have hv' : v = .slice (some ⟨g, 0, none⟩) (lst p 256).length cap := hv
    subst hv'
    refine (of_core (fun j => (lst p 256).getD j 0) g 0 (lst p 256).length cap w (Nat.le_trans (lst_len p) (by omega)) (Array.getElem?_eq_some_iff.1 hg).1 ?_ (fun j => lst_lt p 256 j (Nat.le_refl _))).mono ?_
    · intro j hj
      have := World.ownsRow.cellAt hO j (by omega)
      rw [Nat.zero_add, this, List.getElem?_map, List.getElem?_eq_getElem hj]
      show some (u8v _) = some (u8v _)
      rw [List.getD_eq_getElem?_getD, List.getElem?_eq_getElem hj]; rfl
    · rintro e w' ⟨rfl, hk⟩
      exact ⟨by rw [sv_congr (memb_lst p)], hk⟩

theorem orB_comm3 (p q r : Nat → Bool) : orB r (orB q p) = orB (orB p q) r := by
  funext i
  unfold orB
  cases p i <;> cases q i <;> cases r i <;> rfl

theorem notB_notB (p : Nat → Bool) : notB (notB p) = p := by
  funext i
  unfold notB
  exact Bool.not_not _

theorem orB_notB (p : Nat → Bool) : orB p (notB p) = notB (fun _ => false) := by
  funext i
  unfold orB notB
  cases p i <;> rfl

theorem orB_self (p : Nat → Bool) : orB p p = p := by
  funext i
  unfold orB
  exact Bool.or_self _

theorem cnt_not (p : Nat → Bool) (n : Nat) : cnt p n + cnt (notB p) n = n := by
  induction n with
  | zero => rfl
  | succ n ih => rw [cnt_succ, cnt_succ]; unfold notB at *; cases p n <;> simp <;> omega

/-- What is in both. -/
def andB (p q : Nat → Bool) : Nat → Bool := notB (orB (notB p) (notB q))

theorem cnt_or_and (p q : Nat → Bool) (n : Nat) : cnt (orB p q) n + cnt (andB p q) n = cnt p n + cnt q n := by
  induction n with
  | zero => rfl
  | succ n ih =>
    rw [cnt_succ, cnt_succ, cnt_succ, cnt_succ]
    have : (orB p q n).toNat + (andB p q n).toNat = (p n).toNat + (q n).toNat := by
      show (p n || q n).toNat + (!(!p n || !q n)).toNat = (p n).toNat + (q n).toNat
      cases p n <;> cases q n <;> rfl
    omega

theorem eq_zero (w : World) : (Op.equalIn 10000 24 (.agg #[.int .u64 0, .int .u64 0, .int .u64 0, .int .u64 0]) (.agg #[.int .u64 0, .int .u64 0, .int .u64 0, .int .u64 0])).run Try.prog w = .ok true w := by
  rw [eq_vv]; rfl

theorem join_zero (w : World) :
    Calls Try.prog 10 #[.slice none 0 0] w fun e w' => e = .returned (.agg #[.int .u64 0, .int .u64 0, .int .u64 0, .int .u64 0]) ∧ Kp w w' := join_nil w

theorem not_lit (w : World) : Calls Try.prog 13 #[.agg #[.int .u64 0, .int .u64 0, .int .u64 0, .int .u64 0]] w fun e w' => e = .returned (sv (notB (fun _ => false))) ∧ Kp w w' := not_zero w
end Go.Proofs.Ytfijmepkbflahaa
