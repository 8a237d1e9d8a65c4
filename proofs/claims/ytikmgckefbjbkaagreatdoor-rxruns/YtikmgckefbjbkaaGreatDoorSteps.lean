/-
  A region that draws its order, where what is known of the world may end with an operation that has come up: as the kit's 'wpAnyH', but S is asked as long as the operation z has not come up.
-/
import Derived.Deep.RegionHeld3
namespace Go.Proofs.YtikmgckefbjbkaaGreatDoor
open Go

section
variable {P : Program} {ops : Array Oper} {Q : Exit → Act → World → Prop} {md : Region.Mode} {S : World → Prop} {z : Nat}

/-- Whatever order is picked from here on; S holds behind every operation as long as z has not come up. -/
def anyZ (P : Program) (md : Region.Mode) (ops : Array Oper) (Q : Exit → Act → World → Prop) (S : World → Prop) (z : Nat) : Nat → Array Bool → Act → World → Prop
  | 0, listed, a, w => Region.ready md ops listed = [] ∧ Q .normal a w
  | fuel + 1, listed, a, w =>
    (Region.ready md ops listed = [] → Q .normal a w) ∧
    ∀ i ∈ Region.ready md ops listed, wpOp P ops Q i (fun a' w' => (i ≠ z → listed.getD z true = false → S w') ∧ anyZ P md ops Q S z fuel (listed.setIfInBounds i true) a' w') a w

theorem any_of_Z : ∀ (fuel : Nat) (listed : Array Bool) (a : Act) (w : World), anyZ P md ops Q S z fuel listed a w → wpAny P md ops Q fuel listed a w
  | 0, _, _, _, h => h
  | fuel + 1, _, _, _, h => ⟨h.1, fun i hi => wpOp_mono (fun a' w' h' => any_of_Z fuel _ a' w' h'.2) (h.2 i hi)⟩

/-- Once z has come up, whatever way. -/
theorem Z_of_any : ∀ (fuel : Nat) (listed : Array Bool) (a : Act) (w : World), listed.getD z true = true → wpAny P md ops Q fuel listed a w → anyZ P md ops Q S z fuel listed a w
  | 0, _, _, _, _, h => h
  | fuel + 1, listed, _, _, hz, h => ⟨h.1, fun i hi => wpOp_mono (fun a' w' h' => ⟨fun _ hf => (by rw [hz] at hf; cases hf), Z_of_any fuel _ a' w' (by
      by_cases hiz : i = z
      · subst hiz
        by_cases hlt : i < listed.size
        · simp [hlt]
        · simp [Array.getD, hlt]
      · rw [getD_set_ne true hiz]; exact hz) h'⟩) (h.2 i hi)⟩

theorem unlisted {i : Nat} {listed : Array Bool} (h : i ∈ Region.ready md ops listed) : listed.getD i true = false := (mem_ready.1 h).1
/-- What has come up has all that it waits for behind it. -/
def Shutd (md : Region.Mode) (ops : Array Oper) (listed : Array Bool) : Prop := ∀ j oj, ops[j]? = some oj → listed.getD j true = true → ∀ e ∈ oj.after, Region.binds md e = true → listed.getD e.on true = true

/-- z waits for i, be it along others. -/
inductive WaitsT (md : Region.Mode) (ops : Array Oper) : Nat → Nat → Prop
  | one {z i : Nat} {oz : Oper} (hz : ops[z]? = some oz) (e : Edge) (he : e ∈ oz.after) (hb : Region.binds md e = true) (ho : e.on = i) : WaitsT md ops z i
  | more {z k i : Nat} {oz : Oper} (hz : ops[z]? = some oz) (e : Edge) (he : e ∈ oz.after) (hb : Region.binds md e = true) (ho : e.on = k) (h : WaitsT md ops k i) : WaitsT md ops z i

theorem not_listed {z i : Nat} {listed : Array Bool} (hs : Shutd md ops listed) (h : WaitsT md ops z i) (hi : listed.getD i true = false) : listed.getD z true = false := by
  induction h with
  | one hz e he hb ho =>
    cases hc : listed.getD _ true with
    | false => rfl
    | true => have := hs _ _ hz hc e he hb; rw [ho, hi] at this; cases this
  | more hz e he hb ho _ ih =>
    cases hc : listed.getD _ true with
    | false => rfl
    | true => have := hs _ _ hz hc e he hb; rw [ho, ih hi] at this; cases this

theorem on_listed {j : Nat} {oj : Oper} {listed : Array Bool} (hj : j ∈ Region.ready md ops listed) (hoj : ops[j]? = some oj) (e : Edge) (he : e ∈ oj.after) (hb : Region.binds md e = true) : listed.getD e.on true = true := by
  obtain ⟨_, oj', hoj', hall⟩ := mem_ready.1 hj
  rw [hoj] at hoj'
  obtain rfl : oj = oj' := by injection hoj'
  have h1 := hall e he hb
  rcases Nat.lt_or_ge e.on listed.size with h' | h'
  · simp [h'] at h1 ⊢; exact h1
  · simp [Array.getElem?_eq_none h'] at h1

theorem not_yet' {z i j : Nat} {listed : Array Bool} (hs : Shutd md ops listed) (h : WaitsT md ops z i) (hi : listed.getD i true = false) (hj : j ∈ Region.ready md ops listed) : j ≠ z := by
  intro e
  subst e
  cases h with
  | one hz e he hb ho => have := on_listed hj hz e he hb; rw [ho, hi] at this; cases this
  | more hz e he hb ho h => have := on_listed hj hz e he hb; rw [ho, not_listed hs h hi] at this; cases this

theorem getD_set_true {j k : Nat} {listed : Array Bool} (h : listed.getD k true = true) : (listed.setIfInBounds j true).getD k true = true := by
  by_cases hjk : j = k
  · subst hjk
    by_cases hlt : j < listed.size
    · simp [hlt]
    · simp [Array.getD, hlt]
  · rw [getD_set_ne true hjk]; exact h

theorem Shutd.set {j : Nat} {listed : Array Bool} (hs : Shutd md ops listed) (hj : j ∈ Region.ready md ops listed) : Shutd md ops (listed.setIfInBounds j true) := by
  intro k ok hk hkl e he hb
  by_cases hjk : j = k
  · subst hjk; exact getD_set_true (on_listed hj hk e he hb)
  · rw [getD_set_ne true hjk] at hkl; exact getD_set_true (hs k ok hk hkl e he hb)

/-- An operation that z waits for may be taken first, if it yields in every world that meets S. -/
theorem anyZ_first {i : Nat} {oi : Oper} {v : Value} (hi : ops[i]? = some oi) (hsel : ∀ (j : Nat) (o : Oper) cs b, ops[j]? = some o → o.op ≠ .select cs b)
    (hQ : ∀ c a w, Q (.panic c) (a.put oi.dst v) w → Q (.panic c) a w) (hw : WaitsT md ops z i) :
    ∀ (fuel : Nat) (listed : Array Bool) (a : Act) (w : World),
      (∀ j oj, ops[j]? = some oj → j ≠ i → listed.getD j true = false → (∀ e ∈ oj.after, Region.binds md e = true → e.on ≠ i) → oi.apart ops oj = true) →
      i ∈ Region.ready md ops listed → Shutd md ops listed → YieldsIf P ops S oi v a → S w →
      anyZ P md ops Q S z fuel (listed.setIfInBounds i true) (a.put oi.dst v) w → anyZ P md ops Q S z (fuel + 1) listed a w := by
  intro fuel
  induction fuel with
  | zero =>
    intro listed a w _ hr _ hy hS H
    refine ⟨fun h => (by rw [h] at hr; cases hr), fun j hj => ?_⟩
    by_cases hji : j = i
    · subst hji; exact hy.wpOp hi hS ⟨fun _ _ => hS, H⟩
    · have := ready_mono hj hji
      rw [H.1] at this
      cases this
  | succ fuel ih =>
    intro listed a w hfree hr hsh hy hS H
    have hil := unlisted hr
    have hzl := not_listed hsh hw hil
    refine ⟨fun h => (by rw [h] at hr; cases hr), fun j hj => ?_⟩
    by_cases hji : j = i
    · subst hji; exact hy.wpOp hi hS ⟨fun _ _ => hS, H⟩
    · have hjz := not_yet' hsh hw hil hj
      have hiz : i ≠ z := not_yet' hsh hw hil hr
      have h1 := H.2 j (ready_mono hj hji)
      obtain ⟨hjun, oj, hoj, hall⟩ := mem_ready.1 hj
      have hnot : ∀ e ∈ oj.after, Region.binds md e = true → e.on ≠ i := fun e he hb heq => by
        have h1 := hall e he hb
        rw [heq] at h1
        rcases Nat.lt_or_ge i listed.size with h' | h'
        · simp [h'] at hil h1; rw [hil] at h1; cases h1
        · simp [Array.getElem?_eq_none h'] at h1
      have h2 := wpOp_putIf hoj (hfree j oj hoj hji hjun hnot) (fun cs b => hsel i oi cs b hi) (fun cs b => hsel j oj cs b hoj) hQ hy h1
      have hfree' : ∀ k ok, ops[k]? = some ok → k ≠ i → (listed.setIfInBounds j true).getD k true = false →
          (∀ e ∈ ok.after, Region.binds md e = true → e.on ≠ i) → oi.apart ops ok = true := fun k ok hk hki hun hno => by
        refine hfree k ok hk hki ?_ hno
        by_cases hjk : j = k
        · subst hjk; exact hjun
        · rw [getD_set_ne true hjk] at hun; exact hun
      refine wpOp_mono (fun a' w' h3 => ?_) h2
      have hS' : S w' := h3.2.1 hjz (by rw [getD_set_ne true hiz]; exact hzl)
      refine ⟨fun _ _ => hS', ih (listed.setIfInBounds j true) a' w' hfree' (ready_mono hr (Ne.symm hji)) (hsh.set hj) h3.1 hS' ?_⟩
      rw [Array.setIfInBounds_comm _ _ hji]
      exact h3.2.2

/-- As Bools, for the kernel: a path, edge by edge; what has come up. -/
def edgeB (md : Region.Mode) (ops : Array Oper) (z i : Nat) : Bool := match ops[z]? with
  | some oz => oz.after.any fun e => Region.binds md e && e.on == i
  | none => false
def pathB (md : Region.Mode) (ops : Array Oper) (z : Nat) : List Nat → Nat → Bool
  | [], i => edgeB md ops z i
  | k :: ks, i => edgeB md ops z k && pathB md ops k ks i
theorem edge_of {z i : Nat} (h : edgeB md ops z i = true) : ∃ oz e, ops[z]? = some oz ∧ e ∈ oz.after ∧ Region.binds md e = true ∧ e.on = i := by
  unfold edgeB at h
  cases hz : ops[z]? with
  | none => rw [hz] at h; cases h
  | some oz =>
    rw [hz] at h
    simp only [Array.any_eq_true] at h
    obtain ⟨k, hk, he⟩ := h
    simp only [Bool.and_eq_true, beq_iff_eq] at he
    exact ⟨oz, oz.after[k], rfl, Array.getElem_mem hk, he.1, he.2⟩
theorem path_of {ks : List Nat} : ∀ {z i : Nat}, pathB md ops z ks i = true → WaitsT md ops z i := by
  induction ks with
  | nil => intro z i h; obtain ⟨oz, e, h1, h2, h3, h4⟩ := edge_of h; exact .one h1 e h2 h3 h4
  | cons k ks ih =>
    intro z i h
    simp only [pathB, Bool.and_eq_true] at h
    obtain ⟨oz, e, h1, h2, h3, h4⟩ := edge_of h.1
    exact .more h1 e h2 h3 h4 (ih h.2)
def shutB (md : Region.Mode) (ops : Array Oper) (listed : Array Bool) : Bool := (List.range ops.size).all fun j => match ops[j]? with
  | some oj => !(listed.getD j true) || oj.after.all fun e => !(Region.binds md e) || listed.getD e.on true
  | none => true
theorem shut_of {listed : Array Bool} (h : shutB md ops listed = true) : Shutd md ops listed := by
  intro j oj hj hl e he hb
  unfold shutB at h
  rw [List.all_eq_true] at h
  have := h j (List.mem_range.2 (Array.getElem?_eq_some_iff.1 hj).1)
  rw [hj] at this
  simp only [hl, Bool.not_true, Bool.false_or, Array.all_eq_true_iff_forall_mem] at this
  have := this e he
  rw [hb] at this
  simpa using this

theorem anyZ_take {i : Nat} {oi : Oper} {v : Value} {fuel : Nat} {listed : Array Bool} {a : Act} {w : World} (hi : ops[i]? = some oi)
    (hs : Region.noSelect ops = true) (hf : Region.free md ops listed i = true) (hr : (Region.ready md ops listed).contains i = true) {ks : List Nat} (hw : pathB md ops z ks i = true) (hz : shutB md ops listed = true)
    (hQ : ∀ c a w, Q (.panic c) (a.put oi.dst v) w → Q (.panic c) a w) (hy : YieldsIf P ops S oi v a) (hS : S w)
    (h : anyZ P md ops Q S z fuel (listed.setIfInBounds i true) (a.put oi.dst v) w) : anyZ P md ops Q S z (fuel + 1) listed a w :=
  anyZ_first hi (Region.noSelect_spec hs) hQ (path_of hw) fuel listed a w (Region.free_spec hi hf) (by simpa using hr) (shut_of hz) hy hS h

/-- Each of those that may come up. -/
def AllZ (P : Program) (md : Region.Mode) (ops : Array Oper) (Q : Exit → Act → World → Prop) (S : World → Prop) (z fuel : Nat) (listed : Array Bool) (a : Act) (w : World) (rs : List Nat) : Prop :=
  ∀ i ∈ rs, wpOp P ops Q i (fun a' w' => (i ≠ z → listed.getD z true = false → S w') ∧ anyZ P md ops Q S z fuel (listed.setIfInBounds i true) a' w') a w
theorem AllZ.nil {fuel : Nat} {listed : Array Bool} {a : Act} {w : World} : AllZ P md ops Q S z fuel listed a w [] := fun _ h => by cases h
/-- One that is ahead of z: S is shown, and handed on. -/
theorem AllZ.cons {fuel : Nat} {listed : Array Bool} {a : Act} {w : World} {i : Nat} {o : Oper} {rs : List Nat} (ho : ops[i]? = some o)
    (h : ∀ K' : Act → World → Prop, Shut (∀ a w, S w → (S w → anyZ P md ops Q S z fuel (listed.setIfInBounds i true) a w) → K' a w) → if Region.wanted o (yielded ops a.tmps) = true then Oper.wp P o a w K' Q else K' (a.put o.dst undef) w)
    (hs : AllZ P md ops Q S z fuel listed a w rs) : AllZ P md ops Q S z fuel listed a w (i :: rs) := fun j hj => by
  rcases List.mem_cons.1 hj with rfl | hj
  · exact wpOp_step ho (fun K' hK => h K' (fun a w hS hW => hK a w ⟨fun _ _ => hS, hW hS⟩))
  · exact hs j hj
/-- z itself, or one behind it: nothing is asked. -/
theorem AllZ.last {fuel : Nat} {listed : Array Bool} {a : Act} {w : World} {i : Nat} {o : Oper} {rs : List Nat} (ho : ops[i]? = some o) (hl : i = z ∨ listed.getD z true = true)
    (h : ∀ K' : Act → World → Prop, Shut (∀ a w, anyZ P md ops Q S z fuel (listed.setIfInBounds i true) a w → K' a w) → if Region.wanted o (yielded ops a.tmps) = true then Oper.wp P o a w K' Q else K' (a.put o.dst undef) w)
    (hs : AllZ P md ops Q S z fuel listed a w rs) : AllZ P md ops Q S z fuel listed a w (i :: rs) := fun j hj => by
  rcases List.mem_cons.1 hj with rfl | hj
  · refine wpOp_step ho (fun K' hK => h K' (fun a w hW => hK a w ⟨fun hn hf => ?_, hW⟩))
    rcases hl with rfl | hl
    · exact absurd rfl hn
    · rw [hl] at hf; cases hf
  · exact hs j hj
theorem anyZ_ready {rs : List Nat} {fuel : Nat} {listed : Array Bool} {a : Act} {w : World} (hr : Region.ready md ops listed = rs) (hne : rs ≠ [])
    (h : AllZ P md ops Q S z fuel listed a w rs) : anyZ P md ops Q S z (fuel + 1) listed a w := ⟨fun h0 => absurd (hr ▸ h0) hne, hr ▸ h⟩
theorem anyZ_done {listed : Array Bool} {a : Act} {w : World} (hr : Region.ready md ops listed = []) (h : Q .normal a w) : ∀ fuel, anyZ P md ops Q S z fuel listed a w
  | 0 => ⟨hr, h⟩
  | _ + 1 => ⟨fun _ => h, by rw [hr]; simp⟩
/-- The beginning. -/
theorem region_Z {id : Nat} {a : Act} {w : World} (hm : P.follows .mixedOrders = true) (hS : S w.drew)
    (h : S w.drew → anyZ P .any ops Q S z ops.size (Array.replicate ops.size false) a w.drew) : (Code.region id ops true).wp P Q a w :=
  wp_region_any hm (any_of_Z (S := S) (z := z) _ _ _ _ (h hS))
end
end Go.Proofs.YtikmgckefbjbkaaGreatDoor
