/-
  What bset.Bytes and bset.Only do.
-/
import Derived.Test.YtikmgckefbjbkaaGreatDoorRange
import Derived.Maps.AppendAt
import Derived.Laws.OwnMore
namespace Go.Proofs.YtikmgckefbjbkaaGreatDoor
open Go.RowKit

/-- The numbers below k that p holds of, rising. -/
def lst (p : Nat → Bool) (k : Nat) : List Nat := (List.range k).filter p

theorem lst_succ (p : Nat → Bool) (k : Nat) : lst p (k + 1) = lst p k ++ if p k then [k] else [] := by
  unfold lst
  rw [List.range_succ, List.filter_append]
  cases h : p k <;> simp [h]

theorem lst_length (p : Nat → Bool) (k : Nat) : (lst p k).length = cnt p k := by
  induction k with
  | zero => rfl
  | succ k ih =>
    rw [lst_succ, List.length_append, ih]
    unfold cnt
    rw [sm]
    cases p k <;> rfl

theorem cnt_le (p : Nat → Bool) (k : Nat) : cnt p k ≤ k := by
  rw [← lst_length]
  have := List.length_filter_le p (List.range k)
  rw [List.length_range] at this
  exact this

/-- A byte as the program has it. -/
abbrev u8v (n : Nat) : Value := .int .u8 (n : Int)

theorem info5 : ∃ i, Tryz.prog.info? 5 = some i ∧ i.zero = some (.int .u8 0) ∧ i.size = 1 ∧ i.bytes = 1 := by
  obtain ⟨i, hi, h0, h1, h2⟩ := info_parts (P := Tryz.prog) (e := 5) (z := .int .u8 0) (size := 1) (bytes := 1) (by kernel_rfl)
  exact ⟨i, hi, h0, h1, h2⟩

/-- A byte put behind those that the call owns. -/
theorem wpList_append_byte {ops : Array Oper} {rest : List Oper} {o : Oper} {a : Act} {Q : Exit → Act → World → Prop} (W : World) (hgd : o.guard = none) (s x : Operand)
    (ho : o.op = .call { callee := .builtin .append, args := #[s, x], argTypes := #[47, 47] })
    (base : Nat) (v u : Value) (n : Nat) (xs : List Value) (hs : a.eval s = v) (hown : Hid (W.ownsRow base 5 1 v n xs)) (B : Nat) (hB : B = W.heap.size)
    (hx : a.eval x = .slice (some ⟨B, 0, none⟩) 1 1) (h1 : u.oneCell' = true) (h63 : n ≤ 900) (hbase : base ≤ W.heap.size)
    (h : ∀ v' w', w'.ownsRow base 5 1 v' (n + 1) (xs ++ [u]) → (W.alloc (.cells #[u] 5)).grownBy w' v.ownBlock → wpList Tryz.prog ops Q rest (a.put o.dst v') w') :
    wpList Tryz.prog ops Q (o :: rest) a (W.alloc (.cells #[u] 5)) := by
  obtain ⟨i, hi, hz, hsz, hby⟩ := info5
  subst hB
  refine wpList_append_own_at (W.alloc (.cells #[u] 5)) hgd s x 47 ho base 5 i (.int .u8 0) 1 1 Tryz.underlying47 hi hz hsz hby rfl (by omega) v n xs hs (hown.out.alloc _) ⟨W.heap.size, 0, none⟩ 1 1 [u] hx rfl ?_ ?_ (by unfold maxLen; omega) (by omega) (by simp; omega) ?_
  · intro j y hj
    match j, hj with
    | 0, hj => simp at hj; subst hj; simp [Addr.add]
  · intro y hy; simp at hy; subst hy; exact h1
  · intro v' w' a1 a2 _ _
    exact h v' w' a1 a2

theorem owns_kp {w w' : World} {B e k n : Nat} {v : Value} {xs : List Value} (h : w.ownsRow B e k v n xs) (hk : Kp w w') : w'.ownsRow B e k v n xs := by
  obtain ⟨h1, h2⟩ := h
  refine ⟨h1, ?_⟩
  rcases h2 with h2 | ⟨g, cap, cur, hv, hb, hg, hr⟩
  · exact .inl h2
  · exact .inr ⟨g, cap, cur, hv, hb, (hk.block g (Array.getElem?_eq_some_iff.1 hg).1).trans hg, hr⟩

set_option maxRecDepth 100000 in
set_option maxHeartbeats 2000000 in
theorem bytes_any (p : Nat → Bool) (w : World) :
    Calls Tryz.prog 71 #[sv p] w fun e w' => ∃ v, e = .returned v ∧ w'.ownsRow (w.heap.size + 1) 5 1 v (lst p 256).length ((lst p 256).map u8v) ∧ Kp w w' := by
  go_enter Tryz.func71, Tryz.ntmps71
  go_wp2
  go_loopw [3, 5] (fun v i wr => ∃ k : Nat, k ≤ 256 ∧ i = .int .i64 k ∧ wr.ownsRow (w.heap.size + 1) 5 1 v (lst p k).length ((lst p k).map u8v) ∧ Kp (w.alloc (blk p)) wr) (fun _ i _ => 256 - (intOf i).toNat)
  case atStart => exact ⟨0, by omega, rfl, World.ownsRow_nil _ _ _ _, Kp.refl _⟩
  case round =>
    obtain ⟨k, hk, rfl, hO, hK⟩ := hrel
    have hA : At wr w.heap.size p := hK.at (At.new w p)
    by_cases hlt : k < 256
    · obtain ⟨c0, c1, c2, c3⟩ := hA.cells
      have hs : w.heap.size < wr.heap.size := hA.lt
      have HO : Hid (wr.ownsRow (w.heap.size + 1) 5 1 u3 (lst p k).length ((lst p k).map u8v)) := hO
      have HK : Hid (Kp (w.alloc (blk p)) wr) := hK
      clear hO hK hA
      have hw8 : IntKind.u8.wrap (k : Int) = (k : Int) := by rw [IntKind.wrap_u8']; omega
      have HL := lst_succ p k
      have hle : cnt p k ≤ 256 := Nat.le_trans (cnt_le p k) hk
      cases hp : p k
      · rw [hp] at HL
        have HL' : Hid (lst p (k + 1) = lst p k) := HL.trans (by simp)
        clear HL
        go_wp2_with fail
        refine (has_any p k _ hlt).mono ?_
        rintro e w1 ⟨rfl, hk1⟩
        have HK1 : Hid (Kp wr w1) := hk1
        clear hk1
        rw [hp]
        go_wp2_with fail
        refine ⟨⟨k + 1, by omega, by go_num, ?_, ?_⟩, by simp [intOf]; omega⟩
        · rw [HL'.out]; exact owns_kp HO.out HK1.out
        · exact HK.out.trans HK1.out
      · rw [hp] at HL
        have HL' : Hid (lst p (k + 1) = lst p k ++ [k]) := HL.trans (by simp)
        clear HL
        go_wp2_with fail
        refine (has_any p k _ hlt).mono ?_
        rintro e w1 ⟨rfl, hk1⟩
        have HO1 : Hid (w1.ownsRow (w.heap.size + 1) 5 1 u3 (lst p k).length ((lst p k).map u8v)) := owns_kp HO.out hk1
        have HK1 : Hid (Kp (w.alloc (blk p)) w1) := HK.out.trans hk1
        have hs1 : w.heap.size < w1.heap.size := Nat.lt_of_lt_of_le hs hk1.size
        clear hk1 HO HK
        rw [hp]
        go_wp2_with (at_builtin; go_must (refine wpList_append_byte _ (by rfl) _ _ (by rfl) (w.heap.size + 1) u3 (.int .u8 (k : Int)) (lst p k).length _ (by rfl) HO1 _ (by rfl) (by rfl) (by rfl) ?h1 ?h2 ?_))
        case h1 => rw [lst_length]; omega
        case h2 => omega
        intro v' w2 hown' hgrow
        have HO2 : Hid (w2.ownsRow (w.heap.size + 1) 5 1 v' (lst p (k + 1)).length ((lst p (k + 1)).map u8v)) := by
          rw [HL'.out, List.length_append, List.map_append]; exact hown'
        have HK2 : Hid (Kp (w.alloc (blk p)) w2) :=
          Below.grown (HK1.out.alloc _) hgrow (by simp; omega) (fun b hb => by have := (HO1.out.lt b hb).1; simp; omega)
        clear hown' hgrow
        go_wp2_with fail
        exact ⟨⟨k + 1, by omega, by go_num, HO2.out, HK2.out⟩, by simp [intOf]; omega⟩
    · obtain rfl : k = 256 := by omega
      have HO : Hid (wr.ownsRow (w.heap.size + 1) 5 1 u3 (lst p 256).length ((lst p 256).map u8v)) := hO
      have HK : Hid (Kp (w.alloc (blk p)) wr) := hK
      clear hO hK hA
      go_wp2
      go_ret
      exact ⟨_, rfl, HO.out, ((Kp.refl _).alloc _).trans HK.out⟩
end Go.Proofs.YtikmgckefbjbkaaGreatDoor
