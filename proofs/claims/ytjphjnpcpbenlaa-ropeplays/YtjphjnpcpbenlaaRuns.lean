/-
  The closed law RopeRuns; slices of items and of ropes that were just laid.
-/
import Derived.Test.YtjphjnpcpbenlaaLine
namespace Go.Proofs.Ytjphjnpcpbenlaa
open Go.RowKit
attribute [local go_sem] run_store_complex

/-- A block that holds just these items. -/
theorem Sl.block {w : World} {B : Nat} {cs : Array Value} {xs : List It} (h : w.heap[B]? = some (.cells cs 29)) (hc : cs.toList = vals xs) (n cap : Nat) (hn : xs.length = n) (hcap : n ≤ cap) (hm : cap ≤ 9223372036854775807) : Sl w (.slice (some ⟨B, 0, none⟩) n cap) xs := by
  subst hn
  refine Or.inl ⟨B, 0, cap, rfl, ?_, hcap, hm⟩
  intro j x hx
  have hv := vals_at xs j x hx
  rw [← hc, Array.getElem?_toList, Array.getElem?_toList] at hv
  rw [show 0 + j * 2 = j * 2 by omega]
  exact ⟨bl_cell h _ _ hv.1, bl_cell h _ _ hv.2⟩

/-- A block that holds just these ropes. -/
theorem Ls.block {w : World} {B : Nat} {cs : Array Value} {ts : List (Option T)} (h : w.heap[B]? = some (.cells cs 24)) (hc : cs.toList = ts.map fun t => .pointer (pO t))
    (i : ∀ t, t ∈ ts → InO w t ∧ BalO t) (n : (flat ts).length ≤ 100000) (s : Sm (flat ts)) (l : ts.length ≤ 1000) : Ls w B 0 ts := by
  refine ⟨?_, fun t ht => (i t ht).1, fun t ht => (i t ht).2, n, s, l⟩
  intro j t hj
  rw [Nat.zero_add]
  refine bl_cell h _ _ ?_
  rw [← Array.getElem?_toList, hc, List.getElem?_map, hj]; rfl

/-- A variable of a rope. -/
def Vr (w : World) (S : Nat) (t : Option T) : Prop := w.heap[S]? = some (.cells #[.pointer (pO t)] 24)
theorem Vr.kp {w w' : World} {S : Nat} {t : Option T} (h : Vr w S t) (k : Kp w w') : Vr w' S t := bl_kp h k
theorem Vr.cell {w : World} {S : Nat} {t : Option T} (h : Vr w S t) : w.cell? ⟨S, 0, none⟩ = some (.pointer (pO t)) := bl_cell h 0 _ rfl

/-- A rope that lies in a world, of items of small marks. -/
structure Ok (w : World) (t : Option T) (xs : List It) : Prop where
  i : InO w t
  b : BalO t
  e : itemsO t = xs
theorem Ok.kp {w w' : World} {t : Option T} {xs : List It} (h : Ok w t xs) (k : Kp w w') : Ok w' t xs := ⟨h.i.kp k, h.b, h.e⟩
theorem Rp.ok {w w' : World} {t : Option T} {xs : List It} (h : Rp xs w w' t) : Ok w' t xs := ⟨h.i, h.bal, h.items⟩

theorem of_ok (v : Value) (xs : List It) (w : World) (h : Sl w v xs) (hn : xs.length ≤ 100000) (hs : Sm xs) :
    Calls Try.prog 8 #[v] w fun e w' => ∃ t, e = .returned (rv t) ∧ Ok w' t xs ∧ Kp w w' := by
  refine (of_rope v xs w h hn hs).mono ?_
  rintro e w' ⟨t, rfl, j⟩
  exact ⟨t, rfl, j.ok, j.k⟩
theorem split_ok (t : Option T) (xs : List It) (i : Int) (w : World) (h : Ok w t xs) (hn : xs.length ≤ 100000) (hs : Sm xs) :
    Calls Try.prog 10 #[rv t, .int .i64 i] w fun e w' => ∃ a b, e = .returned (.tuple #[rv a, rv b]) ∧ Ok w' a (xs.take i.toNat) ∧ Ok w' b (xs.drop i.toNat) ∧ Kp w w' := by
  obtain ⟨hi, hb, rfl⟩ := h
  refine (split_rope t i w hi hb hn hs).mono ?_
  rintro e w' ⟨a, b, rfl, c⟩
  exact ⟨a, b, rfl, ⟨c.ia, c.ba, c.fa⟩, ⟨c.ib, c.bb, c.fb⟩, c.k⟩
theorem flat_two (a b : Option T) : flat [a, b] = itemsO a ++ itemsO b := by simp [flat]
theorem flat_three (a b c : Option T) : flat [a, b, c] = itemsO a ++ itemsO b ++ itemsO c := by simp [flat]
theorem join2_ok (a b : Option T) (xs ys : List It) (w : World) (B : Nat) (hB : w.heap[B]? = some (.cells #[.pointer (pO a), .pointer (pO b)] 24)) (ha : Ok w a xs) (hb : Ok w b ys) (hn : xs.length + ys.length ≤ 100000) (sx : Sm xs) (sy : Sm ys) :
    Calls Try.prog 11 #[.slice (some ⟨B, 0, none⟩) 2 2] w fun e w' => ∃ t, e = .returned (rv t) ∧ Ok w' t (xs ++ ys) ∧ Kp w w' := by
  obtain ⟨ia, ba, rfl⟩ := ha
  obtain ⟨ib, bb, rfl⟩ := hb
  refine (join_list [a, b] B 0 2 2 w rfl (Ls.block hB rfl ?_ ?_ ?_ (by simp))).mono ?_
  · intro t ht; simp at ht; rcases ht with rfl | rfl
    · exact ⟨ia, ba⟩
    · exact ⟨ib, bb⟩
  · rw [flat_two, List.length_append]; exact hn
  · rw [flat_two]; exact sx.append sy
  · rintro e w' ⟨t, rfl, j⟩
    rw [flat_two] at j
    exact ⟨t, rfl, j.ok, j.k⟩
theorem join3_ok (a b c : Option T) (xs ys zs : List It) (w : World) (B : Nat) (hB : w.heap[B]? = some (.cells #[.pointer (pO a), .pointer (pO b), .pointer (pO c)] 24)) (ha : Ok w a xs) (hb : Ok w b ys) (hc : Ok w c zs) (hn : xs.length + ys.length + zs.length ≤ 100000) (sx : Sm xs) (sy : Sm ys) (sz : Sm zs) :
    Calls Try.prog 11 #[.slice (some ⟨B, 0, none⟩) 3 3] w fun e w' => ∃ t, e = .returned (rv t) ∧ Ok w' t (xs ++ ys ++ zs) ∧ Kp w w' := by
  obtain ⟨ia, ba, rfl⟩ := ha
  obtain ⟨ib, bb, rfl⟩ := hb
  obtain ⟨ic, bc, rfl⟩ := hc
  refine (join_list [a, b, c] B 0 3 3 w rfl (Ls.block hB rfl ?_ ?_ ?_ (by simp))).mono ?_
  · intro t ht; simp at ht; rcases ht with rfl | rfl | rfl
    · exact ⟨ia, ba⟩
    · exact ⟨ib, bb⟩
    · exact ⟨ic, bc⟩
  · rw [flat_three, List.length_append, List.length_append]; exact hn
  · rw [flat_three]; exact (sx.append sy).append sz
  · rintro e w' ⟨t, rfl, j⟩
    rw [flat_three] at j
    exact ⟨t, rfl, j.ok, j.k⟩
theorem items_ok (t : Option T) (xs : List It) (w : World) (h : Ok w t xs) (hn : xs.length ≤ 200000) :
    Calls Try.prog 12 #[rv t] w fun e w' => ∃ v, e = .returned v ∧ Own w.heap.size w' v xs ∧ Kp w w' := by
  obtain ⟨hi, _, rfl⟩ := h
  refine (items_any t w hi hn).mono ?_
  rintro e w' ⟨v, rfl, g⟩
  exact ⟨v, rfl, g.o, g.k⟩
theorem len_ok (t : Option T) (xs : List It) (w : World) (h : Ok w t xs) :
    Calls Try.prog 14 #[rv t] w fun e w' => e = .returned (.int .i64 (xs.length : Nat)) ∧ Kp w w' := by
  obtain ⟨hi, _, rfl⟩ := h
  exact len_any t w hi
theorem mark_ok (t : Option T) (xs : List It) (w : World) (h : Ok w t xs) :
    Calls Try.prog 20 #[rv t] w fun e w' => e = .returned (mk xs) ∧ Kp w w' := by
  obtain ⟨hi, _, rfl⟩ := h
  exact mark_any t w hi
theorem line_ok (t : Option T) (xs : List It) (n : Int) (w : World) (h : Ok w t xs) (hn : xs.length ≤ 100000) (hs : Sm xs) :
    Calls Try.prog 13 #[rv t, .int .i64 n] w fun e w' => e = .returned (.tuple #[.int .i64 (place n xs : Nat), mk (xs.take (place n xs))]) ∧ Kp w w' := by
  obtain ⟨hi, _, rfl⟩ := h
  exact line_any t n w hi hn hs

/-- The runs' items. -/
def rI : List It := [⟨1, 1, 4⟩, ⟨2, 1, 4⟩, ⟨3, 1, 4⟩]
theorem rI_sm : Sm rI := by
  intro x hx; simp [rI] at hx; rcases hx with rfl | rfl | rfl <;> decide

set_option maxRecDepth 100000 in
set_option maxHeartbeats 2000000 in
theorem runs_any (w : World) : Calls Try.prog 3 #[] w fun e w' => e = .returned (.bool true) ∧ Kp w w' := by
  go_enter Try.func3, Try.ntmps3
  go_wp2_with (go_at_call 9; refine (of_any _ _ _).mono ?_; rintro e w ⟨rfl, rfl⟩)
  refine (of_ok _ rI _ (Sl.block (last_of _ _) rfl 3 3 rfl (by omega) (by omega)) (by decide) rI_sm).mono ?_
  rintro e w1 ⟨r, rfl, o1, k1⟩
  have O1 : Hid (Ok w1 r rI) := o1
  have K1 : Hid (Kp w w1) := ((Kp.refl _).alloc _).trans k1
  clear o1 k1
  go_wp2_with fail
  have V1 : Hid (Vr (w1.alloc (.cells #[.pointer (pO r)] 24)) w1.heap.size r) := last_of _ _
  refine (split_ok r rI 1 _ (O1.out.kp ((Kp.refl _).alloc _)) (by decide) rI_sm).mono ?_
  rintro e w2 ⟨a, b, rfl, oa, ob, k2⟩
  have OA : Hid (Ok w2 a (rI.take 1) ∧ Ok w2 b (rI.drop 1)) := ⟨oa, ob⟩
  have O2 : Hid (Ok w2 r rI) := O1.out.kp (((Kp.refl _).alloc _).trans k2)
  have V2 : Hid (Vr w2 w1.heap.size r) := V1.out.kp k2
  have K2 : Hid (Kp w w2) := (K1.out.alloc _).trans k2
  clear oa ob k2 O1 V1 K1
  go_wp2_with fail
  have k3 : Kp w2 (((w2.alloc (.cells #[.pointer (pO a)] 24)).alloc (.cells #[.pointer (pO b)] 24)).alloc (.cells #[.pointer (pO b), .pointer (pO a)] 24)) := (((Kp.refl _).alloc _).alloc _).alloc _
  refine (join2_ok b a (rI.drop 1) (rI.take 1) _ _ (last_at _ _ _ (by simp)) (OA.out.2.kp k3) (OA.out.1.kp k3) (by decide) (rI_sm.sub (fun x hx => List.mem_of_mem_drop hx)) (rI_sm.sub (fun x hx => List.mem_of_mem_take hx))).mono ?_
  rintro e w3 ⟨j, rfl, oj, k4⟩
  have OJ : Hid (Ok w3 j (rI.drop 1 ++ rI.take 1)) := oj
  have O3 : Hid (Ok w3 r rI) := O2.out.kp (k3.trans k4)
  have V3 : Hid (Vr w3 w1.heap.size r) := V2.out.kp (k3.trans k4)
  have K3 : Hid (Kp w w3) := K2.out.trans (k3.trans k4)
  clear oj k3 k4 OA O2 V2 K2
  go_wp2_with fail
  refine (items_ok j _ _ OJ.out (by decide)).mono ?_
  rintro e w4 ⟨v, rfl, ow, k4⟩
  obtain ⟨B, c, hv, hr⟩ : ∃ B c, v = .slice (some ⟨B, 0, none⟩) 3 c ∧ Row w4 B 0 (rI.drop 1 ++ rI.take 1) := by
    rcases ow.2 with ⟨_, h⟩ | ⟨g, cap, cur, rfl, _⟩
    · cases h
    · rcases ow.sl with ⟨B, o, c, hv, hr, _⟩ | ⟨hv, _⟩
      · injection hv with h1 h2 h3
        injection h1 with h1
        injection h1 with h4 h5
        subst h4 h5
        exact ⟨_, _, rfl, hr⟩
      · cases hv
  subst hv
  have R4 : Hid (Row w4 B 0 (rI.drop 1 ++ rI.take 1)) := hr
  have O4 : Hid (Ok w4 r rI) := O3.out.kp k4
  have V4 : Hid (Vr w4 w1.heap.size r) := V3.out.kp k4
  have K4 : Hid (Kp w w4) := K3.out.trans k4
  clear ow hr k4 O3 V3 K3 OJ
  have c4 := V4.out.cell
  go_wp2_with fail
  refine (line_ok r rI 1 _ O4.out (by decide) rI_sm).mono ?_
  rintro e w5 ⟨rfl, k5⟩
  have R5 : Hid (Row w5 B 0 (rI.drop 1 ++ rI.take 1)) := R4.out.kp k5
  have O5 : Hid (Ok w5 r rI) := O4.out.kp k5
  have V5 : Hid (Vr w5 w1.heap.size r) := V4.out.kp k5
  have K5 : Hid (Kp w w5) := K4.out.trans k5
  clear k5 R4 O4 V4 K4 c4
  rw [show place 1 rI = 1 by decide, show mk (rI.take 1) = cx 1 4 from rfl]
  have c5 := V5.out.cell
  obtain ⟨r0, _⟩ := R5.out 0 ⟨2, 1, 4⟩ rfl
  obtain ⟨r2, _⟩ := R5.out 2 ⟨1, 1, 4⟩ rfl
  have EQ := run_ceql (P := Try.prog) 26 1 4 1 4 (by decide) (by decide) (by decide) (by decide)
  simp only [Nat.zero_mul, Nat.zero_add] at r0 r2
  go_wp2_with (go_at_call 9; refine (of_any _ _ _).mono ?_; rintro e w5 ⟨rfl, rfl⟩)
  refine (len_ok r rI _ O5.out).mono ?_
  rintro e w6 ⟨rfl, k6⟩
  rw [show rI.length = 3 from rfl]
  have K6 : Hid (Kp w w6) := K5.out.trans k6
  clear k6
  go_wp2_with fail
  go_ret
  exact ⟨rfl, K6.out⟩
end Go.Proofs.Ytjphjnpcpbenlaa
