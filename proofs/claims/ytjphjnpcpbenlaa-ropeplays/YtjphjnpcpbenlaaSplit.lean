/-
  What split does: the first items, and the others.
-/
import Derived.Test.YtjphjnpcpbenlaaJoin
namespace Go.Proofs.Ytjphjnpcpbenlaa
open Go.RowKit

/-- Two ropes: the first i of the items, and the others. -/
structure Cut (xs : List It) (i : Int) (w w' : World) (a b : Option T) : Prop where
  ia : InO w' a
  ib : InO w' b
  k : Kp w w'
  fa : itemsO a = xs.take i.toNat
  fb : itemsO b = xs.drop i.toNat
  ba : BalO a
  bb : BalO b

theorem split_none (i : Int) (w : World) :
    Calls Try.prog 25 #[.pointer none, .int .i64 i] w fun e w' => ∃ a b, e = .returned (.tuple #[.pointer (pO a), .pointer (pO b)]) ∧ Cut [] i w w' a b := by
  go_enter Try.func25, Try.ntmps25
  go_wp2
  go_ret2
  exact ⟨none, none, rfl, trivial, trivial, Kp.refl _, by simp [itemsO], by simp [itemsO], trivial, trivial⟩

theorem split_low (t : T) (i : Int) (w : World) (h : In w t) (hb : t.Bal) (hi : i ≤ 0) :
    Calls Try.prog 25 #[Value.pointer (some ⟨t.blk, 0, none⟩), .int .i64 i] w fun e w' => ∃ a b, e = .returned (.tuple #[.pointer (pO a), .pointer (pO b)]) ∧ Cut t.items i w w' a b := by
  have H : Hid (In w t ∧ t.Bal) := ⟨h, hb⟩
  have z : Hid (i.toNat = 0) := (by omega : i.toNat = 0)
  clear h hb
  go_enter Try.func25, Try.ntmps25
  go_wp2
  go_ret2
  exact ⟨none, some t, rfl, trivial, H.out.1, Kp.refl _, by rw [z.out]; rfl, by rw [z.out]; rfl, trivial, H.out.2⟩

theorem split_high (t : T) (i : Int) (w : World) (h : In w t) (hb : t.Bal) (hi : 0 < i) (hn : (t.items.length : Int) ≤ i) :
    Calls Try.prog 25 #[Value.pointer (some ⟨t.blk, 0, none⟩), .int .i64 i] w fun e w' => ∃ a b, e = .returned (.tuple #[.pointer (pO a), .pointer (pO b)]) ∧ Cut t.items i w w' a b := by
  have H : Hid (In w t ∧ t.Bal) := ⟨h, hb⟩
  have z : Hid (t.items.length ≤ i.toNat) := (by omega : t.items.length ≤ i.toNat)
  have c3 := h.cell3
  clear h hb
  have g : ¬ i ≤ 0 := by omega
  go_enter Try.func25, Try.ntmps25
  go_wp2
  go_ret2
  exact ⟨some t, none, rfl, H.out.1, trivial, Kp.refl _, (List.take_of_length_le z.out).symm, (List.drop_eq_nil_of_le z.out).symm, H.out.2, trivial⟩

set_option maxRecDepth 100000 in
set_option maxHeartbeats 1000000 in
theorem split_left (p q : T) (b : Nat) (i : Int) (w : World) (h : In w (.fork b p q)) (_bp : p.Bal) (bq : q.Bal) (hn : p.items.length + q.items.length ≤ 100000) (sp : Sm p.items) (sq : Sm q.items) (hi : 0 < i) (hl : i < p.items.length)
    (IH : Hid (∀ w, In w p → Calls Try.prog 25 #[Value.pointer (some ⟨p.blk, 0, none⟩), .int .i64 i] w fun e w' => ∃ a b, e = .returned (.tuple #[.pointer (pO a), .pointer (pO b)]) ∧ Cut p.items i w w' a b)) :
    Calls Try.prog 25 #[Value.pointer (some ⟨b, 0, none⟩), .int .i64 i] w fun e w' => ∃ a b, e = .returned (.tuple #[.pointer (pO a), .pointer (pO b)]) ∧ Cut (p.items ++ q.items) i w w' a b := by
  obtain ⟨c0, c1, c3, _⟩ := h.fork_cells
  have l3 := h.2.1.cell3
  have H : Hid (In w (.fork b p q)) := h
  have BQ : Hid q.Bal := bq
  have g : ¬ i ≤ 0 := by omega
  have g2 : ¬ ((p.items.length + q.items.length : Nat) : Int) ≤ i := by omega
  clear h bq
  go_enter Try.func25, Try.ntmps25
  go_wp2_with fail
  refine (IH.out _ H.out.2.1).mono ?_
  rintro e w1 ⟨x, y, rfl, j⟩
  have e1 : w1.cell? ⟨b, 1, none⟩ = some (Value.pointer (some ⟨q.blk, 0, none⟩)) := (j.k.cell (block_lt_of_cell c1)).trans c1
  have J : Hid (Cut p.items i w w1 x y) := j
  clear j c0 c1 c3 l3
  go_wp2_with fail
  refine (join_any y (some q) _ J.out.ib (H.out.2.2.kp J.out.k) J.out.bb BQ.out (by rw [J.out.fb]; simp only [itemsO, List.length_drop]; omega) (by rw [J.out.fb]; exact sp.sub (fun x hx => List.mem_of_mem_drop hx)) sq).mono ?_
  rintro e w2 ⟨z, rfl, j2⟩
  have J2 : Hid (JnO y (some q) w1 w2 z) := j2
  clear j2
  go_wp2_with fail
  go_ret2
  refine ⟨x, z, rfl, J.out.ia.kp J2.out.k, J2.out.i, J.out.k.trans J2.out.k, ?_, ?_, J.out.ba, J2.out.bal⟩
  · rw [J.out.fa, take_cat, if_pos (by omega)]
  · rw [J2.out.items, J.out.fb, drop_cat, if_pos (by omega)]; rfl

set_option maxRecDepth 100000 in
set_option maxHeartbeats 1000000 in
theorem split_right (p q : T) (b : Nat) (i : Int) (w : World) (h : In w (.fork b p q)) (bp : p.Bal) (_bq : q.Bal) (hn : p.items.length + q.items.length ≤ 100000) (sp : Sm p.items) (sq : Sm q.items) (hl : (p.items.length : Int) ≤ i) (hr : i < ((p.items.length + q.items.length : Nat) : Int))
    (IH : Hid (∀ w, In w q → Calls Try.prog 25 #[Value.pointer (some ⟨q.blk, 0, none⟩), .int .i64 (i - (p.items.length : Int))] w fun e w' => ∃ a b, e = .returned (.tuple #[.pointer (pO a), .pointer (pO b)]) ∧ Cut q.items (i - (p.items.length : Int)) w w' a b)) :
    Calls Try.prog 25 #[Value.pointer (some ⟨b, 0, none⟩), .int .i64 i] w fun e w' => ∃ a b, e = .returned (.tuple #[.pointer (pO a), .pointer (pO b)]) ∧ Cut (p.items ++ q.items) i w w' a b := by
  have pl := p.len_pos
  obtain ⟨n, eN⟩ : ∃ n, p.items.length = n := ⟨_, rfl⟩
  obtain ⟨m, eM⟩ : ∃ m, q.items.length = m := ⟨_, rfl⟩
  have c3 := h.fork_cells.2.2.1
  have H : Hid (In w (.fork b p q)) := h
  have BP : Hid p.Bal := bp
  have MK : Hid (∀ W, Kp w W → W.cell? ⟨b, 0, none⟩ = some (Value.pointer (some ⟨p.blk, 0, none⟩)) ∧ W.cell? ⟨b, 1, none⟩ = some (Value.pointer (some ⟨q.blk, 0, none⟩)) ∧ W.cell? ⟨p.blk, 3, none⟩ = some (.int .i64 (n : Nat)) ∧ Hid (Kp w W)) := fun W k => ⟨(h.kp k).fork_cells.1, (h.kp k).fork_cells.2.1, eN ▸ (h.kp k).2.1.cell3, k⟩
  have HF : Hid ((p.items ++ q.items).take i.toNat = p.items ++ q.items.take (i - (p.items.length : Int)).toNat ∧ (p.items ++ q.items).drop i.toNat = q.items.drop (i - (p.items.length : Int)).toNat) := by
    rw [take_cat, drop_cat, if_neg (by omega), if_neg (by omega), show (i - (p.items.length : Int)).toNat = i.toNat - p.items.length by omega]; exact ⟨rfl, rfl⟩
  have HN : Hid (p.items.length = n ∧ q.items.length = m) := ⟨eN, eM⟩
  rw [eN, eM] at c3 hr hn
  rw [eN] at hl pl
  rw [eN] at IH HF
  have g : ¬ i ≤ 0 := by omega
  have g2 : ¬ ((n + m : Nat) : Int) ≤ i := by omega
  have g3 : ¬ i < (n : Int) := by omega
  have gw : IntKind.i64.wrap (i - (n : Int)) = i - (n : Int) := by rw [IntKind.wrap_i64]; omega
  obtain ⟨c0, c1, l3, _⟩ := MK.out w (Kp.refl _)
  clear h bp eN eM
  go_enter Try.func25, Try.ntmps25
  go_wp2_with fail
  have Q0 : Kp w w.drew := (Kp.refl _).drew
  go_cut [4, 5] (fun u v wc => ∃ x y, u = .pointer (pO x) ∧ v = .pointer (pO y) ∧ Cut q.items (i - (n : Int)) w wc x y)
  case first =>
    go_region_held3 (fun W => W.cell? ⟨b, 0, none⟩ = some (Value.pointer (some ⟨p.blk, 0, none⟩)) ∧ W.cell? ⟨b, 1, none⟩ = some (Value.pointer (some ⟨q.blk, 0, none⟩)) ∧ W.cell? ⟨p.blk, 3, none⟩ = some (.int .i64 (n : Nat)) ∧ Hid (Kp w W))
      (first | with_reducible exact MK.out _ (by assumption) | with_reducible exact MK.out _ (Kp.alloc (by assumption) _))
      (first
        | (go_at_call 25; refine (IH.out _ (H.out.2.2.kp Q0)).mono ?_; rintro e w1 ⟨x, y, rfl, j⟩; have K1 : Kp w w1 := Kp.trans (by assumption) j.k; have J : Hid (Cut q.items (i - (n : Int)) w w1 x y) := (⟨j.ia, j.ib, K1, j.fa, j.fb, j.ba, j.bb⟩ : Cut q.items (i - (n : Int)) w w1 x y); clear j))
    go_wp2_with fail
    go_meet
    case rel => exact ⟨_, _, rfl, rfl, J.out⟩
  case rest =>
    obtain ⟨x, y, rfl, rfl, j⟩ := hcut
    rename World => w1
    have J : Hid (Cut q.items (i - (n : Int)) w w1 x y) := j
    clear c0 c1 l3 c3 Q0 j
    obtain ⟨c0, c1, l3, _⟩ := MK.out w1 J.out.k
    go_wp2_with fail
    refine (join_any (some p) x _ (H.out.2.1.kp J.out.k) J.out.ia BP.out J.out.ba (by rw [J.out.fa]; simp only [itemsO, List.length_take]; have := HN.out; omega) sp (by rw [J.out.fa]; exact sq.sub (fun x hx => List.mem_of_mem_take hx))).mono ?_
    rintro e w2 ⟨z, rfl, j2⟩
    have J2 : Hid (JnO (some p) x w1 w2 z) := j2
    clear j2
    go_wp2_with fail
    go_ret2
    refine ⟨z, y, rfl, J2.out.i, J.out.ib.kp J2.out.k, J.out.k.trans J2.out.k, ?_, ?_, J2.out.bal, J.out.bb⟩
    · rw [J2.out.items, J.out.fa, HF.out.1]; rfl
    · rw [J.out.fb, HF.out.2]

theorem split_T (t : T) : ∀ (i : Int) (w : World), In w t → t.Bal → t.items.length ≤ 100000 → Sm t.items →
    Calls Try.prog 25 #[Value.pointer (some ⟨t.blk, 0, none⟩), .int .i64 i] w fun e w' => ∃ a b, e = .returned (.tuple #[.pointer (pO a), .pointer (pO b)]) ∧ Cut t.items i w w' a b := by
  induction t with
  | leaf b x =>
    intro i w h hb hn _
    by_cases hi : i ≤ 0
    · exact split_low _ i w h hb hi
    · exact split_high _ i w h hb (by omega) (by simp only [T.items, List.length_singleton]; omega)
  | fork b p q hp hq =>
    intro i w h hb hn hs
    by_cases hi : i ≤ 0
    · exact split_low _ i w h hb hi
    · by_cases hg : ((T.fork b p q).items.length : Int) ≤ i
      · exact split_high _ i w h hb (by omega) hg
      · have hs' : Sm (p.items ++ q.items) := hs
        rw [len_fork] at hn hg
        by_cases hl : i < p.items.length
        · exact split_left p q b i w h hb.1 hb.2.1 hn hs'.left hs'.right (by omega) hl (fun w' i1 => hp i w' i1 hb.1 (by omega) hs'.left)
        · exact split_right p q b i w h hb.1 hb.2.1 hn hs'.left hs'.right (by omega) (by omega) (fun w' i1 => hq _ w' i1 hb.2.1 (by omega) hs'.right)

theorem split_any (t : Option T) (i : Int) (w : World) (h : InO w t) (hb : BalO t) (hn : (itemsO t).length ≤ 100000) (hs : Sm (itemsO t)) :
    Calls Try.prog 25 #[.pointer (pO t), .int .i64 i] w fun e w' => ∃ a b, e = .returned (.tuple #[.pointer (pO a), .pointer (pO b)]) ∧ Cut (itemsO t) i w w' a b := by
  cases t with
  | none => exact split_none i w
  | some t => exact split_T t i w h hb hn hs
end Go.Proofs.Ytjphjnpcpbenlaa
