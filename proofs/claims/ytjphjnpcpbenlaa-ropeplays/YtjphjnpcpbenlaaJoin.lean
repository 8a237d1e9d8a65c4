/-
  What level and join do, as trees: all items in their order, balanced, and how high.
-/
import Derived.Test.YtjphjnpcpbenlaaLevelA
import Derived.Test.YtjphjnpcpbenlaaLevelB
import Derived.Test.YtjphjnpcpbenlaaLevelC
namespace Go.Proofs.Ytjphjnpcpbenlaa
open Go.RowKit

/-- A tree t of p's items and q's behind them, in a world that keeps what was there. -/
structure Jn (p q : T) (w w' : World) (t : T) : Prop where
  i : In w' t
  k : Kp w w'
  items : t.items = p.items ++ q.items
  bal : t.Bal
  lo : max p.ht q.ht ≤ t.ht
  hi : t.ht ≤ max p.ht q.ht + 1

theorem level_any (p q : T) (w : World) (hp : In w p) (hq : In w q) (bp : p.Bal) (bq : q.Bal) (hn : p.items.length + q.items.length ≤ 100000) (sp : Sm p.items) (sq : Sm q.items)
    (h1 : p.ht ≤ q.ht + 2) (h2 : q.ht ≤ p.ht + 2) :
    Calls Try.prog 35 #[Value.pointer (some ⟨p.blk, 0, none⟩), Value.pointer (some ⟨q.blk, 0, none⟩)] w fun e w' => ∃ t, e = .returned (.pointer (some ⟨t.blk, 0, none⟩)) ∧ Jn p q w w' t ∧ (p.ht ≤ q.ht + 1 → q.ht ≤ p.ht + 1 → t.ht = 1 + max p.ht q.ht) := by
  have lp := p.ht_len; have lq := q.ht_len
  have pp := p.ht_pos; have pq := q.ht_pos
  by_cases hA : p.ht + 1 < q.ht
  · cases q with
    | leaf b x => simp only [T.ht] at *; omega
    | fork bq' ql qr =>
      obtain ⟨bl, br, b1, b2⟩ := bq
      have nl := ql.ht_len; have nr := qr.ht_len
      simp only [T.ht] at hA h1 h2 lq pq
      simp only [T.items, List.length_append] at hn sq
      by_cases hB : qr.ht < ql.ht
      · cases ql with
        | leaf b x => simp only [T.ht] at *; omega
        | fork bm ml mr =>
          obtain ⟨cl, cr, d1, d2⟩ := bl
          have ml' := ml.ht_len; have mr' := mr.ht_len
          simp only [T.ht] at hA hB b1 b2 h1 h2
          simp only [T.items, List.length_append] at hn sq
          refine (level_A1 p ml mr qr bq' bm w hp hq (by omega) sp sq.left.left sq.left.right sq.right (by omega) (by omega) (by omega)).mono ?_
          rintro e w' ⟨g, g1, g2, rfl, i, k⟩
          refine ⟨_, rfl, ⟨i, k, ?_, ?_, ?_, ?_⟩, ?_⟩
          · simp [T.items]
          · simp only [T.Bal, T.ht]; refine ⟨⟨bp, cl, ?_, ?_⟩, ⟨cr, br, ?_, ?_⟩, ?_, ?_⟩ <;> omega
          · simp only [T.ht]; omega
          · simp only [T.ht]; omega
          · simp only [T.ht]; omega
      · refine (level_A2 p ql qr bq' w hp hq (by omega) sp sq.left sq.right (by omega) (by omega) (by omega)).mono ?_
        rintro e w' ⟨g, g1, rfl, i, k⟩
        refine ⟨_, rfl, ⟨i, k, ?_, ?_, ?_, ?_⟩, ?_⟩
        · simp [T.items]
        · simp only [T.Bal, T.ht]; refine ⟨⟨bp, bl, ?_, ?_⟩, br, ?_, ?_⟩ <;> omega
        · simp only [T.ht]; omega
        · simp only [T.ht]; omega
        · simp only [T.ht]; omega
  · by_cases hC : q.ht + 1 < p.ht
    · cases p with
      | leaf b x => simp only [T.ht] at *; omega
      | fork bp' pl pr =>
        obtain ⟨bl, br, b1, b2⟩ := bp
        have nl := pl.ht_len; have nr := pr.ht_len
        simp only [T.ht] at hA hC h1 h2 lp pp
        simp only [T.items, List.length_append] at hn sp
        by_cases hB : pl.ht < pr.ht
        · cases pr with
          | leaf b x => simp only [T.ht] at *; omega
          | fork bm ml mr =>
            obtain ⟨cl, cr, d1, d2⟩ := br
            have ml' := ml.ht_len; have mr' := mr.ht_len
            simp only [T.ht] at hA hB hC b1 b2 h1 h2
            simp only [T.items, List.length_append] at hn sp
            refine (level_B1 pl ml mr q bp' bm w hp hq (by omega) sp.left sp.right.left sp.right.right sq (by omega) (by omega) (by omega)).mono ?_
            rintro e w' ⟨g, g1, g2, rfl, i, k⟩
            refine ⟨_, rfl, ⟨i, k, ?_, ?_, ?_, ?_⟩, ?_⟩
            · simp [T.items]
            · simp only [T.Bal, T.ht]; refine ⟨⟨bl, cl, ?_, ?_⟩, ⟨cr, bq, ?_, ?_⟩, ?_, ?_⟩ <;> omega
            · simp only [T.ht]; omega
            · simp only [T.ht]; omega
            · simp only [T.ht]; omega
        · refine (level_B2 pl pr q bp' w hp hq (by omega) sp.left sp.right sq (by omega) (by omega) (by omega)).mono ?_
          rintro e w' ⟨g, g1, rfl, i, k⟩
          refine ⟨_, rfl, ⟨i, k, ?_, ?_, ?_, ?_⟩, ?_⟩
          · simp [T.items]
          · simp only [T.Bal, T.ht]; refine ⟨bl, ⟨br, bq, ?_, ?_⟩, ?_, ?_⟩ <;> omega
          · simp only [T.ht]; omega
          · simp only [T.ht]; omega
          · simp only [T.ht]; omega
    · refine (level_C p q w hp hq hn sp sq (by omega) (by omega) (by omega)).mono ?_
      rintro e w' ⟨g, rfl, i, k⟩
      refine ⟨_, rfl, ⟨i, k, ?_, ?_, ?_, ?_⟩, ?_⟩
      · simp [T.items]
      · simp only [T.Bal]; refine ⟨bp, bq, ?_, ?_⟩ <;> omega
      · simp only [T.ht]; omega
      · simp only [T.ht]; omega
      · exact fun _ _ => rfl

set_option maxRecDepth 100000 in
set_option maxHeartbeats 2000000 in
theorem join_left (pl pr q : T) (bp : Nat) (w : World) (hp : In w (.fork bp pl pr)) (hq : In w q) (bl : pl.Bal) (bb1 : pl.ht ≤ pr.ht + 1) (bb2 : pr.ht ≤ pl.ht + 1) (hn : pl.items.length + pr.items.length + q.items.length ≤ 100000) (sl : Sm pl.items) (sr : Sm pr.items) (sq : Sm q.items)
    (c1h : q.ht + 1 < 1 + max pl.ht pr.ht)
    (IH : Hid (∀ w, In w pr → In w q → Calls Try.prog 26 #[Value.pointer (some ⟨pr.blk, 0, none⟩), Value.pointer (some ⟨q.blk, 0, none⟩)] w fun e w' => ∃ t, e = .returned (.pointer (some ⟨t.blk, 0, none⟩)) ∧ Jn pr q w w' t)) :
    Calls Try.prog 26 #[Value.pointer (some ⟨bp, 0, none⟩), Value.pointer (some ⟨q.blk, 0, none⟩)] w fun e w' => ∃ t t1, ∃ w1 w2, e = .returned (.pointer (some ⟨t.blk, 0, none⟩)) ∧ Kp w w' ∧ Jn pr q w1 w2 t1 ∧ Jn pl t1 w2 w' t ∧ (pl.ht ≤ t1.ht + 1 → t1.ht ≤ pl.ht + 1 → t.ht = 1 + max pl.ht t1.ht) := by
  have nl := pl.ht_len; have nr := pr.ht_len; have nq := q.ht_len
  have HQ : Hid (In w q) := hq
  have HL : Hid (In w pl) := hp.2.1
  have HR : Hid (In w pr) := hp.2.2
  have BL : Hid (pl.Bal) := bl
  have HH : Hid (pl.ht ≤ pr.ht + 1 ∧ pr.ht ≤ pl.ht + 1 ∧ q.ht + 1 < 1 + max pl.ht pr.ht) := ⟨bb1, bb2, c1h⟩
  obtain ⟨hP, eP⟩ : ∃ h, 1 + max pl.ht pr.ht = h := ⟨_, rfl⟩
  obtain ⟨hQ, eQ⟩ : ∃ h, q.ht = h := ⟨_, rfl⟩
  have bQ : hQ ≤ 200000 := by omega
  have bP : hP ≤ 200000 := by omega
  have g1 : (hQ : Int) + 1 < hP := by omega
  have MK : Hid (∀ W, Kp w W → W.cell? ⟨q.blk, 4, none⟩ = some (.int .i64 (hQ : Nat)) ∧ W.cell? ⟨bp, 0, none⟩ = some (Value.pointer (some ⟨pl.blk, 0, none⟩)) ∧ W.cell? ⟨bp, 1, none⟩ = some (Value.pointer (some ⟨pr.blk, 0, none⟩)) ∧ W.cell? ⟨bp, 4, none⟩ = some (.int .i64 (hP : Nat)) ∧ Hid (Kp w W)) := fun W k => ⟨eQ ▸ (hq.kp k).cell4, (hp.kp k).fork_cells.1, (hp.kp k).fork_cells.2.1, eP ▸ (hp.kp k).fork_cells.2.2.2, k⟩
  obtain ⟨c1, c2, c3, c4, _⟩ := MK.out w (Kp.refl _)
  have kk : Kp w w := Kp.refl _
  clear hp hq bl bb1 bb2 c1h eP eQ
  go_enter Try.func26, Try.ntmps26
  go_wp2_with fail
  go_cut [13] (fun v wc => v = .bool true ∧ Kp w wc)
  case first =>
    go_quiet (fail)
    go_wp2_with fail
    go_meet
    case rel => exact ⟨by first | rfl | (simp; omega), (Kp.drewN _ (by assumption))⟩
  case rest =>
    obtain ⟨rfl, k⟩ := hcut
    rename World => W1
    clear c1 c2 c3 c4 kk
    obtain ⟨c1, c2, c3, c4, _⟩ := MK.out _ k
    have kk : Kp w W1 := k
    clear k
    go_wp2_with fail
    have MS : Hid (∀ W, Kp w W → W.cell? ⟨bp, 0, none⟩ = some (Value.pointer (some ⟨pl.blk, 0, none⟩)) ∧ W.cell? ⟨bp, 1, none⟩ = some (Value.pointer (some ⟨pr.blk, 0, none⟩)) ∧ Hid (Kp w W)) := fun W k => ⟨(MK.out W k).2.1, (MK.out W k).2.2.1, k⟩
    have Q0 : Kp w W1.drew := kk.drew
    go_region_held3 (fun W => W.cell? ⟨bp, 0, none⟩ = some (Value.pointer (some ⟨pl.blk, 0, none⟩)) ∧ W.cell? ⟨bp, 1, none⟩ = some (Value.pointer (some ⟨pr.blk, 0, none⟩)) ∧ Hid (Kp w W))
      (first | with_reducible exact MS.out _ (by assumption) | with_reducible exact MS.out _ (Kp.alloc (by assumption) _))
      (first
        | (go_at_call 26; refine (IH.out _ (In.kp HR.out (by assumption)) (In.kp HQ.out (by assumption))).mono ?_; rintro e w1 ⟨t1, rfl, j1⟩; have K1 : Kp w w1 := Kp.trans (by assumption) j1.k)
        | (go_at_call 35; refine (level_any pl t1 _ (In.kp HL.out (by assumption)) j1.i BL.out j1.bal (by have := congrArg List.length j1.items; rw [List.length_append] at this; omega) sl (by rw [j1.items]; exact sr.append sq) (by have := HH.out; have := j1.lo; have := j1.hi; omega) (by have := HH.out; have := j1.lo; have := j1.hi; omega)).mono ?_; rintro e w2 ⟨t2, rfl, j2, hx⟩; have K2 : Kp w w2 := K1.trans j2.k; have HX : Hid (pl.ht ≤ t1.ht + 1 → t1.ht ≤ pl.ht + 1 → t2.ht = 1 + max pl.ht t1.ht) := hx; clear hx))
    all_goals
      go_wp2_with fail
      go_ret
      exact ⟨_, _, _, _, rfl, K2, j1, j2, HX.out⟩

set_option maxRecDepth 100000 in
set_option maxHeartbeats 2000000 in
theorem join_right (p ql qr : T) (bq : Nat) (w : World) (hp : In w p) (hq : In w (.fork bq ql qr)) (br : qr.Bal) (bb1 : ql.ht ≤ qr.ht + 1) (bb2 : qr.ht ≤ ql.ht + 1) (hn : p.items.length + (ql.items.length + qr.items.length) ≤ 100000) (sp : Sm p.items) (sl : Sm ql.items) (sr : Sm qr.items)
    (c1h : p.ht + 1 < 1 + max ql.ht qr.ht)
    (IH : Hid (∀ w, In w p → In w ql → Calls Try.prog 26 #[Value.pointer (some ⟨p.blk, 0, none⟩), Value.pointer (some ⟨ql.blk, 0, none⟩)] w fun e w' => ∃ t, e = .returned (.pointer (some ⟨t.blk, 0, none⟩)) ∧ Jn p ql w w' t)) :
    Calls Try.prog 26 #[Value.pointer (some ⟨p.blk, 0, none⟩), Value.pointer (some ⟨bq, 0, none⟩)] w fun e w' => ∃ t t1, ∃ w1 w2, e = .returned (.pointer (some ⟨t.blk, 0, none⟩)) ∧ Kp w w' ∧ Jn p ql w1 w2 t1 ∧ Jn t1 qr w2 w' t ∧ (t1.ht ≤ qr.ht + 1 → qr.ht ≤ t1.ht + 1 → t.ht = 1 + max t1.ht qr.ht) := by
  have nl := ql.ht_len; have nr := qr.ht_len; have np := p.ht_len
  have HP : Hid (In w p) := hp
  have HL : Hid (In w ql) := hq.2.1
  have HR : Hid (In w qr) := hq.2.2
  have BR : Hid (qr.Bal) := br
  have HH : Hid (ql.ht ≤ qr.ht + 1 ∧ qr.ht ≤ ql.ht + 1 ∧ p.ht + 1 < 1 + max ql.ht qr.ht) := ⟨bb1, bb2, c1h⟩
  obtain ⟨hQ, eQ⟩ : ∃ h, 1 + max ql.ht qr.ht = h := ⟨_, rfl⟩
  obtain ⟨hP, eP⟩ : ∃ h, p.ht = h := ⟨_, rfl⟩
  have bQ : hQ ≤ 200000 := by omega
  have bP : hP ≤ 200000 := by omega
  have g0 : ¬ (hQ : Int) + 1 < hP := by omega
  have g1 : (hP : Int) + 1 < hQ := by omega
  have MK : Hid (∀ W, Kp w W → W.cell? ⟨p.blk, 4, none⟩ = some (.int .i64 (hP : Nat)) ∧ W.cell? ⟨bq, 0, none⟩ = some (Value.pointer (some ⟨ql.blk, 0, none⟩)) ∧ W.cell? ⟨bq, 1, none⟩ = some (Value.pointer (some ⟨qr.blk, 0, none⟩)) ∧ W.cell? ⟨bq, 4, none⟩ = some (.int .i64 (hQ : Nat)) ∧ Hid (Kp w W)) := fun W k => ⟨eP ▸ (hp.kp k).cell4, (hq.kp k).fork_cells.1, (hq.kp k).fork_cells.2.1, eQ ▸ (hq.kp k).fork_cells.2.2.2, k⟩
  obtain ⟨c1, c2, c3, c4, _⟩ := MK.out w (Kp.refl _)
  have kk : Kp w w := Kp.refl _
  clear hp hq br bb1 bb2 c1h eP eQ
  go_enter Try.func26, Try.ntmps26
  go_wp2_with fail
  go_cut [13] (fun v wc => v = .bool false ∧ Kp w wc)
  case first =>
    go_quiet (fail)
    go_wp2_with fail
    go_meet
    case rel => exact ⟨by first | rfl | (simp; omega), (Kp.drewN _ (by assumption))⟩
  case rest =>
    obtain ⟨rfl, k⟩ := hcut
    rename World => W1
    clear c1 c2 c3 c4 kk
    obtain ⟨c1, c2, c3, c4, _⟩ := MK.out _ k
    have kk : Kp w W1 := k
    clear k
    go_wp2_with fail
    go_cut [35] (fun v wc => v = .bool true ∧ Kp w wc)
    case first =>
      go_quiet (fail)
      go_wp2_with fail
      go_meet
      case rel => exact ⟨by first | rfl | (simp; omega), (Kp.drewN _ (by assumption))⟩
    case rest =>
      obtain ⟨rfl, k⟩ := hcut
      rename World => W2
      clear c1 c2 c3 c4 kk
      obtain ⟨c1, c2, c3, c4, _⟩ := MK.out _ k
      have kk : Kp w W2 := k
      clear k
      go_wp2_with fail
      have MS : Hid (∀ W, Kp w W → W.cell? ⟨bq, 0, none⟩ = some (Value.pointer (some ⟨ql.blk, 0, none⟩)) ∧ W.cell? ⟨bq, 1, none⟩ = some (Value.pointer (some ⟨qr.blk, 0, none⟩)) ∧ Hid (Kp w W)) := fun W k => ⟨(MK.out W k).2.1, (MK.out W k).2.2.1, k⟩
      have Q0 : Kp w W2.drew := kk.drew
      go_region_held3 (fun W => W.cell? ⟨bq, 0, none⟩ = some (Value.pointer (some ⟨ql.blk, 0, none⟩)) ∧ W.cell? ⟨bq, 1, none⟩ = some (Value.pointer (some ⟨qr.blk, 0, none⟩)) ∧ Hid (Kp w W))
        (first | with_reducible exact MS.out _ (by assumption) | with_reducible exact MS.out _ (Kp.alloc (by assumption) _))
        (first
          | (go_at_call 26; refine (IH.out _ (In.kp HP.out (by assumption)) (In.kp HL.out (by assumption))).mono ?_; rintro e w1 ⟨t1, rfl, j1⟩; have K1 : Kp w w1 := Kp.trans (by assumption) j1.k)
          | (go_at_call 35; refine (level_any t1 qr _ j1.i (In.kp HR.out (by assumption)) j1.bal BR.out (by have := congrArg List.length j1.items; rw [List.length_append] at this; omega) (by rw [j1.items]; exact sp.append sl) sr (by have := HH.out; have := j1.lo; have := j1.hi; omega) (by have := HH.out; have := j1.lo; have := j1.hi; omega)).mono ?_; rintro e w2 ⟨t2, rfl, j2, hx⟩; have K2 : Kp w w2 := K1.trans j2.k; have HX : Hid (t1.ht ≤ qr.ht + 1 → qr.ht ≤ t1.ht + 1 → t2.ht = 1 + max t1.ht qr.ht) := hx; clear hx))
      all_goals
        go_wp2_with fail
        go_ret
        exact ⟨_, _, _, _, rfl, K2, j1, j2, HX.out⟩

set_option maxRecDepth 100000 in
set_option maxHeartbeats 2000000 in
theorem join_near (p q : T) (w : World) (hp : In w p) (hq : In w q) (hn : p.items.length + q.items.length ≤ 100000) (sp : Sm p.items) (sq : Sm q.items)
    (c1h : p.ht ≤ q.ht + 1) (c2h : q.ht ≤ p.ht + 1) :
    Calls Try.prog 26 #[Value.pointer (some ⟨p.blk, 0, none⟩), Value.pointer (some ⟨q.blk, 0, none⟩)] w fun e w' => ∃ g, e = .returned (.pointer (some ⟨g, 0, none⟩)) ∧ In w' (.fork g p q) ∧ Kp w w' := by
  have np := p.ht_len; have nq := q.ht_len
  have HP : Hid (In w p) := hp
  have HQ : Hid (In w q) := hq
  obtain ⟨hP, eP⟩ : ∃ h, p.ht = h := ⟨_, rfl⟩
  obtain ⟨hQ, eQ⟩ : ∃ h, q.ht = h := ⟨_, rfl⟩
  have bQ : hQ ≤ 200000 := by omega
  have bP : hP ≤ 200000 := by omega
  have g0 : ¬ (hP : Int) + 1 < hQ := by omega
  have g1 : ¬ (hQ : Int) + 1 < hP := by omega
  have MK : Hid (∀ W, Kp w W → W.cell? ⟨q.blk, 4, none⟩ = some (.int .i64 (hQ : Nat)) ∧ W.cell? ⟨p.blk, 4, none⟩ = some (.int .i64 (hP : Nat)) ∧ Hid (Kp w W)) := fun W k => ⟨eQ ▸ (hq.kp k).cell4, eP ▸ (hp.kp k).cell4, k⟩
  obtain ⟨c1, c2, _⟩ := MK.out w (Kp.refl _)
  have kk : Kp w w := Kp.refl _
  clear hp hq c1h c2h eP eQ
  go_enter Try.func26, Try.ntmps26
  go_wp2_with fail
  go_cut [13] (fun v wc => v = .bool false ∧ Kp w wc)
  case first =>
    go_quiet (fail)
    go_wp2_with fail
    go_meet
    case rel => exact ⟨by first | rfl | (simp; omega), (Kp.drewN _ (by assumption))⟩
  case rest =>
    obtain ⟨rfl, k⟩ := hcut
    rename World => W1
    clear c1 c2 kk
    obtain ⟨c1, c2, _⟩ := MK.out _ k
    have kk : Kp w W1 := k
    clear k
    go_wp2_with fail
    go_cut [35] (fun v wc => v = .bool false ∧ Kp w wc)
    case first =>
      go_quiet (fail)
      go_wp2_with fail
      go_meet
      case rel => exact ⟨by first | rfl | (simp; omega), (Kp.drewN _ (by assumption))⟩
    case rest =>
      obtain ⟨rfl, k⟩ := hcut
      rename World => W2
      clear c1 c2 kk
      obtain ⟨c1, c2, _⟩ := MK.out _ k
      have kk : Kp w W2 := k
      clear k
      go_wp2_with fail
      refine (fork_any p q _ (HP.out.kp kk) (HQ.out.kp kk) hn sp sq).mono ?_
      rintro e w1 ⟨g, rfl, i, k1⟩
      have K1 := kk.trans k1
      go_wp2_with fail
      go_ret
      exact ⟨_, rfl, i, K1⟩

theorem join_T (n : Nat) : ∀ (p q : T) (w : World), p.ht + q.ht ≤ n → In w p → In w q → p.Bal → q.Bal → p.items.length + q.items.length ≤ 100000 → Sm p.items → Sm q.items →
    Calls Try.prog 26 #[Value.pointer (some ⟨p.blk, 0, none⟩), Value.pointer (some ⟨q.blk, 0, none⟩)] w fun e w' => ∃ t, e = .returned (.pointer (some ⟨t.blk, 0, none⟩)) ∧ Jn p q w w' t := by
  induction n with
  | zero => intro p q w h; have := p.ht_pos; omega
  | succ n ih =>
    intro p q w h hp hq bp bq hn sp sq
    by_cases hA : q.ht + 1 < p.ht
    · cases p with
      | leaf b x => have := q.ht_pos; simp only [T.ht] at hA; omega
      | fork b pl pr =>
        obtain ⟨bl, br, b1, b2⟩ := bp
        simp only [T.ht] at hA h
        simp only [T.items, List.length_append] at hn sp
        refine (join_left pl pr q b w hp hq bl b1 b2 hn sp.left sp.right sq hA (fun w' i1 i2 => ih pr q w' (by omega) i1 i2 br bq (by omega) sp.right sq)).mono ?_
        rintro e w' ⟨t, t1, w1, w2, rfl, k, j1, j2, hx⟩
        have a1 := j1.lo; have a2 := j1.hi; have a3 := j2.lo; have a4 := j2.hi
        refine ⟨t, rfl, ⟨j2.i, k, ?_, j2.bal, ?_, ?_⟩⟩
        · rw [j2.items, j1.items, T.items, List.append_assoc]
        · simp only [T.ht]; by_cases hc : t1.ht ≤ pl.ht + 1
          · rw [hx (by omega) hc]; omega
          · omega
        · simp only [T.ht]; omega
    · by_cases hB : p.ht + 1 < q.ht
      · cases q with
        | leaf b x => have := p.ht_pos; simp only [T.ht] at hB; omega
        | fork b ql qr =>
          obtain ⟨bl, br, b1, b2⟩ := bq
          simp only [T.ht] at hB h
          simp only [T.items, List.length_append] at hn sq
          refine (join_right p ql qr b w hp hq br b1 b2 hn sp sq.left sq.right hB (fun w' i1 i2 => ih p ql w' (by omega) i1 i2 bp bl (by omega) sp sq.left)).mono ?_
          rintro e w' ⟨t, t1, w1, w2, rfl, k, j1, j2, hx⟩
          have a1 := j1.lo; have a2 := j1.hi; have a3 := j2.lo; have a4 := j2.hi
          refine ⟨t, rfl, ⟨j2.i, k, ?_, j2.bal, ?_, ?_⟩⟩
          · rw [j2.items, j1.items, T.items, List.append_assoc]
          · simp only [T.ht]; by_cases hc : t1.ht ≤ qr.ht + 1
            · rw [hx hc (by omega)]; omega
            · omega
          · simp only [T.ht]; omega
      · refine (join_near p q w hp hq hn sp sq (by omega) (by omega)).mono ?_
        rintro e w' ⟨g, rfl, i, k⟩
        refine ⟨_, rfl, ⟨i, k, rfl, ⟨bp, bq, by omega, by omega⟩, ?_, ?_⟩⟩
        · simp only [T.ht]; omega
        · simp only [T.ht]; omega

/-- A rope of a's items and b's behind them. -/
structure JnO (a b : Option T) (w w' : World) (t : Option T) : Prop where
  i : InO w' t
  k : Kp w w'
  items : itemsO t = itemsO a ++ itemsO b
  bal : BalO t

theorem join_any (a b : Option T) (w : World) (ha : InO w a) (hb : InO w b) (ba : BalO a) (bb : BalO b) (hn : (itemsO a).length + (itemsO b).length ≤ 100000) (sa : Sm (itemsO a)) (sb : Sm (itemsO b)) :
    Calls Try.prog 26 #[.pointer (pO a), .pointer (pO b)] w fun e w' => ∃ t, e = .returned (.pointer (pO t)) ∧ JnO a b w w' t := by
  cases a with
  | none =>
    cases b with
    | none =>
      go_enter Try.func26, Try.ntmps26
      simp only [pO]
      go_wp2
      go_ret
      exact ⟨none, rfl, trivial, Kp.refl _, rfl, trivial⟩
    | some q =>
      have H : Hid (InO w (some q) ∧ BalO (some q)) := ⟨hb, bb⟩
      clear ha hb ba bb hn sa sb
      go_enter Try.func26, Try.ntmps26
      simp only [pO]
      go_wp2
      go_ret
      exact ⟨some q, rfl, H.out.1, Kp.refl _, rfl, H.out.2⟩
  | some p =>
    cases b with
    | none =>
      have H : Hid (InO w (some p) ∧ BalO (some p)) := ⟨ha, ba⟩
      clear ha hb ba bb hn sa sb
      go_enter Try.func26, Try.ntmps26
      simp only [pO]
      go_wp2
      go_ret
      exact ⟨some p, rfl, H.out.1, Kp.refl _, by simp [itemsO], H.out.2⟩
    | some q =>
      refine (join_T _ p q w (Nat.le_refl _) ha hb ba bb hn sa sb).mono ?_
      rintro e w' ⟨t, rfl, j⟩
      exact ⟨some t, rfl, j.i, j.k, j.items, j.bal⟩
end Go.Proofs.Ytjphjnpcpbenlaa
