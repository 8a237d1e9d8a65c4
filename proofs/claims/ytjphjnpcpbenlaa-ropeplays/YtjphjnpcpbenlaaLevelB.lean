/-
  What level does: two trees whose heights differ by two at most become one that is balanced.
-/
import Derived.Test.YtjphjnpcpbenlaaFork
namespace Go.Proofs.Ytjphjnpcpbenlaa
open Go.RowKit
attribute [local go_sem] run_store_complex

set_option maxRecDepth 100000 in
set_option maxHeartbeats 2000000 in
theorem level_A2 (p ql qr : T) (bq : Nat) (w : World) (hp : In w p) (hq : In w (.fork bq ql qr))
    (hn : p.items.length + (ql.items.length + qr.items.length) ≤ 100000) (sp : Sm p.items) (sl : Sm ql.items) (sr : Sm qr.items)
    (c1h : p.ht + 1 < 1 + max ql.ht qr.ht) (c2h : ql.ht ≤ qr.ht) (hh : p.ht + ql.ht + qr.ht ≤ 100000) :
    Calls Try.prog 35 #[Value.pointer (some ⟨p.blk, 0, none⟩), Value.pointer (some ⟨bq, 0, none⟩)] w fun e w' => ∃ g g1, e = .returned (.pointer (some ⟨g, 0, none⟩)) ∧ In w' (.fork g (.fork g1 p ql) qr) ∧ Kp w w' := by
  have HP : Hid (In w p) := hp
  have HL : Hid (In w ql) := hq.2.1
  have HR : Hid (In w qr) := hq.2.2
  obtain ⟨hQ, eQ⟩ : ∃ h, 1 + max ql.ht qr.ht = h := ⟨_, rfl⟩
  obtain ⟨hP, eP⟩ : ∃ h, p.ht = h := ⟨_, rfl⟩
  obtain ⟨hL, eL⟩ : ∃ h, ql.ht = h := ⟨_, rfl⟩
  obtain ⟨hR, eR⟩ : ∃ h, qr.ht = h := ⟨_, rfl⟩
  have bQ : hQ ≤ 200000 := by omega
  have bP : hP ≤ 100000 := by omega
  have bL : hL ≤ 100000 := by omega
  have bR : hR ≤ 100000 := by omega
  have g1 : (hP : Int) + 1 < hQ := by omega
  have g2 : ¬ (hR : Int) < hL := by omega
  have d1 : decide ((hP : Int) + 1 < hQ) = true := by simpa using g1
  have MK : Hid (∀ W, Kp w W → W.cell? ⟨p.blk, 4, none⟩ = some (.int .i64 (hP : Nat)) ∧ W.cell? ⟨bq, 0, none⟩ = some (Value.pointer (some ⟨ql.blk, 0, none⟩)) ∧ W.cell? ⟨bq, 1, none⟩ = some (Value.pointer (some ⟨qr.blk, 0, none⟩)) ∧ W.cell? ⟨bq, 4, none⟩ = some (.int .i64 (hQ : Nat)) ∧ W.cell? ⟨ql.blk, 4, none⟩ = some (.int .i64 (hL : Nat)) ∧ W.cell? ⟨qr.blk, 4, none⟩ = some (.int .i64 (hR : Nat)) ∧ Hid (Kp w W)) := fun W k => ⟨eP ▸ (hp.kp k).cell4, (hq.kp k).fork_cells.1, (hq.kp k).fork_cells.2.1, eQ ▸ (hq.kp k).fork_cells.2.2.2, eL ▸ (hq.kp k).2.1.cell4, eR ▸ (hq.kp k).2.2.cell4, k⟩
  obtain ⟨c1, c2, c3, c4, c5, c6, _⟩ := MK.out w (Kp.refl _)
  have kk : Kp w w := Kp.refl _
  clear hp hq
  clear c1h c2h hh
  go_enter Try.func35, Try.ntmps35
  go_wp2_with fail
  go_cut [7] (fun v wc => v = .bool false ∧ Kp w wc)
  case first =>
    go_quiet (fail)
    go_wp2_with fail
    go_meet
    case rel => exact ⟨by first | rfl | (simp; omega), Kp.drewN _ (by assumption)⟩
  case rest =>
    obtain ⟨rfl, k⟩ := hcut
    rename World => W1
    clear c1 c2 c3 c4 c5 c6 kk
    obtain ⟨c1, c2, c3, c4, c5, c6, _⟩ := MK.out _ k
    have kk : Kp w W1 := k
    clear k
    go_wp2_with fail
    go_cut [55] (fun v wc => v = .bool true ∧ Kp w wc)
    case first =>
      go_quiet (fail)
      go_wp2_with fail
      go_meet
      case rel => exact ⟨by first | rfl | (simp; omega), Kp.drewN _ (by assumption)⟩
    case rest =>
      obtain ⟨rfl, k⟩ := hcut
      rename World => W2
      clear c1 c2 c3 c4 c5 c6 kk
      obtain ⟨c1, c2, c3, c4, c5, c6, _⟩ := MK.out _ k
      have kk : Kp w W2 := k
      clear k
      go_wp2_with fail
      have MS : Hid (∀ W, Kp w W → W.cell? ⟨bq, 0, none⟩ = some (Value.pointer (some ⟨ql.blk, 0, none⟩)) ∧ W.cell? ⟨bq, 1, none⟩ = some (Value.pointer (some ⟨qr.blk, 0, none⟩)) ∧ Hid (Kp w W)) := fun W k => ⟨(MK.out W k).2.1, (MK.out W k).2.2.1, k⟩
      have Q0 : Kp w W2.drew := kk.drew
      go_region_held3 (fun W => W.cell? ⟨bq, 0, none⟩ = some (Value.pointer (some ⟨ql.blk, 0, none⟩)) ∧ W.cell? ⟨bq, 1, none⟩ = some (Value.pointer (some ⟨qr.blk, 0, none⟩)) ∧ Hid (Kp w W))
        (first | with_reducible exact MS.out _ (by assumption) | with_reducible exact MS.out _ (Kp.alloc (by assumption) _))
        (first
          | (have T0 := Q0; clear T0; go_at_call_of 34 (Value.pointer (some ⟨p.blk, 0, none⟩)); refine (fork_any p ql _ (by first | assumption | exact In.kp HP.out (by assumption)) (by first | assumption | exact In.kp HL.out (by assumption)) (by omega) sp sl).mono ?_; rintro e w1 ⟨g1, rfl, i1, k1⟩; have K1 : Kp w w1 := Kp.trans (by assumption) k1; clear k1)
          | (go_at_call 34; refine (fork_any (.fork g1 p ql) qr _ (by assumption) (by first | assumption | exact In.kp HR.out (by assumption)) (by rw [len_fork]; omega) (sp.append sl) sr).mono ?_; rintro e w2 ⟨g2, rfl, i2, k2⟩; have K2 : Kp w w2 := Kp.trans (by assumption) k2; clear k2))
      all_goals
        go_wp2_with fail
        go_ret
        exact ⟨_, _, rfl, i2, K2⟩

set_option maxRecDepth 100000 in
set_option maxHeartbeats 2000000 in
theorem level_B2 (pl pr q : T) (bp : Nat) (w : World) (hp : In w (.fork bp pl pr)) (hq : In w q)
    (hn : pl.items.length + pr.items.length + q.items.length ≤ 100000) (sl : Sm pl.items) (sr : Sm pr.items) (sq : Sm q.items)
    (c1h : q.ht + 1 < 1 + max pl.ht pr.ht) (c2h : pr.ht ≤ pl.ht) (hh : q.ht + pl.ht + pr.ht ≤ 100000) :
    Calls Try.prog 35 #[Value.pointer (some ⟨bp, 0, none⟩), Value.pointer (some ⟨q.blk, 0, none⟩)] w fun e w' => ∃ g g1, e = .returned (.pointer (some ⟨g, 0, none⟩)) ∧ In w' (.fork g pl (.fork g1 pr q)) ∧ Kp w w' := by
  have HQ : Hid (In w q) := hq
  have HL : Hid (In w pl) := hp.2.1
  have HR : Hid (In w pr) := hp.2.2
  obtain ⟨hP, eP⟩ : ∃ h, 1 + max pl.ht pr.ht = h := ⟨_, rfl⟩
  obtain ⟨hQ, eQ⟩ : ∃ h, q.ht = h := ⟨_, rfl⟩
  obtain ⟨hL, eL⟩ : ∃ h, pl.ht = h := ⟨_, rfl⟩
  obtain ⟨hR, eR⟩ : ∃ h, pr.ht = h := ⟨_, rfl⟩
  have bQ : hQ ≤ 200000 := by omega
  have bP : hP ≤ 200000 := by omega
  have bL : hL ≤ 100000 := by omega
  have bR : hR ≤ 100000 := by omega
  have g0 : ¬ (hP : Int) + 1 < hQ := by omega
  have d0 : decide ((hP : Int) + 1 < hQ) = false := by simpa using g0
  have g1 : (hQ : Int) + 1 < hP := by omega
  have g2 : ¬ (hL : Int) < hR := by omega
  have d1 : decide ((hQ : Int) + 1 < hP) = true := by simpa using g1
  have MK : Hid (∀ W, Kp w W → W.cell? ⟨q.blk, 4, none⟩ = some (.int .i64 (hQ : Nat)) ∧ W.cell? ⟨bp, 0, none⟩ = some (Value.pointer (some ⟨pl.blk, 0, none⟩)) ∧ W.cell? ⟨bp, 1, none⟩ = some (Value.pointer (some ⟨pr.blk, 0, none⟩)) ∧ W.cell? ⟨bp, 4, none⟩ = some (.int .i64 (hP : Nat)) ∧ W.cell? ⟨pl.blk, 4, none⟩ = some (.int .i64 (hL : Nat)) ∧ W.cell? ⟨pr.blk, 4, none⟩ = some (.int .i64 (hR : Nat)) ∧ Hid (Kp w W)) := fun W k => ⟨eQ ▸ (hq.kp k).cell4, (hp.kp k).fork_cells.1, (hp.kp k).fork_cells.2.1, eP ▸ (hp.kp k).fork_cells.2.2.2, eL ▸ (hp.kp k).2.1.cell4, eR ▸ (hp.kp k).2.2.cell4, k⟩
  obtain ⟨c1, c2, c3, c4, c5, c6, _⟩ := MK.out w (Kp.refl _)
  have kk : Kp w w := Kp.refl _
  clear hp hq
  clear c1h c2h hh
  go_enter Try.func35, Try.ntmps35
  go_wp2_with fail
  go_cut [7] (fun v wc => v = .bool false ∧ Kp w wc)
  case first =>
    go_quiet (fail)
    go_wp2_with fail
    go_meet
    case rel => exact ⟨by first | rfl | (simp; omega), Kp.drewN _ (by assumption)⟩
  case rest =>
    obtain ⟨rfl, k⟩ := hcut
    rename World => W1
    clear c1 c2 c3 c4 c5 c6 kk
    obtain ⟨c1, c2, c3, c4, c5, c6, _⟩ := MK.out _ k
    have kk : Kp w W1 := k
    clear k
    go_wp2_with fail
    go_cut [55] (fun v wc => v = .bool false ∧ Kp w wc)
    case first =>
      go_quiet (fail)
      go_wp2_with fail
      go_meet
      case rel => exact ⟨by first | rfl | (simp; omega), Kp.drewN _ (by assumption)⟩
    case rest =>
      obtain ⟨rfl, k⟩ := hcut
      rename World => W2
      clear c1 c2 c3 c4 c5 c6 kk
      obtain ⟨c1, c2, c3, c4, c5, c6, _⟩ := MK.out _ k
      have kk : Kp w W2 := k
      clear k
      go_wp2_with fail
      go_cut [77] (fun v wc => v = .bool false ∧ Kp w wc)
      case first =>
        go_quiet (fail)
        go_wp2_with fail
        go_meet
        case rel => exact ⟨by first | rfl | (simp; omega), Kp.drewN _ (by assumption)⟩
      case rest =>
        obtain ⟨rfl, k⟩ := hcut
        rename World => W3
        clear c1 c2 c3 c4 c5 c6 kk
        obtain ⟨c1, c2, c3, c4, c5, c6, _⟩ := MK.out _ k
        have kk : Kp w W3 := k
        clear k
        go_wp2_with fail
        go_cut [125] (fun v wc => v = .bool true ∧ Kp w wc)
        case first =>
          go_quiet (fail)
          go_wp2_with fail
          go_meet
          case rel => exact ⟨by first | rfl | (simp; omega), Kp.drewN _ (by assumption)⟩
        case rest =>
          obtain ⟨rfl, k⟩ := hcut
          rename World => W4
          clear c1 c2 c3 c4 c5 c6 kk
          obtain ⟨c1, c2, c3, c4, c5, c6, _⟩ := MK.out _ k
          have kk : Kp w W4 := k
          clear k
          go_wp2_with fail
          have MS : Hid (∀ W, Kp w W → W.cell? ⟨bp, 0, none⟩ = some (Value.pointer (some ⟨pl.blk, 0, none⟩)) ∧ W.cell? ⟨bp, 1, none⟩ = some (Value.pointer (some ⟨pr.blk, 0, none⟩)) ∧ Hid (Kp w W)) := fun W k => ⟨(MK.out W k).2.1, (MK.out W k).2.2.1, k⟩
          have Q0 : Kp w W4.drew := kk.drew
          go_region_held3 (fun W => W.cell? ⟨bp, 0, none⟩ = some (Value.pointer (some ⟨pl.blk, 0, none⟩)) ∧ W.cell? ⟨bp, 1, none⟩ = some (Value.pointer (some ⟨pr.blk, 0, none⟩)) ∧ Hid (Kp w W))
            (first | with_reducible exact MS.out _ (by assumption) | with_reducible exact MS.out _ (Kp.alloc (by assumption) _))
            (first
              | (have T0 := Q0; clear T0; go_at_call_of 34 (Value.pointer (some ⟨pr.blk, 0, none⟩)); refine (fork_any pr q _ (by first | assumption | exact In.kp HR.out (by assumption)) (by first | assumption | exact In.kp HQ.out (by assumption)) (by omega) sr sq).mono ?_; rintro e w1 ⟨g1, rfl, i1, k1⟩; have K1 : Kp w w1 := Kp.trans (by assumption) k1; clear k1)
              | (go_at_call 34; refine (fork_any pl (.fork g1 pr q) _ (by first | assumption | exact In.kp HL.out (by assumption)) (by assumption) (by rw [len_fork]; omega) sl (sr.append sq)).mono ?_; rintro e w2 ⟨g2, rfl, i2, k2⟩; have K2 : Kp w w2 := Kp.trans (by assumption) k2; clear k2))
          all_goals
            go_wp2_with fail
            go_ret
            exact ⟨_, _, rfl, i2, K2⟩

end Go.Proofs.Ytjphjnpcpbenlaa
