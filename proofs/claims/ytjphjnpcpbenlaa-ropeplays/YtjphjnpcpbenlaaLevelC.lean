/-
  What level does: two trees whose heights differ by two at most become one that is balanced.
-/
import Derived.Test.YtjphjnpcpbenlaaFork
namespace Go.Proofs.Ytjphjnpcpbenlaa
open Go.RowKit
attribute [local go_sem] run_store_complex

set_option maxRecDepth 100000 in
set_option maxHeartbeats 2000000 in
theorem level_B1 (pl ml mr q : T) (bp bm : Nat) (w : World) (hp : In w (.fork bp pl (.fork bm ml mr))) (hq : In w q)
    (hn : pl.items.length + (ml.items.length + mr.items.length) + q.items.length ≤ 100000) (sl : Sm pl.items) (sml : Sm ml.items) (smr : Sm mr.items) (sq : Sm q.items)
    (c1h : q.ht + 1 < 1 + max pl.ht (1 + max ml.ht mr.ht)) (c2h : pl.ht < 1 + max ml.ht mr.ht) (hh : q.ht + pl.ht + ml.ht + mr.ht ≤ 100000) :
    Calls Try.prog 35 #[Value.pointer (some ⟨bp, 0, none⟩), Value.pointer (some ⟨q.blk, 0, none⟩)] w fun e w' => ∃ g g1 g2, e = .returned (.pointer (some ⟨g, 0, none⟩)) ∧ In w' (.fork g (.fork g1 pl ml) (.fork g2 mr q)) ∧ Kp w w' := by
  have HQ : Hid (In w q) := hq
  have HL : Hid (In w pl) := hp.2.1
  have HML : Hid (In w ml) := hp.2.2.2.1
  have HMR : Hid (In w mr) := hp.2.2.2.2
  obtain ⟨hP, eP⟩ : ∃ h, 1 + max pl.ht (1 + max ml.ht mr.ht) = h := ⟨_, rfl⟩
  obtain ⟨hQ, eQ⟩ : ∃ h, q.ht = h := ⟨_, rfl⟩
  obtain ⟨hL, eL⟩ : ∃ h, pl.ht = h := ⟨_, rfl⟩
  obtain ⟨hM, eM⟩ : ∃ h, 1 + max ml.ht mr.ht = h := ⟨_, rfl⟩
  have bQ : hQ ≤ 200000 := by omega
  have bP : hP ≤ 200000 := by omega
  have bL : hL ≤ 100000 := by omega
  have bM : hM ≤ 200000 := by omega
  have g0 : ¬ (hP : Int) + 1 < hQ := by omega
  have d0 : decide ((hP : Int) + 1 < hQ) = false := by simpa using g0
  have g1 : (hQ : Int) + 1 < hP := by omega
  have g2 : (hL : Int) < hM := by omega
  have d1 : decide ((hQ : Int) + 1 < hP) = true := by simpa using g1
  have MK : Hid (∀ W, Kp w W → W.cell? ⟨q.blk, 4, none⟩ = some (.int .i64 (hQ : Nat)) ∧ W.cell? ⟨bp, 0, none⟩ = some (Value.pointer (some ⟨pl.blk, 0, none⟩)) ∧ W.cell? ⟨bp, 1, none⟩ = some (Value.pointer (some ⟨bm, 0, none⟩)) ∧ W.cell? ⟨bp, 4, none⟩ = some (.int .i64 (hP : Nat)) ∧ W.cell? ⟨pl.blk, 4, none⟩ = some (.int .i64 (hL : Nat)) ∧ W.cell? ⟨bm, 0, none⟩ = some (Value.pointer (some ⟨ml.blk, 0, none⟩)) ∧ W.cell? ⟨bm, 1, none⟩ = some (Value.pointer (some ⟨mr.blk, 0, none⟩)) ∧ W.cell? ⟨bm, 4, none⟩ = some (.int .i64 (hM : Nat)) ∧ Hid (Kp w W)) := fun W k => ⟨eQ ▸ (hq.kp k).cell4, (hp.kp k).fork_cells.1, (hp.kp k).fork_cells.2.1, eP ▸ (hp.kp k).fork_cells.2.2.2, eL ▸ (hp.kp k).2.1.cell4, (hp.kp k).2.2.fork_cells.1, (hp.kp k).2.2.fork_cells.2.1, eM ▸ (hp.kp k).2.2.fork_cells.2.2.2, k⟩
  obtain ⟨c1, c2, c3, c4, c5, c6, c7, c8, _⟩ := MK.out w (Kp.refl _)
  have kk : Kp w w := Kp.refl _
  clear hp hq
  clear c1h c2h hh
  go_enter Try.func35, Try.ntmps35
  go_wp2_with fail
  go_cut [7] (fun v wc => v = .bool false ∧ Kp w wc)
  case first =>
    go_quiet (fail)
    go_wp2_with fail
    go_meet
    case rel => exact ⟨by first | rfl | (simp; omega), Kp.drewN _ (by assumption)⟩
  case rest =>
    obtain ⟨rfl, k⟩ := hcut
    rename World => W1
    clear c1 c2 c3 c4 c5 c6 c7 c8 kk
    obtain ⟨c1, c2, c3, c4, c5, c6, c7, c8, _⟩ := MK.out _ k
    have kk : Kp w W1 := k
    clear k
    go_wp2_with fail
    go_cut [55] (fun v wc => v = .bool false ∧ Kp w wc)
    case first =>
      go_quiet (fail)
      go_wp2_with fail
      go_meet
      case rel => exact ⟨by first | rfl | (simp; omega), Kp.drewN _ (by assumption)⟩
    case rest =>
      obtain ⟨rfl, k⟩ := hcut
      rename World => W2
      clear c1 c2 c3 c4 c5 c6 c7 c8 kk
      obtain ⟨c1, c2, c3, c4, c5, c6, c7, c8, _⟩ := MK.out _ k
      have kk : Kp w W2 := k
      clear k
      go_wp2_with fail
      go_cut [77] (fun v wc => v = .bool true ∧ Kp w wc)
      case first =>
        go_quiet (fail)
        go_wp2_with fail
        go_meet
        case rel => exact ⟨by first | rfl | (simp; omega), Kp.drewN _ (by assumption)⟩
      case rest =>
        obtain ⟨rfl, k⟩ := hcut
        rename World => W3
        clear c1 c2 c3 c4 c5 c6 c7 c8 kk
        obtain ⟨c1, c2, c3, c4, c5, c6, c7, c8, _⟩ := MK.out _ k
        have kk : Kp w W3 := k
        clear k
        go_wp2_with fail
        have MS : Hid (∀ W, Kp w W → W.cell? ⟨bp, 0, none⟩ = some (Value.pointer (some ⟨pl.blk, 0, none⟩)) ∧ W.cell? ⟨bm, 0, none⟩ = some (Value.pointer (some ⟨ml.blk, 0, none⟩)) ∧ W.cell? ⟨bm, 1, none⟩ = some (Value.pointer (some ⟨mr.blk, 0, none⟩)) ∧ Hid (Kp w W)) := fun W k => ⟨(MK.out W k).2.1, (MK.out W k).2.2.2.2.2.1, (MK.out W k).2.2.2.2.2.2.1, k⟩
        have Q0 : Kp w W3.drew := kk.drew
        go_region_held3 (fun W => W.cell? ⟨bp, 0, none⟩ = some (Value.pointer (some ⟨pl.blk, 0, none⟩)) ∧ W.cell? ⟨bm, 0, none⟩ = some (Value.pointer (some ⟨ml.blk, 0, none⟩)) ∧ W.cell? ⟨bm, 1, none⟩ = some (Value.pointer (some ⟨mr.blk, 0, none⟩)) ∧ Hid (Kp w W))
          (first | with_reducible exact MS.out _ (by assumption) | with_reducible exact MS.out _ (Kp.alloc (by assumption) _))
          (first
            | (go_at_call_of 34 (Value.pointer (some ⟨pl.blk, 0, none⟩)); refine (fork_any pl ml _ (by first | assumption | exact In.kp HL.out (by assumption)) (by first | assumption | exact In.kp HML.out (by assumption)) (by omega) sl sml).mono ?_; rintro e w1 ⟨g1, rfl, i1, k1⟩; have K1 : Kp w w1 := Kp.trans (by assumption) k1; try have i2 := In.kp i2 k1; clear k1)
            | (go_at_call_of 34 (Value.pointer (some ⟨mr.blk, 0, none⟩)); refine (fork_any mr q _ (by first | assumption | exact In.kp HMR.out (by assumption)) (by first | assumption | exact In.kp HQ.out (by assumption)) (by omega) smr sq).mono ?_; rintro e w2 ⟨g2, rfl, i2, k2⟩; have K2 : Kp w w2 := Kp.trans (by assumption) k2; try have i1 := In.kp i1 k2; clear k2)
            | (go_at_call 34; refine (fork_any (.fork g1 pl ml) (.fork g2 mr q) _ (by assumption) (by assumption) (by rw [len_fork, len_fork]; omega) (sl.append sml) (smr.append sq)).mono ?_; rintro e w3 ⟨g3, rfl, i3, k3⟩; have K3 : Kp w w3 := Kp.trans (by assumption) k3; clear k3))
        all_goals
          go_wp2_with fail
          go_ret
          exact ⟨_, _, _, rfl, i3, K3⟩

set_option maxRecDepth 100000 in
set_option maxHeartbeats 2000000 in
theorem level_C (p q : T) (w : World) (hp : In w p) (hq : In w q)
    (hn : p.items.length + q.items.length ≤ 100000) (sp : Sm p.items) (sq : Sm q.items)
    (c1h : q.ht ≤ p.ht + 1) (c2h : p.ht ≤ q.ht + 1) (hh : q.ht + p.ht ≤ 100000) :
    Calls Try.prog 35 #[Value.pointer (some ⟨p.blk, 0, none⟩), Value.pointer (some ⟨q.blk, 0, none⟩)] w fun e w' => ∃ g, e = .returned (.pointer (some ⟨g, 0, none⟩)) ∧ In w' (.fork g p q) ∧ Kp w w' := by
  have HQ : Hid (In w q) := hq
  have HP : Hid (In w p) := hp
  obtain ⟨hP, eP⟩ : ∃ h, p.ht = h := ⟨_, rfl⟩
  obtain ⟨hQ, eQ⟩ : ∃ h, q.ht = h := ⟨_, rfl⟩
  have bQ : hQ ≤ 200000 := by omega
  have bP : hP ≤ 200000 := by omega
  have g0 : ¬ (hP : Int) + 1 < hQ := by omega
  have d0 : decide ((hP : Int) + 1 < hQ) = false := by simpa using g0
  have g1 : ¬ (hQ : Int) + 1 < hP := by omega
  have d1 : decide ((hQ : Int) + 1 < hP) = false := by simpa using g1
  have MK : Hid (∀ W, Kp w W → W.cell? ⟨q.blk, 4, none⟩ = some (.int .i64 (hQ : Nat)) ∧ W.cell? ⟨p.blk, 4, none⟩ = some (.int .i64 (hP : Nat)) ∧ Hid (Kp w W)) := fun W k => ⟨eQ ▸ (hq.kp k).cell4, eP ▸ (hp.kp k).cell4, k⟩
  obtain ⟨c1, c2, _⟩ := MK.out w (Kp.refl _)
  have kk : Kp w w := Kp.refl _
  clear hp hq
  clear c1h c2h hh
  go_enter Try.func35, Try.ntmps35
  go_wp2_with fail
  go_cut [7] (fun v wc => v = .bool false ∧ Kp w wc)
  case first =>
    go_quiet (fail)
    go_wp2_with fail
    go_meet
    case rel => exact ⟨by first | rfl | (simp; omega), Kp.drewN _ (by assumption)⟩
  case rest =>
    obtain ⟨rfl, k⟩ := hcut
    rename World => W1
    clear c1 c2 kk
    obtain ⟨c1, c2, _⟩ := MK.out _ k
    have kk : Kp w W1 := k
    clear k
    go_wp2_with fail
    go_cut [55] (fun v wc => v = .bool false ∧ Kp w wc)
    case first =>
      go_quiet (fail)
      go_wp2_with fail
      go_meet
      case rel => exact ⟨by first | rfl | (simp; omega), Kp.drewN _ (by assumption)⟩
    case rest =>
      obtain ⟨rfl, k⟩ := hcut
      rename World => W2
      clear c1 c2 kk
      obtain ⟨c1, c2, _⟩ := MK.out _ k
      have kk : Kp w W2 := k
      clear k
      go_wp2_with fail
      go_cut [77] (fun v wc => v = .bool false ∧ Kp w wc)
      case first =>
        go_quiet (fail)
        go_wp2_with fail
        go_meet
        case rel => exact ⟨by first | rfl | (simp; omega), Kp.drewN _ (by assumption)⟩
      case rest =>
        obtain ⟨rfl, k⟩ := hcut
        rename World => W3
        clear c1 c2 kk
        obtain ⟨c1, c2, _⟩ := MK.out _ k
        have kk : Kp w W3 := k
        clear k
        go_wp2_with fail
        go_cut [125] (fun v wc => v = .bool false ∧ Kp w wc)
        case first =>
          go_quiet (fail)
          go_wp2_with fail
          go_meet
          case rel => exact ⟨by first | rfl | (simp; omega), Kp.drewN _ (by assumption)⟩
        case rest =>
          obtain ⟨rfl, k⟩ := hcut
          rename World => W4
          clear c1 c2 kk
          obtain ⟨c1, c2, _⟩ := MK.out _ k
          have kk : Kp w W4 := k
          clear k
          go_wp2_with fail
          refine (fork_any p q _ (HP.out.kp kk) (HQ.out.kp kk) (by omega) sp sq).mono ?_
          rintro e w1 ⟨g, rfl, i, k1⟩
          have K1 := kk.trans k1
          go_wp2_with fail
          go_ret
          exact ⟨_, rfl, i, K1⟩

end Go.Proofs.Ytjphjnpcpbenlaa
