/-
  What level does: two trees whose heights differ by two at most become one that is balanced.
-/
import Derived.Test.YtjphjnpcpbenlaaFork
namespace Go.Proofs.Ytjphjnpcpbenlaa
open Go.RowKit
attribute [local go_sem] run_store_complex

set_option maxRecDepth 100000 in
set_option maxHeartbeats 2000000 in
theorem level_A1 (p ml mr qr : T) (bq bm : Nat) (w : World) (hp : In w p) (hq : In w (.fork bq (.fork bm ml mr) qr))
    (hn : p.items.length + (ml.items.length + mr.items.length + qr.items.length) ≤ 100000) (sp : Sm p.items) (sl : Sm ml.items) (sr : Sm mr.items) (sq : Sm qr.items)
    (c1 : p.ht + 1 < 1 + max (1 + max ml.ht mr.ht) qr.ht) (c2 : qr.ht < 1 + max ml.ht mr.ht) (hh : p.ht + ml.ht + mr.ht + qr.ht ≤ 100000) :
    Calls Try.prog 35 #[Value.pointer (some ⟨p.blk, 0, none⟩), Value.pointer (some ⟨bq, 0, none⟩)] w fun e w' => ∃ g g1 g2, e = .returned (.pointer (some ⟨g, 0, none⟩)) ∧ In w' (.fork g (.fork g1 p ml) (.fork g2 mr qr)) ∧ Kp w w' := by
  obtain ⟨q0, q1, _, q4⟩ := hq.fork_cells
  obtain ⟨m0, m1, _, m4⟩ := hq.2.1.fork_cells
  have p4 := hp.cell4
  have r4 := hq.2.2.cell4
  have HP : Hid (In w p) := hp
  have HML : Hid (In w ml) := hq.2.1.2.1
  have HMR : Hid (In w mr) := hq.2.1.2.2
  have HQR : Hid (In w qr) := hq.2.2
  have MK : Hid (∀ W, Kp w W → W.cell? ⟨bm, 0, none⟩ = some (Value.pointer (some ⟨ml.blk, 0, none⟩)) ∧ W.cell? ⟨bm, 1, none⟩ = some (Value.pointer (some ⟨mr.blk, 0, none⟩)) ∧ W.cell? ⟨bq, 1, none⟩ = some (Value.pointer (some ⟨qr.blk, 0, none⟩)) ∧ Hid (Kp w W)) := fun W k => ⟨(hq.kp k).2.1.fork_cells.1, (hq.kp k).2.1.fork_cells.2.1, (hq.kp k).fork_cells.2.1, k⟩
  rw [show (T.fork bm ml mr).ht = 1 + max ml.ht mr.ht from rfl] at q4
  rw [show (T.fork bm ml mr).blk = bm from rfl] at q0
  obtain ⟨hQ, eQ⟩ : ∃ h, 1 + max (1 + max ml.ht mr.ht) qr.ht = h := ⟨_, rfl⟩
  obtain ⟨hM, eM⟩ : ∃ h, 1 + max ml.ht mr.ht = h := ⟨_, rfl⟩
  have bM : hM ≤ 200000 := by omega
  have bQ : hQ ≤ 200000 := by omega
  have bP : p.ht ≤ 100000 := by omega
  have bR : qr.ht ≤ 100000 := by omega
  rw [eQ] at c1 q4
  rw [eM] at c2 m4
  generalize p.ht = hP at *
  generalize qr.ht = hR at *
  have g1 : (hP : Int) + 1 < hQ := by omega
  have g2 : (hR : Int) < hM := by omega
  have d1 : decide ((hP : Int) + 1 < hQ) = true := by simpa using g1
  clear hp hq eQ eM c1 c2 hh
  go_enter Try.func35, Try.ntmps35
  go_wp2_with fail
  go_cut [7] (fun v wc => v = .bool true ∧ Kp w wc)
  case first =>
    go_quiet (fail)
    go_wp2_with fail
    go_meet
    case rel => exact ⟨rfl, (Kp.refl _).drewN _⟩
  case rest =>
    obtain ⟨rfl, k⟩ := hcut
    rename World => W0
    obtain ⟨e0, e1, e2, _⟩ := MK.out W0 k
    have e3 : W0.cell? ⟨bq, 0, none⟩ = some (Value.pointer (some ⟨bm, 0, none⟩)) := (k.cell (block_lt_of_cell q0)).trans q0
    have Q0 : Kp w W0.drew := k.drew
    clear k q0 q1 q4 m0 m1 m4 p4 r4 g1 g2 d1
    go_wp2_with fail
    go_region_held3 (fun W => W.cell? ⟨bm, 0, none⟩ = some (Value.pointer (some ⟨ml.blk, 0, none⟩)) ∧ W.cell? ⟨bm, 1, none⟩ = some (Value.pointer (some ⟨mr.blk, 0, none⟩)) ∧ W.cell? ⟨bq, 1, none⟩ = some (Value.pointer (some ⟨qr.blk, 0, none⟩)) ∧ Hid (Kp w W))
      (first | with_reducible exact MK.out _ (by assumption) | with_reducible exact MK.out _ (Kp.alloc (by assumption) _))
      (first
        | (go_at_call_of 34 (Value.pointer (some ⟨p.blk, 0, none⟩)); refine (fork_any p ml _ (by first | assumption | exact In.kp HP.out (by assumption)) (by first | assumption | exact In.kp HML.out (by assumption)) (by omega) sp sl).mono ?_; rintro e w1 ⟨g1, rfl, i1, k1⟩; have K1 : Kp w w1 := Kp.trans (by assumption) k1; try have i2 := In.kp i2 k1; clear k1)
        | (go_at_call_of 34 (Value.pointer (some ⟨mr.blk, 0, none⟩)); refine (fork_any mr qr _ (by first | assumption | exact In.kp HMR.out (by assumption)) (by first | assumption | exact In.kp HQR.out (by assumption)) (by omega) sr sq).mono ?_; rintro e w2 ⟨g2, rfl, i2, k2⟩; have K2 : Kp w w2 := Kp.trans (by assumption) k2; try have i1 := In.kp i1 k2; clear k2)
        | (go_at_call 34; refine (fork_any (.fork g1 p ml) (.fork g2 mr qr) _ (by assumption) (by assumption) (by rw [len_fork, len_fork]; omega) (sp.append sl) (sr.append sq)).mono ?_; rintro e w3 ⟨g3, rfl, i3, k3⟩; have K3 : Kp w w3 := Kp.trans (by assumption) k3; clear k3))
    all_goals
      go_wp2_with fail
      go_ret
      exact ⟨_, _, _, rfl, i3, K3⟩
end Go.Proofs.Ytjphjnpcpbenlaa
