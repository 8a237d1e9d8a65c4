/-
  What Line does.
-/
import Derived.Test.YtjphjnpcpbenlaaAtW
import Derived.Test.YtjphjnpcpbenlaaPlace
namespace Go.Proofs.Ytjphjnpcpbenlaa
open Go.RowKit
attribute [local go_sem] run_store_complex

theorem last_drew (w : World) (o : Obj) : ((w.alloc o).drew).heap[w.heap.size]? = some o := last_of w o
theorem bl_set2 {w : World} {S : Nat} {a b : Value} {t : TypeId} (h : w.heap[S]? = some (.cells #[a, b] t)) (u v : Value) : ((w.setCell ⟨S, 0, none⟩ u).setCell ⟨S, 1, none⟩ v).heap[S]? = some (.cells #[u, v] t) := by
  simp only [World.setCell, Array.getElem?_modify, if_true, h, Option.map_some]
  rfl
theorem Kp.set2 {a b : World} (h : Kp a b) (u v : Value) : Kp a ((b.setCell ⟨a.heap.size, 0, none⟩ u).setCell ⟨a.heap.size, 1, none⟩ v) := (h.setCell (p := ⟨a.heap.size, 0, none⟩) (Nat.le_refl _) u).setCell (p := ⟨a.heap.size, 1, none⟩) (Nat.le_refl _) v
theorem set_S {w1 wc : World} {S S9 : Nat} {o : Obj} (hS : w1.heap.size = S) (hne : S ≠ S9) (u v : Value) (h : Kp w1 wc ∧ wc.heap[S9]? = some o) : Kp w1 ((wc.setCell ⟨S, 0, none⟩ u).setCell ⟨S, 1, none⟩ v) ∧ ((wc.setCell ⟨S, 0, none⟩ u).setCell ⟨S, 1, none⟩ v).heap[S9]? = some o := by
  subst hS
  exact ⟨h.1.set2 u v, bl_set (bl_set h.2 (Ne.symm hne) u) (Ne.symm hne) v⟩
theorem drew_S {w1 wc : World} {S9 : Nat} {o : Obj} (h : Kp w1 wc ∧ wc.heap[S9]? = some o) : Kp w1 wc.drew ∧ wc.drew.heap[S9]? = some o := ⟨h.1.drew, h.2⟩
theorem bl_drew {w : World} {S : Nat} {o : Obj} (h : w.heap[S]? = some o) : w.drew.heap[S]? = some o := h

/-- The cells of a node that hold its measure. -/
theorem In.cell56 {w : World} {t : T} (h : In w t) : w.cell? ⟨t.blk, 5, none⟩ = some (cx (lsum It.l t.items : Nat) (lsum It.y t.items : Nat)) ∧ w.cell? ⟨t.blk, 6, none⟩ = some (.complex .f64 0 0) := ⟨h.head.cells.2.2.2.2.2.1, h.head.cells.2.2.2.2.2.2⟩

set_option maxRecDepth 100000 in
set_option maxHeartbeats 4000000 in
theorem line_walk (t : T) (n : Int) (w : World) (h : In w t) (hn : t.items.length ≤ 100000) (hs : Sm t.items) (hl : n < (lsum It.l t.items : Int)) :
    Calls Try.prog 13 #[rv (some t), .int .i64 n] w fun e w' => e = .returned (.tuple #[.int .i64 (place n t.items : Nat), mk (t.items.take (place n t.items))]) ∧ Kp w w' := by
  have b1 := hs.lines; have b2 := hs.bytes
  have HS : Hid (Sm t.items ∧ t.items.length ≤ 100000 ∧ n < (lsum It.l t.items : Int)) := ⟨hs, hn, hl⟩
  obtain ⟨L, eL⟩ : ∃ L, lsum It.l t.items = L := ⟨_, rfl⟩
  obtain ⟨Y, eY⟩ : ∃ Y, lsum It.y t.items = Y := ⟨_, rfl⟩
  obtain ⟨W0, hW⟩ : ∃ W, w.alloc (.cells #[Value.pointer (some ⟨t.blk, 0, none⟩)] 24) = W := ⟨_, rfl⟩
  have kw : Kp w W0 := by subst hW; exact (Kp.refl _).alloc _
  have m1 : W0.heap[w.heap.size]? = some (.cells #[Value.pointer (some ⟨t.blk, 0, none⟩)] 24) := by subst hW; exact last_of _ _
  have HW : Hid (w.alloc (.cells #[Value.pointer (some ⟨t.blk, 0, none⟩)] 24) = W0) := hW
  have H : Hid (In W0 t ∧ Kp w W0 ∧ W0.heap[w.heap.size]? = some (.cells #[Value.pointer (some ⟨t.blk, 0, none⟩)] 24)) := ⟨h.kp kw, kw, m1⟩
  have HL : Hid (lsum It.l t.items = L ∧ lsum It.y t.items = Y) := ⟨eL, eY⟩
  rw [eL] at hl b1
  rw [eY] at b2
  have bL : L ≤ 10000000 := by omega
  have g1 : ¬ (L : Int) ≤ n := by omega
  clear h hs hn hW kw m1 eL eY b1 b2
  show Calls Try.prog 13 #[.agg #[Value.pointer (some ⟨t.blk, 0, none⟩)], .int .i64 n] w _
  go_enter Try.func13, Try.ntmps13
  go_wp2_with fail
  rw [HW.out]
  clear HW
  refine (mark_any (some t) _ H.out.1).mono ?_
  rintro e w1 ⟨rfl, k1⟩
  simp only [itemsO]
  rw [show mk t.items = cx (L : Nat) (Y : Nat) from by show cx (lsum It.l t.items : Nat) (lsum It.y t.items : Nat) = _; rw [HL.out.1, HL.out.2]]
  have c1 : w1.cell? ⟨w.heap.size, 0, none⟩ = some (Value.pointer (some ⟨t.blk, 0, none⟩)) := bl_cell (bl_kp H.out.2.2 k1) 0 _ rfl
  have K1 : Hid (Kp w w1) := H.out.2.1.trans k1
  have I1 : Hid (In w1 t) := H.out.1.kp k1
  clear k1
  go_wp2_with fail
  refine (lines_any (L : Int) (Y : Int) _ (small (by omega) (by omega))).mono ?_
  rintro e w1 ⟨rfl, rfl⟩
  go_wp2_with fail
  have ca := al_cell c1
  obtain ⟨S, eS⟩ : ∃ S, w1.heap.size = S := ⟨_, rfl⟩
  go_cut [6, 7, 8] (fun x y z wc => x = .int .i64 0 ∧ y = .pointer (some ⟨S, 0, none⟩) ∧ z = Value.pointer (some ⟨t.blk, 0, none⟩) ∧ Kp w1 wc ∧ wc.heap[S]? = some (.cells #[.complex .f64 0 0, .complex .f64 0 0] 63))
  case first =>
    go_region
    go_wp2_with fail
    go_meet
    case rel => subst eS; exact ⟨rfl, rfl, rfl, ((Kp.refl _).alloc _).drew, last_drew _ _⟩
  case rest =>
    obtain ⟨rfl, rfl, rfl, k2, m2⟩ := hcut
    rename World => w2
    have J : Hid (Kp w1 w2 ∧ w2.heap[S]? = some (.cells #[.complex .f64 0 0, .complex .f64 0 0] 63)) := ⟨k2, m2⟩
    have ES : Hid (w1.heap.size = S) := eS
    clear k2 m2 eS c1 ca
    go_wp2_with fail
    go_loopg [6, 8] t.ht (fun k x z wr => ∃ (u : T) (m A B : Nat), x = .int .i64 (m : Int) ∧ z = Value.pointer (some ⟨u.blk, 0, none⟩) ∧ In w1 u ∧ u.ht ≤ k ∧ Wk n t.items m A B u.items ∧ Sm u.items ∧ u.items.length ≤ 100000 ∧ Kp w1 wr ∧ wr.heap[S]? = some (.cells #[cx (A : Nat) (B : Nat), .complex .f64 0 0] 63))
    case atStart => exact ⟨t, 0, 0, 0, rfl, rfl, I1.out, Nat.le_refl _, Wk.start _ _ HS.out.2.2, HS.out.1, HS.out.2.1, J.out.1, by rw [cx, Int.natCast_zero, F_zero]; exact J.out.2⟩
    case round =>
      obtain ⟨u, m, A, B, rfl, rfl, iu, uh, wk, us, un, kr, mr⟩ := hrel
      rename World => wr
      have hp := u.ht_pos
      cases u with
      | leaf b y =>
        have IU : Hid (Head wr (.leaf b y)) := Head.kp iu kr
        have WK : Hid (m = place n t.items ∧ A = lsum It.l (t.items.take (place n t.items)) ∧ B = lsum It.y (t.items.take (place n t.items))) := Wk.done wk
        have d0 := bl_cell mr 0 _ rfl
        have KR : Hid (Kp w wr) := K1.out.trans kr
        clear iu uh un hp us wk kr mr J
        rw [show (T.leaf b y).blk = b from rfl]
        go_wp2_with fail
        refine (leaf_any (.leaf b y) _ IU.out).mono ?_
        rintro e w3 ⟨rfl, rfl⟩
        simp only [T.lp, Option.isNone_none]
        go_wp2_with fail
        go_quiet (fail)
        go_wp2_with fail
        go_ret2
        have E := WK.out
        have R : mk (t.items.take (place n t.items)) = cx (A : Nat) (B : Nat) := by show cx (lsum It.l (t.items.take (place n t.items)) : Nat) (lsum It.y (t.items.take (place n t.items)) : Nat) = _; rw [← E.2.1, ← E.2.2]
        exact ⟨by rw [R, ← E.1]; rfl, KR.out.drewN _⟩
      | fork b p q =>
        obtain ⟨np, eP⟩ : ∃ x, p.items.length = x := ⟨_, rfl⟩
        obtain ⟨c, eC⟩ : ∃ x, lsum It.l p.items = x := ⟨_, rfl⟩
        obtain ⟨d, eD⟩ : ∃ x, lsum It.y p.items = x := ⟨_, rfl⟩
        have us' : Sm (p.items ++ q.items) := us
        have bp1 := us'.left.lines
        have bp2 := us'.left.bytes
        obtain ⟨wb1, wb2, wb3⟩ := wk.bound HS.out.1
        have hlen := HS.out.2.1
        rw [len_fork] at un
        have UN : Hid (p.items.length + q.items.length ≤ 100000) := un
        have US : Hid (Sm (p.items ++ q.items)) := us
        rw [eP] at un bp1 bp2
        rw [eC] at bp1
        rw [eD] at bp2
        have np2 : np ≤ 100000 := by omega
        have m2' : m ≤ 100000 := by omega
        have hac : A + c ≤ 1000000000 := by omega
        have hbd : B + d ≤ 1000000000 := by omega
        obtain ⟨A2, eA⟩ : ∃ x, A + c = x := ⟨_, rfl⟩
        obtain ⟨B2, eB⟩ : ∃ x, B + d = x := ⟨_, rfl⟩
        have ADD : Hid (∀ w, Calls Try.prog 29 #[.agg #[cx (A : Nat) (B : Nat), .complex .f64 0 0], .agg #[cx (c : Nat) (d : Nat), .complex .f64 0 0]] w fun e w' => e = .returned (.agg #[cx (A2 : Nat) (B2 : Nat), .complex .f64 0 0]) ∧ Kp w w') := by
          intro w
          have := add_any A B c d w hac hbd
          rw [eA, eB] at this
          exact this
        have hA2 : A2 ≤ 1000000000 := by omega
        have hB2 : B2 ≤ 1000000000 := by omega
        have EA : Hid (A + c = A2 ∧ B + d = B2) := ⟨eA, eB⟩
        have hSlt : Hid (S < wr.heap.size) := bl_lt mr
        have E : Hid (p.items.length = np ∧ lsum It.l p.items = c ∧ lsum It.y p.items = d) := ⟨eP, eC, eD⟩
        have IU : Hid (In w1 (.fork b p q)) := iu
        have WK : Hid (Wk n t.items m A B (p.items ++ q.items)) := wk
        have HH : Hid (1 + max p.ht q.ht ≤ gk) := uh
        have KR : Hid (Kp w1 wr) := kr
        have MR : Hid (wr.heap[S]? = some (.cells #[cx (A : Nat) (B : Nat), .complex .f64 0 0] 63)) := mr
        have i5 : In wr (.fork b p q) := iu.kp kr
        have MK : Hid (∀ W, Kp wr W → W.cell? ⟨S, 0, none⟩ = some (cx (A : Nat) (B : Nat)) ∧ W.cell? ⟨S, 1, none⟩ = some (.complex .f64 0 0) ∧ W.cell? ⟨b, 0, none⟩ = some (Value.pointer (some ⟨p.blk, 0, none⟩)) ∧ W.cell? ⟨p.blk, 5, none⟩ = some (cx (c : Nat) (d : Nat)) ∧ W.cell? ⟨p.blk, 6, none⟩ = some (.complex .f64 0 0) ∧ Hid (Kp wr W)) := fun W k => ⟨bl_cell (bl_kp mr k) 0 _ rfl, bl_cell (bl_kp mr k) 1 _ rfl, (i5.kp k).fork_cells.1, eC ▸ eD ▸ (i5.kp k).2.1.cell56.1, (i5.kp k).2.1.cell56.2, k⟩
        clear iu uh un hp us us' wk kr mr eP eC eD eA eB i5 bp1 bp2 wb1 wb2 wb3 hlen J hac hbd
        rw [show (T.fork b p q).blk = b from rfl]
        go_wp2_with fail
        refine (leaf_any (.fork b p q) _ (IU.out.kp KR.out).head).mono ?_
        rintro e wr ⟨rfl, rfl⟩
        simp only [T.lp, Option.isNone_some]
        go_wp2_with fail
        have Q0 : Kp wr wr.drew := (Kp.refl _).drew
        obtain ⟨a0, a1, a2, a3, a4, _⟩ := MK.out _ (Kp.refl wr)
        go_cut [9] (fun v wc => ∃ S9, v = .pointer (some ⟨S9, 0, none⟩) ∧ S ≠ S9 ∧ wc.heap[S9]? = some (.cells #[cx (A2 : Nat) (B2 : Nat), .complex .f64 0 0] 63) ∧ Kp wr wc)
        case first =>
          go_region_held3 (fun W => W.cell? ⟨S, 0, none⟩ = some (cx (A : Nat) (B : Nat)) ∧ W.cell? ⟨S, 1, none⟩ = some (.complex .f64 0 0) ∧ W.cell? ⟨b, 0, none⟩ = some (Value.pointer (some ⟨p.blk, 0, none⟩)) ∧ W.cell? ⟨p.blk, 5, none⟩ = some (cx (c : Nat) (d : Nat)) ∧ W.cell? ⟨p.blk, 6, none⟩ = some (.complex .f64 0 0) ∧ Hid (Kp wr W))
            (first | with_reducible exact MK.out _ (by assumption) | with_reducible exact MK.out _ (Kp.alloc (by assumption) _) | with_reducible exact MK.out _ (((Kp.refl _).alloc _).drew) | with_reducible exact MK.out _ (Kp.set2 K3 _ _))
            (first
              | (go_at_call 29; refine (ADD.out _).mono ?_; rintro e w3 ⟨rfl, k3⟩; have K3 : Kp wr w3 := Kp.trans (by first | assumption | exact Kp.alloc (by assumption) _ | exact ((Kp.refl _).alloc _).drew) k3; try (have X := bl_kp (last_drew _ _) k3; have x0 := bl_cell X 0 (.complex .f64 0 0) rfl; have x1 := bl_cell X 1 (.complex .f64 0 0) rfl; have y0 := bl_frozen X 0; have y1 := bl_frozen X 1)))
          all_goals
            go_wp2_with fail
            go_meet
            case rel =>
              first
                | exact ⟨_, rfl, (by have := hSlt.out; omega), bl_set2 X _ _, K3.set2 _ _⟩
                | exact ⟨_, rfl, (by have := hSlt.out; have := K3.size; omega), last_of _ _, K3.alloc _⟩
        case rest =>
          obtain ⟨S9, rfl, hne, m9, k9⟩ := hcut
          rename World => wc
          have z9 := bl_cell m9 0 _ rfl
          have KC : Kp w1 wc := KR.out.trans k9
          have MC : Hid (wc.heap[S]? = some (.cells #[cx (A : Nat) (B : Nat), .complex .f64 0 0] 63)) := bl_kp MR.out k9
          have M9 : Hid (wc.heap[S9]? = some (.cells #[cx (A2 : Nat) (B2 : Nat), .complex .f64 0 0] 63) ∧ S ≠ S9) := ⟨m9, hne⟩
          clear a0 a1 a2 a3 a4 Q0 hSlt ADD
          obtain ⟨_, _, a2, _, _, _⟩ := MK.out wc k9
          clear k9 m9 hne
          go_wp2_with fail
          refine (lines_any (A2 : Int) (B2 : Int) _ (small (by omega) (by omega))).mono ?_
          rintro e wc ⟨rfl, rfl⟩
          by_cases hc : n < (A2 : Int)
          · go_wp2_with fail
            go_roundg (gk - 1)
            case measure => have := HH.out; omega
            case rel =>
              refine ⟨p, m, A, B, rfl, rfl, IU.out.2.1, by have := HH.out; omega, WK.out.left ?_, US.out.left, by have := UN.out; omega, KC, MC.out⟩
              have := EA.out; have := E.out; omega
          · go_wp2_with fail
            have i8 : In wc (.fork b p q) := IU.out.kp KC
            have f0 := bl_frozen MC.out 0
            have f1 := bl_frozen MC.out 1
            have s0 := bl_cell MC.out 0 _ rfl
            have s1 := bl_cell MC.out 1 _ rfl
            have Q7 : Kp w1 wc ∧ wc.heap[S9]? = some (.cells #[cx (A2 : Nat) (B2 : Nat), .complex .f64 0 0] 63) := ⟨KC, M9.out.1⟩
            have MK8 : Hid (∀ W, (Kp w1 W ∧ W.heap[S9]? = some (.cells #[cx (A2 : Nat) (B2 : Nat), .complex .f64 0 0] 63)) → W.cell? ⟨b, 0, none⟩ = some (Value.pointer (some ⟨p.blk, 0, none⟩)) ∧ W.cell? ⟨p.blk, 3, none⟩ = some (.int .i64 (np : Nat)) ∧ W.cell? ⟨S9, 0, none⟩ = some (cx (A2 : Nat) (B2 : Nat)) ∧ W.cell? ⟨S9, 1, none⟩ = some (.complex .f64 0 0) ∧ Hid (Kp w1 W ∧ W.heap[S9]? = some (.cells #[cx (A2 : Nat) (B2 : Nat), .complex .f64 0 0] 63))) := fun W k => ⟨(IU.out.kp k.1).fork_cells.1, E.out.1 ▸ (IU.out.kp k.1).2.1.cell3, bl_cell k.2 0 _ rfl, bl_cell k.2 1 _ rfl, k⟩
            obtain ⟨r0, r1, r2, r3, _⟩ := MK8.out _ Q7
            have Q8 := drew_S Q7
            clear i8
            go_cut [6] (fun v wd => v = .int .i64 ((m : Int) + (np : Int)) ∧ wd.heap[S]? = some (.cells #[cx (A2 : Nat) (B2 : Nat), .complex .f64 0 0] 63) ∧ Kp w1 wd)
            case first =>
              go_region_held3 (fun W => W.cell? ⟨b, 0, none⟩ = some (Value.pointer (some ⟨p.blk, 0, none⟩)) ∧ W.cell? ⟨p.blk, 3, none⟩ = some (.int .i64 (np : Nat)) ∧ W.cell? ⟨S9, 0, none⟩ = some (cx (A2 : Nat) (B2 : Nat)) ∧ W.cell? ⟨S9, 1, none⟩ = some (.complex .f64 0 0) ∧ Hid (Kp w1 W ∧ W.heap[S9]? = some (.cells #[cx (A2 : Nat) (B2 : Nat), .complex .f64 0 0] 63)))
                (first | with_reducible exact MK8.out _ Q8 | with_reducible exact MK8.out _ (set_S ES.out M9.out.2 _ _ Q8) | with_reducible exact MK8.out _ (drew_S (set_S ES.out M9.out.2 _ _ Q7)))
                (first | (go_at_call 30; refine (both_any (m : Int) (np : Int) _ (by omega) (by omega) (by omega) (by omega)).mono ?_; rintro e wx ⟨rfl, rfl⟩))
              all_goals
                go_wp2_with fail
                go_meet
                case rel =>
                  refine ⟨rfl, ?_, (set_S ES.out M9.out.2 _ _ Q8).1⟩
                  exact bl_set2 MC.out _ _
            case rest =>
              obtain ⟨rfl, md, kd⟩ := hcut
              rename World => wd
              have a1 := (IU.out.kp kd).fork_cells.2.1
              have MD : Hid (wd.heap[S]? = some (.cells #[cx (A2 : Nat) (B2 : Nat), .complex .f64 0 0] 63) ∧ Kp w1 wd) := ⟨md, kd⟩
              clear md kd Q7 Q8 r0 r1 r2 r3 f0 f1 s0 s1 z9 a2
              go_wp2_with fail
              go_roundg (gk - 1)
              case measure => have := HH.out; omega
              case rel =>
                have e1 := E.out; have e2 := EA.out
                have wk := WK.out.right (by omega)
                rw [e1.1, e1.2.1, e1.2.2, e2.1, e2.2] at wk
                exact ⟨q, m + np, A2, B2, by go_num, rfl, IU.out.2.2, by have := HH.out; omega, wk, US.out.right, by have := UN.out; omega, MD.out.2, MD.out.1⟩

theorem line_none (n : Int) (w : World) :
    Calls Try.prog 13 #[rv none, .int .i64 n] w fun e w' => e = .returned (.tuple #[.int .i64 ((itemsO none).length : Nat), mk (itemsO none)]) ∧ Kp w w' := by
  obtain ⟨t, et⟩ : ∃ t : Option T, none = t := ⟨_, rfl⟩
  obtain ⟨W0, hW⟩ : ∃ W, w.alloc (.cells #[.pointer none] 24) = W := ⟨_, rfl⟩
  have HW : Hid (w.alloc (.cells #[.pointer none] 24) = W0) := hW
  have H : Hid (InO W0 t ∧ Kp w W0 ∧ none = t) := by subst hW; subst et; exact ⟨trivial, (Kp.refl _).alloc _, rfl⟩
  have m0 : W0.heap[w.heap.size]? = some (.cells #[.pointer none] 24) := by subst hW; exact last_of _ _
  have m1 : W0.heap[w.heap.size]? = some (.cells #[.pointer (pO t)] 24) := by subst et; exact m0
  have MK : Hid (∀ W, Kp W0 W → W.cell? ⟨w.heap.size, 0, none⟩ = some (.pointer (pO t)) ∧ Hid (Kp W0 W)) := fun W k => ⟨bl_cell (bl_kp m1 k) 0 _ rfl, k⟩
  clear hW m0 m1 et
  show Calls Try.prog 13 #[.agg #[.pointer none], .int .i64 n] w _
  go_enter Try.func13, Try.ntmps13
  go_wp2_with fail
  rw [HW.out]
  clear HW
  obtain ⟨c0, _⟩ := MK.out _ (Kp.refl W0)
  have Q0 : Kp W0 W0.drew := (Kp.refl _).drew
  go_region_held3 (fun W => W.cell? ⟨w.heap.size, 0, none⟩ = some (.pointer (pO t)) ∧ Hid (Kp W0 W))
    (first | with_reducible exact MK.out _ (by assumption) | with_reducible exact MK.out _ (Kp.alloc (by assumption) _))
    (first
      | (go_at_call 14; refine (len_any t _ (InO.kp H.out.1 (by assumption))).mono ?_; rintro e w2 ⟨rfl, k2⟩; have K2 : Kp W0 w2 := Kp.trans (by assumption) k2; clear k2)
      | (go_at_call 20; refine (mark_any t _ (InO.kp H.out.1 (by assumption))).mono ?_; rintro e w3 ⟨rfl, k3⟩; have K3 : Kp W0 w3 := Kp.trans (by assumption) k3; clear k3))
  all_goals
    go_wp2_with fail
    go_ret2
    exact ⟨by rw [H.out.2.2]; rfl, H.out.2.1.trans (by assumption)⟩

theorem line_far (t : T) (n : Int) (w : World) (h : In w t) (hl : (lsum It.l t.items : Int) ≤ n) (hs : Sm t.items) (hn : t.items.length ≤ 100000) :
    Calls Try.prog 13 #[rv (some t), .int .i64 n] w fun e w' => e = .returned (.tuple #[.int .i64 ((itemsO (some t)).length : Nat), mk (itemsO (some t))]) ∧ Kp w w' := by
  have b1 := hs.lines
  obtain ⟨L, eL⟩ : ∃ L, lsum It.l t.items = L := ⟨_, rfl⟩
  obtain ⟨Y, eY⟩ : ∃ Y, lsum It.y t.items = Y := ⟨_, rfl⟩
  obtain ⟨u, et⟩ : ∃ u : Option T, some t = u := ⟨_, rfl⟩
  obtain ⟨W0, hW⟩ : ∃ W, w.alloc (.cells #[Value.pointer (some ⟨t.blk, 0, none⟩)] 24) = W := ⟨_, rfl⟩
  have HW : Hid (w.alloc (.cells #[Value.pointer (some ⟨t.blk, 0, none⟩)] 24) = W0) := hW
  have kw : Kp w W0 := by subst hW; exact (Kp.refl _).alloc _
  have H : Hid (InO W0 u ∧ Kp w W0 ∧ some t = u) := by subst et; exact ⟨In.kp h kw, kw, rfl⟩
  have m0 : W0.heap[w.heap.size]? = some (.cells #[Value.pointer (some ⟨t.blk, 0, none⟩)] 24) := by subst hW; exact last_of _ _
  have m1 : W0.heap[w.heap.size]? = some (.cells #[.pointer (pO u)] 24) := by subst et; exact m0
  have MK : Hid (∀ W, Kp W0 W → W.cell? ⟨w.heap.size, 0, none⟩ = some (.pointer (pO u)) ∧ Hid (Kp W0 W)) := fun W k => ⟨bl_cell (bl_kp m1 k) 0 _ rfl, k⟩
  have HL : Hid (lsum It.l t.items = L ∧ lsum It.y t.items = Y) := ⟨eL, eY⟩
  rw [eL] at hl b1
  have bL : L ≤ 10000000 := by omega
  clear h hs hn hW kw m0 m1 eL eY b1 et
  show Calls Try.prog 13 #[.agg #[Value.pointer (some ⟨t.blk, 0, none⟩)], .int .i64 n] w _
  go_enter Try.func13, Try.ntmps13
  go_wp2_with fail
  rw [HW.out]
  clear HW
  refine (mark_any (some t) _ (by have := H.out.1; rw [← H.out.2.2] at this; exact this)).mono ?_
  rintro e w1 ⟨rfl, k1⟩
  simp only [itemsO]
  rw [show mk t.items = cx (L : Nat) (Y : Nat) from by show cx (lsum It.l t.items : Nat) (lsum It.y t.items : Nat) = _; rw [HL.out.1, HL.out.2]]
  have K1 : Kp W0 w1 := k1
  clear k1
  go_wp2_with fail
  refine (lines_any (L : Int) (Y : Int) _ (small (by omega) (by omega))).mono ?_
  rintro e w1 ⟨rfl, rfl⟩
  go_wp2_with fail
  obtain ⟨c0, _⟩ := MK.out _ K1
  have Q0 : Kp W0 w1.drew := K1.drew
  go_region_held3 (fun W => W.cell? ⟨w.heap.size, 0, none⟩ = some (.pointer (pO u)) ∧ Hid (Kp W0 W))
    (first | with_reducible exact MK.out _ (by assumption) | with_reducible exact MK.out _ (Kp.alloc (by assumption) _))
    (first
      | (go_at_call 14; refine (len_any u _ (InO.kp H.out.1 (by assumption))).mono ?_; rintro e w2 ⟨rfl, k2⟩; have K2 : Kp W0 w2 := Kp.trans (by assumption) k2; clear k2)
      | (go_at_call 20; refine (mark_any u _ (InO.kp H.out.1 (by assumption))).mono ?_; rintro e w3 ⟨rfl, k3⟩; have K3 : Kp W0 w3 := Kp.trans (by assumption) k3; clear k3))
  all_goals
    go_wp2_with fail
    go_ret2
    exact ⟨by rw [H.out.2.2]; rfl, H.out.2.1.trans (by assumption)⟩

theorem line_any (t : Option T) (n : Int) (w : World) (h : InO w t) (hn : (itemsO t).length ≤ 100000) (hs : Sm (itemsO t)) :
    Calls Try.prog 13 #[rv t, .int .i64 n] w fun e w' => e = .returned (.tuple #[.int .i64 (place n (itemsO t) : Nat), mk ((itemsO t).take (place n (itemsO t)))]) ∧ Kp w w' := by
  cases t with
  | none => exact line_none n w
  | some t =>
    by_cases hl : n < (lsum It.l t.items : Int)
    · exact line_walk t n w h hn hs hl
    · have e := place_none t.items n (by omega)
      show Calls Try.prog 13 _ w fun e w' => e = .returned (.tuple #[.int .i64 (place n t.items : Nat), mk (t.items.take (place n t.items))]) ∧ Kp w w'
      rw [e, List.take_length]
      exact line_far t n w h (by omega) hs hn
end Go.Proofs.Ytjphjnpcpbenlaa
