/-
  How the bytes of a set stand in a bracket: the walk.
-/
import Derived.Test.YtikmgckefbjbkaaGreatDoorRow2
namespace Go.Proofs.YtikmgckefbjbkaaGreatDoor
open Go.RowKit

theorem Kp.grownby {a b c : World} {row : Option Nat} (h : Kp a b) (g : b.grownBy c row) (hr : ∀ k, row = some k → a.heap.size ≤ k) : Kp a c :=
  ⟨g.os.trans h.os, g.tape.trans h.tape, g.output.trans h.output, Nat.le_trans h.size g.size, fun x hx => (g.block x (Nat.lt_of_lt_of_le hx h.size) (fun e => by have := hr x e.symm; omega)).trans (h.block x hx)⟩
theorem Ow.lt {base : Nat} {w : World} {v : Value} {l : List Nat} (h : Ow base w v l) : ∀ b, v.ownBlock = some b → base ≤ b ∧ b < w.heap.size := World.ownsRow.lt h
theorem Ow.len {base : Nat} {w : World} {v : Value} {l : List Nat} (h : Ow base w v l) : ∃ ad c, v = .slice ad l.length c := by
  rcases h.2 with ⟨rfl, h0⟩ | ⟨g, cap, cur, rfl, _⟩
  · exact ⟨none, 0, by rw [h0]⟩
  · exact ⟨_, cap, rfl⟩
theorem Off.symm {u v : Value} (h : Off u v) : Off v u := fun b hb he => h b he hb
/-- The new row is off the others. -/
theorem Off.new {u v v' : Value} {base : Nat} {w : World} {l : List Nat} (h : Off v u) (hu : Ow base w u l) (hn : v'.ownBlock = v.ownBlock ∨ v'.ownBlock = some (w.heap.size + 1)) : Off v' u := by
  intro b hb
  rcases hn with hn | hn
  · rw [hn] at hb; exact h b hb
  · rw [hn] at hb
    injection hb with hb
    intro he
    have := (hu.lt b he).2
    omega
theorem filt_yes (q : Nat → Bool) (l : List Nat) (k x : Nat) (hx : l[k]? = some x) (hq : q x = true) : (l.take (k + 1)).filter q = (l.take k).filter q ++ [x] := by
  have hk : k < l.length := (List.getElem?_eq_some_iff.1 hx).1
  rw [List.take_succ_eq_append_getElem hk, List.filter_append, (List.getElem?_eq_some_iff.1 hx).2]
  simp [hq]
theorem filt_no (q : Nat → Bool) (l : List Nat) (k x : Nat) (hx : l[k]? = some x) (hq : q x = false) : (l.take (k + 1)).filter q = (l.take k).filter q := by
  have hk : k < l.length := (List.getElem?_eq_some_iff.1 hx).1
  rw [List.take_succ_eq_append_getElem hk, List.filter_append, (List.getElem?_eq_some_iff.1 hx).2]
  simp [hq]

/-- In the loop: the four rows. -/
structure Qr (p : Nat → Bool) (W1 : World) (k : Nat) (f m c d : Value) (wr : World) : Prop where
  of : Ow W1.heap.size wr f (((lst p 256).take k).filter (· == 93))
  om : Ow W1.heap.size wr m (((lst p 256).take k).filter mid)
  oc : Ow W1.heap.size wr c (((lst p 256).take k).filter (· == 94))
  od : Ow W1.heap.size wr d (((lst p 256).take k).filter (· == 45))
  fm : Off f m
  fc : Off f c
  fd : Off f d
  mc : Off m c
  md : Off m d
  cd : Off c d
  kp : Kp W1 wr
theorem filt_len (q : Nat → Bool) (p : Nat → Bool) (k : Nat) : (((lst p 256).take k).filter q).length ≤ 256 :=
  Nat.le_trans (List.length_filter_le _ _) (Nat.le_trans (by rw [List.length_take]; exact Nat.min_le_right _ _) (lst_len p 256))

set_option maxHeartbeats 2000000 in
set_option maxRecDepth 100000 in
theorem bracketRow_any (p : Nat → Bool) (w : World) : Calls Tryz.prog 56 #[sv p] w fun e w' => e = .returned (.string (bs (rowT p))) ∧ Kp w w' := by
  go_enter Tryz.func56, Tryz.ntmps56
  go_wp2_with fail
  refine (bytes_any p _).mono ?_
  rintro e W1 ⟨bv, rfl, hown, k1⟩
  have K1 : Hid (Kp w W1) := ((Kp.refl _).alloc _).trans k1
  have OB : Hid (Ow 0 W1 bv (lst p 256)) := by
    obtain ⟨_, q2⟩ := hown
    refine ⟨by simp, ?_⟩
    rcases q2 with q2 | ⟨g, cap, cur, q3, q4, q5⟩
    · exact .inl q2
    · exact .inr ⟨g, cap, cur, q3, Nat.zero_le _, q5⟩
  clear hown k1
  obtain ⟨ad, cap, hbv⟩ := OB.out.len
  obtain ⟨L, hL⟩ : ∃ L, (lst p 256).length = L := ⟨_, rfl⟩
  have hL256 : L ≤ 256 := by rw [← hL]; exact lst_len p 256
  have HL := hid hL
  rw [hL] at hbv
  clear hL
  subst hbv
  go_wp2_with fail
  go_loopg [3, 4, 5, 6, 12] L (fun gg f m c d i wr => ∃ k : Nat, k + gg = L ∧ i = .int .i64 (k : Int) ∧ Qr p W1 k f m c d wr)
  case atStart => exact ⟨0, by omega, rfl, World.ownsRow_nil _ _ _ _, World.ownsRow_nil _ _ _ _, World.ownsRow_nil _ _ _ _, World.ownsRow_nil _ _ _ _, (fun b hb => by cases hb), (fun b hb => by cases hb), (fun b hb => by cases hb), (fun b hb => by cases hb), (fun b hb => by cases hb), (fun b hb => by cases hb), Kp.refl _⟩
  case round =>
    obtain ⟨k, hk, rfl, hq⟩ := hrel
    have Q := hid hq
    clear hq
    by_cases hlt : k < L
    · have gkw : IntKind.i64.wrap ((k : Int) + 1) = (k : Int) + 1 := by rw [IntKind.wrap_i64]; omega
      have ga : (k : Int) < (L : Int) := by omega
      have g0 : (0 : Int) ≤ (k : Int) := by omega
      obtain ⟨x, hx⟩ : ∃ x, (lst p 256)[k]? = some x := ⟨_, List.getElem?_eq_getElem (by rw [HL.out]; exact hlt)⟩
      have hx256 : x < 256 := lst_lt p 256 x (List.mem_of_getElem? hx)
      obtain ⟨gb, cap', hbv, hcell⟩ := (OB.out.kp Q.out.kp).at k x hx
      injection hbv with hbv1 hbv2 hbv3
      subst hbv1
      have HX := hid hx
      have hsr := Q.out.kp.size
      clear hx hbv2 hbv3
      by_cases x93 : x = 93
      · subst x93
        rw [show ((93 : Nat) : Int) = 93 from rfl] at hcell
        have OW := hid Q.out.of
        have FL := filt_len (· == 93) p k
        go_wp2_with (at_builtin; go_must (refine wpList_append_b wr (by rfl) _ _ (by rfl) W1.heap.size u3 93 _ (by rfl) OW _ (by rfl) (by rfl) ?h1 ?h2 ?_))
        case h1 => omega
        case h2 => omega
        intro v' w2 ho2 hg2 hat2
        have NX : Hid (Qr p W1 (k + 1) v' u4 u5 u6 w2) := by
          exact ⟨by rw [filt_yes _ _ _ _ HX.out (by rfl)]; exact ho2, by rw [filt_no _ _ _ _ HX.out (by rfl)]; exact Q.out.om.turn hg2 (fun b hb he => Q.out.fm b he hb), by rw [filt_no _ _ _ _ HX.out (by show ((93 : Nat) == 94) = false; rfl)]; exact Q.out.oc.turn hg2 (fun b hb he => Q.out.fc b he hb), by rw [filt_no _ _ _ _ HX.out (by show ((93 : Nat) == 45) = false; rfl)]; exact Q.out.od.turn hg2 (fun b hb he => Q.out.fd b he hb), Q.out.fm.new Q.out.om hat2, Q.out.fc.new Q.out.oc hat2, Q.out.fd.new Q.out.od hat2, Q.out.mc, Q.out.md, Q.out.cd, Q.out.kp.grownby hg2 (fun b hb => (Q.out.of.lt b hb).1)⟩
        clear ho2 hg2 hat2 OW FL
        go_wp2_with fail
        go_roundg (gk - 1)
        case measure => omega
        case rel => exact ⟨k + 1, by omega, by go_num, NX.out⟩
      by_cases x94 : x = 94
      · subst x94
        rw [show ((94 : Nat) : Int) = 94 from rfl] at hcell
        have OW := hid Q.out.oc
        have FL := filt_len (· == 94) p k
        go_wp2_with (at_builtin; go_must (refine wpList_append_b wr (by rfl) _ _ (by rfl) W1.heap.size u5 94 _ (by rfl) OW _ (by rfl) (by rfl) ?h1 ?h2 ?_))
        case h1 => omega
        case h2 => omega
        intro v' w2 ho2 hg2 hat2
        have NX : Hid (Qr p W1 (k + 1) u3 u4 v' u6 w2) := by
          exact ⟨by rw [filt_no _ _ _ _ HX.out (by show ((94 : Nat) == 93) = false; rfl)]; exact Q.out.of.turn hg2 (fun b hb he => Q.out.fc.symm b he hb), by rw [filt_no _ _ _ _ HX.out (by rfl)]; exact Q.out.om.turn hg2 (fun b hb he => Q.out.mc.symm b he hb), by rw [filt_yes _ _ _ _ HX.out (by rfl)]; exact ho2, by rw [filt_no _ _ _ _ HX.out (by show ((94 : Nat) == 45) = false; rfl)]; exact Q.out.od.turn hg2 (fun b hb he => Q.out.cd b he hb), Q.out.fm, (Q.out.fc.symm.new Q.out.of hat2).symm, Q.out.fd, (Q.out.mc.symm.new Q.out.om hat2).symm, Q.out.md, Q.out.cd.new Q.out.od hat2, Q.out.kp.grownby hg2 (fun b hb => (Q.out.oc.lt b hb).1)⟩
        clear ho2 hg2 hat2 OW FL
        go_wp2_with fail
        go_roundg (gk - 1)
        case measure => omega
        case rel => exact ⟨k + 1, by omega, by go_num, NX.out⟩
      by_cases x45 : x = 45
      · subst x45
        rw [show ((45 : Nat) : Int) = 45 from rfl] at hcell
        have OW := hid Q.out.od
        have FL := filt_len (· == 45) p k
        go_wp2_with (at_builtin; go_must (refine wpList_append_b wr (by rfl) _ _ (by rfl) W1.heap.size u6 45 _ (by rfl) OW _ (by rfl) (by rfl) ?h1 ?h2 ?_))
        case h1 => omega
        case h2 => omega
        intro v' w2 ho2 hg2 hat2
        have NX : Hid (Qr p W1 (k + 1) u3 u4 u5 v' w2) := by
          exact ⟨by rw [filt_no _ _ _ _ HX.out (by show ((45 : Nat) == 93) = false; rfl)]; exact Q.out.of.turn hg2 (fun b hb he => Q.out.fd.symm b he hb), by rw [filt_no _ _ _ _ HX.out (by rfl)]; exact Q.out.om.turn hg2 (fun b hb he => Q.out.md.symm b he hb), by rw [filt_no _ _ _ _ HX.out (by show ((45 : Nat) == 94) = false; rfl)]; exact Q.out.oc.turn hg2 (fun b hb he => Q.out.cd.symm b he hb), by rw [filt_yes _ _ _ _ HX.out (by rfl)]; exact ho2, Q.out.fm, Q.out.fc, (Q.out.fd.symm.new Q.out.of hat2).symm, Q.out.mc, (Q.out.md.symm.new Q.out.om hat2).symm, (Q.out.cd.symm.new Q.out.oc hat2).symm, Q.out.kp.grownby hg2 (fun b hb => (Q.out.od.lt b hb).1)⟩
        clear ho2 hg2 hat2 OW FL
        go_wp2_with fail
        go_roundg (gk - 1)
        case measure => omega
        case rel => exact ⟨k + 1, by omega, by go_num, NX.out⟩
      have g93 : ((x : Int) == 93) = false := by simp; omega
      have g94 : ((x : Int) == 94) = false := by simp; omega
      have g45 : ((x : Int) == 45) = false := by simp; omega
      have OW := hid Q.out.om
      have FL := filt_len mid p k
      go_wp2_with (at_builtin; go_must (refine wpList_append_b wr (by rfl) _ _ (by rfl) W1.heap.size u4 x _ (by rfl) OW _ (by rfl) (by rfl) ?h1 ?h2 ?_))
      case h1 => omega
      case h2 => omega
      intro v' w2 ho2 hg2 hat2
      have NX : Hid (Qr p W1 (k + 1) u3 v' u5 u6 w2) := by
        exact ⟨by rw [filt_no _ _ _ _ HX.out (by show (x == 93) = false; simp; omega)]; exact Q.out.of.turn hg2 (fun b hb he => Q.out.fm.symm b he hb), by rw [filt_yes _ _ _ _ HX.out (by show (!(x == 93) && !(x == 94) && !(x == 45)) = true; simp; omega)]; exact ho2, by rw [filt_no _ _ _ _ HX.out (by show (x == 94) = false; simp; omega)]; exact Q.out.oc.turn hg2 (fun b hb he => Q.out.mc b he hb), by rw [filt_no _ _ _ _ HX.out (by show (x == 45) = false; simp; omega)]; exact Q.out.od.turn hg2 (fun b hb he => Q.out.md b he hb), (Q.out.fm.symm.new Q.out.of hat2).symm, Q.out.fc, Q.out.fd, Q.out.mc.new Q.out.oc hat2, Q.out.md.new Q.out.od hat2, Q.out.cd, Q.out.kp.grownby hg2 (fun b hb => (Q.out.om.lt b hb).1)⟩
      clear ho2 hg2 hat2 OW FL
      go_wp2_with fail
      go_roundg (gk - 1)
      case measure => omega
      case rel => exact ⟨k + 1, by omega, by go_num, NX.out⟩
    · have ga : ¬ (k : Int) < (L : Int) := by omega
      have hkL : k = L := by omega
      have tk : (lst p 256).take k = lst p 256 := List.take_of_length_le (by rw [HL.out]; omega)
      have all : ∀ (q : Nat → Bool), ∀ y ∈ ((lst p 256).take k).filter q, y < 256 := fun q y hy => lst_lt p 256 y (List.mem_of_mem_take (List.mem_filter.1 hy).1)
      have c1 := Q.out.of.conv (all _)
      have c2 := Q.out.om.conv (all _)
      have c3 := Q.out.oc.conv (all _)
      have c4 := Q.out.od.conv (all _)
      have z : ∀ (q : Nat → Bool), (bs (u8s (((lst p 256).take k).filter q))).size ≤ 256 := fun q => by rw [bs_size]; unfold u8s; rw [List.length_map]; exact filt_len q p k
      have z1 := z (· == 93)
      have z2 := z mid
      have z3 := z (· == 94)
      have z4 := z (· == 45)
      have E0 : Hid (bs (rowT p) = bs (u8s (((lst p 256).take k).filter (· == 93))) ++ bs (u8s (((lst p 256).take k).filter mid)) ++ bs (u8s (((lst p 256).take k).filter (· == 94))) ++ bs (u8s (((lst p 256).take k).filter (· == 45)))) := by
        show _ = _
        rw [tk, bs_app, bs_app, bs_app]
        rfl
      clear all z tk
      obtain ⟨F, hF⟩ : ∃ F, bs (u8s (((lst p 256).take k).filter (· == 93))) = F := ⟨_, rfl⟩
      obtain ⟨M, hM⟩ : ∃ F, bs (u8s (((lst p 256).take k).filter mid)) = F := ⟨_, rfl⟩
      obtain ⟨C, hC⟩ : ∃ F, bs (u8s (((lst p 256).take k).filter (· == 94))) = F := ⟨_, rfl⟩
      obtain ⟨D, hD⟩ : ∃ F, bs (u8s (((lst p 256).take k).filter (· == 45))) = F := ⟨_, rfl⟩
      rw [hF, hM, hC, hD] at E0
      rw [hF] at c1 z1
      rw [hM] at c2 z2
      rw [hC] at c3 z3
      rw [hD] at c4 z4
      have K2 := hid (K1.out.trans Q.out.kp)
      clear hF hM hC hD hkL
      go_wp2
      go_ret
      exact ⟨by rw [E0.out]; rfl, K2.out⟩
end Go.Proofs.YtikmgckefbjbkaaGreatDoor
