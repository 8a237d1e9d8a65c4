/-
  Texts of this claim: Row3, Text2, RetE, Same, Chk.
-/
import Derived.Test.YtigdmebijbaofaaGreatDoorReadDM4
import Derived.Test.YtigdmebijbaofaaGreatDoorReadDM8
import Derived.Test.YtigdmebijbaofaaGreatDoorReadDM6
import Derived.Deep.LoopGhost
/-! ### Row3 -/
namespace Go.Proofs.YtigdmebijbaofaaGreatDoor
set_option maxHeartbeats 2000000
set_option maxRecDepth 100000
open Go.RowKit
theorem Kp.grownby {a b c : World} {row : Option Nat} (h : Kp a b) (g : b.grownBy c row) (hr : ∀ k, row = some k → a.heap.size ≤ k) : Kp a c :=
 ⟨g.os.trans h.os, g.tape.trans h.tape, g.output.trans h.output, Nat.le_trans h.size g.size, fun x hx => (g.block x (Nat.lt_of_lt_of_le hx h.size) (fun e => by have := hr x e.symm; omega)).trans (h.block x hx)⟩
theorem Ow.lt {base : Nat} {w : World} {v : Value} {l : List Nat} (h : Ow base w v l) : ∀ b, v.ownBlock = some b → base ≤ b ∧ b < w.heap.size := World.ownsRow.lt h
theorem Ow.len {base : Nat} {w : World} {v : Value} {l : List Nat} (h : Ow base w v l) : ∃ ad c, v = .slice ad l.length c := by
 rcases h.2 with ⟨rfl, h0⟩ | ⟨g, cap, cur, rfl, _⟩
 ·
  exact ⟨none, 0, by rw [h0]⟩
 ·
  exact ⟨_, cap, rfl⟩
theorem Off.symm {u v : Value} (h : Off u v) : Off v u := fun b hb he => h b he hb
theorem Off.new {u v v' : Value} {base : Nat} {w : World} {l : List Nat} (h : Off v u) (hu : Ow base w u l) (hn : v'.ownBlock = v.ownBlock ∨ v'.ownBlock = some (w.heap.size + 1)) : Off v' u := by
 intro b hb
 rcases hn with hn | hn
 ·
  rw [hn] at hb; exact h b hb
 ·
  rw [hn] at hb
  injection hb with hb
  intro he
  have := (hu.lt b he).2
  omega
theorem filt_yes (q : Nat → Bool) (l : List Nat) (k x : Nat) (hx : l[k]? = some x) (hq : q x = true) : (l.take (k + 1)).filter q = (l.take k).filter q ++ [x] := by
 have hk : k < l.length := (List.getElem?_eq_some_iff.1 hx).1
 rw [List.take_succ_eq_append_getElem hk, List.filter_append, (List.getElem?_eq_some_iff.1 hx).2]
 simp [hq]
theorem filt_no (q : Nat → Bool) (l : List Nat) (k x : Nat) (hx : l[k]? = some x) (hq : q x = false) : (l.take (k + 1)).filter q = (l.take k).filter q := by
 have hk : k < l.length := (List.getElem?_eq_some_iff.1 hx).1
 rw [List.take_succ_eq_append_getElem hk, List.filter_append, (List.getElem?_eq_some_iff.1 hx).2]
 simp [hq]
structure Qr (p : Nat → Bool) (W1 : World) (k : Nat) (f m c d : Value) (wr : World) : Prop where
 of : Ow W1.heap.size wr f (((lst p 256).take k).filter (· == 93))
 om : Ow W1.heap.size wr m (((lst p 256).take k).filter mid)
 oc : Ow W1.heap.size wr c (((lst p 256).take k).filter (· == 94))
 od : Ow W1.heap.size wr d (((lst p 256).take k).filter (· == 45))
 fm : Off f m
 fc : Off f c
 fd : Off f d
 mc : Off m c
 md : Off m d
 cd : Off c d
 kp : Kp W1 wr
theorem filt_len (q : Nat → Bool) (p : Nat → Bool) (k : Nat) : (((lst p 256).take k).filter q).length ≤ 256 :=
 Nat.le_trans (List.length_filter_le _ _) (Nat.le_trans (by rw [List.length_take]; exact Nat.min_le_right _ _) (lst_len p 256))
theorem bracketRow_any (p : Nat → Bool) (w : World) : Calls Tryz.prog 158 #[sv p] w fun e w' => e = .returned (.string (bs (rowT p))) ∧ Kp w w' := by
 go_enter Tryz.func158, Tryz.ntmps158
 go_wp2_with fail
 refine (bytes_any p _).mono ?_
 rintro e W1 ⟨bv, rfl, hown, k1⟩
 have K1 : Hid (Kp w W1) := ((Kp.refl _).alloc _).trans k1
 have OB : Hid (Ow 0 W1 bv (lst p 256)) := by
  obtain ⟨_, q2⟩ := hown
  refine ⟨by simp, ?_⟩
  rcases q2 with q2 | ⟨g, cap, cur, q3, q4, q5⟩
  ·
   exact .inl q2
  ·
   exact .inr ⟨g, cap, cur, q3, Nat.zero_le _, q5⟩
 clear hown k1
 obtain ⟨ad, cap, hbv⟩ := OB.out.len
 obtain ⟨L, hL⟩ : ∃ L, (lst p 256).length = L := ⟨_, rfl⟩
 have hL256 : L ≤ 256 := by rw [← hL]; exact lst_len p 256
 have HL := hid hL
 rw [hL] at hbv
 clear hL
 subst hbv
 go_wp2_with fail
 go_loopg [3, 4, 5, 6, 12] L (fun gg f m c d i wr => ∃ k : Nat, k + gg = L ∧ i = .int .i64 (k : Int) ∧ Qr p W1 k f m c d wr)
 case atStart => exact ⟨0, by omega, rfl, World.ownsRow_nil _ _ _ _, World.ownsRow_nil _ _ _ _, World.ownsRow_nil _ _ _ _, World.ownsRow_nil _ _ _ _, (fun b hb => by cases hb), (fun b hb => by cases hb), (fun b hb => by cases hb), (fun b hb => by cases hb), (fun b hb => by cases hb), (fun b hb => by cases hb), Kp.refl _⟩
 case round =>
  obtain ⟨k, hk, rfl, hq⟩ := hrel
  have Q := hid hq
  clear hq
  by_cases hlt : k < L
  ·
   have gkw : IntKind.i64.wrap ((k : Int) + 1) = (k : Int) + 1 := by rw [IntKind.wrap_i64]; omega
   have ga : (k : Int) < (L : Int) := by omega
   have g0 : (0 : Int) ≤ (k : Int) := by omega
   obtain ⟨x, hx⟩ : ∃ x, (lst p 256)[k]? = some x := ⟨_, List.getElem?_eq_getElem (by rw [HL.out]; exact hlt)⟩
   have hx256 : x < 256 := lst_lt p 256 x (List.mem_of_getElem? hx)
   obtain ⟨gb, cap', hbv, hcell⟩ := (OB.out.kp Q.out.kp).at k x hx
   injection hbv with hbv1 hbv2 hbv3
   subst hbv1
   have HX := hid hx
   have hsr := Q.out.kp.size
   clear hx hbv2 hbv3
   by_cases x93 : x = 93
   ·
    subst x93
    rw [show ((93 : Nat) : Int) = 93 from rfl] at hcell
    have OW := hid Q.out.of
    have FL := filt_len (· == 93) p k
    go_wp2_with (at_builtin; go_must (refine wpList_append_b wr (by rfl) _ _ (by rfl) W1.heap.size u3 93 _ (by rfl) OW _ (by rfl) (by rfl) ?h1 ?h2 ?_))
    case h1 => omega
    case h2 => omega
    intro v' w2 ho2 hg2 hat2
    have NX : Hid (Qr p W1 (k + 1) v' u4 u5 u6 w2) := by
     exact ⟨by rw [filt_yes _ _ _ _ HX.out (by rfl)]; exact ho2, by rw [filt_no _ _ _ _ HX.out (by rfl)]; exact Q.out.om.turn hg2 (fun b hb he => Q.out.fm b he hb), by rw [filt_no _ _ _ _ HX.out (by show ((93 : Nat) == 94) = false; rfl)]; exact Q.out.oc.turn hg2 (fun b hb he => Q.out.fc b he hb), by rw [filt_no _ _ _ _ HX.out (by show ((93 : Nat) == 45) = false; rfl)]; exact Q.out.od.turn hg2 (fun b hb he => Q.out.fd b he hb), Q.out.fm.new Q.out.om hat2, Q.out.fc.new Q.out.oc hat2, Q.out.fd.new Q.out.od hat2, Q.out.mc, Q.out.md, Q.out.cd, Q.out.kp.grownby hg2 (fun b hb => (Q.out.of.lt b hb).1)⟩
    clear ho2 hg2 hat2 OW FL
    go_wp2_with fail
    go_roundg (gk - 1)
    case measure => omega
    case rel => exact ⟨k + 1, by omega, by go_num, NX.out⟩
   by_cases x94 : x = 94
   ·
    subst x94
    rw [show ((94 : Nat) : Int) = 94 from rfl] at hcell
    have OW := hid Q.out.oc
    have FL := filt_len (· == 94) p k
    go_wp2_with (at_builtin; go_must (refine wpList_append_b wr (by rfl) _ _ (by rfl) W1.heap.size u5 94 _ (by rfl) OW _ (by rfl) (by rfl) ?h1 ?h2 ?_))
    case h1 => omega
    case h2 => omega
    intro v' w2 ho2 hg2 hat2
    have NX : Hid (Qr p W1 (k + 1) u3 u4 v' u6 w2) := by
     exact ⟨by rw [filt_no _ _ _ _ HX.out (by show ((94 : Nat) == 93) = false; rfl)]; exact Q.out.of.turn hg2 (fun b hb he => Q.out.fc.symm b he hb), by rw [filt_no _ _ _ _ HX.out (by rfl)]; exact Q.out.om.turn hg2 (fun b hb he => Q.out.mc.symm b he hb), by rw [filt_yes _ _ _ _ HX.out (by rfl)]; exact ho2, by rw [filt_no _ _ _ _ HX.out (by show ((94 : Nat) == 45) = false; rfl)]; exact Q.out.od.turn hg2 (fun b hb he => Q.out.cd b he hb), Q.out.fm, (Q.out.fc.symm.new Q.out.of hat2).symm, Q.out.fd, (Q.out.mc.symm.new Q.out.om hat2).symm, Q.out.md, Q.out.cd.new Q.out.od hat2, Q.out.kp.grownby hg2 (fun b hb => (Q.out.oc.lt b hb).1)⟩
    clear ho2 hg2 hat2 OW FL
    go_wp2_with fail
    go_roundg (gk - 1)
    case measure => omega
    case rel => exact ⟨k + 1, by omega, by go_num, NX.out⟩
   by_cases x45 : x = 45
   ·
    subst x45
    rw [show ((45 : Nat) : Int) = 45 from rfl] at hcell
    have OW := hid Q.out.od
    have FL := filt_len (· == 45) p k
    go_wp2_with (at_builtin; go_must (refine wpList_append_b wr (by rfl) _ _ (by rfl) W1.heap.size u6 45 _ (by rfl) OW _ (by rfl) (by rfl) ?h1 ?h2 ?_))
    case h1 => omega
    case h2 => omega
    intro v' w2 ho2 hg2 hat2
    have NX : Hid (Qr p W1 (k + 1) u3 u4 u5 v' w2) := by
     exact ⟨by rw [filt_no _ _ _ _ HX.out (by show ((45 : Nat) == 93) = false; rfl)]; exact Q.out.of.turn hg2 (fun b hb he => Q.out.fd.symm b he hb), by rw [filt_no _ _ _ _ HX.out (by rfl)]; exact Q.out.om.turn hg2 (fun b hb he => Q.out.md.symm b he hb), by rw [filt_no _ _ _ _ HX.out (by show ((45 : Nat) == 94) = false; rfl)]; exact Q.out.oc.turn hg2 (fun b hb he => Q.out.cd.symm b he hb), by rw [filt_yes _ _ _ _ HX.out (by rfl)]; exact ho2, Q.out.fm, Q.out.fc, (Q.out.fd.symm.new Q.out.of hat2).symm, Q.out.mc, (Q.out.md.symm.new Q.out.om hat2).symm, (Q.out.cd.symm.new Q.out.oc hat2).symm, Q.out.kp.grownby hg2 (fun b hb => (Q.out.od.lt b hb).1)⟩
    clear ho2 hg2 hat2 OW FL
    go_wp2_with fail
    go_roundg (gk - 1)
    case measure => omega
    case rel => exact ⟨k + 1, by omega, by go_num, NX.out⟩
   have g93 : ((x : Int) == 93) = false := by simp; omega
   have g94 : ((x : Int) == 94) = false := by simp; omega
   have g45 : ((x : Int) == 45) = false := by simp; omega
   have OW := hid Q.out.om
   have FL := filt_len mid p k
   go_wp2_with (at_builtin; go_must (refine wpList_append_b wr (by rfl) _ _ (by rfl) W1.heap.size u4 x _ (by rfl) OW _ (by rfl) (by rfl) ?h1 ?h2 ?_))
   case h1 => omega
   case h2 => omega
   intro v' w2 ho2 hg2 hat2
   have NX : Hid (Qr p W1 (k + 1) u3 v' u5 u6 w2) := by
    exact ⟨by rw [filt_no _ _ _ _ HX.out (by show (x == 93) = false; simp; omega)]; exact Q.out.of.turn hg2 (fun b hb he => Q.out.fm.symm b he hb), by rw [filt_yes _ _ _ _ HX.out (by show (!(x == 93) && !(x == 94) && !(x == 45)) = true; simp; omega)]; exact ho2, by rw [filt_no _ _ _ _ HX.out (by show (x == 94) = false; simp; omega)]; exact Q.out.oc.turn hg2 (fun b hb he => Q.out.mc b he hb), by rw [filt_no _ _ _ _ HX.out (by show (x == 45) = false; simp; omega)]; exact Q.out.od.turn hg2 (fun b hb he => Q.out.md b he hb), (Q.out.fm.symm.new Q.out.of hat2).symm, Q.out.fc, Q.out.fd, Q.out.mc.new Q.out.oc hat2, Q.out.md.new Q.out.od hat2, Q.out.cd, Q.out.kp.grownby hg2 (fun b hb => (Q.out.om.lt b hb).1)⟩
   clear ho2 hg2 hat2 OW FL
   go_wp2_with fail
   go_roundg (gk - 1)
   case measure => omega
   case rel => exact ⟨k + 1, by omega, by go_num, NX.out⟩
  ·
   have ga : ¬ (k : Int) < (L : Int) := by omega
   have hkL : k = L := by omega
   have tk : (lst p 256).take k = lst p 256 := List.take_of_length_le (by rw [HL.out]; omega)
   have all : ∀ (q : Nat → Bool), ∀ y ∈ ((lst p 256).take k).filter q, y < 256 := fun q y hy => lst_lt p 256 y (List.mem_of_mem_take (List.mem_filter.1 hy).1)
   have c1 := Q.out.of.conv (all _)
   have c2 := Q.out.om.conv (all _)
   have c3 := Q.out.oc.conv (all _)
   have c4 := Q.out.od.conv (all _)
   have z : ∀ (q : Nat → Bool), (bs (u8s (((lst p 256).take k).filter q))).size ≤ 256 := fun q => by rw [bs_size]; unfold u8s; rw [List.length_map]; exact filt_len q p k
   have z1 := z (· == 93)
   have z2 := z mid
   have z3 := z (· == 94)
   have z4 := z (· == 45)
   have E0 : Hid (bs (rowT p) = bs (u8s (((lst p 256).take k).filter (· == 93))) ++ bs (u8s (((lst p 256).take k).filter mid)) ++ bs (u8s (((lst p 256).take k).filter (· == 94))) ++ bs (u8s (((lst p 256).take k).filter (· == 45)))) := by
    show _ = _
    rw [tk, bs_app, bs_app, bs_app]
    rfl
   clear all z tk
   obtain ⟨F, hF⟩ : ∃ F, bs (u8s (((lst p 256).take k).filter (· == 93))) = F := ⟨_, rfl⟩
   obtain ⟨M, hM⟩ : ∃ F, bs (u8s (((lst p 256).take k).filter mid)) = F := ⟨_, rfl⟩
   obtain ⟨C, hC⟩ : ∃ F, bs (u8s (((lst p 256).take k).filter (· == 94))) = F := ⟨_, rfl⟩
   obtain ⟨D, hD⟩ : ∃ F, bs (u8s (((lst p 256).take k).filter (· == 45))) = F := ⟨_, rfl⟩
   rw [hF, hM, hC, hD] at E0
   rw [hF] at c1 z1
   rw [hM] at c2 z2
   rw [hC] at c3 z3
   rw [hD] at c4 z4
   have K2 := hid (K1.out.trans Q.out.kp)
   clear hF hM hC hD hkL
   go_wp2
   go_ret
   exact ⟨by rw [E0.out]; rfl, K2.out⟩
def setRow (p : Nat → Bool) : List UInt8 := if rowT p = [94, 45] then [45, 94] else rowT p
def setT (p : Nat → Bool) (ere : Bool) : List UInt8 :=
 match lst p 256 with
 | [x] => byteT x ere
 | _ => if cnt (notB p) 256 = 0 then [46] else if cnt p 256 > 128 then [91, 94] ++ rowT (notB p) ++ [93] else [91] ++ setRow p ++ [93]
theorem rowT_len (p : Nat → Bool) : (rowT p).length ≤ 1024 := by
 have h := lst_len p 256
 unfold rowT u8s
 simp only [List.length_append, List.length_map]
 have a := List.length_filter_le (· == 93) (lst p 256)
 have b := List.length_filter_le mid (lst p 256)
 have c := List.length_filter_le (· == 94) (lst p 256)
 have d := List.length_filter_le (· == 45) (lst p 256)
 omega
theorem setT_many (p : Nat → Bool) (ere : Bool) (h : cnt p 256 ≠ 1) : setT p ere = if cnt (notB p) 256 = 0 then [46] else if cnt p 256 > 128 then [91, 94] ++ rowT (notB p) ++ [93] else [91] ++ setRow p ++ [93] := by
 unfold setT
 split
 ·
  rename_i x hx
  rw [← lst_length, hx] at h
  exact absurd rfl h
 ·
  rfl
theorem setT_one (p : Nat → Bool) (ere : Bool) (x : Nat) (h : lst p 256 = [x]) : setT p ere = byteT x ere := by unfold setT; rw [h]
theorem setText_any (p : Nat → Bool) (ere : Bool) (w : World) : Calls Tryz.prog 115 #[sv p, .bool ere] w fun e w' => e = .returned (.string (bs (setT p ere))) ∧ Kp w w' := by
 by_cases h1 : cnt p 256 = 1
 ·
  obtain ⟨x, hx⟩ : ∃ x, lst p 256 = [x] := List.length_eq_one_iff.1 (by rw [lst_length]; exact h1)
  have hx256 : x < 256 := lst_lt p 256 x (by rw [hx]; simp)
  have OY := hid (only_yes p x hx)
  have E : Hid (setT p ere = byteT x ere) := setT_one p ere x hx
  clear hx
  go_enter Tryz.func115, Tryz.ntmps115
  go_wp2_with fail
  refine (OY.out _).mono ?_
  rintro e W1 ⟨rfl, k1⟩
  have K1 : Hid (Kp w W1) := ((Kp.refl _).alloc _).trans k1
  clear k1
  go_wp2_with fail
  refine (byteText_any x hx256 ere _).mono ?_
  rintro e W2 ⟨rfl, k2⟩
  have K2 := hid (K1.out.trans k2)
  clear k2
  go_wp2_with fail
  go_ret
  exact ⟨by rw [E.out]; rfl, K2.out⟩
 have ON := hid (only_no p h1)
 have E0 := hid (setT_many p ere h1)
 go_enter Tryz.func115, Tryz.ntmps115
 go_upto_region 1 with fail
 refine opq (fun W0 => At W0 w.heap.size p ∧ Kp w W0) ⟨by exact At.new _ _, by exact kpt⟩ ?_
 rintro W0 ⟨xA0, xK0⟩
 have A0 := hidT xA0
 have K0 := hidT xK0
 clear xA0 xK0
 obtain ⟨x0, x1, x2, x3⟩ := A0.out.cells
 go_wp2_with fail
 refine (ON.out _).mono ?_
 rintro e W1 ⟨rfl, k1⟩
 have A1 := hid (A0.out.kp k1)
 have K1 := hid (K0.out.trans k1)
 clear k1 x0 x1 x2 x3 A0 K0
 obtain ⟨x0, x1, x2, x3⟩ := A1.out.cells
 go_wp2_with fail
 refine (not_any p _).mono ?_
 rintro e W2 ⟨rfl, k2⟩
 have A2 := hid (A1.out.kp k2)
 have K2 := hid (K1.out.trans k2)
 clear k2 x0 x1 x2 x3 A1 K1
 go_upto_region 5 with fail
 refine opq (fun W3 => At W3 w.heap.size p ∧ At W3 W2.heap.size (notB p) ∧ Kp w W3) ⟨by exact A2.out.kp kpt, by exact At.new _ _, by exact K2.out.trans kpt⟩ ?_
 rintro W3 ⟨xA3, xN3, xK3⟩
 have A3 := hidT xA3
 have N3 := hidT xN3
 have K3 := hidT xK3
 clear xA3 xN3 xK3
 clear A2 K2
 obtain ⟨y0, y1, y2, y3⟩ := N3.out.cells
 go_wp2_with fail
 refine (count_any (notB p) _).mono ?_
 rintro e W4 ⟨rfl, k4⟩
 have A4 := hid (A3.out.kp k4)
 have N4 := hid (N3.out.kp k4)
 have K4 := hid (K3.out.trans k4)
 clear k4 y0 y1 y2 y3 A3 N3 K3
 by_cases hn : cnt (notB p) 256 = 0
 ·
  have g0 : ((cnt (notB p) 256 : Int) == 0) = true := by simp; omega
  have g0' : (cnt (notB p) 256 : Int) = 0 := by omega
  have E : Hid (setT p ere = [46]) := by show _ = _; rw [E0.out, if_pos hn]
  clear hn
  go_wp2_with fail
  go_ret
  exact ⟨by rw [E.out]; rfl, K4.out⟩
 have g0 : ((cnt (notB p) 256 : Int) == 0) = false := by simp; omega
 have g0' : ¬ (cnt (notB p) 256 : Int) = 0 := by omega
 obtain ⟨x0, x1, x2, x3⟩ := A4.out.cells
 go_wp2_with fail
 refine (count_any p _).mono ?_
 rintro e W5 ⟨rfl, k5⟩
 have A5 := hid (A4.out.kp k5)
 have N5 := hid (N4.out.kp k5)
 have K5 := hid (K4.out.trans k5)
 clear k5 x0 x1 x2 x3 A4 N4 K4
 by_cases hc : cnt p 256 > 128
 ·
  have gc : (128 : Int) < (cnt p 256 : Int) := by omega
  have hz : (bs (rowT (notB p))).size ≤ 1024 := by rw [bs_size]; exact rowT_len _
  have E : Hid (bs (setT p ere) = bs [91, 94] ++ bs (rowT (notB p)) ++ bs [93]) := by show _ = _; rw [E0.out, if_neg hn, if_pos hc, bs_app, bs_app]
  obtain ⟨T, hT⟩ : ∃ T, bs (rowT (notB p)) = T := ⟨_, rfl⟩
  have HT := hid hT
  rw [hT] at hz E
  clear hT hc hn
  obtain ⟨y0, y1, y2, y3⟩ := N5.out.cells
  go_wp2_with fail
  refine (bracketRow_any (notB p) _).mono ?_
  rintro e W6 ⟨rfl, k6⟩
  rw [HT.out]
  have K6 := hid (K5.out.trans k6)
  clear k6 y0 y1 y2 y3
  go_wp2_with fail
  go_ret
  exact ⟨by rw [E.out]; rfl, K6.out⟩
 have gc : ¬ (128 : Int) < (cnt p 256 : Int) := by omega
 have E1 : Hid (setT p ere = [91] ++ setRow p ++ [93]) := by show _ = _; rw [E0.out, if_neg hn, if_neg hc]
 have hz : (bs (rowT p)).size ≤ 1024 := by rw [bs_size]; exact rowT_len _
 have tl : (bs (rowT p)).toList = rowT p := bs_toList _
 obtain ⟨T, hT⟩ : ∃ T, bs (rowT p) = T := ⟨_, rfl⟩
 have HT := hid hT
 rw [hT] at hz tl
 have TL := hid tl
 clear hT tl hc hn
 obtain ⟨x0, x1, x2, x3⟩ := A5.out.cells
 go_wp2_with fail
 refine (bracketRow_any p _).mono ?_
 rintro e W6 ⟨rfl, k6⟩
 rw [HT.out]
 have K6 := hid (K5.out.trans k6)
 clear k6 x0 x1 x2 x3
 by_cases hr : rowT p = [94, 45]
 ·
  have gt : (T.toList == [94, 45]) = true := by rw [TL.out, hr]; rfl
  have gt' : T.toList = [94, 45] := by rw [TL.out, hr]
  have E : Hid (setT p ere = [91, 45, 94, 93]) := by show _ = _; rw [E1.out]; unfold setRow; rw [if_pos hr]; rfl
  clear hr
  go_wp2_with fail
  go_ret
  exact ⟨by rw [E.out]; rfl, K6.out⟩
 ·
  have gt : (T.toList == [94, 45]) = false := by rw [TL.out]; simpa using hr
  have gt' : ¬ T.toList = [94, 45] := by rw [TL.out]; exact hr
  have E : Hid (bs (setT p ere) = bs [91] ++ T ++ bs [93]) := by show _ = _; rw [E1.out, ← HT.out]; unfold setRow; rw [if_neg hr, bs_app, bs_app]
  clear hr
  go_wp2_with fail
  go_ret
  exact ⟨by rw [E.out]; rfl, K6.out⟩
structure RetE (w0 : World) (P : Nat) (s : ByteArray) (ere : Bool) (o : Out) (e : Ending) (w' : World) : Prop where
 ex : ∃ v, e = .returned (.tuple #[v, .int .i64 (o.e : Nat)]) ∧ Ret w0 P s ere o v w'
theorem Ret.fin {w0 w2 w3 : World} {P B : Nat} {s : ByteArray} {ere : Bool} {o : Out} {v : Value} (I : Is w2 (fun b => w0.heap.size ≤ b ∧ b ≠ B) o.r v) (R : Rd w2 P s ere o.st.i o.st.n o.st.g o.st.d) (K : Ks P w0 w2) (k : Ks B w2 w3) (hP : P < w0.heap.size) (hB : w0.heap.size ≤ B) : Ret w0 P s ere o v w3 :=
 ⟨(I.ks k (fun _ hb _ => hb.2)).weak (fun _ hb _ => hb.1), R.ks k (by omega) (by omega), K.off k hB hP⟩
theorem Is.one {w : World} {ok : Nat → Prop} {r : Rx} {v : Value} {C : Nat} (h : Is w ok r v) (hc : CellsAt w C 0 v) (hok : ok C) (hl : C < w.heap.size) (k mn mx n : Int) (s : W4) : Is w ok (.mk k mn mx n s [r]) (rxv k mn mx n s (.slice (some ⟨C, 0, none⟩) 1 1)) := by
 unfold Is
 refine ⟨_, 1, 1, rfl, rfl, Nat.le_refl _, fun _ => ⟨C, 0, rfl, hok, hl, ?_⟩⟩
 unfold IsL
 exact ⟨⟨v, h, hc⟩, by unfold IsL; trivial⟩
theorem cells_new (w : World) (k mn mx m : Int) (t : W4) (ad : Option Addr) (l c : Nat) : CellsAt (w.alloc (rxo k mn mx m t (.slice ad l c))) w.heap.size 0 (rxv k mn mx m t (.slice ad l c)) := by
 intro j u hj
 rw [Nat.zero_add]
 refine bl_cell (last_of w _) j u ?_
 rw [← Array.getElem?_toList]
 exact hj
theorem qs_sz (b : Nat) (ere : Bool) : (qs b ere).2.2 ≤ 2 ∧ ((qs b ere).1 ≠ 0 → (qs b ere).2.2 = 2) := by
 unfold qs
 repeat' split
 all_goals simp
theorem sgn_sz (s : ByteArray) (ere : Bool) (i : Nat) (hi : i ≤ s.size) : i + (sgn s ere i).2.2 ≤ s.size ∧ (sgn s ere i).2.2 ≤ 2 ∧ ((sgn s ere i).1 ≠ 1 → (sgn s ere i).1 ≠ 0 → 1 ≤ (sgn s ere i).2.2) := by
 unfold sgn
 split
 ·
  exact ⟨by simpa using hi, by simp, by simp⟩
 ·
  split
  ·
   unfold quoted
   split
   ·
    exact ⟨by simpa using hi, by simp, by simp⟩
   ·
    rename_i h0
    rw [ext_size s (i + 1) (by omega)] at h0
    have := qs_sz (ch (s.extract (i + 1) s.size) 0) ere
    exact ⟨by omega, this.1, fun _ h => by rw [this.2 h]; omega⟩
  ·
   exact ⟨by simp; omega, by simp, by simp⟩
theorem take_any0 (x y z : Nat) (k mn mx m : Int) (ad : Option Addr) (l c : Nat) (s : ByteArray) (ere : Bool) (i n g d P : Nat) (w : World) (h : Rd w P s ere i n g d) (hi : i ≤ 1000000000) (hz : z ≤ 100) (hn : n ≤ 1000000000) :
  Calls Tryz.prog 229 #[.pointer (some ⟨P, 0, none⟩), .agg #[.int .i64 (x : Int), .int .u8 (y : Int), .int .i64 (z : Int)], .agg #[.int .i64 k, .int .i64 mn, .int .i64 mx, .int .i64 m, .int .u64 0, .int .u64 0, .int .u64 0, .int .u64 0, .slice ad l c]] w fun e w' => e = .returned (.tuple #[.agg #[.int .i64 k, .int .i64 mn, .int .i64 mx, .int .i64 m, .int .u64 0, .int .u64 0, .int .u64 0, .int .u64 0, .slice ad l c], .int .i64 0]) ∧ Rd w' P s ere (i + z) (n + 1) g d ∧ Ks P w w' :=
 take_any x y z k mn mx m W4.z ad l c s ere i n g d P w h hi hz hn
mutual
def sameR : Rx → Rx → Bool
 | .mk k mn mx n s ks, .mk k' mn' mx' n' s' ks' => k == k' && mn == mn' && mx == mx' && n == n' && s == s' && sameL ks ks'
def sameL : List Rx → List Rx → Bool
 | [], [] => true
 | a :: xs, b :: ys => sameR a b && sameL xs ys
 | _, _ => false
end
theorem cells_of_is {w : World} {b o : Nat} {k mn mx m : Int} {t : W4} {ad : Option Addr} {l c : Nat} (h : CellsAt w b o (rxv k mn mx m t (.slice ad l c))) : w.cell? ⟨b, o, none⟩ = some (.int .i64 k) ∧ w.cell? ⟨b, o + 1, none⟩ = some (.int .i64 mn) ∧ w.cell? ⟨b, o + 2, none⟩ = some (.int .i64 mx) ∧ w.cell? ⟨b, o + 3, none⟩ = some (.int .i64 m) ∧ w.cell? ⟨b, o + 4, none⟩ = some (.int .u64 (t.a : Int)) ∧ w.cell? ⟨b, o + 5, none⟩ = some (.int .u64 (t.b : Int)) ∧ w.cell? ⟨b, o + 6, none⟩ = some (.int .u64 (t.c : Int)) ∧ w.cell? ⟨b, o + 7, none⟩ = some (.int .u64 (t.d : Int)) ∧ w.cell? ⟨b, o + 8, none⟩ = some (.slice ad l c) :=
 ⟨h 0 _ rfl, h 1 _ rfl, h 2 _ rfl, h 3 _ rfl, h 4 _ rfl, h 5 _ rfl, h 6 _ rfl, h 7 _ rfl, h 8 _ rfl⟩
theorem eq_vv (a b c d a' b' c' d' : Int) (w : World) :
  (Op.equalIn 10000 24 (.agg #[.int .u64 a, .int .u64 b, .int .u64 c, .int .u64 d]) (.agg #[.int .u64 a', .int .u64 b', .int .u64 c', .int .u64 d'])).run Tryz.prog w = .ok (a == a' && (b == b' && (c == c' && d == d'))) w := by
 have u3 := Tryz.underlying22
 have a3 := Tryz.isAgg22
 have z3 := Tryz.sizeOf22
 rw [show (10000 : Nat) = 9999 + 1 from rfl, Op.equalIn]
 simp only [Sem.run_bind, run_underlying Tryz.underlying24, Result.andThen_ok]
 simp only [Std.Legacy.Range.forIn_eq_forIn_range', Std.Legacy.Range.size, Nat.sub_zero, Nat.add_sub_cancel, Nat.div_one, List.range'_succ, List.range'_zero, List.forIn_cons, List.forIn_nil]
 go_simp
 by_cases h1 : a = a' <;> by_cases h2 : b = b' <;> by_cases h3 : c = c' <;> by_cases h4 : d = d' <;> simp [h1, h2, h3, h4]
theorem w4_eq (t u : W4) : (t == u) = (((t.a : Int) == (u.a : Int)) && (((t.b : Int) == (u.b : Int)) && (((t.c : Int) == (u.c : Int)) && ((t.d : Int) == (u.d : Int))))) := by
 cases t with
 | mk a b c d =>
  cases u with
  | mk a' b' c' d' =>
   rw [Bool.eq_iff_iff]
   simp
   omega
structure SameSaid (a : Rx) : Prop where
 all : ∀ (b : Rx) (va vb : Value) (w : World) (ok ok' : Nat → Prop), Is w ok a va → Is w ok' b vb → Calls Tryz.prog 58 #[va, vb] w fun e w' => e = .returned (.bool (sameR a b)) ∧ Kp w w'
structure RowAt (w : World) (ok : Nat → Prop) (ts : List Rx) (ad : Option Addr) (l c : Nat) : Prop where
 ln : l = ts.length
 cp : l ≤ c
 ex : ts ≠ [] → ∃ b o, ad = some ⟨b, o, none⟩ ∧ ok b ∧ b < w.heap.size ∧ IsL w ok ts b o
theorem RowAt.kp {w w' : World} {ok : Nat → Prop} {ts : List Rx} {ad : Option Addr} {l c : Nat} (h : RowAt w ok ts ad l c) (k : Kp w w') : RowAt w' ok ts ad l c :=
 ⟨h.ln, h.cp, fun hn => by
  obtain ⟨b, o, h1, h2, h3, h4⟩ := h.ex hn
  exact ⟨b, o, h1, h2, Nat.lt_of_lt_of_le h3 k.size, IsL.turn k.size (fun b hb hl => ⟨hb, k.block b hl⟩) ts b o (k.block b h3) h4⟩⟩
theorem Is.row {w : World} {ok : Nat → Prop} {k mn mx n : Int} {s : W4} {kids : List Rx} {v : Value} (h : Is w ok (.mk k mn mx n s kids) v) : ∃ ad l c, v = rxv k mn mx n s (.slice ad l c) ∧ RowAt w ok kids ad l c := by
 unfold Is at h
 obtain ⟨ad, l, c, h1, h2, h3, h4⟩ := h
 exact ⟨ad, l, c, h1, h2, h3, h4⟩
theorem RowAt.at {w : World} {ok : Nat → Prop} {ts : List Rx} {ad : Option Addr} {l c : Nat} (h : RowAt w ok ts ad l c) (j : Nat) (t : Rx) (hj : ts[j]? = some t) : ∃ b o k mn mx m s ad' l' c', ad = some ⟨b, o, none⟩ ∧ b < w.heap.size ∧ Is w ok t (rxv k mn mx m s (.slice ad' l' c')) ∧ CellsAt w b (o + j * 9) (rxv k mn mx m s (.slice ad' l' c')) := by
 obtain ⟨b, o, h1, h2, h3, h4⟩ := h.ex (by intro hn; rw [hn] at hj; simp at hj)
 obtain ⟨v, hi, hc⟩ := h4.get j t hj
 rw [Nat.mul_comm] at hc
 obtain ⟨k, mn, mx, m, s, ad', l', c', rfl⟩ := hi.form
 exact ⟨b, o, k, mn, mx, m, s, ad', l', c', h1, h3, hi, hc⟩
theorem sameL_len : ∀ (xs ys : List Rx), xs.length ≠ ys.length → sameL xs ys = false
 | [], [], h => absurd rfl h
 | [], _ :: _, _ => by simp [sameL]
 | _ :: _, [], _ => by simp [sameL]
 | a :: xs, b :: ys, h => by
  rw [sameL, sameL_len xs ys (by simpa using h), Bool.and_false]
theorem sameL_all : ∀ (xs ys : List Rx), xs.length = ys.length → (∀ (j : Nat) a b, xs[j]? = some a → ys[j]? = some b → sameR a b = true) → sameL xs ys = true
 | [], [], _, _ => by simp [sameL]
 | [], _ :: _, h, _ => by simp at h
 | _ :: _, [], h, _ => by simp at h
 | a :: xs, b :: ys, h, hs => by
  rw [sameL, hs 0 a b rfl rfl, sameL_all xs ys (by simpa using h) (fun j c d hc hd => hs (j + 1) c d (by simpa using hc) (by simpa using hd))]
  rfl
theorem sameL_not : ∀ (xs ys : List Rx) (j : Nat) (a b : Rx), xs[j]? = some a → ys[j]? = some b → sameR a b = false → sameL xs ys = false
 | [], _, j, a, b, h, _, _ => by simp at h
 | _ :: _, [], j, a, b, _, h, _ => by simp at h
 | x :: xs, y :: ys, 0, a, b, h1, h2, h => by
  simp at h1 h2
  subst h1; subst h2
  rw [sameL, h, Bool.false_and]
 | x :: xs, y :: ys, j + 1, a, b, h1, h2, h => by
  rw [sameL, sameL_not xs ys j a b (by simpa using h1) (by simpa using h2) h, Bool.and_false]
theorem equal_any (xs ys : List Rx) (H : ∀ a, a ∈ xs → SameSaid a) (ok ok' : Nat → Prop) (ad ad' : Option Addr) (l c l' c' : Nat) (w : World) (h1 : RowAt w ok xs ad l c) (h2 : RowAt w ok' ys ad' l' c') (hl : xs.length ≤ 1000000) :
  Calls Tryz.prog 105 #[.slice ad l c, .slice ad' l' c', .func (.func 58) #[] #[]] w fun e w' => e = .returned (.bool (sameL xs ys)) ∧ Kp w w' := by
 have e1 := h1.ln
 have e2 := h2.ln
 subst e1
 subst e2
 have hlc := h1.cp
 have hlc' := h2.cp
 have R1 := hid h1
 have R2 := hid h2
 have HH := hid H
 clear h1 h2 H
 by_cases hne : xs.length = ys.length
 ·
  obtain ⟨L, hL1⟩ : ∃ L, xs.length = L := ⟨_, rfl⟩
  have hL2 : ys.length = L := hne.symm.trans hL1
  rw [hL1] at R1 hlc hl ⊢
  rw [hL2] at R2 hlc' ⊢
  have HL1 := hid hL1
  have HL2 := hid hL2
  have HNE := hid hne
  clear hL1 hL2 hne
  go_enter Tryz.func105, Tryz.ntmps105
  go_wp2_with fail
  go_loopg [17] L (fun gg v wr => ∃ k : Nat, k + gg = L ∧ v = .int .i64 (k : Int) ∧ (∀ (j : Nat) a b, j < k → xs[j]? = some a → ys[j]? = some b → sameR a b = true) ∧ Kp w wr)
  case atStart => exact ⟨0, by omega, rfl, fun j a b hj => absurd hj (by omega), Kp.refl _⟩
  case round =>
   obtain ⟨k, hk, rfl, hall, hK⟩ := hrel
   have HA := hid hall
   have K0 := hid hK
   clear hall hK
   by_cases hlt : k < L
   ·
    have gkw : IntKind.i64.wrap ((k : Int) + 1) = (k : Int) + 1 := by rw [IntKind.wrap_i64]; omega
    have ga : (k : Int) < (L : Int) := by omega
    have g0 : (0 : Int) ≤ (k : Int) := by omega
    obtain ⟨a, ha⟩ : ∃ a, xs[k]? = some a := ⟨_, List.getElem?_eq_getElem (by rw [HL1.out]; exact hlt)⟩
    obtain ⟨b, hb⟩ : ∃ b, ys[k]? = some b := ⟨_, List.getElem?_eq_getElem (by rw [HL2.out]; exact hlt)⟩
    obtain ⟨bb1, o1, k1, mn1, mx1, m1, s1, ad1, l1, c1, e1, hb1, i1, ce1⟩ := (R1.out.kp K0.out).at k a ha
    obtain ⟨bb2, o2, k2, mn2, mx2, m2, s2, ad2, l2, c2, e2, hb2, i2, ce2⟩ := (R2.out.kp K0.out).at k b hb
    subst e1
    subst e2
    have SA := hid ((HH.out a (List.mem_of_getElem? ha)).all b (rxv k1 mn1 mx1 m1 s1 (.slice ad1 l1 c1)) (rxv k2 mn2 mx2 m2 s2 (.slice ad2 l2 c2)))
    have HXA := hid ha
    have HXB := hid hb
    have I1 := hid i1
    have I2 := hid i2
    have CE1 := hid ce1
    have CE2 := hid ce2
    clear ha hb i1 i2 ce1 ce2
    obtain ⟨x0, x1, x2, x3, x4, x5, x6, x7, x8⟩ := cells_of_is CE1.out
    go_upto_region 6 with fail
    clear x0 x1 x2 x3 x4 x5 x6 x7 x8
    refine opq (fun W => W.heap[wr.heap.size]? = some (rxo k1 mn1 mx1 m1 s1 (.slice ad1 l1 c1)) ∧ Kp wr W) ⟨by exact last_at _ _ _ (by simp), by exact (Kp.refl _).alloc _⟩ ?_
    rintro W1 ⟨y1, y2⟩
    have A1 := hid y1
    have K1 := hid y2
    clear y1 y2
    have CE3 := hid (CE2.out.turn (K1.out.block _ hb2))
    obtain ⟨x0, x1, x2, x3, x4, x5, x6, x7, x8⟩ := cells_of_is CE3.out
    go_upto_region 7 with fail
    clear x0 x1 x2 x3 x4 x5 x6 x7 x8
    refine opq (fun W => W.heap[wr.heap.size]? = some (rxo k1 mn1 mx1 m1 s1 (.slice ad1 l1 c1)) ∧ W.heap[W1.heap.size]? = some (rxo k2 mn2 mx2 m2 s2 (.slice ad2 l2 c2)) ∧ Kp wr W) ⟨by exact bl_alloc A1.out _, by exact last_at _ _ _ (by simp), by exact K1.out.alloc _⟩ ?_
    rintro W2 ⟨y1, y2, y3⟩
    have A2 := hid y1
    have B2 := hid y2
    have K2 := hid y3
    clear y1 y2 y3 A1 K1 CE1 CE2 CE3
    obtain ⟨a0, a1, a2, a3, a4, a5, a6, a7, a8⟩ := cells9 (A2.out)
    obtain ⟨b0, b1, b2, b3, b4, b5, b6, b7, b8⟩ := cells9 (B2.out)
    go_wp2_with fail
    clear a0 a1 a2 a3 a4 a5 a6 a7 a8 b0 b1 b2 b3 b4 b5 b6 b7 b8
    refine (SA.out _ ok ok' (I1.out.kp K2.out) (I2.out.kp K2.out)).mono ?_
    rintro e W3 ⟨rfl, k3⟩
    have K3 := hid (K0.out.trans (K2.out.trans k3))
    clear k3
    cases hsm : sameR a b with
    | false =>
     have E : Hid (sameL xs ys = false) := sameL_not xs ys k a b HXA.out HXB.out hsm
     clear hsm
     go_wp2_with fail
     go_ret
     exact ⟨ret_bool E.out.symm, K3.out⟩
    | true =>
     have NX : Hid (∀ (j : Nat) a b, j < k + 1 → xs[j]? = some a → ys[j]? = some b → sameR a b = true) := by
      intro j a' b' hj h1 h2
      by_cases hjk : j < k
      ·
       exact HA.out j a' b' hjk h1 h2
      ·
       obtain rfl : j = k := by omega
       have e1 := HXA.out.symm.trans h1
       have e2 := HXB.out.symm.trans h2
       injection e1 with e1
       injection e2 with e2
       subst e1
       subst e2
       exact hsm
     clear hsm
     go_wp2_with fail
     go_roundg (gk - 1)
     case measure => omega
     case rel => exact ⟨k + 1, by omega, by go_num, NX.out, K3.out⟩
   ·
    have ga : ¬ (k : Int) < (L : Int) := by omega
    have E : Hid (sameL xs ys = true) := sameL_all xs ys HNE.out (fun j a b h1 h2 => HA.out j a b (by have := (List.getElem?_eq_some_iff.1 h1).1; rw [HL1.out] at this; omega) h1 h2)
    go_wp2
    go_ret
    exact ⟨ret_bool E.out.symm, K0.out⟩
 ·
  have gn : ((xs.length : Int) != (ys.length : Int)) = true := by simp; omega
  have E : Hid (sameL xs ys = false) := sameL_len xs ys hne
  go_enter Tryz.func105, Tryz.ntmps105
  go_wp2
  go_ret
  exact ⟨ret_bool E.out.symm, Kp.refl _⟩
theorem same_step (k mn mx n : Int) (s : W4) (kids : List Rx) (H : ∀ a, a ∈ kids → SameSaid a) (hl : kids.length ≤ 1000000) : SameSaid (.mk k mn mx n s kids) := by
 refine ⟨fun b va vb w ok ok' hia hib => ?_⟩
 cases b with
 | mk k' mn' mx' n' s' kids' =>
  obtain ⟨ad, l, c, rfl, ra⟩ := hia.row
  obtain ⟨ad', l', c', rfl, rb⟩ := hib.row
  have RA := hid ra
  have RB := hid rb
  have HH := hid H
  clear ra rb hia hib H
  have e0 : Hid (sameR (.mk k mn mx n s kids) (.mk k' mn' mx' n' s' kids') = (k == k' && mn == mn' && mx == mx' && n == n' && s == s' && sameL kids kids')) := by show _ = _; rw [sameR]
  have es : ∀ w, (Op.equalIn 10000 24 (.agg #[.int .u64 (s.a : Int), .int .u64 (s.b : Int), .int .u64 (s.c : Int), .int .u64 (s.d : Int)]) (.agg #[.int .u64 (s'.a : Int), .int .u64 (s'.b : Int), .int .u64 (s'.c : Int), .int .u64 (s'.d : Int)])).run Tryz.prog w = .ok (s == s') w := fun w => by rw [eq_vv, w4_eq]
  obtain ⟨q5, hq5⟩ : ∃ q, (s == s') = q := ⟨_, rfl⟩
  rw [hq5] at es e0
  clear hq5
  go_enter Tryz.func58, Tryz.ntmps58
  go_upto_region 1 with fail
  refine opq (fun W => W.heap[w.heap.size]? = some (rxo k mn mx n s (.slice ad l c)) ∧ W.heap[w.heap.size + 1]? = some (rxo k' mn' mx' n' s' (.slice ad' l' c')) ∧ Kp w W) ⟨by exact bl_alloc (last_of _ _) _, by exact last_at _ _ _ (by simp), by exact ((Kp.refl _).alloc _).alloc _⟩ ?_
  rintro W0 ⟨y1, y2, y3⟩
  have A := hid y1
  have B := hid y2
  have K := hid y3
  clear y1 y2 y3
  obtain ⟨a0, a1, a2, a3, a4, a5, a6, a7, a8⟩ := cells9 (A.out)
  obtain ⟨b0, b1, b2, b3, b4, b5, b6, b7, b8⟩ := cells9 (B.out)
  cases h1 : (k == k') with
  | false =>
   have E : Hid (sameR (.mk k mn mx n s kids) (.mk k' mn' mx' n' s' kids') = false) := by show _ = _; rw [e0.out]; simp [h1]
   go_wp2
   go_ret
   exact ⟨ret_bool E.out.symm, K.out⟩
  | true =>
  cases h2 : (mn == mn') with
  | false =>
   have E : Hid (sameR (.mk k mn mx n s kids) (.mk k' mn' mx' n' s' kids') = false) := by show _ = _; rw [e0.out]; simp [h2]
   go_wp2
   go_ret
   exact ⟨ret_bool E.out.symm, K.out⟩
  | true =>
  cases h3 : (mx == mx') with
  | false =>
   have E : Hid (sameR (.mk k mn mx n s kids) (.mk k' mn' mx' n' s' kids') = false) := by show _ = _; rw [e0.out]; simp [h3]
   go_wp2
   go_ret
   exact ⟨ret_bool E.out.symm, K.out⟩
  | true =>
  cases h4 : (n == n') with
  | false =>
   have E : Hid (sameR (.mk k mn mx n s kids) (.mk k' mn' mx' n' s' kids') = false) := by show _ = _; rw [e0.out]; simp [h4]
   go_wp2
   go_ret
   exact ⟨ret_bool E.out.symm, K.out⟩
  | true =>
  cases q5 with
  | false =>
   have E : Hid (sameR (.mk k mn mx n s kids) (.mk k' mn' mx' n' s' kids') = false) := by show _ = _; rw [e0.out]; simp
   go_wp2
   go_ret
   exact ⟨ret_bool E.out.symm, K.out⟩
  | true =>
  have E : Hid (sameR (.mk k mn mx n s kids) (.mk k' mn' mx' n' s' kids') = sameL kids kids') := by show _ = _; rw [e0.out]; simp [h1, h2, h3, h4]
  go_wp2_with fail
  refine (equal_any kids kids' HH.out ok ok' ad ad' l c l' c' _ (RA.out.kp K.out) (RB.out.kp K.out) hl).mono ?_
  rintro e W1 ⟨rfl, k1⟩
  have K1 := hid (K.out.trans k1)
  clear k1
  go_wp2_with fail
  go_ret
  exact ⟨ret_bool E.out.symm, K1.out⟩
def RxFit : Rx → Prop
 | .mk _ _ _ _ _ kids => kids.length ≤ 1000000 ∧ ∀ a, a ∈ kids → RxFit a
termination_by r => SizeOf.sizeOf r
decreasing_by
 have := List.sizeOf_lt_of_mem (by assumption)
 simp
 omega
theorem same_all : ∀ a, RxFit a → SameSaid a
 | .mk k mn mx n s kids, h => by
  unfold RxFit at h
  exact same_step k mn mx n s kids (fun a ha => same_all a (h.2 a ha)) h.1
termination_by a => SizeOf.sizeOf a
decreasing_by
 have := List.sizeOf_lt_of_mem ha
 simp
 omega
theorem same_any (a b : Rx) (va vb : Value) (w : World) (ok ok' : Nat → Prop) (hf : RxFit a) (ha : Is w ok a va) (hb : Is w ok' b vb) : Calls Tryz.prog 58 #[va, vb] w fun e w' => e = .returned (.bool (sameR a b)) ∧ Kp w w' := (same_all a hf).all b va vb w ok ok' ha hb
def kidsFit (k : Int) (n : Nat) : Bool := if k = 2 then n != 1 else if k = 3 then decide (2 ≤ n) else if k = 4 ∨ k = 5 then n == 1 else n == 0
def leanB : Rx → Bool
 | .mk k mn mx n s kids => (if k = 4 then true else mn == 0 && mx == 0) && (if k = 5 ∨ k = 6 then true else n == 0) && (if k = 1 then true else s == W4.z) && kidsFit k kids.length
def W4.bit (s : W4) : Nat → Bool := bitOf s.a s.b s.c s.d
structure Ck where
 n : Nat
 g : Nat
 d : Nat
mutual
def chk (ere : Bool) : Rx → Bool → Bool → Ck → Option Ck
 | .mk k mn mx n s kids, b, e, c =>
  if c.n + 1 > 40 ∨ leanB (.mk k mn mx n s kids) = false then none
  else if k = 1 then (if cnt (W4.bit s) 256 > 0 then some ⟨c.n + 1, c.g, c.d⟩ else none)
  else if k = 2 then chkCat ere kids true ⟨c.n + 1, c.g, c.d⟩
  else if k = 3 then (if ere then chkAlt ere kids ⟨c.n + 1, c.g, c.d⟩ else none)
  else if k = 4 then (if timesFit mn mx then chkRep ere kids ⟨c.n + 1, c.g, c.d⟩ else none)
  else if k = 5 then (if n ≠ (c.g + 1 : Nat) ∨ c.g + 1 > 3 ∨ c.d = 6 then none else chkGroup ere kids ⟨c.n + 1, c.g + 1, c.d + 1⟩)
  else if k = 6 then (if 1 ≤ n ∧ n ≤ (c.g : Int) then some ⟨c.n + 1, c.g, c.d⟩ else none)
  else if k = 7 then (if ere || b then some ⟨c.n + 1, c.g, c.d⟩ else none)
  else if k = 8 then (if ere || e then some ⟨c.n + 1, c.g, c.d⟩ else none)
  else none
def chkCat (ere : Bool) : List Rx → Bool → Ck → Option Ck
 | [], _, c => some c
 | r :: rs, first, c => if r.k = 2 ∨ r.k = 3 then none else match chk ere r first rs.isEmpty c with
  | none => none
  | some c' => chkCat ere rs false c'
def chkAlt (ere : Bool) : List Rx → Ck → Option Ck
 | [], c => some c
 | r :: rs, c => if r.k = 3 then none else match chk ere r false false c with
  | none => none
  | some c' => chkAlt ere rs c'
def chkRep (ere : Bool) : List Rx → Ck → Option Ck
 | r :: _, c => if mayRep r.k then chk ere r false false c else none
 | [], _ => none
def chkGroup (ere : Bool) : List Rx → Ck → Option Ck
 | r :: _, c => match chk ere r true true c with
  | none => none
  | some c' => some ⟨c'.n, c'.g, c'.d - 1⟩
 | [], _ => none
end
def right (ere : Bool) (r : Rx) : Bool := (chk ere r true true ⟨0, 0, 0⟩).isSome
abbrev cko (ere : Bool) (n g d : Nat) : Obj := .cells #[.bool ere, .int .i64 (n : Int), .int .i64 (g : Int), .int .i64 (d : Int)] 153
def Cb (w : World) (C : Nat) (ere : Bool) (n g d : Nat) : Prop := w.heap[C]? = some (cko ere n g d)
theorem Cb.kp {w w' : World} {C : Nat} {ere : Bool} {n g d : Nat} (h : Cb w C ere n g d) (k : Kp w w') : Cb w' C ere n g d := bl_kp h k
theorem Cb.cells {w : World} {C : Nat} {ere : Bool} {n g d : Nat} (h : Cb w C ere n g d) : w.cell? ⟨C, 0, none⟩ = some (.bool ere) ∧ w.cell? ⟨C, 1, none⟩ = some (.int .i64 (n : Int)) ∧ w.cell? ⟨C, 2, none⟩ = some (.int .i64 (g : Int)) ∧ w.cell? ⟨C, 3, none⟩ = some (.int .i64 (d : Int)) := ⟨bl_cell h 0 _ rfl, bl_cell h 1 _ rfl, bl_cell h 2 _ rfl, bl_cell h 3 _ rfl⟩
structure Ckd (C : Nat) (ere : Bool) (d0 : Nat) (o : Option Ck) (w : World) (e : Ending) (w' : World) : Prop where
 ex : ∃ ok, e = .returned (.bool ok) ∧ ok = o.isSome ∧ (∃ n g d, Cb w' C ere n g d ∧ n ≤ 41 ∧ g ≤ 41 ∧ d ≤ 7 ∧ d0 ≤ d ∧ ∀ c, o = some c → n = c.n ∧ g = c.g ∧ d = c.d) ∧ Ks C w w'
structure RightSaid (ere : Bool) (r : Rx) : Prop where
 all : ∀ (C : Nat) (ok : Nat → Prop) (v : Value) (b e : Bool) (n g d : Nat) (w : World), Is w ok r v → (∀ x, ok x → x ≠ C) → Cb w C ere n g d → n ≤ 40 → g ≤ n → d ≤ 6 → Calls Tryz.prog 114 #[.pointer (some ⟨C, 0, none⟩), v, .agg #[.bool b, .bool e]] w fun e' w' => Ckd C ere d (chk ere r b e ⟨n, g, d⟩) w e' w'
theorem kidsFit_any (k : Int) (n : Nat) (w : World) : Calls Tryz.prog 184 #[.int .i64 k, .int .i64 (n : Int)] w fun e w' => e = .returned (.bool (kidsFit k n)) ∧ w' = w := by
 have fin : ∀ (a b : Bool), a = b → Ending.returned (.bool a) = .returned (.bool b) := fun a b h => by rw [h]
 have FIN := hid fin
 clear fin
 by_cases k2 : k = 2
 ·
  subst k2
  have E : Hid (((n : Int) != 1) = kidsFit 2 n) := by
   show _ = _
   rw [show kidsFit 2 n = (n != 1) from rfl]
   rw [Bool.eq_iff_iff]; simp; omega
  go_enter Tryz.func184, Tryz.ntmps184
  go_wp2
  go_ret
  exact ⟨FIN.out _ _ E.out, rfl⟩
 by_cases k3 : k = 3
 ·
  subst k3
  have E : Hid ((decide (2 ≤ (n : Int))) = kidsFit 3 n) := by
   show _ = _
   rw [show kidsFit 3 n = (decide (2 ≤ n)) from rfl]
   rw [Bool.eq_iff_iff]; simp; omega
  go_enter Tryz.func184, Tryz.ntmps184
  go_wp2
  go_ret
  exact ⟨FIN.out _ _ E.out, rfl⟩
 by_cases k4 : k = 4
 ·
  subst k4
  have E : Hid (((n : Int) == 1) = kidsFit 4 n) := by
   show _ = _
   rw [show kidsFit 4 n = (n == 1) from rfl]
   rw [Bool.eq_iff_iff]; simp; omega
  go_enter Tryz.func184, Tryz.ntmps184
  go_wp2
  go_ret
  exact ⟨FIN.out _ _ E.out, rfl⟩
 by_cases k5 : k = 5
 ·
  subst k5
  have E : Hid (((n : Int) == 1) = kidsFit 5 n) := by
   show _ = _
   rw [show kidsFit 5 n = (n == 1) from rfl]
   rw [Bool.eq_iff_iff]; simp; omega
  go_enter Tryz.func184, Tryz.ntmps184
  go_wp2
  go_ret
  exact ⟨FIN.out _ _ E.out, rfl⟩
 have g2 : (k == 2) = false := by simp [k2]
 have g3 : (k == 3) = false := by simp [k3]
 have g4 : (k == 4) = false := by simp [k4]
 have g5 : (k == 5) = false := by simp [k5]
 have E : Hid (((n : Int) == 0) = kidsFit k n) := by
  show _ = _
  unfold kidsFit
  rw [if_neg k2, if_neg k3, if_neg (by omega)]
  rw [Bool.eq_iff_iff]; simp
 go_enter Tryz.func184, Tryz.ntmps184
 go_wp2
 go_ret
 exact ⟨FIN.out _ _ E.out, rfl⟩
end Go.Proofs.YtigdmebijbaofaaGreatDoor
