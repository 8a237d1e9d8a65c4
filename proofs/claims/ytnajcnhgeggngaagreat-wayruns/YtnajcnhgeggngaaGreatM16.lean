/-
  Texts of this claim: InAlt, Use50, Leaf, Step.
-/
import Derived.Test.YtnajcnhgeggngaaGreatM15
import Derived.Shelf.Strings.Prefix
import Derived.Test.YtnajcnhgeggngaaGreatM2
import Derived.Test.YtnajcnhgeggngaaGreatM10

/-! ### InAlt -/

namespace Go.Proofs.YtnajcnhgeggngaaGreat.Way
set_option maxHeartbeats 2000000
set_option maxRecDepth 100000
open Go.RowKit Go.Proofs.YtnajcnhgeggngaaGreat

theorem alt_any (ok : Nat → Prop) (ad : Option Addr) (c : Nat) (kids : List Pt) (w : World) (hK : KidS w ok ad c kids) (hP : PtsAt w ok kids) (hW : WdOk kids) (hL : kids.length ≤ 1000000) :
  Calls Tryz.prog 78 #[.slice ad kids.length c] w fun e w' => e = .returned (.agg #[.int .u8 ((kids.foldl inAltF (0, 7)).1 : Int), .int .u8 ((kids.foldl inAltF (0, 7)).2 : Int)]) ∧ Kp w w' := by
 obtain ⟨L, hLL⟩ : ∃ L, kids.length = L := ⟨_, rfl⟩
 have HL := hid hLL
 have HK := hid hK
 have HP := hid hP
 have HW := hid hW
 have hcap := hK.cap
 obtain ⟨G, hG⟩ : ∃ G, kids.foldl inAltF (0, 7) = G := ⟨_, rfl⟩
 have HG := hid hG
 rw [hG]
 rw [hLL] at hL hcap ⊢
 clear hK hP hW hLL hG
 go_enter Tryz.func78, Tryz.ntmps78
 go_upto_region 2 with fail
 refine opq (fun W0 => W0.heap[w.heap.size]? = some (uso 0 0) ∧ W0.heap[(w.heap.size + 1)]? = some (uso 0 7) ∧ Kp w W0) ⟨by exact bl_alloc (last_of _ _) _, by exact last_at _ _ _ (by simp), by exact kpt⟩ ?_
 rintro W0 ⟨xA0, xB0, xK0⟩
 have A0 := hid xA0
 have B0 := hid xB0
 have K0 := hid xK0
 clear xA0 xB0 xK0
 go_wp2_with fail
 go_loopg [9] L (fun gg i wr => ∃ (q u1 u2 : Nat), q + gg = L ∧ i = .int .i64 (q : Int) ∧ (kids.take q).foldl inAltF (0, 7) = (u1, u2) ∧ wr.heap[w.heap.size]? = some (uso 0 0) ∧ wr.heap[(w.heap.size + 1)]? = some (uso u1 u2) ∧ Kp w wr)
 case atStart => exact ⟨0, 0, 7, by omega, rfl, rfl, A0.out, B0.out, K0.out⟩
 case round =>
  obtain ⟨q, u1, u2, hq, rfl, hU, hA, hB, hK⟩ := hrel
  have HU := hid hU
  have A := hid hA
  have U := hid hB
  have K := hid hK
  clear hU hA hB hK A0 B0 K0
  by_cases hlt : q < L
  ·
   have gkw : IntKind.i64.wrap ((q : Int) + 1) = (q : Int) + 1 := by rw [IntKind.wrap_i64]; omega
   have ga : (q : Int) < (L : Int) := by omega
   have g0 : (0 : Int) ≤ (q : Int) := by omega
   obtain ⟨p, hp0⟩ : ∃ p, kids[q]? = some p := ⟨_, List.getElem?_eq_getElem (by rw [HL.out]; exact hlt)⟩
   obtain ⟨bb, rfl, -, hbb, hce⟩ := (HK.out.kp K.out).at_ (by rw [HL.out]; omega)
   have cp := hce q p hp0
   obtain ⟨k', lo', hi', n', t', kn', so', ks', ad', c', -, -, hblk, -, -⟩ := ((HP.out.get q p hp0).kp K.out).form
   have Q := hid hblk
   have hp := HW.out.get q p hp0
   have hlt2 := alt_lt (kids.take q) (0, 7) (WdOk.take kids q HW.out) (by decide) (by decide)
   rw [HU.out] at hlt2
   have HE5 : Hid (bits .or .u8 (u1 : Int) (p.rd : Int) = (((u1 ||| p.rd) : Nat) : Int)) := by show _ = _; rw [u8_or _ _ hlt2.1 hp.1]
   have HE6 : Hid (bits .and .u8 (u2 : Int) (p.st : Int) = (((u2 &&& p.st) : Nat) : Int)) := by show _ = _; rw [u8_and _ _ hlt2.2 hp.2]
   have HTK : Hid ((kids.take (q + 1)).foldl inAltF (0, 7) = ((u1 ||| p.rd), (u2 &&& p.st))) := by
    show _ = _
    rw [List.take_succ_eq_append_getElem (by rw [HL.out]; exact hlt), List.foldl_append, HU.out, (List.getElem?_eq_some_iff.1 hp0).2]
    rfl
   have HPB : Hid (p.P ≠ (w.heap.size + 1)) := by
    show _ ≠ _
    obtain ⟨_, _, _, _, _, _, _, _, _, _, -, -, hb0, -, -⟩ := (HP.out.get q p hp0).form
    have := bl_lt hb0
    omega
   clear hp hlt2 hce hblk hp0
   go_upto_region 5 with fail
   clear cp
   go_cut [] (fun wc => wc.heap[(w.heap.size + 1)]? = some (uso (u1 ||| p.rd) u2) ∧ Ks (w.heap.size + 1) wr wc)
   case first =>
    have Q0 : Ks (w.heap.size + 1) wr wr.drew := (Ks.refl _ _).drew
    have MK : Hid (∀ W, Ks (w.heap.size + 1) wr W → W.cell? ⟨p.P, 9, none⟩ = some (.int .u8 (p.rd : Int)) ∧ W.cell? ⟨p.P, 10, none⟩ = some (.int .u8 (p.st : Int)) ∧ Hid (Ks (w.heap.size + 1) wr W)) := fun W k => ⟨bl_cell (bl_ks Q.out HPB.out k) 9 _ rfl, bl_cell (bl_ks Q.out HPB.out k) 10 _ rfl, k⟩
    refine wp_region_noPanic ?_
    refine hdrewZ 9 MK Q0 (fun hH => ?_)
    have KQ := Q0
    refine zk 9 0 [] (some 13) (Op.fieldAddr 126 (Operand.tmp 3) 0) 0 (v := ?v0a1) rfl ?h0a1 hH ?_
    case h0a1 => intro _ _; go_simp; try with_reducible rfl
    try simp only [ps]
    refine zk 9 2 [] (some 15) (Op.move (Operand.tmp 5)) 71 (v := ?v2a2) rfl ?h2a2 hH ?_
    case h2a2 => intro _ _; go_simp; try with_reducible rfl
    try simp only [ps]
    refine zk 9 3 [] (some 16) (Op.nilCheck (Operand.tmp 15)) 0 (v := ?v3a3) rfl ?h3a3 hH ?_
    case h3a3 => intro _ _; go_simp; try with_reducible rfl
    try simp only [ps]
    refine zk 9 4 [] (some 17) (Op.fieldAddr 130 (Operand.tmp 16) 6) 0 (v := ?v4a4) rfl ?h4a4 hH ?_
    case h4a4 => intro _ _; go_simp; try with_reducible rfl
    try simp only [ps]
    refine zk 9 5 [] (some 18) (Op.fieldAddr 126 (Operand.tmp 17) 0) 0 (v := ?v5a5) rfl ?h5a5 hH ?_
    case h5a5 => intro _ _; go_simp; try with_reducible rfl
    try simp only [ps]
    refine zk 9 6 [] (some 19) (Op.load 75 (Operand.tmp 18)) 75 (v := ?v6a6) rfl ?h6a6 hH ?_
    case h6a6 => intro _ _; go_simp; try with_reducible rfl
    try simp only [ps]
    refine anyZ_ready (rs := [1]) (by kernel_rfl) (by simp) ?_
    refine AllZ.cons (o := { dst := some 14, op := Op.load 75 (Operand.tmp 13), type := 75, pos := "part.go:121", after := #[{ on := 0, ground := Ground.data }], guard := none }) rfl (fun K hKq => ?_) AllZ.nil
    have l0 := bl_cell (bl_drew U.out) 0 _ rfl
    go_simp
    refine hKq.out _ _ (MK.out _ KQ) (fun hN => ?_)
    clear l0
    clear hKq K hH KQ
    have hH := hN
    clear hN
    have KQ := hH.2.2.out
    try simp only [ps]
    refine zk 9 7 [] (some 20) (Op.binOp BinOp.or 75 (Operand.tmp 14) (Operand.tmp 19) 75) 75 (v := ?v7a7) rfl ?h7a7 hH ?_
    case h7a7 => intro _ _; go_simp; try with_reducible rfl
    try simp only [ps]
    refine zk 9 8 [] (some 21) (Op.fieldAddr 126 (Operand.tmp 3) 0) 0 (v := ?v8a8) rfl ?h8a8 hH ?_
    case h8a8 => intro _ _; go_simp; try with_reducible rfl
    try simp only [ps]
    refine anyZ_ready (rs := [9]) (by kernel_rfl) (by simp) ?_
    refine AllZ.last (o := { dst := none, op := Op.store 75 (Operand.tmp 21) (Operand.tmp 20), type := 0, pos := "part.go:121", after := #[{ on := 8, ground := Ground.data }, { on := 7, ground := Ground.data }, { on := 0, ground := Ground.phase }, { on := 1, ground := Ground.phase }, { on := 2, ground := Ground.phase }, { on := 3, ground := Ground.phase }, { on := 4, ground := Ground.phase }, { on := 5, ground := Ground.phase }, { on := 6, ground := Ground.phase }, { on := 7, ground := Ground.phase }], guard := none }) rfl (Or.inl rfl) (fun K hKq => ?_) AllZ.nil
    have l0 := bl_cell (bl_drew U.out) 0 _ rfl
    have fl0 := bl_frozen (bl_drew U.out) 0
    go_simp
    refine hKq.out _ _ ?_
    clear l0 fl0
    clear hKq K
    try simp only [ps]
    refine anyZ_done (by kernel_rfl) ?_ _
    refine NoPanic.normal ?_
    go_wp2_with fail
    go_meet
    case rel => exact ⟨by rw [HE5.out]; exact bl_put U.out _, ((Ks.refl _ _).set _ _).drew⟩
   case rest =>
   obtain ⟨hu4, hk4⟩ := hcut
   rename World => W4x
   have U4 := hid hu4
   have Q4 := hid (bl_ks Q.out HPB.out hk4)
   have A4 := hid (bl_ks A.out (by omega) hk4)
   have K4 := hid (hk4.up K.out (by omega))
   clear hu4 hk4 U Q A K
   go_upto_region 6 with fail
   have Q0 : Ks (w.heap.size + 1) W4x W4x.drew := (Ks.refl _ _).drew
   have MK : Hid (∀ W, Ks (w.heap.size + 1) W4x W → W.cell? ⟨p.P, 9, none⟩ = some (.int .u8 (p.rd : Int)) ∧ W.cell? ⟨p.P, 10, none⟩ = some (.int .u8 (p.st : Int)) ∧ Hid (Ks (w.heap.size + 1) W4x W)) := fun W k => ⟨bl_cell (bl_ks Q4.out HPB.out k) 9 _ rfl, bl_cell (bl_ks Q4.out HPB.out k) 10 _ rfl, k⟩
   refine wp_region_noPanic ?_
   refine hdrewZ 9 MK Q0 (fun hH => ?_)
   have KQ := Q0
   refine zk 9 0 [] (some 22) (Op.fieldAddr 126 (Operand.tmp 3) 1) 0 (v := ?v0b1) rfl ?h0b1 hH ?_
   case h0b1 => intro _ _; go_simp; try with_reducible rfl
   try simp only [ps]
   refine zk 9 2 [] (some 24) (Op.move (Operand.tmp 5)) 71 (v := ?v2b2) rfl ?h2b2 hH ?_
   case h2b2 => intro _ _; go_simp; try with_reducible rfl
   try simp only [ps]
   refine zk 9 3 [] (some 25) (Op.nilCheck (Operand.tmp 24)) 0 (v := ?v3b3) rfl ?h3b3 hH ?_
   case h3b3 => intro _ _; go_simp; try with_reducible rfl
   try simp only [ps]
   refine zk 9 4 [] (some 26) (Op.fieldAddr 130 (Operand.tmp 25) 6) 0 (v := ?v4b4) rfl ?h4b4 hH ?_
   case h4b4 => intro _ _; go_simp; try with_reducible rfl
   try simp only [ps]
   refine zk 9 5 [] (some 27) (Op.fieldAddr 126 (Operand.tmp 26) 1) 0 (v := ?v5b5) rfl ?h5b5 hH ?_
   case h5b5 => intro _ _; go_simp; try with_reducible rfl
   try simp only [ps]
   refine zk 9 6 [] (some 28) (Op.load 75 (Operand.tmp 27)) 75 (v := ?v6b6) rfl ?h6b6 hH ?_
   case h6b6 => intro _ _; go_simp; try with_reducible rfl
   try simp only [ps]
   refine anyZ_ready (rs := [1]) (by kernel_rfl) (by simp) ?_
   refine AllZ.cons (o := { dst := some 23, op := Op.load 75 (Operand.tmp 22), type := 75, pos := "part.go:122", after := #[{ on := 0, ground := Ground.data }], guard := none }) rfl (fun K hKq => ?_) AllZ.nil
   have l1 := bl_cell (bl_drew U4.out) 1 _ rfl
   go_simp
   refine hKq.out _ _ (MK.out _ KQ) (fun hN => ?_)
   clear l1
   clear hKq K hH KQ
   have hH := hN
   clear hN
   have KQ := hH.2.2.out
   try simp only [ps]
   refine zk 9 7 [] (some 29) (Op.binOp BinOp.and 75 (Operand.tmp 23) (Operand.tmp 28) 75) 75 (v := ?v7b7) rfl ?h7b7 hH ?_
   case h7b7 => intro _ _; go_simp; try with_reducible rfl
   try simp only [ps]
   refine zk 9 8 [] (some 30) (Op.fieldAddr 126 (Operand.tmp 3) 1) 0 (v := ?v8b8) rfl ?h8b8 hH ?_
   case h8b8 => intro _ _; go_simp; try with_reducible rfl
   try simp only [ps]
   refine anyZ_ready (rs := [9]) (by kernel_rfl) (by simp) ?_
   refine AllZ.last (o := { dst := none, op := Op.store 75 (Operand.tmp 30) (Operand.tmp 29), type := 0, pos := "part.go:122", after := #[{ on := 8, ground := Ground.data }, { on := 7, ground := Ground.data }, { on := 0, ground := Ground.phase }, { on := 1, ground := Ground.phase }, { on := 2, ground := Ground.phase }, { on := 3, ground := Ground.phase }, { on := 4, ground := Ground.phase }, { on := 5, ground := Ground.phase }, { on := 6, ground := Ground.phase }, { on := 7, ground := Ground.phase }], guard := none }) rfl (Or.inl rfl) (fun K hKq => ?_) AllZ.nil
   have l1 := bl_cell (bl_drew U4.out) 1 _ rfl
   have fl1 := bl_frozen (bl_drew U4.out) 1
   go_simp
   refine hKq.out _ _ ?_
   clear l1 fl1
   clear hKq K
   try simp only [ps]
   refine anyZ_done (by kernel_rfl) ?_ _
   refine NoPanic.normal ?_
   go_wp2_with fail
   go_roundg (gk - 1)
   case measure => omega
   case rel => exact ⟨q + 1, _, _, by omega, by go_num, HTK.out, bl_set A4.out (by omega) _, by rw [HE6.out]; exact bl_put U4.out _, Ks.up (P := (w.heap.size + 1)) (((Ks.refl _ _).set _ _).drew) K4.out (by omega)⟩
  ·
   have ga : ¬ (q : Int) < (L : Int) := by omega
   have E : Hid (G = (u1, u2)) := by
    show _ = _
    rw [← HG.out, ← HU.out, List.take_of_length_le (by rw [HL.out]; omega)]
   obtain ⟨a0, fa0, a1, fa1⟩ := cellf2 (A.out)
   have u0 := bl_cell (U.out) 0 _ rfl
   have u1 := bl_cell (U.out) 1 _ rfl
   go_wp2_with fail
   rw [E.out]
   exact bodyPost_ret (v := .agg _) (us_ret rfl _ _ _ _ rfl (bl_put (bl_put A.out _) _) rfl) rfl ⟨rfl, Ks.up (P := w.heap.size) (((Ks.refl _ _).set _ _).set _ _) K.out (by omega)⟩
end Go.Proofs.YtnajcnhgeggngaaGreat.Way

/-! ### Use50 -/

namespace Go.Proofs.YtnajcnhgeggngaaGreat.Way
set_option maxHeartbeats 2000000
set_option maxRecDepth 100000
open Go.RowKit Go.Proofs.YtnajcnhgeggngaaGreat

structure UseD (u : Nat × Nat) (w : World) (e : Ending) (w' : World) : Prop where
 ex : e = .returned (.agg #[.int .u8 (u.1 : Int), .int .u8 (u.2 : Int)]) ∧ Kp w w'
theorem grp_any (n : Int) (h1 : n = 1 ∨ n = 2 ∨ n = 3) (w : World) : Calls Tryz.prog 52 #[.int .i64 n] w fun e w' => e = .returned (.int .u8 (grpB n : Int)) ∧ w' = w := by
 refine (oneGroup_any n h1 w).mono ?_
 rintro e w' ⟨rfl, rfl⟩
 unfold grpB
 rcases h1 with rfl | rfl | rfl <;> exact ⟨rfl, rfl⟩
theorem grp_lt (n : Int) : grpB n < 8 := by
 unfold grpB
 split
 ·
  omega
 ·
  split <;> omega
theorem used_any (ok : Nat → Prop) (k low high n : Int) (t : W4) (P rd st hd : Nat) (kn so : Option Nat) (ad : Option Addr) (c : Nat) (kids : List Pt) (w : World) (hP : w.heap[P]? = some (pto k low high n t (.slice ad kids.length c) rd st hd kn so)) (hK : KidS w ok ad c kids) (hpts : PtsAt w ok kids) (hW : WdOk kids) (hL : kids.length ≤ 1000000) (hn : k = 6 ∨ k = 5 → n = 1 ∨ n = 2 ∨ n = 3) (hne : k = 5 ∨ k = 4 → kids ≠ []) :
  Calls Tryz.prog 50 #[ptv P] w fun e w' => UseD (usedP k low n kids) w e w' := by
 obtain ⟨L, hLL⟩ : ∃ L, kids.length = L := ⟨_, rfl⟩
 rw [hLL] at hP
 have HP := hid hP
 have HKW := hid (fun (W : World) (k0 : Kp w W) => hK.kp k0)
 have HPW := hid (fun (W : World) (k0 : Kp w W) => PtsAt.kp hpts k0)
 have HW := hid hW
 have HL := hid hL
 have HLL := hid hLL
 have HN := hid hn
 have HNE := hid hne
 obtain ⟨U, hU⟩ : ∃ U, usedP k low n kids = U := ⟨_, rfl⟩
 have HU := hid hU
 rw [hU]
 have RA := hid (fun (W : World) (k0 : Kp w W) => row_any ok ad c kids W (hK.kp k0) (PtsAt.kp hpts k0) hW hL)
 have AA := hid (fun (W : World) (k0 : Kp w W) => alt_any ok ad c kids W (hK.kp k0) (PtsAt.kp hpts k0) hW hL)
 rw [hLL] at RA AA
 clear hP hK hpts hW hL hn hne hU hLL
 go_enter Tryz.func50, Tryz.ntmps50
 go_upto_region 1 with fail
 refine opq (fun W0 => W0.heap[w.heap.size]? = some (uso 0 0) ∧ W0.heap[P]? = some (pto k low high n t (.slice ad L c) rd st hd kn so) ∧ Kp w W0 ∧ w.heap.size < W0.heap.size) ⟨by exact last_of _ _, by exact bl_kp HP.out kpt, by exact kpt, by simp⟩ ?_
 rintro W0 ⟨xA0, xP0, xK0, xZ0⟩
 have A0 := hid xA0
 have P0 := hid xP0
 have K0 := hid xK0
 have Z0 := hid xZ0
 clear xA0 xP0 xK0 xZ0
 clear HP
 obtain ⟨a0, fa0, a1, fa1⟩ := cellf2 (A0.out)
 obtain ⟨p0, p1, p2, p3, p4, p5, p6, p7, p8, p9, p10, p11, p12, p13⟩ := cells14 (P0.out)
 by_cases k6 : k = 6
 ·
  subst k6
  have GB := hid (fun W => grp_any n (HN.out (Or.inl rfl)) W)
  have HE : Hid (U = (grpB n, 0)) := by show _ = _; rw [← HU.out]; unfold usedP; rw [if_pos rfl]
  go_wp2_with fail
  refine (GB.out _).mono ?_
  rintro e w1 ⟨rfl, hw⟩
  rw [hw]
  clear hw w1
  go_wp2_with fail
  exact bodyPost_ret (v := .agg _) (us_ret rfl _ _ _ _ rfl (bl_put (bl_put A0.out _) _) rfl) rfl ⟨by rw [HE.out]; rfl, Ks.up (P := w.heap.size) (((Ks.refl _ _).set _ _).set _ _) K0.out (Nat.le_refl _)⟩
 have k6b : (k == 6) = false := by simp [k6]
 by_cases k2 : k = 2
 ·
  subst k2
  have HE : Hid (U = kids.foldl inRowF (0, 0)) := by show _ = _; rw [← HU.out]; unfold usedP; rw [if_neg (by decide), if_neg (by decide), if_pos rfl]
  have R0 := hid (RA.out W0 K0.out)
  clear a0 a1 fa0 fa1
  go_wp2_with fail
  refine (R0.out).mono ?_
  rintro e w1 ⟨rfl, hk⟩
  have A3 := hid (bl_kp A0.out hk)
  have K3 := hid (K0.out.trans hk)
  clear hk p0 p1 p2 p3 p4 p5 p6 p7 p8 p9 p10 p11 p12 p13
  obtain ⟨a0, fa0, a1, fa1⟩ := cellf2 (A3.out)
  go_wp2_with fail
  exact bodyPost_ret (v := .agg _) (us_ret rfl _ _ _ _ rfl (bl_put (bl_put A3.out _) _) rfl) rfl ⟨by rw [HE.out]; rfl, Ks.up (P := w.heap.size) (((Ks.refl _ _).set _ _).set _ _) K3.out (Nat.le_refl _)⟩
 have k2b : (k == 2) = false := by simp [k2]
 by_cases k3 : k = 3
 ·
  subst k3
  have HE : Hid (U = kids.foldl inAltF (0, 7)) := by show _ = _; rw [← HU.out]; unfold usedP; rw [if_neg (by decide), if_neg (by decide), if_neg (by decide), if_pos rfl]
  have R0 := hid (AA.out W0 K0.out)
  clear a0 a1 fa0 fa1
  go_wp2_with fail
  refine (R0.out).mono ?_
  rintro e w1 ⟨rfl, hk⟩
  have A3 := hid (bl_kp A0.out hk)
  have K3 := hid (K0.out.trans hk)
  clear hk p0 p1 p2 p3 p4 p5 p6 p7 p8 p9 p10 p11 p12 p13
  obtain ⟨a0, fa0, a1, fa1⟩ := cellf2 (A3.out)
  go_wp2_with fail
  exact bodyPost_ret (v := .agg _) (us_ret rfl _ _ _ _ rfl (bl_put (bl_put A3.out _) _) rfl) rfl ⟨by rw [HE.out]; rfl, Ks.up (P := w.heap.size) (((Ks.refl _ _).set _ _).set _ _) K3.out (Nat.le_refl _)⟩
 have k3b : (k == 3) = false := by simp [k3]
 by_cases k54 : k = 5 ∨ k = 4
 ·
  obtain ⟨kid, ks, hkk⟩ : ∃ kid ks, kids = kid :: ks := by
   cases hh : kids with
   | nil => exact absurd hh (HNE.out k54)
   | cons kid ks => exact ⟨kid, ks, rfl⟩
  subst hkk
  have hL0 : 0 < L := by rw [← HLL.out]; simp
  obtain ⟨bb, rfl, -, -, hce⟩ := (HKW.out W0 K0.out).at_ (by simp)
  have cp := hce 0 kid rfl
  obtain ⟨k', lo', hi', n', t', kn', so', ks', ad', c', -, -, hblk, -, -⟩ := ((HPW.out W0 K0.out).get 0 kid rfl).form
  have q9 := bl_cell hblk 9 _ rfl
  have q10 := bl_cell hblk 10 _ rfl
  have HWD := hid (HW.out.get 0 kid rfl)
  clear hce hblk HKW HPW RA AA
  rcases k54 with rfl | rfl
  ·
   have GB := hid (fun W => grp_any n (HN.out (Or.inr rfl)) W)
   have HE : Hid (U = (kid.rd, kid.st ||| grpB n)) := by show _ = _; rw [← HU.out]; unfold usedP; rw [if_neg (by decide), if_pos rfl]
   have gor : bits .or .u8 (kid.st : Int) (grpB n : Int) = ((kid.st ||| grpB n : Nat) : Int) := u8_or kid.st (grpB n) HWD.out.2 (grp_lt n)
   obtain ⟨G, hG⟩ : ∃ G, grpB n = G := ⟨_, rfl⟩
   rw [hG] at HE gor GB
   clear hG
   go_upto_region 6 with fail
   refine opq (fun W2 => W2.heap[w.heap.size]? = some (uso 0 0) ∧ W2.heap[P]? = some (pto 5 low high n t (.slice (some ⟨bb, 0, none⟩) L c) rd st hd kn so) ∧ W2.heap[W0.heap.size]? = some (uso kid.rd kid.st) ∧ Kp w W2) ⟨by exact bl_alloc A0.out _, by exact bl_alloc P0.out _, by exact last_of _ _, by exact K0.out.alloc _⟩ ?_
   rintro W2 ⟨xA2, xP2, xU2, xK2⟩
   have A2 := hid xA2
   have P2 := hid xP2
   have U2 := hid xU2
   have K2 := hid xK2
   clear xA2 xP2 xU2 xK2
   clear a0 a1 fa0 fa1 p0 p1 p2 p3 p4 p5 p6 p7 p8 p9 p10 p11 p12 p13 cp q9 q10
   go_cut [] (fun wc => wc.heap[W0.heap.size]? = some (uso kid.rd (kid.st ||| G)) ∧ Ks W0.heap.size W2 wc)
   case first =>
    have Q0 : Kp W2 W2.drew := (Kp.refl _).drew
    have MK : Hid (∀ W, Kp W2 W → W.cell? ⟨W0.heap.size, 1, none⟩ = some (.int .u8 (kid.st : Int)) ∧ W.cell? ⟨P, 3, none⟩ = some (.int .i64 n) ∧ Hid (Kp W2 W)) := fun W k => ⟨bl_cell (bl_kp U2.out k) 1 _ rfl, bl_cell (bl_kp P2.out k) 3 _ rfl, k⟩
    refine wp_region_noPanic ?_
    refine hdrewZ 9 MK Q0 (fun hH => ?_)
    have KQ := Q0
    refine zk 9 0 [] (some 28) (Op.fieldAddr 126 (Operand.tmp 3) 1) 0 (v := ?v0a1) rfl ?h0a1 hH ?_
    case h0a1 => intro _ _; go_simp; try with_reducible rfl
    try simp only [ps]
    refine zk 9 1 [] (some 29) (Op.load 75 (Operand.tmp 28)) 75 (v := ?v1a2) rfl ?h1a2 hH ?_
    case h1a2 => intro _ _; go_simp; try with_reducible rfl
    try simp only [ps]
    refine zk 9 2 [] (some 30) (Op.move (Operand.tmp 0)) 71 (v := ?v2a3) rfl ?h2a3 hH ?_
    case h2a3 => intro _ _; go_simp; try with_reducible rfl
    try simp only [ps]
    refine zk 9 3 [] (some 31) (Op.nilCheck (Operand.tmp 30)) 0 (v := ?v3a4) rfl ?h3a4 hH ?_
    case h3a4 => intro _ _; go_simp; try with_reducible rfl
    try simp only [ps]
    refine zk 9 4 [] (some 32) (Op.fieldAddr 130 (Operand.tmp 31) 3) 0 (v := ?v4a5) rfl ?h4a5 hH ?_
    case h4a5 => intro _ _; go_simp; try with_reducible rfl
    try simp only [ps]
    refine zk 9 5 [] (some 33) (Op.load 3 (Operand.tmp 32)) 3 (v := ?v5a6) rfl ?h5a6 hH ?_
    case h5a6 => intro _ _; go_simp; try with_reducible rfl
    try simp only [ps]
    refine anyZ_ready (rs := [6]) (by kernel_rfl) (by simp) ?_
    refine AllZ.cons (o := { dst := some 34, op := Op.call { callee := Callee.value (Operand.func 52), args := #[Operand.tmp 33], argTypes := #[3] }, type := 75, pos := "part.go:93", after := #[{ on := 5, ground := Ground.data }], guard := none }) rfl (fun K hKq => ?_) AllZ.nil
    go_simp
    refine (GB.out _).mono ?_
    rintro e yy ⟨rfl, rfl⟩
    refine hKq.out _ _ (MK.out _ KQ) (fun hN => ?_)
    clear hKq K hH KQ
    have hH := hN
    clear hN
    have KQ := hH.2.2.out
    try simp only [ps]
    refine zk 9 7 [] (some 35) (Op.binOp BinOp.or 75 (Operand.tmp 29) (Operand.tmp 34) 75) 75 (v := ?v7a7) rfl ?h7a7 hH ?_
    case h7a7 => intro _ _; go_simp; try with_reducible rfl
    try simp only [ps]
    refine zk 9 8 [] (some 36) (Op.fieldAddr 126 (Operand.tmp 3) 1) 0 (v := ?v8a8) rfl ?h8a8 hH ?_
    case h8a8 => intro _ _; go_simp; try with_reducible rfl
    try simp only [ps]
    refine anyZ_ready (rs := [9]) (by kernel_rfl) (by simp) ?_
    refine AllZ.last (o := { dst := none, op := Op.store 75 (Operand.tmp 36) (Operand.tmp 35), type := 0, pos := "part.go:93", after := #[{ on := 8, ground := Ground.data }, { on := 7, ground := Ground.data }, { on := 6, ground := Ground.chain }, { on := 0, ground := Ground.phase }, { on := 1, ground := Ground.phase }, { on := 2, ground := Ground.phase }, { on := 3, ground := Ground.phase }, { on := 4, ground := Ground.phase }, { on := 5, ground := Ground.phase }, { on := 6, ground := Ground.phase }, { on := 7, ground := Ground.phase }], guard := none }) rfl (Or.inl rfl) (fun K hKq => ?_) AllZ.nil
    have u1 := bl_cell (bl_drew U2.out) 1 _ rfl
    have fu1 := bl_frozen (bl_drew U2.out) 1
    go_simp
    refine hKq.out _ _ ?_
    clear u1 fu1
    clear hKq K
    try simp only [ps]
    refine anyZ_done (by kernel_rfl) ?_ _
    refine NoPanic.normal ?_
    go_wp2_with fail
    go_meet
    case rel => exact ⟨bl_put (bl_drew U2.out) _, (Ks.refl _ _).drew.set _ _⟩
   case rest =>
   obtain ⟨hu, hk⟩ := hcut
   rename World => W3
   have U3 := hid hu
   have A3 := hid (bl_ks A2.out (by have := Z0.out; omega) hk)
   have K3 := hid (hk.up K2.out (by have := Z0.out; omega))
   clear hu hk
   obtain ⟨a0, fa0, a1, fa1⟩ := cellf2 (A3.out)
   have u0 := bl_cell (U3.out) 0 _ rfl
   have u1 := bl_cell (U3.out) 1 _ rfl
   go_wp2_with fail
   exact bodyPost_ret (v := .agg _) (us_ret rfl _ _ _ _ rfl (bl_put (bl_put A3.out _) _) rfl) rfl ⟨by rw [HE.out]; rfl, Ks.up (P := w.heap.size) (((Ks.refl _ _).set _ _).set _ _) K3.out (Nat.le_refl _)⟩
  ·
   have HE : Hid (U = (kid.rd, if low = 0 then 0 else kid.st)) := by show _ = _; rw [← HU.out]; unfold usedP; rw [if_neg (by decide), if_neg (by decide), if_neg (by decide), if_neg (by decide), if_pos rfl]
   go_upto_region 14 with fail
   refine opq (fun W2 => W2.heap[w.heap.size]? = some (uso 0 0) ∧ W2.heap[P]? = some (pto 4 low high n t (.slice (some ⟨bb, 0, none⟩) L c) rd st hd kn so) ∧ W2.heap[W0.heap.size]? = some (uso kid.rd kid.st) ∧ Kp w W2) ⟨by exact bl_alloc A0.out _, by exact bl_alloc P0.out _, by exact last_of _ _, by exact K0.out.alloc _⟩ ?_
   rintro W2 ⟨xA2, xP2, xU2, xK2⟩
   have A2 := hid xA2
   have P2 := hid xP2
   have U2 := hid xU2
   have K2 := hid xK2
   clear xA2 xP2 xU2 xK2
   clear a0 a1 fa0 fa1 p0 p1 p2 p3 p4 p5 p6 p7 p8 p9 p10 p11 p12 p13 cp q9 q10
   have p1 := bl_cell (P2.out) 1 _ rfl
   by_cases hlow : low = 0
   ·
    subst hlow
    have u0 := bl_cell (U2.out) 0 _ rfl
    have u1 := bl_cell (U2.out) 1 _ rfl
    have fu1 := bl_frozen (U2.out) 1
    go_upto_region 16 with fail
    refine opq (fun W3 => W3.heap[W0.heap.size]? = some (uso kid.rd 0) ∧ W3.heap[w.heap.size]? = some (uso 0 0) ∧ Kp w W3) ⟨by exact bl_put U2.out _, by exact bl_ks A2.out (by have := Z0.out; omega) ((Ks.refl W0.heap.size W2).set _ _), by exact Ks.up (P := W0.heap.size) ((Ks.refl _ _).set _ _) K2.out (by have := Z0.out; omega)⟩ ?_
    rintro W3 ⟨xU3, xA3, xK3⟩
    have U3 := hid xU3
    have A3 := hid xA3
    have K3 := hid xK3
    clear xU3 xA3 xK3
    clear u0 u1 fu1 p1
    obtain ⟨a0, fa0, a1, fa1⟩ := cellf2 (A3.out)
    have u0 := bl_cell (U3.out) 0 _ rfl
    have u1 := bl_cell (U3.out) 1 _ rfl
    go_wp2_with fail
    exact bodyPost_ret (v := .agg _) (us_ret rfl _ _ _ _ rfl (bl_put (bl_put A3.out _) _) rfl) rfl ⟨by rw [HE.out]; rfl, Ks.up (P := w.heap.size) (((Ks.refl _ _).set _ _).set _ _) K3.out (Nat.le_refl _)⟩
   ·
    have hlb : (low == 0) = false := by simp [hlow]
    have HE2 : Hid (U = (kid.rd, kid.st)) := by show _ = _; rw [HE.out, if_neg hlow]
    have A3 := A2
    have K3 := K2
    obtain ⟨a0, fa0, a1, fa1⟩ := cellf2 (A3.out)
    have u0 := bl_cell (U2.out) 0 _ rfl
    have u1 := bl_cell (U2.out) 1 _ rfl
    go_wp2_with fail
    exact bodyPost_ret (v := .agg _) (us_ret rfl _ _ _ _ rfl (bl_put (bl_put A3.out _) _) rfl) rfl ⟨by rw [HE2.out]; rfl, Ks.up (P := w.heap.size) (((Ks.refl _ _).set _ _).set _ _) K3.out (Nat.le_refl _)⟩
 ·
  have k5 : ¬ k = 5 := fun e => k54 (Or.inl e)
  have k4 : ¬ k = 4 := fun e => k54 (Or.inr e)
  have k5b : (k == 5) = false := by simp [k5]
  have k4b : (k == 4) = false := by simp [k4]
  have HE : Hid (U = (0, 0)) := by show _ = _; rw [← HU.out]; unfold usedP; rw [if_neg k6, if_neg k5, if_neg k2, if_neg k3, if_neg k4]
  go_wp2_with fail
  exact bodyPost_ret (v := .agg _) (us_ret rfl _ _ _ _ rfl (bl_put (bl_put A0.out _) _) rfl) rfl ⟨by rw [HE.out]; rfl, Ks.up (P := w.heap.size) (((Ks.refl _ _).set _ _).set _ _) K0.out (Nat.le_refl _)⟩
end Go.Proofs.YtnajcnhgeggngaaGreat.Way

/-! ### Leaf -/

namespace Go.Proofs.YtnajcnhgeggngaaGreat.Way
set_option maxHeartbeats 2000000
set_option maxRecDepth 100000
open Go.RowKit Go.Proofs.YtnajcnhgeggngaaGreat

theorem leaf_any (k low high n : Int) (t : W4) (ks : Value) (rd st hd : Nat) (kn so : Option Nat) (P : Nat) (w : World) (hP : w.heap[P]? = some (pto k low high n t ks rd st hd kn so)) : Calls Tryz.prog 49 #[ptv P] w fun e w' => e = .returned (.bool (leafK k)) ∧ w' = w := by
 have HP := hid hP
 have c0 := bl_cell hP 0 _ rfl
 clear hP
 go_enter Tryz.func49, Tryz.ntmps49
 by_cases k2 : k = 2
 ·
  subst k2
  go_wp2_with fail
  go_ret
  exact ⟨rfl, rfl⟩
 have k2b : (k == 2) = false := by simp [k2]
 by_cases k3 : k = 3
 ·
  subst k3
  go_wp2_with fail
  go_ret
  exact ⟨rfl, rfl⟩
 have k3b : (k == 3) = false := by simp [k3]
 by_cases k5 : k = 5
 ·
  subst k5
  go_wp2_with fail
  go_ret
  exact ⟨rfl, rfl⟩
 have k5b : (k == 5) = false := by simp [k5]
 by_cases k4 : k = 4
 ·
  subst k4
  go_wp2_with fail
  go_ret
  exact ⟨rfl, rfl⟩
 have k4b : (k == 4) = false := by simp [k4]
 have HE : Hid (leafK k = true) := by show _ = _; unfold leafK; simp [k2, k3, k5, k4]
 go_wp2_with fail
 go_ret
 exact ⟨by rw [HE.out]; rfl, rfl⟩
end Go.Proofs.YtnajcnhgeggngaaGreat.Way

/-! ### Step -/

namespace Go.Proofs.YtnajcnhgeggngaaGreat.Way
set_option maxHeartbeats 2000000
set_option maxRecDepth 100000
open Go.RowKit Go.Proofs.YtnajcnhgeggngaaGreat

structure Sp.In (N : Nat) (x : Sp) : Prop where
 a : x.a ≤ N
 t0 : x.t0 ≤ N
 t1 : x.t1 ≤ N
 t2 : x.t2 ≤ N
structure StepD (s : ByteArray) (bol : Bool) (k n : Int) (t : W4) (x : Sp) (w : World) (e : Ending) (w' : World) : Prop where
 ex : ∃ (v : Int) (b : Bool), e = .returned (.tuple #[.int .i64 v, .bool b]) ∧ stepP s.data.toList bol k n t x = (if b then some v else none) ∧ Kp w w'
theorem slice8 (s : ByteArray) (a : Int) (h0 : 0 ≤ a) (h : a ≤ s.size) (w : World) : (Instr.slice 9 (.string s) (some (.int .i8 a)) none none).run Tryz.prog w = .ok (.string (s.extract a.toNat s.size)) w := by
 rw [run_slice_string_from_if w 9 s .i8 a (by kernel_rfl), if_pos ⟨by omega, by omega⟩]
theorem get_ch (s : ByteArray) (a : Nat) (h : a < s.size) : s.data.toList[a]? = some (UInt8.ofNat (ch s a)) := by
 unfold ch
 rw [Array.getElem?_toList, show s.data[a]? = some (s.data[a]'h) from Array.getElem?_eq_getElem h]
 simp
theorem get_no (s : ByteArray) (a : Nat) (h : ¬ a < s.size) : s.data.toList[a]? = none := by
 rw [Array.getElem?_toList, Array.getElem?_eq_none_iff]
 exact Nat.le_of_not_lt h
theorem ch_u8 (s : ByteArray) (a : Nat) : (UInt8.ofNat (ch s a)).toNat = ch s a := by
 rw [UInt8.toNat_ofNat']
 have := ch_lt s a
 omega
theorem has_w4 (t : W4) (ht : t.a < 18446744073709551616 ∧ t.b < 18446744073709551616 ∧ t.c < 18446744073709551616 ∧ t.d < 18446744073709551616) (c : Nat) (hc : c < 256) (w : World) :
  Calls Tryz.prog 106 #[.agg #[.int .u64 (t.a : Int), .int .u64 (t.b : Int), .int .u64 (t.c : Int), .int .u64 (t.d : Int)], .int .u8 (c : Int)] w fun e w' => e = .returned (.bool (W4.bit t c)) ∧ Kp w w' := by
 have h := Go.Proofs.YtnajcnhgeggngaaGreat.has_any (W4.bit t) c w hc
 rw [show sv (W4.bit t) = vv t.a t.b t.c t.d from (vv_sv t.a t.b t.c t.d ht.1 ht.2.1 ht.2.2.1 ht.2.2.2).symm] at h
 exact h
theorem step_set (n : Int) (low high : Int) (t : W4) (ks : Value) (rd st hd : Nat) (kn so : Option Nat) (P : Nat) (s : ByteArray) (bol : Bool) (x : Sp) (w : World) (hP : w.heap[P]? = some (pto 1 low high n t ks rd st hd kn so)) (hx : x.Ok) (hN : x.In s.size) (ht : t.a < 18446744073709551616 ∧ t.b < 18446744073709551616 ∧ t.c < 18446744073709551616 ∧ t.d < 18446744073709551616) : Calls Tryz.prog 80 #[.agg #[.string s, .bool bol], ptv P, spv x] w fun e w' => StepD s bol 1 n t x w e w' := by
 have HP := hid hP
 have ha0 := hx.a0
 have haN := hN.a
 have es := slice8 s x.a ha0 haN
 obtain ⟨a, ha⟩ : ∃ a : Nat, x.a.toNat = a := ⟨_, rfl⟩
 have hai : x.a = (a : Int) := by omega
 rw [ha] at es
 clear hP ha0
 by_cases hlt : a < s.size
 ·
  have HW := hid (fun w => has_w4 t ht (ch s a) (ch_lt s a) w)
  have e1 : ∀ w, (Instr.index 9 (.string (s.extract a s.size)) (.int .i64 0)).run Tryz.prog w = .ok (.int .u8 (ch s a : Nat)) w := fun w => by
   have := run_ch (s.extract a s.size) 0 (by rw [ext_size s a (by omega)]; omega) w
   rw [ch_ext s a 0 (by omega)] at this
   exact this
  have hsz : (s.extract a s.size).size ≠ 0 := by rw [ext_size s a (by omega)]; omega
  have HS : Hid (stepP s.data.toList bol 1 n t x = if W4.bit t (ch s a) then some 1 else none) := by
   show _ = _
   unfold stepP
   rw [if_pos rfl, ha, get_ch s a hlt]
   simp only [ch_u8]
  obtain ⟨q, hq⟩ : ∃ q, W4.bit t (ch s a) = q := ⟨_, rfl⟩
  rw [hq] at HW HS
  obtain ⟨r, hr⟩ : ∃ r, s.extract a s.size = r := ⟨_, rfl⟩
  rw [hr] at es e1 hsz
  have hne : r.toList.isEmpty = false := by rw [str_nil]; exact decide_eq_false hsz
  have hnl : ¬ r.toList = [] := by intro e; rw [e] at hne; cases hne
  clear hsz hr hq ht hx hN hlt haN ha hai
  go_enter Tryz.func80, Tryz.ntmps80
  go_upto_region 1 with fail
  refine opq (fun W0 => W0.heap[w.heap.size]? = some (.cells #[.string s, .bool bol] 70) ∧ W0.heap[(w.heap.size + 1)]? = some (spo x) ∧ W0.heap[P]? = some (pto 1 low high n t ks rd st hd kn so) ∧ Kp w W0) ⟨by exact bl_alloc (last_of _ _) _, by exact last_at _ _ _ (by simp), by exact bl_kp HP.out kpt, by exact kpt⟩ ?_
  rintro W0 ⟨xT0, xX0, xP0, xK0⟩
  have T0 := hid xT0
  have X0 := hid xX0
  have P0 := hid xP0
  have K0 := hid xK0
  clear xT0 xX0 xP0 xK0
  have b0 := bl_cell (T0.out) 0 _ rfl
  have b1 := bl_cell (T0.out) 1 _ rfl
  obtain ⟨x0, x1, x2, x3, x4, x5, x6⟩ := cells7 (X0.out)
  obtain ⟨p0, p1, p2, p3, p4, p5, p6, p7, p8, p9, p10, p11, p12, p13⟩ := cells14 (P0.out)
  go_upto_region 4 with fail
  clear b0 b1 x0 x1 x2 x3 x4 x5 x6 p0 p1 p2 p3 p4 p5 p6 p7 p8 p9 p10 p11 p12 p13
  have Q0 : Kp W0 W0.drew := (Kp.refl _).drew
  have MK : Hid (∀ W, Kp W0 W → W.cell? ⟨P, 4, none⟩ = some (.int .u64 (t.a : Int)) ∧ W.cell? ⟨P, 5, none⟩ = some (.int .u64 (t.b : Int)) ∧ W.cell? ⟨P, 6, none⟩ = some (.int .u64 (t.c : Int)) ∧ W.cell? ⟨P, 7, none⟩ = some (.int .u64 (t.d : Int)) ∧ Hid (Kp W0 W)) := fun W k => ⟨bl_cell (bl_kp P0.out k) 4 _ rfl, bl_cell (bl_kp P0.out k) 5 _ rfl, bl_cell (bl_kp P0.out k) 6 _ rfl, bl_cell (bl_kp P0.out k) 7 _ rfl, k⟩
  refine wp_region_noPanic ?_
  refine hdrew MK Q0 (fun hH => ?_)
  have KQ := Q0
  refine tk 0 (some 22) (Op.move (Operand.tmp 8)) 9 (v := ?v0a1) rfl ?h0a1 hH ?_
  case h0a1 => intro _ _; go_simp; try with_reducible rfl
  try simp only [ps]
  refine tk 1 (some 23) (Op.binOp BinOp.neq 9 (Operand.tmp 22) (Operand.const (Value.string { data := #[] })) 9) 4 (v := ?v1a2) rfl ?h1a2 hH ?_
  case h1a2 => intro _ _; go_simp; try with_reducible rfl
  try simp only [ps]
  refine tk 2 (some 24) (Op.move (Operand.tmp 23)) 4 (v := ?v2a3) rfl ?h2a3 hH ?_
  case h2a3 => intro _ _; go_simp; try with_reducible rfl
  try simp only [ps]
  refine tk 3 (some 25) (Op.move (Operand.tmp 1)) 71 (v := ?v3a4) rfl ?h3a4 hH ?_
  case h3a4 => intro _ _; go_simp; try with_reducible rfl
  try simp only [ps]
  refine tk 4 (some 26) (Op.nilCheck (Operand.tmp 25)) 0 (v := ?v4a5) rfl ?h4a5 hH ?_
  case h4a5 => intro _ _; go_simp; try with_reducible rfl
  try simp only [ps]
  refine tk 5 (some 27) (Op.fieldAddr 130 (Operand.tmp 26) 4) 0 (v := ?v5a6) rfl ?h5a6 hH ?_
  case h5a6 => intro _ _; go_simp; try with_reducible rfl
  try simp only [ps]
  refine tk 6 (some 28) (Op.load 24 (Operand.tmp 27)) 24 (v := ?v6a7) rfl ?h6a7 hH ?_
  case h6a7 => intro _ _; go_simp; try with_reducible rfl
  try simp only [ps]
  refine tk 7 (some 29) (Op.move (Operand.tmp 8)) 9 (v := ?v7a8) rfl ?h7a8 hH ?_
  case h7a8 => intro _ _; go_simp; try with_reducible rfl
  try simp only [ps]
  refine tk 8 (some 30) (Op.index 9 (Operand.tmp 29) (Operand.const (Value.int IntKind.i64 0))) 5 (v := ?v8a9) rfl ?h8a9 hH ?_
  case h8a9 => intro _ _; go_simp; try with_reducible rfl
  try simp only [ps]
  refine wpAnyH_ready (rs := [9]) (by kernel_rfl) (by simp) ?_
  refine AllReadyH.cons (o := { dst := some 31, op := Op.call { callee := Callee.value (Operand.func 106), args := #[Operand.tmp 28, Operand.tmp 30], argTypes := #[24, 5] }, type := 4, pos := "walk.go:61", after := #[{ on := 6, ground := Ground.data }, { on := 8, ground := Ground.data }, { on := 2, ground := Ground.chain }, { on := 2, ground := Ground.guard }], guard := some (2, true) }) rfl (fun K hKq => ?_) AllReadyH.nil
  go_simp
  refine (HW.out _).mono ?_
  rintro e y1 ⟨rfl, kq⟩
  refine hKq.out _ _ (MK.out _ (KQ.trans kq)) (fun hN => ?_)
  clear kq
  clear hKq K hH KQ
  have hH := hN
  clear hN
  have KQ := hH.2.2.2.2.out
  try simp only [ps]
  refine tk 10 (some 32) (Op.pick (Operand.tmp 24) (Operand.tmp 31) (Operand.const (Value.bool false))) 4 (v := ?v10a10) rfl ?h10a10 hH ?_
  case h10a10 => intro _ _; go_simp; try with_reducible rfl
  try simp only [ps]
  refine tk 11 (some 6) (Op.assign (Operand.const (Value.int IntKind.i64 1))) 3 (v := ?v11a11) rfl ?h11a11 hH ?_
  case h11a11 => intro _ _; go_simp; try with_reducible rfl
  try simp only [ps]
  refine tk 12 (some 7) (Op.assign (Operand.tmp 32)) 4 (v := ?v12a12) rfl ?h12a12 hH ?_
  case h12a12 => intro _ _; go_simp; try with_reducible rfl
  try simp only [ps]
  refine wpAnyH_done (by kernel_rfl) ?_ _
  refine NoPanic.normal ?_
  go_wp2_with fail
  go_ret2
  exact ⟨1, q, rfl, HS.out, K0.out.trans KQ⟩
 ·
  have hsz : s.extract a s.size = ⟨#[]⟩ := by
   have h0 : (s.extract a s.size).size = 0 := by rw [ext_size s a (by omega)]; omega
   cases h : s.extract a s.size with
   | mk d => rw [h] at h0; exact congrArg ByteArray.mk (Array.size_eq_zero_iff.1 h0)
  rw [hsz] at es
  have HS : Hid (stepP s.data.toList bol 1 n t x = none) := by
   show _ = _
   unfold stepP
   rw [if_pos rfl, ha, get_no s a hlt]
  clear hsz ht hx hN hlt haN ha hai
  go_enter Tryz.func80, Tryz.ntmps80
  go_upto_region 1 with fail
  refine opq (fun W0 => W0.heap[w.heap.size]? = some (.cells #[.string s, .bool bol] 70) ∧ W0.heap[(w.heap.size + 1)]? = some (spo x) ∧ W0.heap[P]? = some (pto 1 low high n t ks rd st hd kn so) ∧ Kp w W0) ⟨by exact bl_alloc (last_of _ _) _, by exact last_at _ _ _ (by simp), by exact bl_kp HP.out kpt, by exact kpt⟩ ?_
  rintro W0 ⟨xT0, xX0, xP0, xK0⟩
  have T0 := hid xT0
  have X0 := hid xX0
  have P0 := hid xP0
  have K0 := hid xK0
  clear xT0 xX0 xP0 xK0
  have b0 := bl_cell (T0.out) 0 _ rfl
  have b1 := bl_cell (T0.out) 1 _ rfl
  obtain ⟨x0, x1, x2, x3, x4, x5, x6⟩ := cells7 (X0.out)
  obtain ⟨p0, p1, p2, p3, p4, p5, p6, p7, p8, p9, p10, p11, p12, p13⟩ := cells14 (P0.out)
  go_upto_region 4 with fail
  clear b0 b1 x0 x1 x2 x3 x4 x5 x6 p0 p1 p2 p3 p4 p5 p6 p7 p8 p9 p10 p11 p12 p13
  have Q0 : Kp W0 W0.drew := (Kp.refl _).drew
  have MK : Hid (∀ W, Kp W0 W → W.cell? ⟨P, 4, none⟩ = some (.int .u64 (t.a : Int)) ∧ W.cell? ⟨P, 5, none⟩ = some (.int .u64 (t.b : Int)) ∧ W.cell? ⟨P, 6, none⟩ = some (.int .u64 (t.c : Int)) ∧ W.cell? ⟨P, 7, none⟩ = some (.int .u64 (t.d : Int)) ∧ Hid (Kp W0 W)) := fun W k => ⟨bl_cell (bl_kp P0.out k) 4 _ rfl, bl_cell (bl_kp P0.out k) 5 _ rfl, bl_cell (bl_kp P0.out k) 6 _ rfl, bl_cell (bl_kp P0.out k) 7 _ rfl, k⟩
  refine wp_region_noPanic ?_
  refine hdrew MK Q0 (fun hH => ?_)
  have KQ := Q0
  refine tk 0 (some 22) (Op.move (Operand.tmp 8)) 9 (v := ?v0b1) rfl ?h0b1 hH ?_
  case h0b1 => intro _ _; go_simp; try with_reducible rfl
  try simp only [ps]
  refine tk 1 (some 23) (Op.binOp BinOp.neq 9 (Operand.tmp 22) (Operand.const (Value.string { data := #[] })) 9) 4 (v := ?v1b2) rfl ?h1b2 hH ?_
  case h1b2 => intro _ _; go_simp; try with_reducible rfl
  try simp only [ps]
  refine tk 2 (some 24) (Op.move (Operand.tmp 23)) 4 (v := ?v2b3) rfl ?h2b3 hH ?_
  case h2b3 => intro _ _; go_simp; try with_reducible rfl
  try simp only [ps]
  refine tn 3 (some 25) (Op.move (Operand.tmp 1)) 71 rfl hH ?_
  try simp only [ps]
  refine tn 4 (some 26) (Op.nilCheck (Operand.tmp 25)) 0 rfl hH ?_
  try simp only [ps]
  refine tn 5 (some 27) (Op.fieldAddr 130 (Operand.tmp 26) 4) 0 rfl hH ?_
  try simp only [ps]
  refine tn 6 (some 28) (Op.load 24 (Operand.tmp 27)) 24 rfl hH ?_
  try simp only [ps]
  refine tn 7 (some 29) (Op.move (Operand.tmp 8)) 9 rfl hH ?_
  try simp only [ps]
  refine tn 8 (some 30) (Op.index 9 (Operand.tmp 29) (Operand.const (Value.int IntKind.i64 0))) 5 rfl hH ?_
  try simp only [ps]
  refine tn 9 (some 31) (Op.call { callee := Callee.value (Operand.func 106), args := #[Operand.tmp 28, Operand.tmp 30], argTypes := #[24, 5] }) 4 rfl hH ?_
  try simp only [ps]
  refine tk 10 (some 32) (Op.pick (Operand.tmp 24) (Operand.tmp 31) (Operand.const (Value.bool false))) 4 (v := ?v10b11) rfl ?h10b11 hH ?_
  case h10b11 => intro _ _; go_simp; try with_reducible rfl
  try simp only [ps]
  refine tk 11 (some 6) (Op.assign (Operand.const (Value.int IntKind.i64 1))) 3 (v := ?v11b12) rfl ?h11b12 hH ?_
  case h11b12 => intro _ _; go_simp; try with_reducible rfl
  try simp only [ps]
  refine tk 12 (some 7) (Op.assign (Operand.tmp 32)) 4 (v := ?v12b13) rfl ?h12b13 hH ?_
  case h12b13 => intro _ _; go_simp; try with_reducible rfl
  try simp only [ps]
  refine wpAnyH_done (by kernel_rfl) ?_ _
  refine NoPanic.normal ?_
  go_wp2_with fail
  go_ret2
  exact ⟨1, false, rfl, HS.out, K0.out.trans KQ⟩
theorem step_begin (n : Int) (low high : Int) (t : W4) (ks : Value) (rd st hd : Nat) (kn so : Option Nat) (P : Nat) (s : ByteArray) (bol : Bool) (x : Sp) (w : World) (hP : w.heap[P]? = some (pto 7 low high n t ks rd st hd kn so)) (hx : x.Ok) (hN : x.In s.size) : Calls Tryz.prog 80 #[.agg #[.string s, .bool bol], ptv P, spv x] w fun e w' => StepD s bol 7 n t x w e w' := by
 have HP := hid hP
 have ha0 := hx.a0
 have haN := hN.a
 have es := slice8 s x.a ha0 haN
 obtain ⟨a, ha⟩ : ∃ a : Nat, x.a.toNat = a := ⟨_, rfl⟩
 have hai : x.a = (a : Int) := by omega
 rw [ha] at es
 clear hP ha0
 have HS : Hid (stepP s.data.toList bol 7 n t x = if x.a = 0 ∧ bol = true then some 0 else none) := by
  show _ = _
  unfold stepP
  rw [if_neg (by decide), if_pos rfl]
 clear hx hN haN
 by_cases h0 : x.a = 0
 ·
  have h0b : (x.a == 0) = true := by simp [h0]
  have HS2 : Hid (stepP s.data.toList bol 7 n t x = if bol then some 0 else none) := by show _ = _; rw [HS.out]; simp [h0]
  clear HS h0 ha hai
  go_enter Tryz.func80, Tryz.ntmps80
  go_upto_region 1 with fail
  refine opq (fun W0 => W0.heap[w.heap.size]? = some (.cells #[.string s, .bool bol] 70) ∧ W0.heap[(w.heap.size + 1)]? = some (spo x) ∧ W0.heap[P]? = some (pto 7 low high n t ks rd st hd kn so) ∧ Kp w W0) ⟨by exact bl_alloc (last_of _ _) _, by exact last_at _ _ _ (by simp), by exact bl_kp HP.out kpt, by exact kpt⟩ ?_
  rintro W0 ⟨xT0, xX0, xP0, xK0⟩
  have T0 := hid xT0
  have X0 := hid xX0
  have P0 := hid xP0
  have K0 := hid xK0
  clear xT0 xX0 xP0 xK0
  have b0 := bl_cell (T0.out) 0 _ rfl
  have b1 := bl_cell (T0.out) 1 _ rfl
  obtain ⟨x0, x1, x2, x3, x4, x5, x6⟩ := cells7 (X0.out)
  obtain ⟨p0, p1, p2, p3, p4, p5, p6, p7, p8, p9, p10, p11, p12, p13⟩ := cells14 (P0.out)
  go_upto_region 6 with fail
  have Q0 : Kp W0 W0.drew := (Kp.refl _).drew
  have MK : Hid (∀ W, Kp W0 W → W.cell? ⟨(w.heap.size + 1), 0, none⟩ = some (.int .i8 x.a) ∧ W.cell? ⟨w.heap.size, 1, none⟩ = some (.bool bol) ∧ Hid (Kp W0 W)) := fun W k => ⟨bl_cell (bl_kp X0.out k) 0 _ rfl, bl_cell (bl_kp T0.out k) 1 _ rfl, k⟩
  refine wp_region_noPanic ?_
  refine hdrew MK Q0 (fun hH => ?_)
  have KQ := Q0
  refine tk 0 (some 35) (Op.fieldAddr 83 (Operand.tmp 5) 0) 0 (v := ?v0c1) rfl ?h0c1 hH ?_
  case h0c1 => intro _ _; go_simp; try with_reducible rfl
  try simp only [ps]
  refine tk 1 (some 36) (Op.load 78 (Operand.tmp 35)) 78 (v := ?v1c2) rfl ?h1c2 hH ?_
  case h1c2 => intro _ _; go_simp; try with_reducible rfl
  try simp only [ps]
  refine tk 2 (some 37) (Op.binOp BinOp.eql 78 (Operand.tmp 36) (Operand.const (Value.int IntKind.i8 0)) 78) 4 (v := ?v2c3) rfl ?h2c3 hH ?_
  case h2c3 => intro _ _; go_simp; try with_reducible rfl
  try simp only [ps]
  refine tk 3 (some 38) (Op.move (Operand.tmp 37)) 4 (v := ?v3c4) rfl ?h3c4 hH ?_
  case h3c4 => intro _ _; go_simp; try with_reducible rfl
  try simp only [ps]
  refine tk 4 (some 39) (Op.fieldAddr 70 (Operand.tmp 3) 1) 0 (v := ?v4c5) rfl ?h4c5 hH ?_
  case h4c5 => intro _ _; go_simp; try with_reducible rfl
  try simp only [ps]
  refine tk 5 (some 40) (Op.load 4 (Operand.tmp 39)) 4 (v := ?v5c6) rfl ?h5c6 hH ?_
  case h5c6 => intro _ _; go_simp; try with_reducible rfl
  try simp only [ps]
  refine tk 6 (some 41) (Op.pick (Operand.tmp 38) (Operand.tmp 40) (Operand.const (Value.bool false))) 4 (v := ?v6c7) rfl ?h6c7 hH ?_
  case h6c7 => intro _ _; go_simp; try with_reducible rfl
  try simp only [ps]
  refine tk 7 (some 6) (Op.assign (Operand.const (Value.int IntKind.i64 0))) 3 (v := ?v7c8) rfl ?h7c8 hH ?_
  case h7c8 => intro _ _; go_simp; try with_reducible rfl
  try simp only [ps]
  refine tk 8 (some 7) (Op.assign (Operand.tmp 41)) 4 (v := ?v8c9) rfl ?h8c9 hH ?_
  case h8c9 => intro _ _; go_simp; try with_reducible rfl
  try simp only [ps]
  refine wpAnyH_done (by kernel_rfl) ?_ _
  refine NoPanic.normal ?_
  go_wp2_with fail
  go_ret2
  exact ⟨0, bol, rfl, HS2.out, K0.out.trans KQ⟩
 ·
  have h0b : (x.a == 0) = false := by simp [h0]
  have HS2 : Hid (stepP s.data.toList bol 7 n t x = none) := by show _ = _; rw [HS.out]; simp [h0]
  clear HS ha hai
  go_enter Tryz.func80, Tryz.ntmps80
  go_upto_region 1 with fail
  refine opq (fun W0 => W0.heap[w.heap.size]? = some (.cells #[.string s, .bool bol] 70) ∧ W0.heap[(w.heap.size + 1)]? = some (spo x) ∧ W0.heap[P]? = some (pto 7 low high n t ks rd st hd kn so) ∧ Kp w W0) ⟨by exact bl_alloc (last_of _ _) _, by exact last_at _ _ _ (by simp), by exact bl_kp HP.out kpt, by exact kpt⟩ ?_
  rintro W0 ⟨xT0, xX0, xP0, xK0⟩
  have T0 := hid xT0
  have X0 := hid xX0
  have P0 := hid xP0
  have K0 := hid xK0
  clear xT0 xX0 xP0 xK0
  have b0 := bl_cell (T0.out) 0 _ rfl
  have b1 := bl_cell (T0.out) 1 _ rfl
  obtain ⟨x0, x1, x2, x3, x4, x5, x6⟩ := cells7 (X0.out)
  obtain ⟨p0, p1, p2, p3, p4, p5, p6, p7, p8, p9, p10, p11, p12, p13⟩ := cells14 (P0.out)
  go_upto_region 6 with fail
  have Q0 : Kp W0 W0.drew := (Kp.refl _).drew
  have MK : Hid (∀ W, Kp W0 W → W.cell? ⟨(w.heap.size + 1), 0, none⟩ = some (.int .i8 x.a) ∧ W.cell? ⟨w.heap.size, 1, none⟩ = some (.bool bol) ∧ Hid (Kp W0 W)) := fun W k => ⟨bl_cell (bl_kp X0.out k) 0 _ rfl, bl_cell (bl_kp T0.out k) 1 _ rfl, k⟩
  refine wp_region_noPanic ?_
  refine hdrew MK Q0 (fun hH => ?_)
  have KQ := Q0
  refine tk 0 (some 35) (Op.fieldAddr 83 (Operand.tmp 5) 0) 0 (v := ?v0d1) rfl ?h0d1 hH ?_
  case h0d1 => intro _ _; go_simp; try with_reducible rfl
  try simp only [ps]
  refine tk 1 (some 36) (Op.load 78 (Operand.tmp 35)) 78 (v := ?v1d2) rfl ?h1d2 hH ?_
  case h1d2 => intro _ _; go_simp; try with_reducible rfl
  try simp only [ps]
  refine tk 2 (some 37) (Op.binOp BinOp.eql 78 (Operand.tmp 36) (Operand.const (Value.int IntKind.i8 0)) 78) 4 (v := ?v2d3) rfl ?h2d3 hH ?_
  case h2d3 => intro _ _; go_simp; try with_reducible rfl
  try simp only [ps]
  refine tk 3 (some 38) (Op.move (Operand.tmp 37)) 4 (v := ?v3d4) rfl ?h3d4 hH ?_
  case h3d4 => intro _ _; go_simp; try with_reducible rfl
  try simp only [ps]
  refine tn 4 (some 39) (Op.fieldAddr 70 (Operand.tmp 3) 1) 0 rfl hH ?_
  try simp only [ps]
  refine tn 5 (some 40) (Op.load 4 (Operand.tmp 39)) 4 rfl hH ?_
  try simp only [ps]
  refine tk 6 (some 41) (Op.pick (Operand.tmp 38) (Operand.tmp 40) (Operand.const (Value.bool false))) 4 (v := ?v6d7) rfl ?h6d7 hH ?_
  case h6d7 => intro _ _; go_simp; try with_reducible rfl
  try simp only [ps]
  refine tk 7 (some 6) (Op.assign (Operand.const (Value.int IntKind.i64 0))) 3 (v := ?v7d8) rfl ?h7d8 hH ?_
  case h7d8 => intro _ _; go_simp; try with_reducible rfl
  try simp only [ps]
  refine tk 8 (some 7) (Op.assign (Operand.tmp 41)) 4 (v := ?v8d9) rfl ?h8d9 hH ?_
  case h8d9 => intro _ _; go_simp; try with_reducible rfl
  try simp only [ps]
  refine wpAnyH_done (by kernel_rfl) ?_ _
  refine NoPanic.normal ?_
  go_wp2_with fail
  go_ret2
  exact ⟨0, false, rfl, HS2.out, K0.out.trans KQ⟩
theorem step_end (n : Int) (low high : Int) (t : W4) (ks : Value) (rd st hd : Nat) (kn so : Option Nat) (P : Nat) (s : ByteArray) (bol : Bool) (x : Sp) (w : World) (hP : w.heap[P]? = some (pto 8 low high n t ks rd st hd kn so)) (hx : x.Ok) (hN : x.In s.size) : Calls Tryz.prog 80 #[.agg #[.string s, .bool bol], ptv P, spv x] w fun e w' => StepD s bol 8 n t x w e w' := by
 have HP := hid hP
 have ha0 := hx.a0
 have haN := hN.a
 have es := slice8 s x.a ha0 haN
 obtain ⟨a, ha⟩ : ∃ a : Nat, x.a.toNat = a := ⟨_, rfl⟩
 have hai : x.a = (a : Int) := by omega
 rw [ha] at es
 clear hP ha0
 have HS : Hid (stepP s.data.toList bol 8 n t x = if a = s.size then some 0 else none) := by
  show _ = _
  unfold stepP
  rw [if_neg (by decide), if_neg (by decide), if_pos rfl, ha, show s.data.toList.length = s.size from Array.length_toList]
 by_cases h0 : a = s.size
 ·
  have hsz : s.extract a s.size = ⟨#[]⟩ := by
   have h0 : (s.extract a s.size).size = 0 := by rw [ext_size s a (by omega)]; omega
   cases h : s.extract a s.size with
   | mk d => rw [h] at h0; exact congrArg ByteArray.mk (Array.size_eq_zero_iff.1 h0)
  rw [hsz] at es
  have HS2 : Hid (stepP s.data.toList bol 8 n t x = some 0) := by show _ = _; rw [HS.out, if_pos h0]
  clear HS h0 hsz hx hN haN ha hai
  go_enter Tryz.func80, Tryz.ntmps80
  go_upto_region 1 with fail
  refine opq (fun W0 => W0.heap[w.heap.size]? = some (.cells #[.string s, .bool bol] 70) ∧ W0.heap[(w.heap.size + 1)]? = some (spo x) ∧ W0.heap[P]? = some (pto 8 low high n t ks rd st hd kn so) ∧ Kp w W0) ⟨by exact bl_alloc (last_of _ _) _, by exact last_at _ _ _ (by simp), by exact bl_kp HP.out kpt, by exact kpt⟩ ?_
  rintro W0 ⟨xT0, xX0, xP0, xK0⟩
  have T0 := hid xT0
  have X0 := hid xX0
  have P0 := hid xP0
  have K0 := hid xK0
  clear xT0 xX0 xP0 xK0
  have b0 := bl_cell (T0.out) 0 _ rfl
  have b1 := bl_cell (T0.out) 1 _ rfl
  obtain ⟨x0, x1, x2, x3, x4, x5, x6⟩ := cells7 (X0.out)
  obtain ⟨p0, p1, p2, p3, p4, p5, p6, p7, p8, p9, p10, p11, p12, p13⟩ := cells14 (P0.out)
  go_wp2_with fail
  go_ret2
  exact ⟨0, true, rfl, HS2.out, K0.out⟩
 ·
  have hsz : (s.extract a s.size).size ≠ 0 := by rw [ext_size s a (by omega)]; omega
  have HS2 : Hid (stepP s.data.toList bol 8 n t x = none) := by show _ = _; rw [HS.out, if_neg h0]
  obtain ⟨r, hr⟩ : ∃ r, s.extract a s.size = r := ⟨_, rfl⟩
  rw [hr] at es hsz
  have hne : r.toList.isEmpty = false := by rw [str_nil]; exact decide_eq_false hsz
  have hnl : ¬ r.toList = [] := by intro e; rw [e] at hne; cases hne
  clear HS hsz hr hx hN haN ha hai h0
  go_enter Tryz.func80, Tryz.ntmps80
  go_upto_region 1 with fail
  refine opq (fun W0 => W0.heap[w.heap.size]? = some (.cells #[.string s, .bool bol] 70) ∧ W0.heap[(w.heap.size + 1)]? = some (spo x) ∧ W0.heap[P]? = some (pto 8 low high n t ks rd st hd kn so) ∧ Kp w W0) ⟨by exact bl_alloc (last_of _ _) _, by exact last_at _ _ _ (by simp), by exact bl_kp HP.out kpt, by exact kpt⟩ ?_
  rintro W0 ⟨xT0, xX0, xP0, xK0⟩
  have T0 := hid xT0
  have X0 := hid xX0
  have P0 := hid xP0
  have K0 := hid xK0
  clear xT0 xX0 xP0 xK0
  have b0 := bl_cell (T0.out) 0 _ rfl
  have b1 := bl_cell (T0.out) 1 _ rfl
  obtain ⟨x0, x1, x2, x3, x4, x5, x6⟩ := cells7 (X0.out)
  obtain ⟨p0, p1, p2, p3, p4, p5, p6, p7, p8, p9, p10, p11, p12, p13⟩ := cells14 (P0.out)
  go_wp2_with fail
  go_ret2
  exact ⟨0, false, rfl, HS2.out, K0.out⟩
end Go.Proofs.YtnajcnhgeggngaaGreat.Way
