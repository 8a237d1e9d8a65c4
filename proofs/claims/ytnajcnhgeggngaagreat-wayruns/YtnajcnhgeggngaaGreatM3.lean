/-
  Texts of this claim: InB, Brk, SignIn, PInv, Grp, Back, One, Part, Row, Kids2.
-/
import Derived.Test.YtnajcnhgeggngaaGreatM2
import Derived.Deep.LoopGhost
import Derived.OwnWalk

/-! ### InB -/

namespace Go.Proofs.YtnajcnhgeggngaaGreat
set_option maxHeartbeats 2000000
set_option maxRecDepth 100000
open Go.RowKit

theorem inBracket_any (s : ByteArray) (ere : Bool) (i n g d P : Nat) (w : World) (h : Rd w P s ere i n g d) (hi : i ≤ s.size) (hs : s.size ≤ 1000000) :
  Calls Tryz.prog 130 #[.pointer (some ⟨P, 0, none⟩)] w fun e w' => RetSE w P s ere (pIn s i) n g d e w' := by
 have R : Hid (Rd w P s ere i n g d) := h
 have hP : P < w.heap.size := h.lt
 clear h
 have gi : IntKind.i64.wrap ((i : Int) + 1) = (i : Int) + 1 := by rw [IntKind.wrap_i64]; omega
 obtain ⟨o, oj, ho⟩ : ∃ o oj, pIn s i = (o, oj) := ⟨_, _, rfl⟩
 have HO := hid ho
 rw [ho]
 clear ho
 go_enter Tryz.func130, Tryz.ntmps130
 go_upto_region 1 with fail
 refine opq (fun W0 => Rd W0 P s ere i n g d ∧ At W0 w.heap.size (fun _ => false) ∧ Kp w W0) ⟨by exact R.out.kp kpt, by exact At.zero _, by exact kpt⟩ ?_
 rintro W0 ⟨xR0, xB0, xK0⟩
 have R0 := hid xR0
 have B0 := hid xB0
 have K0 := hid xK0
 clear xR0 xB0 xK0
 clear R
 have hsz : w.heap.size < W0.heap.size := B0.out.lt
 have K0' : Hid (Ks P w W0) := K0.out.ks (Nat.le_of_lt hP)
 by_cases e0 : i = s.size
 ·
  have g0 : ((i : Int) == (s.size : Int)) = true := by rw [e0]; simp
  have E : Hid (o = none ∧ oj = i) := by
   have := HO.out
   unfold pIn at this
   rw [if_pos e0] at this
   injection this with h1 h2
   exact ⟨h1.symm, h2.symm⟩
  clear e0
  go_cut [15] (fun v wc => v = .bool true ∧ Kp W0 wc)
  case first =>
   have Q0 : Kp W0 W0.drew := (Kp.refl _).drew
   have MK : Hid (∀ W, Kp W0 W → W.cell? ⟨P, 0, none⟩ = some (.string s) ∧ W.cell? ⟨P, 2, none⟩ = some (.int .i64 (i : Int)) ∧ Hid (Kp W0 W)) := fun W k => ⟨(R0.out.kp k).cells.1, (R0.out.kp k).cells.2.2.1, k⟩
   refine wp_region_noPanic ?_
   refine hdrew MK Q0 (fun hH => ?_)
   have KQ := Q0
   refine tk 0 (some 6) (Op.move (Operand.tmp 0)) 95 (v := ?v0a1) rfl ?h0a1 hH ?_
   case h0a1 => intro _ _; go_simp; try with_reducible rfl
   try simp only [ps]
   refine tk 1 (some 7) (Op.nilCheck (Operand.tmp 6)) 0 (v := ?v1a2) rfl ?h1a2 hH ?_
   case h1a2 => intro _ _; go_simp; try with_reducible rfl
   try simp only [ps]
   refine tk 2 (some 8) (Op.fieldAddr 65 (Operand.tmp 7) 2) 0 (v := ?v2a3) rfl ?h2a3 hH ?_
   case h2a3 => intro _ _; go_simp; try with_reducible rfl
   try simp only [ps]
   refine tk 3 (some 9) (Op.load 3 (Operand.tmp 8)) 3 (v := ?v3a4) rfl ?h3a4 hH ?_
   case h3a4 => intro _ _; go_simp; try with_reducible rfl
   try simp only [ps]
   refine tk 4 (some 10) (Op.move (Operand.tmp 0)) 95 (v := ?v4a5) rfl ?h4a5 hH ?_
   case h4a5 => intro _ _; go_simp; try with_reducible rfl
   try simp only [ps]
   refine tk 5 (some 11) (Op.nilCheck (Operand.tmp 10)) 0 (v := ?v5a6) rfl ?h5a6 hH ?_
   case h5a6 => intro _ _; go_simp; try with_reducible rfl
   try simp only [ps]
   refine tk 6 (some 12) (Op.fieldAddr 65 (Operand.tmp 11) 0) 0 (v := ?v6a7) rfl ?h6a7 hH ?_
   case h6a7 => intro _ _; go_simp; try with_reducible rfl
   try simp only [ps]
   refine tk 7 (some 13) (Op.load 9 (Operand.tmp 12)) 9 (v := ?v7a8) rfl ?h7a8 hH ?_
   case h7a8 => intro _ _; go_simp; try with_reducible rfl
   try simp only [ps]
   refine tk 8 (some 14) (Op.call { callee := Callee.builtin Builtin.len, args := #[Operand.tmp 13], argTypes := #[9] }) 3 (v := ?v8a9) rfl ?h8a9 hH ?_
   case h8a9 => intro _ _; go_simp; try with_reducible rfl
   try simp only [ps]
   refine tk 9 (some 15) (Op.binOp BinOp.eql 3 (Operand.tmp 9) (Operand.tmp 14) 3) 4 (v := ?v9a10) rfl ?h9a10 hH ?_
   case h9a10 => intro _ _; go_simp; try with_reducible rfl
   try simp only [ps]
   refine wpAnyH_done (by kernel_rfl) ?_ _
   refine NoPanic.normal ?_
   go_wp2_with fail
   go_meet
   case rel => exact ⟨rfl, KQ⟩
  case rest =>
   obtain ⟨rfl, k1⟩ := hcut
   rename World => W1
   have R1 : Hid (Rd W1 P s ere i n g d) := R0.out.kp k1
   have B1 : Hid (At W1 w.heap.size (fun _ => false)) := B0.out.kp k1
   have K1 : Hid (Ks P w W1) := K0'.out.kpt k1 hP
   clear k1 R0 B0 K0 K0'
   obtain ⟨b0, b1, b2, b3⟩ := B1.out.cells
   have fb0 := B1.out.frozen 0
   have fb1 := B1.out.frozen 1
   have fb2 := B1.out.frozen 2
   have fb3 := B1.out.frozen 3
   go_wp2_with fail
   refine bodyPost_ret (v := .tuple #[sv (fun _ => false), .bool false]) (ret2_set rfl _ _ _ _ _ rfl rfl (B1.out.set4z)) rfl ?_
   exact ⟨fun _ => false, false, rfl, by rw [E.out.1]; rfl, by rw [E.out.2]; exact R1.out.ks (ks_set4 _ _ _ _) (by omega) (by omega), K1.out.off (ks_set4 _ _ _ _) (by omega) hP⟩
 have g0 : ((i : Int) == (s.size : Int)) = false := by simp; omega
 have hlt : i < s.size := by omega
 go_cut [15] (fun v wc => v = .bool false ∧ Kp W0 wc)
 case first =>
  have Q0 : Kp W0 W0.drew := (Kp.refl _).drew
  have MK : Hid (∀ W, Kp W0 W → W.cell? ⟨P, 0, none⟩ = some (.string s) ∧ W.cell? ⟨P, 2, none⟩ = some (.int .i64 (i : Int)) ∧ Hid (Kp W0 W)) := fun W k => ⟨(R0.out.kp k).cells.1, (R0.out.kp k).cells.2.2.1, k⟩
  refine wp_region_noPanic ?_
  refine hdrew MK Q0 (fun hH => ?_)
  have KQ := Q0
  refine tk 0 (some 6) (Op.move (Operand.tmp 0)) 95 (v := ?v0b1) rfl ?h0b1 hH ?_
  case h0b1 => intro _ _; go_simp; try with_reducible rfl
  try simp only [ps]
  refine tk 1 (some 7) (Op.nilCheck (Operand.tmp 6)) 0 (v := ?v1b2) rfl ?h1b2 hH ?_
  case h1b2 => intro _ _; go_simp; try with_reducible rfl
  try simp only [ps]
  refine tk 2 (some 8) (Op.fieldAddr 65 (Operand.tmp 7) 2) 0 (v := ?v2b3) rfl ?h2b3 hH ?_
  case h2b3 => intro _ _; go_simp; try with_reducible rfl
  try simp only [ps]
  refine tk 3 (some 9) (Op.load 3 (Operand.tmp 8)) 3 (v := ?v3b4) rfl ?h3b4 hH ?_
  case h3b4 => intro _ _; go_simp; try with_reducible rfl
  try simp only [ps]
  refine tk 4 (some 10) (Op.move (Operand.tmp 0)) 95 (v := ?v4b5) rfl ?h4b5 hH ?_
  case h4b5 => intro _ _; go_simp; try with_reducible rfl
  try simp only [ps]
  refine tk 5 (some 11) (Op.nilCheck (Operand.tmp 10)) 0 (v := ?v5b6) rfl ?h5b6 hH ?_
  case h5b6 => intro _ _; go_simp; try with_reducible rfl
  try simp only [ps]
  refine tk 6 (some 12) (Op.fieldAddr 65 (Operand.tmp 11) 0) 0 (v := ?v6b7) rfl ?h6b7 hH ?_
  case h6b7 => intro _ _; go_simp; try with_reducible rfl
  try simp only [ps]
  refine tk 7 (some 13) (Op.load 9 (Operand.tmp 12)) 9 (v := ?v7b8) rfl ?h7b8 hH ?_
  case h7b8 => intro _ _; go_simp; try with_reducible rfl
  try simp only [ps]
  refine tk 8 (some 14) (Op.call { callee := Callee.builtin Builtin.len, args := #[Operand.tmp 13], argTypes := #[9] }) 3 (v := ?v8b9) rfl ?h8b9 hH ?_
  case h8b9 => intro _ _; go_simp; try with_reducible rfl
  try simp only [ps]
  refine tk 9 (some 15) (Op.binOp BinOp.eql 3 (Operand.tmp 9) (Operand.tmp 14) 3) 4 (v := ?v9b10) rfl ?h9b10 hH ?_
  case h9b10 => intro _ _; go_simp; try with_reducible rfl
  try simp only [ps]
  refine wpAnyH_done (by kernel_rfl) ?_ _
  refine NoPanic.normal ?_
  go_wp2_with fail
  go_meet
  case rel => exact ⟨rfl, KQ⟩
 case rest =>
  obtain ⟨rfl, k1⟩ := hcut
  rename World => W1
  have R1 : Hid (Rd W1 P s ere i n g d) := R0.out.kp k1
  have B1 : Hid (At W1 w.heap.size (fun _ => false)) := B0.out.kp k1
  have K1 : Hid (Kp w W1) := K0.out.trans k1
  clear k1 R0 B0 K0 K0' g0
  obtain ⟨q, hq⟩ : ∃ q, pfx s i [91, 58] = q := ⟨_, rfl⟩
  have HQ := hid hq
  have hq2 : q = true → i + 2 ≤ s.size := fun h => by rw [h] at hq; exact pfx_le hq hi
  have HQ2 := hid hq2
  clear hq hq2
  go_wp2_with fail
  refine (atClass_any s ere i n g d P _ R1.out hi).mono ?_
  rintro e W2 ⟨rfl, k2⟩
  rw [HQ.out]
  have R2 : Hid (Rd W2 P s ere i n g d) := R1.out.kp k2
  have B2 : Hid (At W2 w.heap.size (fun _ => false)) := B1.out.kp k2
  have K2 : Hid (Ks P w W2) := (K1.out.trans k2).ks (Nat.le_of_lt hP)
  have hsz2 : w.heap.size < W2.heap.size := B2.out.lt
  clear k2 R1 B1 K1
  cases q with
  | true =>
   have E : Hid (pClass s i = (o, oj)) := by
    have := HO.out
    unfold pIn at this
    rw [if_neg e0, if_pos HQ.out] at this
    exact this
   go_wp2_with fail
   refine (rclass_any s ere i n g d P _ R2.out (HQ2.out (by trivial)) hs).mono ?_
   rintro e W3 ⟨⟨q, ok, rfl, r3⟩⟩
   rw [E.out] at r3
   have R3 := hid r3
   have B3 : Hid (At W3 w.heap.size (fun _ => false)) := bl_ks B2.out (by omega) r3.ks
   have K3 : Hid (Ks P w W3) := K2.out.trans r3.ks
   clear r3 R2 B2 K2
   obtain ⟨b0, b1, b2, b3⟩ := B3.out.cells
   have fb0 := B3.out.frozen 0
   have fb1 := B3.out.frozen 1
   have fb2 := B3.out.frozen 2
   have fb3 := B3.out.frozen 3
   go_wp2_with fail
   refine bodyPost_ret (v := .tuple #[sv q, .bool ok]) (ret2_set rfl _ _ _ _ _ rfl rfl (At.set4 B3.out q)) rfl ?_
   exact ⟨q, ok, rfl, R3.out.eq, R3.out.rd.ks (ks_set4 _ _ _ _) (by omega) (by omega), K3.out.off (ks_set4 _ _ _ _) (by omega) hP⟩
  | false =>
   have ec := run_ch s i hlt
   obtain ⟨b, hb⟩ : ∃ b, ch s i = b := ⟨_, rfl⟩
   have HB := hid hb
   have hb256 : b < 256 := by rw [← hb]; exact ch_lt _ _
   rw [hb] at ec
   clear hb
   go_upto_region 5 with fail
   go_cut [4] (fun v wc => v = .int .u8 (b : Int) ∧ Kp W2 wc)
   case first =>
    have Q0 : Kp W2 W2.drew := (Kp.refl _).drew
    have MK : Hid (∀ W, Kp W2 W → W.cell? ⟨P, 0, none⟩ = some (.string s) ∧ W.cell? ⟨P, 2, none⟩ = some (.int .i64 (i : Int)) ∧ Hid (Kp W2 W)) := fun W k => ⟨(R2.out.kp k).cells.1, (R2.out.kp k).cells.2.2.1, k⟩
    refine wp_region_noPanic ?_
    refine hdrew MK Q0 (fun hH => ?_)
    have KQ := Q0
    refine tk 0 (some 23) (Op.move (Operand.tmp 0)) 95 (v := ?v0c1) rfl ?h0c1 hH ?_
    case h0c1 => intro _ _; go_simp; try with_reducible rfl
    try simp only [ps]
    refine tk 1 (some 24) (Op.nilCheck (Operand.tmp 23)) 0 (v := ?v1c2) rfl ?h1c2 hH ?_
    case h1c2 => intro _ _; go_simp; try with_reducible rfl
    try simp only [ps]
    refine tk 2 (some 25) (Op.fieldAddr 65 (Operand.tmp 24) 0) 0 (v := ?v2c3) rfl ?h2c3 hH ?_
    case h2c3 => intro _ _; go_simp; try with_reducible rfl
    try simp only [ps]
    refine tk 3 (some 26) (Op.load 9 (Operand.tmp 25)) 9 (v := ?v3c4) rfl ?h3c4 hH ?_
    case h3c4 => intro _ _; go_simp; try with_reducible rfl
    try simp only [ps]
    refine tk 4 (some 27) (Op.move (Operand.tmp 0)) 95 (v := ?v4c5) rfl ?h4c5 hH ?_
    case h4c5 => intro _ _; go_simp; try with_reducible rfl
    try simp only [ps]
    refine tk 5 (some 28) (Op.nilCheck (Operand.tmp 27)) 0 (v := ?v5c6) rfl ?h5c6 hH ?_
    case h5c6 => intro _ _; go_simp; try with_reducible rfl
    try simp only [ps]
    refine tk 6 (some 29) (Op.fieldAddr 65 (Operand.tmp 28) 2) 0 (v := ?v6c7) rfl ?h6c7 hH ?_
    case h6c7 => intro _ _; go_simp; try with_reducible rfl
    try simp only [ps]
    refine tk 7 (some 30) (Op.load 3 (Operand.tmp 29)) 3 (v := ?v7c8) rfl ?h7c8 hH ?_
    case h7c8 => intro _ _; go_simp; try with_reducible rfl
    try simp only [ps]
    refine tk 8 (some 31) (Op.index 9 (Operand.tmp 26) (Operand.tmp 30)) 5 (v := ?v8c9) rfl ?h8c9 hH ?_
    case h8c9 => intro _ _; go_simp; try with_reducible rfl
    try simp only [ps]
    refine tk 9 (some 4) (Op.assign (Operand.tmp 31)) 5 (v := ?v9c10) rfl ?h9c10 hH ?_
    case h9c10 => intro _ _; go_simp; try with_reducible rfl
    try simp only [ps]
    refine wpAnyH_done (by kernel_rfl) ?_ _
    refine NoPanic.normal ?_
    go_wp2_with fail
    go_meet
    case rel => exact ⟨rfl, KQ⟩
   case rest =>
    obtain ⟨rfl, k3⟩ := hcut
    rename World => W3
    have R3 : Hid (Rd W3 P s ere i n g d) := R2.out.kp k3
    have B3 : Hid (At W3 w.heap.size (fun _ => false)) := B2.out.kp k3
    have K3 : Hid (Ks P w W3) := K2.out.kpt k3 hP
    clear k3 R2 B2 K2 ec
    have p2 := R3.out.cells.2.2.1
    have fp2 := bl_frozen R3.out.b 2
    go_upto_region 7 with fail
    refine opq (fun W4 => Rd W4 P s ere (i + 1) n g d ∧ At W4 w.heap.size (fun _ => false) ∧ Ks P w W4) ⟨by exact R3.out.at (i + 1), by exact bl_set B3.out (by omega) _, by exact K3.out.set 2 _⟩ ?_
    rintro W4 ⟨xR4, xB4, xK4⟩
    have R4 := hid xR4
    have B4 := hid xB4
    have K4 := hid xK4
    clear xR4 xB4 xK4
    clear R3 B3 K3 p2 fp2
    obtain ⟨dd, hd⟩ : ∃ dd, dash s (i + 1) = dd := ⟨_, rfl⟩
    have HD := hid hd
    have hd2 : dd = true → i + 3 ≤ s.size := fun h => by
     rw [h] at hd
     unfold dash at hd
     simp at hd
     omega
    have HD2 := hid hd2
    clear hd hd2
    go_wp2_with fail
    refine (takesDash_any s ere (i + 1) n g d P _ R4.out (by omega) hs).mono ?_
    rintro e W5 ⟨rfl, r5, k5⟩
    have B5 : Hid (At W5 w.heap.size (fun _ => false)) := bl_ks B4.out (by omega) k5
    have K5 : Hid (Ks P w W5) := K4.out.trans k5
    unfold dashTo at r5
    rw [HD.out] at r5 ⊢
    have hsz5 : w.heap.size < W5.heap.size := B5.out.lt
    cases dd with
    | false =>
     have R5 : Hid (Rd W5 P s ere (i + 1) n g d) := r5
     clear r5 k5 R4 B4 K4
     have E : Hid (o = some (addB (fun _ => false) b) ∧ oj = i + 1) := by
      have := HO.out
      unfold pIn at this
      rw [if_neg e0, HQ.out, HD.out, HB.out] at this
      injection this with h1 h2
      exact ⟨h1.symm, h2.symm⟩
     go_wp2_with fail
     refine (of_one b _ _ rfl hb256).mono ?_
     rintro e W6 ⟨rfl, k6⟩
     have R6 : Hid (Rd W6 P s ere (i + 1) n g d) := R5.out.kp k6
     have B6 : Hid (At W6 w.heap.size (fun _ => false)) := B5.out.kp k6
     have K6 : Hid (Ks P w W6) := K5.out.kpt k6 hP
     clear k6 R5 B5 K5
     obtain ⟨b0, b1, b2, b3⟩ := B6.out.cells
     have fb0 := B6.out.frozen 0
     have fb1 := B6.out.frozen 1
     have fb2 := B6.out.frozen 2
     have fb3 := B6.out.frozen 3
     go_wp2_with fail
     refine bodyPost_ret (v := .tuple #[sv (addB (fun _ => false) b), .bool true]) (ret2_set rfl _ _ _ _ _ rfl rfl (At.set4 B6.out (addB (fun _ => false) b))) rfl ?_
     exact ⟨addB (fun _ => false) b, true, rfl, by rw [E.out.1]; rfl, by rw [E.out.2]; exact R6.out.ks (ks_set4 _ _ _ _) (by omega) (by omega), K6.out.off (ks_set4 _ _ _ _) (by omega) hP⟩
    | true =>
     have R5 : Hid (Rd W5 P s ere (i + 2) n g d) := r5
     clear r5 k5 R4 B4 K4
     have h3 := HD2.out (by trivial)
     have ec := run_ch s (i + 2) (by omega)
     obtain ⟨c, hc⟩ : ∃ c, ch s (i + 2) = c := ⟨_, rfl⟩
     have HC := hid hc
     have hc256 : c < 256 := by rw [← hc]; exact ch_lt _ _
     rw [hc, show ((i + 2 : Nat) : Int) = (i : Int) + 2 from rfl] at ec
     clear hc
     obtain ⟨cc, hcc⟩ : ∃ cc, pfx s (i + 2) [91, 58] = cc := ⟨_, rfl⟩
     have HCC := hid hcc
     have AC : Hid (∀ w, Rd w P s ere (i + 2) n g d → Calls Tryz.prog 136 #[.pointer (some ⟨P, 0, none⟩)] w fun e w' => e = .returned (.bool cc) ∧ Kp w w') := by
      intro w h
      have := atClass_any s ere (i + 2) n g d P w h (by omega)
      rw [hcc] at this
      exact this
     clear hcc
     have gi2 : IntKind.i64.wrap ((i : Int) + 2 + 1) = (i : Int) + 3 := by rw [IntKind.wrap_i64]; omega
     have EE : Hid ((o, oj) = if cc || decide (c < b) then (none, i + 2) else (some (rng b c), i + 3)) := by
      have := HO.out
      unfold pIn at this
      rw [if_neg e0, HQ.out, HD.out, HB.out, HC.out, HCC.out] at this
      exact this.symm
     go_upto_region 9 with fail
     cases cc with
     | true =>
      have E : Hid (o = none ∧ oj = i + 2) := by
       have := EE.out
       simp only [Bool.true_or, if_true] at this
       injection this with h1 h2
       exact ⟨h1, h2⟩
      go_cut [59] (fun v wc => v = .bool true ∧ Kp W5 wc)
      case first =>
       have Q0 : Kp W5 W5.drew := (Kp.refl _).drew
       have MK : Hid (∀ W, Kp W5 W → W.cell? ⟨P, 0, none⟩ = some (.string s) ∧ W.cell? ⟨P, 2, none⟩ = some (.int .i64 ((i : Int) + 2)) ∧ Hid (Kp W5 W)) := fun W k => ⟨(R5.out.kp k).cells.1, (R5.out.kp k).cells.2.2.1, k⟩
       refine wp_region_noPanic ?_
       refine hdrew MK Q0 (fun hH => ?_)
       have KQ := Q0
       refine tk 0 (some 45) (Op.move (Operand.tmp 0)) 95 (v := ?v0d1) rfl ?h0d1 hH ?_
       case h0d1 => intro _ _; go_simp; try with_reducible rfl
       try simp only [ps]
       refine wpAnyH_ready (rs := [1]) (by kernel_rfl) (by simp) ?_
       refine AllReadyH.cons (o := { dst := some 46, op := Op.call { callee := Callee.value (Operand.func 136), args := #[Operand.tmp 45], argTypes := #[95] }, type := 4, pos := "bracket.go:48", after := #[{ on := 0, ground := Ground.data }], guard := none }) rfl (fun K hKq => ?_) AllReadyH.nil
       go_simp
       refine (AC.out _ (R5.out.kp KQ)).mono ?_
       rintro e y1 ⟨rfl, kq⟩
       refine hKq.out _ _ (MK.out _ (KQ.trans kq)) (fun hN => ?_)
       clear kq
       clear hKq K hH KQ
       have hH := hN
       clear hN
       have KQ := hH.2.2.out
       try simp only [ps]
       refine tk 2 (some 47) (Op.move (Operand.tmp 46)) 4 (v := ?v2d2) rfl ?h2d2 hH ?_
       case h2d2 => intro _ _; go_simp; try with_reducible rfl
       try simp only [ps]
       refine tn 3 (some 48) (Op.move (Operand.tmp 0)) 95 rfl hH ?_
       try simp only [ps]
       refine tn 4 (some 49) (Op.nilCheck (Operand.tmp 48)) 0 rfl hH ?_
       try simp only [ps]
       refine tn 5 (some 50) (Op.fieldAddr 65 (Operand.tmp 49) 0) 0 rfl hH ?_
       try simp only [ps]
       refine tn 6 (some 51) (Op.load 9 (Operand.tmp 50)) 9 rfl hH ?_
       try simp only [ps]
       refine tn 7 (some 52) (Op.move (Operand.tmp 0)) 95 rfl hH ?_
       try simp only [ps]
       refine tn 8 (some 53) (Op.nilCheck (Operand.tmp 52)) 0 rfl hH ?_
       try simp only [ps]
       refine tn 9 (some 54) (Op.fieldAddr 65 (Operand.tmp 53) 2) 0 rfl hH ?_
       try simp only [ps]
       refine tn 10 (some 55) (Op.load 3 (Operand.tmp 54)) 3 rfl hH ?_
       try simp only [ps]
       refine tn 11 (some 56) (Op.index 9 (Operand.tmp 51) (Operand.tmp 55)) 5 rfl hH ?_
       try simp only [ps]
       refine tn 12 (some 57) (Op.move (Operand.tmp 4)) 5 rfl hH ?_
       try simp only [ps]
       refine tn 13 (some 58) (Op.binOp BinOp.lss 5 (Operand.tmp 56) (Operand.tmp 57) 5) 4 rfl hH ?_
       try simp only [ps]
       refine tk 14 (some 59) (Op.pick (Operand.tmp 47) (Operand.const (Value.bool true)) (Operand.tmp 58)) 4 (v := ?v14d14) rfl ?h14d14 hH ?_
       case h14d14 => intro _ _; go_simp; try with_reducible rfl
       try simp only [ps]
       refine wpAnyH_done (by kernel_rfl) ?_ _
       refine NoPanic.normal ?_
       go_wp2_with fail
       go_meet
       case rel => exact ⟨rfl, KQ⟩
      case rest =>
       obtain ⟨rfl, k6⟩ := hcut
       rename World => W6
       have R6 : Hid (Rd W6 P s ere (i + 2) n g d) := R5.out.kp k6
       have B6 : Hid (At W6 w.heap.size (fun _ => false)) := B5.out.kp k6
       have K6 : Hid (Ks P w W6) := K5.out.kpt k6 hP
       clear k6 R5 B5 K5
       obtain ⟨b0, b1, b2, b3⟩ := B6.out.cells
       have fb0 := B6.out.frozen 0
       have fb1 := B6.out.frozen 1
       have fb2 := B6.out.frozen 2
       have fb3 := B6.out.frozen 3
       go_wp2_with fail
       refine bodyPost_ret (v := .tuple #[sv (fun _ => false), .bool false]) (ret2_set rfl _ _ _ _ _ rfl rfl (B6.out.set4z)) rfl ?_
       exact ⟨fun _ => false, false, rfl, by rw [E.out.1]; rfl, by rw [E.out.2]; exact R6.out.ks (ks_set4 _ _ _ _) (by omega) (by omega), K6.out.off (ks_set4 _ _ _ _) (by omega) hP⟩
     | false =>
      by_cases hcb : c < b
      ·
       have gc : (c : Int) < (b : Int) := by omega
       have E : Hid (o = none ∧ oj = i + 2) := by
        have := EE.out
        rw [decide_eq_true hcb] at this
        injection this with h1 h2
        exact ⟨h1, h2⟩
       go_cut [59] (fun v wc => v = .bool true ∧ Kp W5 wc)
       case first =>
        have Q0 : Kp W5 W5.drew := (Kp.refl _).drew
        have MK : Hid (∀ W, Kp W5 W → W.cell? ⟨P, 0, none⟩ = some (.string s) ∧ W.cell? ⟨P, 2, none⟩ = some (.int .i64 ((i : Int) + 2)) ∧ Hid (Kp W5 W)) := fun W k => ⟨(R5.out.kp k).cells.1, (R5.out.kp k).cells.2.2.1, k⟩
        refine wp_region_noPanic ?_
        refine hdrew MK Q0 (fun hH => ?_)
        have KQ := Q0
        refine tk 0 (some 45) (Op.move (Operand.tmp 0)) 95 (v := ?v0e1) rfl ?h0e1 hH ?_
        case h0e1 => intro _ _; go_simp; try with_reducible rfl
        try simp only [ps]
        refine wpAnyH_ready (rs := [1]) (by kernel_rfl) (by simp) ?_
        refine AllReadyH.cons (o := { dst := some 46, op := Op.call { callee := Callee.value (Operand.func 136), args := #[Operand.tmp 45], argTypes := #[95] }, type := 4, pos := "bracket.go:48", after := #[{ on := 0, ground := Ground.data }], guard := none }) rfl (fun K hKq => ?_) AllReadyH.nil
        go_simp
        refine (AC.out _ (R5.out.kp KQ)).mono ?_
        rintro e y1 ⟨rfl, kq⟩
        refine hKq.out _ _ (MK.out _ (KQ.trans kq)) (fun hN => ?_)
        clear kq
        clear hKq K hH KQ
        have hH := hN
        clear hN
        have KQ := hH.2.2.out
        try simp only [ps]
        refine tk 2 (some 47) (Op.move (Operand.tmp 46)) 4 (v := ?v2e2) rfl ?h2e2 hH ?_
        case h2e2 => intro _ _; go_simp; try with_reducible rfl
        try simp only [ps]
        refine tk 3 (some 48) (Op.move (Operand.tmp 0)) 95 (v := ?v3e3) rfl ?h3e3 hH ?_
        case h3e3 => intro _ _; go_simp; try with_reducible rfl
        try simp only [ps]
        refine tk 4 (some 49) (Op.nilCheck (Operand.tmp 48)) 0 (v := ?v4e4) rfl ?h4e4 hH ?_
        case h4e4 => intro _ _; go_simp; try with_reducible rfl
        try simp only [ps]
        refine tk 5 (some 50) (Op.fieldAddr 65 (Operand.tmp 49) 0) 0 (v := ?v5e5) rfl ?h5e5 hH ?_
        case h5e5 => intro _ _; go_simp; try with_reducible rfl
        try simp only [ps]
        refine tk 6 (some 51) (Op.load 9 (Operand.tmp 50)) 9 (v := ?v6e6) rfl ?h6e6 hH ?_
        case h6e6 => intro _ _; go_simp; try with_reducible rfl
        try simp only [ps]
        refine tk 7 (some 52) (Op.move (Operand.tmp 0)) 95 (v := ?v7e7) rfl ?h7e7 hH ?_
        case h7e7 => intro _ _; go_simp; try with_reducible rfl
        try simp only [ps]
        refine tk 8 (some 53) (Op.nilCheck (Operand.tmp 52)) 0 (v := ?v8e8) rfl ?h8e8 hH ?_
        case h8e8 => intro _ _; go_simp; try with_reducible rfl
        try simp only [ps]
        refine tk 9 (some 54) (Op.fieldAddr 65 (Operand.tmp 53) 2) 0 (v := ?v9e9) rfl ?h9e9 hH ?_
        case h9e9 => intro _ _; go_simp; try with_reducible rfl
        try simp only [ps]
        refine tk 10 (some 55) (Op.load 3 (Operand.tmp 54)) 3 (v := ?v10e10) rfl ?h10e10 hH ?_
        case h10e10 => intro _ _; go_simp; try with_reducible rfl
        try simp only [ps]
        refine tk 11 (some 56) (Op.index 9 (Operand.tmp 51) (Operand.tmp 55)) 5 (v := ?v11e11) rfl ?h11e11 hH ?_
        case h11e11 => intro _ _; go_simp; try with_reducible rfl
        try simp only [ps]
        refine tk 12 (some 57) (Op.move (Operand.tmp 4)) 5 (v := ?v12e12) rfl ?h12e12 hH ?_
        case h12e12 => intro _ _; go_simp; try with_reducible rfl
        try simp only [ps]
        refine tk 13 (some 58) (Op.binOp BinOp.lss 5 (Operand.tmp 56) (Operand.tmp 57) 5) 4 (v := ?v13e13) rfl ?h13e13 hH ?_
        case h13e13 => intro _ _; go_simp; try with_reducible rfl
        try simp only [ps]
        refine tk 14 (some 59) (Op.pick (Operand.tmp 47) (Operand.const (Value.bool true)) (Operand.tmp 58)) 4 (v := ?v14e14) rfl ?h14e14 hH ?_
        case h14e14 => intro _ _; go_simp; try with_reducible rfl
        try simp only [ps]
        refine wpAnyH_done (by kernel_rfl) ?_ _
        refine NoPanic.normal ?_
        go_wp2_with fail
        go_meet
        case rel => exact ⟨rfl, KQ⟩
       case rest =>
        obtain ⟨rfl, k6⟩ := hcut
        rename World => W6
        have R6 : Hid (Rd W6 P s ere (i + 2) n g d) := R5.out.kp k6
        have B6 : Hid (At W6 w.heap.size (fun _ => false)) := B5.out.kp k6
        have K6 : Hid (Ks P w W6) := K5.out.kpt k6 hP
        clear k6 R5 B5 K5
        obtain ⟨b0, b1, b2, b3⟩ := B6.out.cells
        have fb0 := B6.out.frozen 0
        have fb1 := B6.out.frozen 1
        have fb2 := B6.out.frozen 2
        have fb3 := B6.out.frozen 3
        go_wp2_with fail
        refine bodyPost_ret (v := .tuple #[sv (fun _ => false), .bool false]) (ret2_set rfl _ _ _ _ _ rfl rfl (B6.out.set4z)) rfl ?_
        exact ⟨fun _ => false, false, rfl, by rw [E.out.1]; rfl, by rw [E.out.2]; exact R6.out.ks (ks_set4 _ _ _ _) (by omega) (by omega), K6.out.off (ks_set4 _ _ _ _) (by omega) hP⟩
      ·
       have gc : ¬ (c : Int) < (b : Int) := by omega
       have E : Hid (o = some (rng b c) ∧ oj = i + 3) := by
        have := EE.out
        rw [decide_eq_false hcb] at this
        injection this with h1 h2
        exact ⟨h1, h2⟩
       go_cut [59] (fun v wc => v = .bool false ∧ Kp W5 wc)
       case first =>
        have Q0 : Kp W5 W5.drew := (Kp.refl _).drew
        have MK : Hid (∀ W, Kp W5 W → W.cell? ⟨P, 0, none⟩ = some (.string s) ∧ W.cell? ⟨P, 2, none⟩ = some (.int .i64 ((i : Int) + 2)) ∧ Hid (Kp W5 W)) := fun W k => ⟨(R5.out.kp k).cells.1, (R5.out.kp k).cells.2.2.1, k⟩
        refine wp_region_noPanic ?_
        refine hdrew MK Q0 (fun hH => ?_)
        have KQ := Q0
        refine tk 0 (some 45) (Op.move (Operand.tmp 0)) 95 (v := ?v0f1) rfl ?h0f1 hH ?_
        case h0f1 => intro _ _; go_simp; try with_reducible rfl
        try simp only [ps]
        refine wpAnyH_ready (rs := [1]) (by kernel_rfl) (by simp) ?_
        refine AllReadyH.cons (o := { dst := some 46, op := Op.call { callee := Callee.value (Operand.func 136), args := #[Operand.tmp 45], argTypes := #[95] }, type := 4, pos := "bracket.go:48", after := #[{ on := 0, ground := Ground.data }], guard := none }) rfl (fun K hKq => ?_) AllReadyH.nil
        go_simp
        refine (AC.out _ (R5.out.kp KQ)).mono ?_
        rintro e y1 ⟨rfl, kq⟩
        refine hKq.out _ _ (MK.out _ (KQ.trans kq)) (fun hN => ?_)
        clear kq
        clear hKq K hH KQ
        have hH := hN
        clear hN
        have KQ := hH.2.2.out
        try simp only [ps]
        refine tk 2 (some 47) (Op.move (Operand.tmp 46)) 4 (v := ?v2f2) rfl ?h2f2 hH ?_
        case h2f2 => intro _ _; go_simp; try with_reducible rfl
        try simp only [ps]
        refine tk 3 (some 48) (Op.move (Operand.tmp 0)) 95 (v := ?v3f3) rfl ?h3f3 hH ?_
        case h3f3 => intro _ _; go_simp; try with_reducible rfl
        try simp only [ps]
        refine tk 4 (some 49) (Op.nilCheck (Operand.tmp 48)) 0 (v := ?v4f4) rfl ?h4f4 hH ?_
        case h4f4 => intro _ _; go_simp; try with_reducible rfl
        try simp only [ps]
        refine tk 5 (some 50) (Op.fieldAddr 65 (Operand.tmp 49) 0) 0 (v := ?v5f5) rfl ?h5f5 hH ?_
        case h5f5 => intro _ _; go_simp; try with_reducible rfl
        try simp only [ps]
        refine tk 6 (some 51) (Op.load 9 (Operand.tmp 50)) 9 (v := ?v6f6) rfl ?h6f6 hH ?_
        case h6f6 => intro _ _; go_simp; try with_reducible rfl
        try simp only [ps]
        refine tk 7 (some 52) (Op.move (Operand.tmp 0)) 95 (v := ?v7f7) rfl ?h7f7 hH ?_
        case h7f7 => intro _ _; go_simp; try with_reducible rfl
        try simp only [ps]
        refine tk 8 (some 53) (Op.nilCheck (Operand.tmp 52)) 0 (v := ?v8f8) rfl ?h8f8 hH ?_
        case h8f8 => intro _ _; go_simp; try with_reducible rfl
        try simp only [ps]
        refine tk 9 (some 54) (Op.fieldAddr 65 (Operand.tmp 53) 2) 0 (v := ?v9f9) rfl ?h9f9 hH ?_
        case h9f9 => intro _ _; go_simp; try with_reducible rfl
        try simp only [ps]
        refine tk 10 (some 55) (Op.load 3 (Operand.tmp 54)) 3 (v := ?v10f10) rfl ?h10f10 hH ?_
        case h10f10 => intro _ _; go_simp; try with_reducible rfl
        try simp only [ps]
        refine tk 11 (some 56) (Op.index 9 (Operand.tmp 51) (Operand.tmp 55)) 5 (v := ?v11f11) rfl ?h11f11 hH ?_
        case h11f11 => intro _ _; go_simp; try with_reducible rfl
        try simp only [ps]
        refine tk 12 (some 57) (Op.move (Operand.tmp 4)) 5 (v := ?v12f12) rfl ?h12f12 hH ?_
        case h12f12 => intro _ _; go_simp; try with_reducible rfl
        try simp only [ps]
        refine tk 13 (some 58) (Op.binOp BinOp.lss 5 (Operand.tmp 56) (Operand.tmp 57) 5) 4 (v := ?v13f13) rfl ?h13f13 hH ?_
        case h13f13 => intro _ _; go_simp; try with_reducible rfl
        try simp only [ps]
        refine tk 14 (some 59) (Op.pick (Operand.tmp 47) (Operand.const (Value.bool true)) (Operand.tmp 58)) 4 (v := ?v14f14) rfl ?h14f14 hH ?_
        case h14f14 => intro _ _; go_simp; try with_reducible rfl
        try simp only [ps]
        refine wpAnyH_done (by kernel_rfl) ?_ _
        refine NoPanic.normal ?_
        go_wp2_with fail
        go_meet
        case rel => exact ⟨rfl, KQ⟩
       case rest =>
        obtain ⟨rfl, k6⟩ := hcut
        rename World => W6
        have R6 : Hid (Rd W6 P s ere (i + 2) n g d) := R5.out.kp k6
        have B6 : Hid (At W6 w.heap.size (fun _ => false)) := B5.out.kp k6
        have K6 : Hid (Ks P w W6) := K5.out.kpt k6 hP
        clear k6 R5 B5 K5
        go_upto_region 11 with fail
        go_cut [5] (fun v wc => v = .int .u8 (c : Int) ∧ Kp W6 wc)
        case first =>
         have Q0 : Kp W6 W6.drew := (Kp.refl _).drew
         have MK : Hid (∀ W, Kp W6 W → W.cell? ⟨P, 0, none⟩ = some (.string s) ∧ W.cell? ⟨P, 2, none⟩ = some (.int .i64 ((i : Int) + 2)) ∧ Hid (Kp W6 W)) := fun W k => ⟨(R6.out.kp k).cells.1, (R6.out.kp k).cells.2.2.1, k⟩
         refine wp_region_noPanic ?_
         refine hdrew MK Q0 (fun hH => ?_)
         have KQ := Q0
         refine tk 0 (some 61) (Op.move (Operand.tmp 0)) 95 (v := ?v0g1) rfl ?h0g1 hH ?_
         case h0g1 => intro _ _; go_simp; try with_reducible rfl
         try simp only [ps]
         refine tk 1 (some 62) (Op.nilCheck (Operand.tmp 61)) 0 (v := ?v1g2) rfl ?h1g2 hH ?_
         case h1g2 => intro _ _; go_simp; try with_reducible rfl
         try simp only [ps]
         refine tk 2 (some 63) (Op.fieldAddr 65 (Operand.tmp 62) 0) 0 (v := ?v2g3) rfl ?h2g3 hH ?_
         case h2g3 => intro _ _; go_simp; try with_reducible rfl
         try simp only [ps]
         refine tk 3 (some 64) (Op.load 9 (Operand.tmp 63)) 9 (v := ?v3g4) rfl ?h3g4 hH ?_
         case h3g4 => intro _ _; go_simp; try with_reducible rfl
         try simp only [ps]
         refine tk 4 (some 65) (Op.move (Operand.tmp 0)) 95 (v := ?v4g5) rfl ?h4g5 hH ?_
         case h4g5 => intro _ _; go_simp; try with_reducible rfl
         try simp only [ps]
         refine tk 5 (some 66) (Op.nilCheck (Operand.tmp 65)) 0 (v := ?v5g6) rfl ?h5g6 hH ?_
         case h5g6 => intro _ _; go_simp; try with_reducible rfl
         try simp only [ps]
         refine tk 6 (some 67) (Op.fieldAddr 65 (Operand.tmp 66) 2) 0 (v := ?v6g7) rfl ?h6g7 hH ?_
         case h6g7 => intro _ _; go_simp; try with_reducible rfl
         try simp only [ps]
         refine tk 7 (some 68) (Op.load 3 (Operand.tmp 67)) 3 (v := ?v7g8) rfl ?h7g8 hH ?_
         case h7g8 => intro _ _; go_simp; try with_reducible rfl
         try simp only [ps]
         refine tk 8 (some 69) (Op.index 9 (Operand.tmp 64) (Operand.tmp 68)) 5 (v := ?v8g9) rfl ?h8g9 hH ?_
         case h8g9 => intro _ _; go_simp; try with_reducible rfl
         try simp only [ps]
         refine tk 9 (some 5) (Op.assign (Operand.tmp 69)) 5 (v := ?v9g10) rfl ?h9g10 hH ?_
         case h9g10 => intro _ _; go_simp; try with_reducible rfl
         try simp only [ps]
         refine wpAnyH_done (by kernel_rfl) ?_ _
         refine NoPanic.normal ?_
         go_wp2_with fail
         go_meet
         case rel => exact ⟨rfl, KQ⟩
        case rest =>
         obtain ⟨rfl, k7⟩ := hcut
         rename World => W7
         have R7 : Hid (Rd W7 P s ere (i + 2) n g d) := R6.out.kp k7
         have B7 : Hid (At W7 w.heap.size (fun _ => false)) := B6.out.kp k7
         have K7 : Hid (Ks P w W7) := K6.out.kpt k7 hP
         clear k7 R6 B6 K6 ec
         have p2 := R7.out.cells.2.2.1
         have fp2 := bl_frozen R7.out.b 2
         have hsz7 : w.heap.size < W7.heap.size := B7.out.lt
         go_upto_region 13 with fail
         refine opq (fun W8 => Rd W8 P s ere (i + 3) n g d ∧ At W8 w.heap.size (fun _ => false) ∧ Ks P w W8) ⟨by exact R7.out.at (i + 3), by exact bl_set B7.out (by omega) _, by exact K7.out.set 2 _⟩ ?_
         rintro W8 ⟨xR8, xB8, xK8⟩
         have R8 := hid xR8
         have B8 := hid xB8
         have K8 := hid xK8
         clear xR8 xB8 xK8
         clear R7 B7 K7 p2 fp2
         go_wp2_with fail
         refine (range_any b c _ hb256 hc256).mono ?_
         rintro e W9 ⟨rfl, k9⟩
         have R9 : Hid (Rd W9 P s ere (i + 3) n g d) := R8.out.kp k9
         have B9 : Hid (At W9 w.heap.size (fun _ => false)) := B8.out.kp k9
         have K9 : Hid (Ks P w W9) := K8.out.kpt k9 hP
         clear k9 R8 B8 K8
         obtain ⟨b0, b1, b2, b3⟩ := B9.out.cells
         have fb0 := B9.out.frozen 0
         have fb1 := B9.out.frozen 1
         have fb2 := B9.out.frozen 2
         have fb3 := B9.out.frozen 3
         go_wp2_with fail
         refine bodyPost_ret (v := .tuple #[sv (rng b c), .bool true]) (ret2_set rfl _ _ _ _ _ rfl rfl (At.set4 B9.out (rng b c))) rfl ?_
         exact ⟨rng b c, true, rfl, by rw [E.out.1]; rfl, by rw [E.out.2]; exact R9.out.ks (ks_set4 _ _ _ _) (by omega) (by omega), K9.out.off (ks_set4 _ _ _ _) (by omega) hP⟩
end Go.Proofs.YtnajcnhgeggngaaGreat

/-! ### Brk -/

namespace Go.Proofs.YtnajcnhgeggngaaGreat
set_option maxHeartbeats 2000000
set_option maxRecDepth 100000
open Go.RowKit

theorem pClass_le (s : ByteArray) (i : Nat) (hi : i + 2 ≤ s.size) : (pClass s i).2 ≤ s.size ∧ ((pClass s i).1 ≠ none → i < (pClass s i).2) := by
 have z : s.data.toList.length = s.size := Array.length_toList
 unfold pClass
 dsimp only
 split
 ·
  split
  ·
   refine ⟨by show s.size - _ ≤ s.size; omega, fun _ => ?_⟩
   have hl : (Lib.cut (List.drop (i + 2) s.data.toList) [58, 93]).2.1.length ≤ s.size - (i + 2) := by
    unfold Lib.cut
    split
    ·
     show (List.drop _ (List.drop (i + 2) s.data.toList)).length ≤ _
     rw [List.length_drop, List.length_drop, z]; omega
    ·
     exact Nat.zero_le _
   show i < s.size - (Lib.cut (List.drop (i + 2) s.data.toList) [58, 93]).2.1.length
   omega
  ·
   exact ⟨by show i ≤ s.size; omega, fun h => absurd rfl h⟩
 ·
  exact ⟨by show i ≤ s.size; omega, fun h => absurd rfl h⟩
theorem pIn_le (s : ByteArray) (i : Nat) (hi : i ≤ s.size) : (pIn s i).2 ≤ s.size ∧ ((pIn s i).1 ≠ none → i < (pIn s i).2) := by
 unfold pIn
 split
 ·
  exact ⟨hi, fun h => absurd rfl h⟩
 ·
  split
  ·
   rename_i hp; exact pClass_le s i (pfx_le hp hi)
  ·
   split
   ·
    rename_i hd
    have h3 : i + 3 ≤ s.size := by unfold dash at hd; simp at hd; omega
    split
    ·
     exact ⟨by show i + 2 ≤ s.size; omega, fun h => absurd rfl h⟩
    ·
     exact ⟨h3, fun _ => by show i < i + 3; omega⟩
   ·
    exact ⟨by show i + 1 ≤ s.size; omega, fun _ => by show i < i + 1; omega⟩

structure Br (s : ByteArray) (i2 k : Nat) (ok : Bool) (p : Nat → Bool) (j : Nat) : Prop where
 yes : ok = true → j ≤ s.size ∧ s.size < k + j ∧ pBrL s k p j = pBr s i2
 no : ok = false → pBr s i2 = (none, j)

theorem bracket_any (s : ByteArray) (ere : Bool) (i n g d P : Nat) (w : World) (h : Rd w P s ere i n g d) (hi : i < s.size) (hs : s.size ≤ 1000000) (hn : n ≤ 1000000000) :
  Calls Tryz.prog 116 #[.pointer (some ⟨P, 0, none⟩)] w fun e w' => RetE w P s ere (pBracket s ⟨i, n, g, d⟩) e w' := by
 have R : Hid (Rd w P s ere i n g d) := h
 have hP : P < w.heap.size := h.lt
 clear h
 have gi : IntKind.i64.wrap ((i : Int) + 1) = (i : Int) + 1 := by rw [IntKind.wrap_i64]; omega
 obtain ⟨tn, htn⟩ : ∃ tn, bTurn s i = tn := ⟨_, rfl⟩
 have T1 : Hid (∀ w, Rd w P s ere (i + 1) n g d → Calls Tryz.prog 129 #[.pointer (some ⟨P, 0, none⟩), .string ⟨#[94]⟩] w fun e w' => e = .returned (.bool tn) ∧ Rd w' P s ere (bFrom s i) n g d ∧ Ks P w w') := by
  intro w h
  have := takes_any ⟨#[94]⟩ s ere (i + 1) n g d P w h hi hs
  rw [show pfx s (i + 1) (⟨#[94]⟩ : ByteArray).data.toList = tn from htn] at this
  unfold bFrom
  rw [htn]
  cases tn <;> exact this
 have hf : bFrom s i ≤ s.size := by
  unfold bFrom
  split
  ·
   rename_i ht; exact pfx_le ht hi
  ·
   exact hi
 have HTN := hid htn
 clear htn
 obtain ⟨i2, hi2⟩ : ∃ i2, bFrom s i = i2 := ⟨_, rfl⟩
 rw [hi2] at T1 hf
 have HI2 := hid hi2
 clear hi2
 go_enter Tryz.func116, Tryz.ntmps116
 go_upto_region 1 with fail
 refine opq (fun W0 => Rd W0 P s ere i n g d ∧ W0.heap[w.heap.size]? = some rzo ∧ Ks P w W0) ⟨by exact R.out.kp kpt, by (first | exact last_at _ _ _ (by simp) | (refine bl_alloc ?_ _; first | exact last_at _ _ _ (by simp) | (refine bl_alloc ?_ _; first | exact last_at _ _ _ (by simp) | (refine bl_alloc ?_ _; exact last_at _ _ _ (by simp))))), by exact (Kp.ks kpt (Nat.le_of_lt hP))⟩ ?_
 rintro W0 ⟨xR0, xB0, xK0⟩
 have R0 := hid xR0
 have B0 := hid xB0
 have K0 := hid xK0
 clear xR0 xB0 xK0
 clear R
 have p2 := R0.out.cells.2.2.1
 have fp2 := bl_frozen R0.out.b 2
 go_upto_region 3 with fail
 refine opq (fun W1 => Rd W1 P s ere (i + 1) n g d ∧ W1.heap[w.heap.size]? = some rzo ∧ Ks P w W1) ⟨by exact R0.out.at (i + 1), by exact bl_set B0.out (by omega) _, by exact K0.out.set 2 _⟩ ?_
 rintro W1 ⟨xR1, xB1, xK1⟩
 have R1 := hid xR1
 have B1 := hid xB1
 have K1 := hid xK1
 clear xR1 xB1 xK1
 clear p2 fp2 R0 B0 K0
 go_wp2_with fail
 refine (T1.out _ R1.out).mono ?_
 rintro e W2 ⟨rfl, r2, k2⟩
 have R2 := hid r2
 have B2 : Hid (W2.heap[w.heap.size]? = some rzo) := bl_ks B1.out (by omega) k2
 have K2 : Hid (Ks P w W2) := K1.out.trans k2
 clear r2 k2 R1 B1 K1 T1
 go_wp2_with fail
 refine (inBracket_any s ere i2 n g d P _ R2.out hf hs).mono ?_
 rintro e w3 ⟨⟨q, ok, rfl, r3⟩⟩
 have hsz3 : w.heap.size < w3.heap.size := bl_lt (bl_ks B2.out (by omega) r3.ks)
 have R3 := hid r3
 have B3 : Hid (w3.heap[w.heap.size]? = some rzo) := bl_ks B2.out (by omega) r3.ks
 have K3 : Hid (Ks P w w3) := K2.out.trans r3.ks
 clear r3 R2 B2 K2
 obtain ⟨oo, jj, ho⟩ : ∃ oo jj, pIn s i2 = (oo, jj) := ⟨_, _, rfl⟩
 have HO := hid ho
 have hle := pIn_le s i2 hf
 rw [ho] at hle
 have HLE := hid hle
 clear hle ho
 have BR0 : Hid (Br s i2 (s.size + 1) ok q jj) := by
  have e := R3.out.eq
  rw [HO.out] at e
  refine ⟨fun h => ?_, fun h => ?_⟩
  ·
   subst h
   refine ⟨HLE.out.1, by omega, ?_⟩
   unfold pBr
   rw [HO.out, show oo = some q from e]
  ·
   subst h
   unfold pBr
   rw [HO.out, show oo = none from e]
 have RJ : Hid (Rd w3 P s ere jj n g d) := by have := R3.out.rd; rw [HO.out] at this; exact this
 clear R3 HO HLE
 go_wp2_with fail
 go_loopg [7] (s.size + 1) (fun k v wr => ∃ (ok : Bool) (p : Nat → Bool) (j : Nat), v = .bool ok ∧ Br s i2 k ok p j ∧ At wr w3.heap.size p ∧ Rd wr P s ere j n g d ∧ wr.heap[w.heap.size]? = some rzo ∧ Ks P w wr)
 case atStart => exact ⟨ok, q, jj, rfl, BR0.out, At.new _ _, RJ.out.kp ((Kp.refl _).alloc _), bl_alloc B3.out _, K3.out.kpt ((Kp.refl _).alloc _) hP⟩
 case round =>
  obtain ⟨ok, p, j, rfl, hbr, hA, hR, hB, hK⟩ := hrel
  have BR := hid hbr
  have A := hid hA
  have R := hid hR
  have B := hid hB
  have K := hid hK
  have hszr : w3.heap.size < wr.heap.size := hA.lt
  clear hbr hA hR hB hK B3 K3 RJ BR0
  cases ok with
  | false =>
   have E : Hid (pBracket s ⟨i, n, g, d⟩ = ⟨rx0, 1, ⟨j, n, g, d⟩⟩) := by show _ = _; unfold pBracket; rw [HI2.out, BR.out.no rfl]
   obtain ⟨b0, fb0, b1, fb1, b2, fb2, b3, fb3, b4, fb4, b5, fb5, b6, fb6, b7, fb7, b8, fb8⟩ := cellf9 (B.out)
   go_wp2_with fail
   refine bodyPost_ret (v := .tuple #[rz, .int .i64 1]) (rx_ret2 rfl _ _ _ _ _ rfl rfl (bl_set9 B.out _ _ _ _ _ _ _ _ _) rfl) rfl ?_
   rw [E.out]
   exact ⟨_, rfl, Ret.fail R.out K.out (ks_set9 _ _ _ _ _ _ _ _ _) hP (by omega)⟩
  | true =>
   obtain ⟨hj1, hj2, hj3⟩ := BR.out.yes rfl
   obtain ⟨k, rfl⟩ : ∃ k, gk = k + 1 := ⟨gk - 1, by omega⟩
   have HJ := hid hj3
   clear hj3 BR
   obtain ⟨sh, hsh⟩ : ∃ sh, pfx s j [93] = sh := ⟨_, rfl⟩
   have HSH := hid hsh
   have hsl : sh = true → j + 1 ≤ s.size := fun h => by rw [h] at hsh; exact pfx_le hsh hj1
   have HSL := hid hsl
   clear hsh hsl
   go_wp2_with fail
   refine (takes_any ⟨#[93]⟩ s ere j n g d P _ R.out hj1 hs).mono ?_
   rintro e V4 ⟨rfl, r4, k4⟩
   rw [show pfx s j (⟨#[93]⟩ : ByteArray).data.toList = sh from HSH.out] at r4 ⊢
   have A4 : Hid (At V4 w3.heap.size p) := bl_ks A.out (by omega) k4
   have B4 : Hid (V4.heap[w.heap.size]? = some rzo) := bl_ks B.out (by omega) k4
   have K4 : Hid (Ks P w V4) := K.out.trans k4
   have hsz4 : w3.heap.size < V4.heap.size := A4.out.lt
   cases sh with
   | false =>
    have R4 : Hid (Rd V4 P s ere j n g d) := r4
    clear r4 k4 A B K R
    obtain ⟨oo, jj, ho⟩ : ∃ oo jj, pIn s j = (oo, jj) := ⟨_, _, rfl⟩
    have HO := hid ho
    have hle := pIn_le s j hj1
    rw [ho] at hle
    have HLE := hid hle
    clear hle ho
    go_upto_region 7 with fail
    refine opq (fun W5 => Rd W5 P s ere j n g d ∧ At W5 w3.heap.size p ∧ At W5 V4.heap.size (fun _ => false) ∧ W5.heap[w.heap.size]? = some rzo ∧ Ks P w W5) ⟨by exact R4.out.kp kpt, by exact A4.out.kp kpt, by exact At.zero _, by exact bl_kp B4.out kpt, by exact K4.out.kpt kpt hP⟩ ?_
    rintro W5 ⟨xR5, xA5, xM5, xB5, xK5⟩
    have R5 := hid xR5
    have A5 := hid xA5
    have M5 := hid xM5
    have B5 := hid xB5
    have K5 := hid xK5
    clear xR5 xA5 xM5 xB5 xK5
    clear R4 A4 B4 K4
    have hsz5 : V4.heap.size < W5.heap.size := M5.out.lt
    go_wp2_with fail
    refine (inBracket_any s ere j n g d P _ R5.out hj1 hs).mono ?_
    rintro e W6 ⟨⟨q, ok, rfl, r6⟩⟩
    have EQ := hid r6.eq
    rw [HO.out] at EQ
    have R6 : Hid (Rd W6 P s ere jj n g d) := by have := r6.rd; rw [HO.out] at this; exact this
    have A6 : Hid (At W6 w3.heap.size p) := bl_ks A5.out (by omega) r6.ks
    have M6 : Hid (At W6 V4.heap.size (fun _ => false)) := bl_ks M5.out (by omega) r6.ks
    have B6 : Hid (W6.heap[w.heap.size]? = some rzo) := bl_ks B5.out (by omega) r6.ks
    have K6 : Hid (Ks P w W6) := K5.out.trans r6.ks
    clear r6 R5 A5 M5 B5 K5
    have NX : Hid (Br s i2 k ok (orB p q) jj) := by
     have hj := HJ.out
     unfold pBrL at hj
     rw [HSH.out, HO.out] at hj
     have e := EQ.out
     refine ⟨fun h => ?_, fun h => ?_⟩
     ·
      subst h
      have e' : oo = some q := e
      subst e'
      have h4 : j < jj := HLE.out.2 (by simp)
      exact ⟨HLE.out.1, by omega, hj⟩
     ·
      subst h
      have e' : oo = none := e
      subst e'
      exact hj.symm
    obtain ⟨m0, m1, m2, m3⟩ := M6.out.cells
    have fm0 := M6.out.frozen 0
    have fm1 := M6.out.frozen 1
    have fm2 := M6.out.frozen 2
    have fm3 := M6.out.frozen 3
    go_upto_region 8 with fail
    clear m0 m1 m2 m3 fm0 fm1 fm2 fm3
    refine opq (fun W7 => Rd W7 P s ere jj n g d ∧ At W7 w3.heap.size p ∧ At W7 V4.heap.size q ∧ W7.heap[w.heap.size]? = some rzo ∧ Ks P w W7) ⟨by exact R6.out.ks (ks_set4 _ _ _ _) (by omega) (by omega), by exact bl_ks A6.out (by omega) (ks_set4 _ _ _ _), by exact M6.out.set4 q, by exact bl_ks B6.out (by omega) (ks_set4 _ _ _ _), by exact K6.out.off (ks_set4 _ _ _ _) (by omega) hP⟩ ?_
    rintro W7 ⟨xR7, xA7, xM7, xB7, xK7⟩
    have R7 := hid xR7
    have A7 := hid xA7
    have M7 := hid xM7
    have B7 := hid xB7
    have K7 := hid xK7
    clear xR7 xA7 xM7 xB7 xK7
    clear R6 A6 M6 B6 K6
    obtain ⟨c0, c1, c2, c3⟩ := A7.out.cells
    obtain ⟨m0, m1, m2, m3⟩ := M7.out.cells
    go_wp2_with fail
    clear c0 c1 c2 c3 m0 m1 m2 m3
    refine (join2 p q _ W7.heap.size (by simp) (last_of _ _)).mono ?_
    rintro e W8 ⟨rfl, k8⟩
    have k8' := ((Kp.refl W7).alloc (two p q)).trans k8
    have R8 : Hid (Rd W8 P s ere jj n g d) := R7.out.kp k8'
    have A8 : Hid (At W8 w3.heap.size p) := A7.out.kp k8'
    have B8 : Hid (W8.heap[w.heap.size]? = some rzo) := bl_kp B7.out k8'
    have K8 : Hid (Ks P w W8) := K7.out.kpt k8' hP
    clear k8 k8' R7 A7 M7 B7 K7
    obtain ⟨c0, c1, c2, c3⟩ := A8.out.cells
    have fc0 := A8.out.frozen 0
    have fc1 := A8.out.frozen 1
    have fc2 := A8.out.frozen 2
    have fc3 := A8.out.frozen 3
    go_wp2_with fail
    go_roundg k
    case measure => omega
    case rel => exact ⟨ok, orB p q, jj, rfl, NX.out, A8.out.set4 (orB p q), R8.out.ks (ks_set4 _ _ _ _) (by omega) (by omega), bl_ks B8.out (by omega) (ks_set4 _ _ _ _), K8.out.off (ks_set4 _ _ _ _) (by omega) hP⟩
   | true =>
    have R4 : Hid (Rd V4 P s ere (j + 1) n g d) := r4
    have hj5 := HSL.out (by trivial)
    clear r4 k4 A B K R
    obtain ⟨t, ht⟩ : ∃ t, (if tn then notB p else p) = t := ⟨_, rfl⟩
    have HT := hid ht
    clear ht
    have E0 : Hid (pBracket s ⟨i, n, g, d⟩ = if cnt t 256 = 0 then ⟨rx0, 1, ⟨i, n, g, d⟩⟩ else ⟨rset t, 0, ⟨j + 1, n + 1, g, d⟩⟩) := by
     have hj := HJ.out
     unfold pBrL at hj
     rw [HSH.out] at hj
     show _ = _
     unfold pBracket
     rw [HI2.out, ← hj]
     simp only [if_true, HTN.out, HT.out]
    go_upto_if 45 with fail
    go_cut [] (fun wc => At wc w3.heap.size t ∧ Rd wc P s ere (j + 1) n g d ∧ wc.heap[w.heap.size]? = some rzo ∧ Ks P w wc)
    case first =>
     cases tn with
     | false =>
      have ht : p = t := HT.out
      subst ht
      go_wp2_with fail
      go_meet
      case rel => exact ⟨A4.out, R4.out, B4.out, K4.out⟩
     | true =>
      have ht : notB p = t := HT.out
      subst ht
      obtain ⟨c0, c1, c2, c3⟩ := A4.out.cells
      go_wp2_with fail
      clear c0 c1 c2 c3
      refine (not_any p _).mono ?_
      rintro e W5 ⟨rfl, k5⟩
      have A5 := hid (A4.out.kp k5)
      have R5 := hid (R4.out.kp k5)
      have B5 := hid (bl_kp B4.out k5)
      have K5 := hid (K4.out.kpt k5 hP)
      clear k5 A4 R4 B4 K4
      obtain ⟨c0, c1, c2, c3⟩ := A5.out.cells
      have fc0 := A5.out.frozen 0
      have fc1 := A5.out.frozen 1
      have fc2 := A5.out.frozen 2
      have fc3 := A5.out.frozen 3
      go_wp2_with fail
      go_meet
      case rel => exact ⟨A5.out.set4 (notB p), R5.out.ks (ks_set4 _ _ _ _) (by omega) (by omega), bl_ks B5.out (by omega) (ks_set4 _ _ _ _), K5.out.off (ks_set4 _ _ _ _) (by omega) hP⟩
    case rest =>
     obtain ⟨a5, r5, b5, k5⟩ := hcut
     rename World => W5
     have A5 := hid a5
     have R5 := hid r5
     have B5 := hid b5
     have K5 := hid k5
     clear a5 r5 b5 k5 A4 R4 B4 K4
     obtain ⟨c0, c1, c2, c3⟩ := A5.out.cells
     go_wp2_with fail
     clear c0 c1 c2 c3
     refine (count_any t _).mono ?_
     rintro e W6 ⟨rfl, k6⟩
     have A6 := hid (A5.out.kp k6)
     have R6 := hid (R5.out.kp k6)
     have B6 := hid (bl_kp B5.out k6)
     have K6 := hid (K5.out.kpt k6 hP)
     clear k6 A5 R5 B5 K5
     by_cases hc : cnt t 256 = 0
     ·
      have gc : ((cnt t 256 : Int) == 0) = true := by simp; omega
      have gc' : (cnt t 256 : Int) = 0 := by omega
      have E : Hid (pBracket s ⟨i, n, g, d⟩ = ⟨rx0, 1, ⟨i, n, g, d⟩⟩) := by show _ = _; rw [E0.out, if_pos hc]
      clear hc
      have p2 := R6.out.cells.2.2.1
      have fp2 := bl_frozen R6.out.b 2
      obtain ⟨b0, fb0, b1, fb1, b2, fb2, b3, fb3, b4, fb4, b5, fb5, b6, fb6, b7, fb7, b8, fb8⟩ := cellf9 (B6.out)
      go_wp2_with fail
      refine bodyPost_ret (v := .tuple #[rz, .int .i64 1]) (rx_ret2 rfl _ _ _ _ _ rfl rfl (bl_set9 (bl_set B6.out (by omega) _) _ _ _ _ _ _ _ _ _) rfl) rfl ?_
      rw [E.out]
      exact ⟨_, rfl, Ret.fail (R6.out.at i) (K6.out.set 2 _) (ks_set9 _ _ _ _ _ _ _ _ _) hP (by omega)⟩
     ·
      have gc : ((cnt t 256 : Int) == 0) = false := by simp; omega
      have gc' : ¬ (cnt t 256 : Int) = 0 := by omega
      have E : Hid (pBracket s ⟨i, n, g, d⟩ = ⟨rset t, 0, ⟨j + 1, n + 1, g, d⟩⟩) := by show _ = _; rw [E0.out, if_neg hc]
      clear hc
      obtain ⟨c0, c1, c2, c3⟩ := A6.out.cells
      go_wp2_with fail
      clear c0 c1 c2 c3
      refine (oneOf_any t _).mono ?_
      rintro e W7 ⟨rfl, k7⟩
      have R7 := hid (R6.out.kp k7)
      have B7 := hid (bl_kp B6.out k7)
      have K7 := hid (K6.out.kpt k7 hP)
      clear k7 A6 R6 B6 K6
      go_wp2_with fail
      refine (node_any 1 0 0 0 (W4.of t) none 0 0 s ere (j + 1) n g d P _ R7.out hn).mono ?_
      rintro e W8 ⟨rfl, r8, k8⟩
      have R8 := hid r8
      have B8 : Hid (W8.heap[w.heap.size]? = some rzo) := bl_ks B7.out (by omega) k8
      have K8 := hid (K7.out.trans k8)
      clear r8 k8 R7 B7 K7
      obtain ⟨b0, fb0, b1, fb1, b2, fb2, b3, fb3, b4, fb4, b5, fb5, b6, fb6, b7, fb7, b8, fb8⟩ := cellf9 (B8.out)
      go_wp2_with fail
      refine bodyPost_ret (v := .tuple #[rxv 1 0 0 0 (W4.of t) (.slice none 0 0), .int .i64 0]) (rx_ret2 rfl _ _ _ _ _ rfl rfl (bl_set9 B8.out _ _ _ _ _ _ _ _ _) rfl) rfl ?_
      rw [E.out]
      exact ⟨_, rfl, Ret.fin (Is.leaf _ _ _ _ _ _ _) R8.out K8.out (ks_set9 _ _ _ _ _ _ _ _ _) hP (by omega)⟩
end Go.Proofs.YtnajcnhgeggngaaGreat

/-! ### SignIn -/

namespace Go.Proofs.YtnajcnhgeggngaaGreat
set_option maxHeartbeats 2000000
set_option maxRecDepth 100000
open Go.RowKit
attribute [local go_sem] field91

theorem sgnIn_eq {s : ByteArray} {began i x y z : Nat} (hg : sgn s false i = (x, y, z)) : sgnIn s false began i = if plainIn s began i x then (2, y, z) else (x, y, z) := by
 unfold sgnIn; rw [hg]; rfl
theorem sgn_lt {s : ByteArray} {ere : Bool} {i x y z : Nat} (hg : sgn s ere i = (x, y, z)) (hi : i ≤ s.size) (hx : x ≠ 1) : i < s.size := by
 unfold sgn at hg
 by_cases h : i = s.size
 ·
  rw [if_pos h] at hg; injection hg with h1 _; omega
 ·
  omega

theorem signIn_any (began : Nat) (s : ByteArray) (ere : Bool) (i n g d P : Nat) (w : World) (h : Rd w P s ere i n g d) (hi : i ≤ s.size) (hb : began ≤ i) (hs : s.size ≤ 1000000) :
  Calls Tryz.prog 95 #[.pointer (some ⟨P, 0, none⟩), .int .i64 (began : Int)] w fun e w' => e = .returned (sg (sgnIn s ere began i)) ∧ Kp w w' := by
 obtain ⟨x, y, z, hg⟩ : ∃ x y z, sgn s ere i = (x, y, z) := ⟨_, _, _, rfl⟩
 have HG : Hid (sgn s ere i = (x, y, z)) := hg
 have R : Hid (Rd w P s ere i n g d) := h
 have hlt : x ≠ 1 → i < s.size := fun hx => sgn_lt hg hi hx
 have HL := hid hlt
 clear h hg hlt
 have gb : IntKind.i64.wrap ((began : Int) + 1) = (began : Int) + 1 := by rw [IntKind.wrap_i64]; omega
 have gi : IntKind.i64.wrap ((i : Int) + 1) = (i : Int) + 1 := by rw [IntKind.wrap_i64]; omega
 go_enter Tryz.func95, Tryz.ntmps95
 go_upto_region 1 with fail
 refine opq (fun W0 => Rd W0 P s ere i n g d ∧ W0.heap[w.heap.size]? = some sgz ∧ Kp w W0) ⟨by exact R.out.kp kpt, by (first | exact last_at _ _ _ (by simp) | (refine bl_alloc ?_ _; first | exact last_at _ _ _ (by simp) | (refine bl_alloc ?_ _; first | exact last_at _ _ _ (by simp) | (refine bl_alloc ?_ _; exact last_at _ _ _ (by simp))))), by exact kpt⟩ ?_
 rintro W0 ⟨xR0, xB0, xK0⟩
 have R0 := hid xR0
 have B0 := hid xB0
 have K0 := hid xK0
 clear xR0 xB0 xK0
 go_wp2_with fail
 refine (sign_any s ere i n g d P _ R0.out hi hs).mono ?_
 rintro e w1 ⟨rfl, kq⟩
 rw [HG.out, sg3]
 have hs1 : w.heap.size < w1.heap.size := bl_lt (bl_kp B0.out kq)
 have KQ : Hid (Kp W0 w1) := kq
 clear kq
 go_upto_region 2 with fail
 refine opq (fun W1 => Rd W1 P s ere i n g d ∧ W1.heap[w.heap.size]? = some sgz ∧ W1.heap[w1.heap.size]? = some (sgo x y z) ∧ Kp w W1) ⟨by exact R0.out.kp (KQ.out.trans kpt), by exact bl_kp B0.out (KQ.out.trans kpt), by (first | exact last_at _ _ _ (by simp) | (refine bl_alloc ?_ _; first | exact last_at _ _ _ (by simp) | (refine bl_alloc ?_ _; first | exact last_at _ _ _ (by simp) | (refine bl_alloc ?_ _; exact last_at _ _ _ (by simp))))), by exact K0.out.trans (KQ.out.trans kpt)⟩ ?_
 rintro W1 ⟨xR1, xB1, xG1, xK1⟩
 have R1 := hid xR1
 have B1 := hid xB1
 have G1 := hid xG1
 have K1 := hid xK1
 clear xR1 xB1 xG1 xK1
 clear R0 B0 K0 KQ
 have p0 := R1.out.cells.1
 have p1 := R1.out.cells.2.1
 have p2 := R1.out.cells.2.2.1
 obtain ⟨q0, fq0, q1, fq1, q2, fq2⟩ := cellf3 (G1.out)
 obtain ⟨b0, fb0, b1, fb1, b2, fb2⟩ := cellf3 (B1.out)
 cases ere with
 | true =>
  have E : Hid (sgnIn s true began i = (x, y, z)) := by show _ = _; unfold sgnIn; rw [HG.out]; rfl
  go_wp2_with fail
  exact bodyPost_ret (v := .agg #[_, _, _]) (sg_ret rfl _ _ _ _ _ _ rfl (bl_set3 B1.out _ _ _)) rfl ⟨by rw [E.out]; rfl, (ks_set3 _ _ _).up K1.out (Nat.le_refl _)⟩
 | false =>
  by_cases x10 : x = 10
  ·
   subst x10
   have hl := HL.out (by omega)
   by_cases e0 : i = began
   ·
    have g0 : ((i : Int) == (began : Int)) = true := by rw [e0]; simp
    have E : Hid (sgnIn s false began i = (2, y, z)) := by show _ = _; rw [sgnIn_eq HG.out, show plainIn s began i _ = true by simp [plainIn, e0]]; rfl
    clear e0
    go_wp2_with fail
    exact bodyPost_ret (v := .agg #[_, _, _]) (sg_ret rfl _ _ _ _ _ _ rfl (bl_set3 (bl_set B1.out (by omega) _) _ _ _)) rfl ⟨by rw [E.out]; rfl, (ks_set3 _ _ _).up (K1.out.setCell (by show w.heap.size ≤ w1.heap.size; omega) _) (Nat.le_refl _)⟩
   have g0 : ((i : Int) == (began : Int)) = false := by simp; omega
   by_cases e1 : i = began + 1
   ·
    have g1 : ((i : Int) == (began : Int) + 1) = true := by rw [e1]; simp
    have ec := run_ch s began (by omega)
    obtain ⟨b, hb'⟩ : ∃ b, ch s began = b := ⟨_, rfl⟩
    have HB := hid hb'
    rw [hb'] at ec
    clear hb'
    by_cases e2 : b = 94
    ·
     subst e2
     rw [show ((94 : Nat) : Int) = 94 from rfl] at ec
     have E : Hid (sgnIn s false began i = (2, y, z)) := by show _ = _; rw [sgnIn_eq HG.out, show plainIn s began i _ = true by simp [plainIn, e1, HB.out]]; rfl
     clear e1 e0
     go_wp2_with fail
     exact bodyPost_ret (v := .agg #[_, _, _]) (sg_ret rfl _ _ _ _ _ _ rfl (bl_set3 (bl_set B1.out (by omega) _) _ _ _)) rfl ⟨by rw [E.out]; rfl, (ks_set3 _ _ _).up (K1.out.setCell (by show w.heap.size ≤ w1.heap.size; omega) _) (Nat.le_refl _)⟩
    ·
     have g2 : ((b : Int) == 94) = false := by simp; omega
     have E : Hid (sgnIn s false began i = (10, y, z)) := by show _ = _; rw [sgnIn_eq HG.out, show plainIn s began i _ = false by simp [plainIn, e1, HB.out, e2]]; rfl
     clear e1 e0
     go_wp2_with fail
     exact bodyPost_ret (v := .agg #[_, _, _]) (sg_ret rfl _ _ _ _ _ _ rfl (bl_set3 B1.out _ _ _)) rfl ⟨by rw [E.out]; rfl, (ks_set3 _ _ _).up K1.out (Nat.le_refl _)⟩
   ·
    have g1 : ((i : Int) == (began : Int) + 1) = false := by simp; omega
    have E : Hid (sgnIn s false began i = (10, y, z)) := by show _ = _; rw [sgnIn_eq HG.out, show plainIn s began i _ = false by simp [plainIn, e0, e1]]; rfl
    go_wp2_with fail
    exact bodyPost_ret (v := .agg #[_, _, _]) (sg_ret rfl _ _ _ _ _ _ rfl (bl_set3 B1.out _ _ _)) rfl ⟨by rw [E.out]; rfl, (ks_set3 _ _ _).up K1.out (Nat.le_refl _)⟩
  by_cases x5 : x = 5
  ·
   subst x5
   by_cases e0 : i = began
   ·
    have g0 : ((i : Int) != (began : Int)) = false := by rw [e0]; simp
    have E : Hid (sgnIn s false began i = (5, y, z)) := by show _ = _; rw [sgnIn_eq HG.out, show plainIn s began i _ = false by simp [plainIn, e0]]; rfl
    clear e0
    go_wp2_with fail
    exact bodyPost_ret (v := .agg #[_, _, _]) (sg_ret rfl _ _ _ _ _ _ rfl (bl_set3 B1.out _ _ _)) rfl ⟨by rw [E.out]; rfl, (ks_set3 _ _ _).up K1.out (Nat.le_refl _)⟩
   ·
    have g0 : ((i : Int) != (began : Int)) = true := by simp; omega
    have E : Hid (sgnIn s false began i = (2, y, z)) := by show _ = _; rw [sgnIn_eq HG.out, show plainIn s began i _ = true by simp [plainIn, e0]]; rfl
    go_wp2_with fail
    exact bodyPost_ret (v := .agg #[_, _, _]) (sg_ret rfl _ _ _ _ _ _ rfl (bl_set3 (bl_set B1.out (by omega) _) _ _ _)) rfl ⟨by rw [E.out]; rfl, (ks_set3 _ _ _).up (K1.out.setCell (by show w.heap.size ≤ w1.heap.size; omega) _) (Nat.le_refl _)⟩
  by_cases x6 : x = 6
  ·
   subst x6
   have hl := HL.out (by omega)
   obtain ⟨x', y', z', hg'⟩ : ∃ x' y' z', sgn s false (i + 1) = (x', y', z') := ⟨_, _, _, rfl⟩
   have HG' := hid hg'
   clear hg'
   have SA : Hid (∀ w, Calls Tryz.prog 70 #[.string s, .int .i64 ((i : Int) + 1), .bool false] w fun e w' => e = .returned (.agg #[.int .i64 (x' : Int), .int .u8 (y' : Int), .int .i64 (z' : Int)]) ∧ Kp w w') := by
    intro w
    have := signAt_any s false (i + 1) w (by omega) hs
    rw [HG'.out] at this
    exact this
   go_upto_region 11 with fail
   go_cut [7] (fun v wc => v = .int .i64 (x' : Int) ∧ Kp W1 wc)
   case first =>
    have Q0 : Kp W1 W1.drew := (Kp.refl _).drew
    have MK : Hid (∀ W, Kp W1 W → W.cell? ⟨P, 0, none⟩ = some (.string s) ∧ W.cell? ⟨P, 1, none⟩ = some (.bool false) ∧ W.cell? ⟨P, 2, none⟩ = some (.int .i64 (i : Int)) ∧ Hid (Kp W1 W)) := fun W k => ⟨(R1.out.kp k).cells.1, (R1.out.kp k).cells.2.1, (R1.out.kp k).cells.2.2.1, k⟩
    refine wp_region_noPanic ?_
    refine hdrew MK Q0 (fun hH => ?_)
    have KQ := Q0
    refine tk 0 (some 53) (Op.move (Operand.tmp 0)) 95 (v := ?v0a1) rfl ?h0a1 hH ?_
    case h0a1 => intro _ _; go_simp; try with_reducible rfl
    try simp only [ps]
    refine tk 1 (some 54) (Op.nilCheck (Operand.tmp 53)) 0 (v := ?v1a2) rfl ?h1a2 hH ?_
    case h1a2 => intro _ _; go_simp; try with_reducible rfl
    try simp only [ps]
    refine tk 2 (some 55) (Op.fieldAddr 65 (Operand.tmp 54) 0) 0 (v := ?v2a3) rfl ?h2a3 hH ?_
    case h2a3 => intro _ _; go_simp; try with_reducible rfl
    try simp only [ps]
    refine tk 3 (some 56) (Op.load 9 (Operand.tmp 55)) 9 (v := ?v3a4) rfl ?h3a4 hH ?_
    case h3a4 => intro _ _; go_simp; try with_reducible rfl
    try simp only [ps]
    refine tk 4 (some 57) (Op.move (Operand.tmp 0)) 95 (v := ?v4a5) rfl ?h4a5 hH ?_
    case h4a5 => intro _ _; go_simp; try with_reducible rfl
    try simp only [ps]
    refine tk 5 (some 58) (Op.nilCheck (Operand.tmp 57)) 0 (v := ?v5a6) rfl ?h5a6 hH ?_
    case h5a6 => intro _ _; go_simp; try with_reducible rfl
    try simp only [ps]
    refine tk 6 (some 59) (Op.fieldAddr 65 (Operand.tmp 58) 2) 0 (v := ?v6a7) rfl ?h6a7 hH ?_
    case h6a7 => intro _ _; go_simp; try with_reducible rfl
    try simp only [ps]
    refine tk 7 (some 60) (Op.load 3 (Operand.tmp 59)) 3 (v := ?v7a8) rfl ?h7a8 hH ?_
    case h7a8 => intro _ _; go_simp; try with_reducible rfl
    try simp only [ps]
    refine tk 8 (some 61) (Op.binOp BinOp.add 3 (Operand.tmp 60) (Operand.const (Value.int IntKind.i64 1)) 3) 3 (v := ?v8a9) rfl ?h8a9 hH ?_
    case h8a9 => intro _ _; go_simp; try with_reducible rfl
    try simp only [ps]
    refine tk 9 (some 62) (Op.move (Operand.tmp 0)) 95 (v := ?v9a10) rfl ?h9a10 hH ?_
    case h9a10 => intro _ _; go_simp; try with_reducible rfl
    try simp only [ps]
    refine tk 10 (some 63) (Op.nilCheck (Operand.tmp 62)) 0 (v := ?v10a11) rfl ?h10a11 hH ?_
    case h10a11 => intro _ _; go_simp; try with_reducible rfl
    try simp only [ps]
    refine tk 11 (some 64) (Op.fieldAddr 65 (Operand.tmp 63) 1) 0 (v := ?v11a12) rfl ?h11a12 hH ?_
    case h11a12 => intro _ _; go_simp; try with_reducible rfl
    try simp only [ps]
    refine tk 12 (some 65) (Op.load 4 (Operand.tmp 64)) 4 (v := ?v12a13) rfl ?h12a13 hH ?_
    case h12a13 => intro _ _; go_simp; try with_reducible rfl
    try simp only [ps]
    refine wpAnyH_ready (rs := [13]) (by kernel_rfl) (by simp) ?_
    refine AllReadyH.cons (o := { dst := some 66, op := Op.call { callee := Callee.value (Operand.func 70), args := #[Operand.tmp 56, Operand.tmp 61, Operand.tmp 65], argTypes := #[9, 3, 4] }, type := 115, pos := "parse.go:107", after := #[{ on := 3, ground := Ground.data }, { on := 8, ground := Ground.data }, { on := 12, ground := Ground.data }], guard := none }) rfl (fun K hKq => ?_) AllReadyH.nil
    go_simp
    refine (SA.out _).mono ?_
    rintro e y1 ⟨rfl, kq⟩
    refine hKq.out _ _ (MK.out _ (KQ.trans kq)) (fun hN => ?_)
    clear kq
    clear hKq K hH KQ
    have hH := hN
    clear hN
    have KQ := hH.2.2.2.out
    try simp only [ps]
    refine tk 14 (some 67) (Op.field 115 (Operand.tmp 66) 0) 3 (v := ?v14a14) rfl ?h14a14 hH ?_
    case h14a14 => intro _ _; go_simp; try with_reducible rfl
    try simp only [ps]
    refine tk 15 (some 7) (Op.assign (Operand.tmp 67)) 3 (v := ?v15a15) rfl ?h15a15 hH ?_
    case h15a15 => intro _ _; go_simp; try with_reducible rfl
    try simp only [ps]
    refine wpAnyH_done (by kernel_rfl) ?_ _
    refine NoPanic.normal ?_
    go_wp2_with fail
    go_meet
    case rel => exact ⟨rfl, KQ⟩
   case rest =>
    obtain ⟨rfl, k2⟩ := hcut
    rename World => W2
    have hs2 := k2.size
    have B2 : Hid (W2.heap[w.heap.size]? = some sgz) := bl_kp B1.out k2
    have G2 : Hid (W2.heap[w1.heap.size]? = some (sgo 6 y z)) := bl_kp G1.out k2
    have K2 : Hid (Kp w W2) := K1.out.trans k2
    clear k2 p0 p1 p2 q0 q1 q2 fq0 fq1 fq2 b0 b1 b2 fb0 fb1 fb2 B1 G1 K1 R1
    obtain ⟨q0, fq0, q1, fq1, q2, fq2⟩ := cellf3 (G2.out)
    obtain ⟨b0, fb0, b1, fb1, b2, fb2⟩ := cellf3 (B2.out)
    by_cases n1 : x' = 1
    ·
     subst n1
     have E : Hid (sgnIn s false began i = (6, y, z)) := by show _ = _; rw [sgnIn_eq HG.out, show plainIn s began i _ = false by simp [plainIn, HG'.out]]; rfl
     go_wp2_with fail
     exact bodyPost_ret (v := .agg #[_, _, _]) (sg_ret rfl _ _ _ _ _ _ rfl (bl_set3 B2.out _ _ _)) rfl ⟨by rw [E.out]; rfl, (ks_set3 _ _ _).up K2.out (Nat.le_refl _)⟩
    by_cases n8 : x' = 8
    ·
     subst n8
     have E : Hid (sgnIn s false began i = (6, y, z)) := by show _ = _; rw [sgnIn_eq HG.out, show plainIn s began i _ = false by simp [plainIn, HG'.out]]; rfl
     go_wp2_with fail
     exact bodyPost_ret (v := .agg #[_, _, _]) (sg_ret rfl _ _ _ _ _ _ rfl (bl_set3 B2.out _ _ _)) rfl ⟨by rw [E.out]; rfl, (ks_set3 _ _ _).up K2.out (Nat.le_refl _)⟩
    have g1 : ((x' : Int) != 1) = true := by simp; omega
    have g8 : ((x' : Int) != 8) = true := by simp; omega
    have E : Hid (sgnIn s false began i = (2, y, z)) := by show _ = _; rw [sgnIn_eq HG.out, show plainIn s began i _ = true by simp [plainIn, HG'.out, n1, n8]]; rfl
    go_wp2_with fail
    exact bodyPost_ret (v := .agg #[_, _, _]) (sg_ret rfl _ _ _ _ _ _ rfl (bl_set3 (bl_set B2.out (by omega) _) _ _ _)) rfl ⟨by rw [E.out]; rfl, (ks_set3 _ _ _).up (K2.out.setCell (by show w.heap.size ≤ w1.heap.size; omega) _) (Nat.le_refl _)⟩
  have g10 : ((x : Int) == 10) = false := by simp; omega
  have g5 : ((x : Int) == 5) = false := by simp; omega
  have g6 : ((x : Int) == 6) = false := by simp; omega
  have E : Hid (sgnIn s false began i = (x, y, z)) := by show _ = _; rw [sgnIn_eq HG.out, show plainIn s began i _ = false by simp [plainIn, x10, x5, x6]]; rfl
  go_wp2_with fail
  exact bodyPost_ret (v := .agg #[_, _, _]) (sg_ret rfl _ _ _ _ _ _ rfl (bl_set3 B1.out _ _ _)) rfl ⟨by rw [E.out]; rfl, (ks_set3 _ _ _).up K1.out (Nat.le_refl _)⟩
end Go.Proofs.YtnajcnhgeggngaaGreat

/-! ### PInv -/

namespace Go.Proofs.YtnajcnhgeggngaaGreat
open Go.RowKit

structure Inv (s : ByteArray) (t : St) : Prop where
 i : t.i ≤ s.size
 n : t.n ≤ 3 * t.i + 1
 g : t.g ≤ t.i
structure CGood (c : St → Out) (s : ByteArray) : Prop where
 all : ∀ t, Inv s t → (c t).st.i ≤ s.size ∧ ((c t).e = 0 → t.i ≤ (c t).st.i ∧ (c t).st.n ≤ 3 * (c t).st.i + 3 ∧ (c t).st.g ≤ (c t).st.i ∧ (c t).st.d = t.d)
structure PGood (s : ByteArray) (t : St) (m : Nat) (o : Out) : Prop where
 le : o.st.i ≤ s.size
 ok : o.e = 0 → t.i + m ≤ o.st.i ∧ Inv s o.st ∧ o.st.d = t.d

theorem pTake_good {s : ByteArray} {t : St} {sz : Nat} (r : Rx) (h : Inv s t) (h1 : t.i + sz ≤ s.size) (h2 : 1 ≤ sz) : PGood s t 1 (pTake sz r t) := by
 have := h.n; have := h.g
 exact ⟨h1, fun _ => ⟨by show t.i + 1 ≤ t.i + sz; omega, ⟨h1, by show t.n + 1 ≤ 3 * (t.i + sz) + 1; omega, by show t.g ≤ t.i + sz; omega⟩, rfl⟩⟩
theorem fail_good {s : ByteArray} {t t' : St} {m e : Nat} (h : t'.i ≤ s.size) (he : e ≠ 0) : PGood s t m ⟨rx0, e, t'⟩ := ⟨h, fun h0 => absurd h0 he⟩

theorem pBrL_le (s : ByteArray) : ∀ f p i, i ≤ s.size → (pBrL s f p i).2 ≤ s.size ∧ ((pBrL s f p i).1 ≠ none → i < (pBrL s f p i).2)
 | 0, p, i, h => by unfold pBrL; exact ⟨h, fun h => absurd rfl h⟩
 | f + 1, p, i, h => by
  unfold pBrL
  split
  ·
   rename_i hp; have h1 := pfx_le hp h; exact ⟨h1, fun _ => by show i < i + 1; omega⟩
  ·
   have hl := pIn_le s i h
   split
   ·
    rename_i j hj; rw [hj] at hl; exact ⟨hl.1, fun h => absurd rfl h⟩
   ·
    rename_i q j hj
    rw [hj] at hl
    have h1 : i < j := hl.2 (by simp)
    have := pBrL_le s f (orB p q) j hl.1
    exact ⟨this.1, fun hn => by have := this.2 hn; omega⟩
theorem pBr_le (s : ByteArray) (i : Nat) (h : i ≤ s.size) : (pBr s i).2 ≤ s.size ∧ ((pBr s i).1 ≠ none → i < (pBr s i).2) := by
 unfold pBr
 have hl := pIn_le s i h
 split
 ·
  rename_i j hj; rw [hj] at hl; exact ⟨hl.1, fun h => absurd rfl h⟩
 ·
  rename_i q j hj
  rw [hj] at hl
  have h1 : i < j := hl.2 (by simp)
  have := pBrL_le s (s.size + 1) q j hl.1
  exact ⟨this.1, fun hn => by have := this.2 hn; omega⟩
theorem pBracket_good {s : ByteArray} {t : St} (h : Inv s t) (hi : t.i < s.size) : PGood s t 1 (pBracket s t) := by
 have hn := h.n; have hg := h.g
 have hf : t.i + 1 ≤ bFrom s t.i ∧ bFrom s t.i ≤ s.size := by
  unfold bFrom
  split
  ·
   rename_i ht; exact ⟨by omega, pfx_le ht hi⟩
  ·
   exact ⟨Nat.le_refl _, hi⟩
 have hl := pBr_le s (bFrom s t.i) hf.2
 unfold pBracket
 split
 ·
  rename_i j hj; rw [hj] at hl; exact fail_good hl.1 (by omega)
 ·
  rename_i p j hj
  rw [hj] at hl
  have h1 : bFrom s t.i < j := hl.2 (by simp)
  dsimp only
  generalize (if bTurn s t.i then notB p else p) = q
  split
  ·
   exact fail_good h.i (by omega)
  ·
   exact ⟨hl.1, fun _ => ⟨by show t.i + 1 ≤ j; omega, ⟨hl.1, by show t.n + 1 ≤ 3 * j + 1; omega, by show t.g ≤ j; omega⟩, rfl⟩⟩
theorem pGroup_good {c : St → Out} {s : ByteArray} {ere : Bool} {sz : Nat} {t : St} (hc : CGood c s) (h : Inv s t) (h1 : t.i + sz ≤ s.size) (h2 : 1 ≤ sz) : PGood s t 1 (pGroup c s ere sz t) := by
 have hn := h.n; have hg := h.g
 unfold pGroup
 split
 ·
  exact fail_good h.i (by omega)
 ·
  dsimp only
  have hi : Inv s ⟨t.i + sz, t.n, t.g + 1, t.d + 1⟩ := ⟨h1, by show t.n ≤ 3 * (t.i + sz) + 1; omega, by show t.g + 1 ≤ t.i + sz; omega⟩
  have ho := hc.all _ hi
  obtain ⟨o, hoo⟩ : ∃ o, c ⟨t.i + sz, t.n, t.g + 1, t.d + 1⟩ = o := ⟨_, rfl⟩
  rw [hoo] at ho ⊢
  split
  ·
   rename_i he; exact fail_good ho.1 he
  ·
   rename_i he
   have he' : o.e = 0 := by omega
   obtain ⟨a1, a2, a3, a4⟩ := ho.2 he'
   simp only at a1 a4
   have hz := sgn_sz s ere o.st.i ho.1
   split
   ·
    exact fail_good ho.1 (by omega)
   ·
    rename_i h8
    have h8' : (sgn s ere o.st.i).1 = 8 := by omega
    have hz1 := hz.2.2 (by omega) (by omega)
    exact ⟨hz.1, fun _ => ⟨by show t.i + 1 ≤ o.st.i + _; omega, ⟨hz.1, by show o.st.n + 1 ≤ 3 * (o.st.i + (sgn s ere o.st.i).2.2) + 1; omega, by show o.st.g ≤ o.st.i + (sgn s ere o.st.i).2.2; omega⟩, by show o.st.d - 1 = t.d; omega⟩⟩
theorem pOne_good {c : St → Out} {s : ByteArray} {ere : Bool} {k b sz : Nat} {t : St} (hc : CGood c s) (h : Inv s t) (h1 : t.i + sz ≤ s.size) (h2 : k ≠ 1 → k ≠ 0 → 1 ≤ sz) : PGood s t 1 (pOne c s ere k b sz t) := by
 unfold pOne
 split
 ·
  exact pTake_good _ h h1 (h2 (by omega) (by omega))
 split
 ·
  exact pTake_good _ h h1 (h2 (by omega) (by omega))
 split
 ·
  exact pTake_good _ h h1 (h2 (by omega) (by omega))
 split
 ·
  exact pTake_good _ h h1 (h2 (by omega) (by omega))
 split
 ·
  unfold pBack
  split
  ·
   exact fail_good h.i (by omega)
  ·
   exact pTake_good _ h h1 (h2 (by omega) (by omega))
 split
 ·
  have := h2 (by omega) (by omega)
  exact pBracket_good h (by omega)
 split
 ·
  exact pGroup_good hc h h1 (h2 (by omega) (by omega))
 ·
  exact fail_good h.i (by omega)
theorem pInt_ok {s : ByteArray} {ere : Bool} {i z : Nat} (h : i + z ≤ s.size) {a b : Int} {j : Nat} (he : pInt s ere i z = (some (a, b), j)) : i + 1 ≤ j := by
 have h1 := pNum_le s (i + z) h
 unfold pInt at he
 dsimp only at he
 split at he
 ·
  have h2 := pHigh_le s (pNum s (i + z)).1 (pNum s (i + z)).2.2 h1.2.1 h1.2.2
  split at he
  ·
   split at he
   ·
    injection he with _ hj
    have : 1 ≤ (closeB ere).length := by unfold closeB; cases ere <;> simp
    omega
   ·
    injection he with hx _; cases hx
  ·
   injection he with hx _; cases hx
 ·
  injection he with hx _; cases hx
theorem pRep_good {s : ByteArray} {ere : Bool} {r : Rx} {t : St} (h : Inv s t) : PGood s t 0 (pRep s ere r t) := by
 have hn := h.n; have hg := h.g
 have hz := sgn_sz s ere t.i h.i
 have tk : ∀ x, (sgn s ere t.i).1 = x → x ≠ 1 → x ≠ 0 → ∀ r', PGood s t 0 (pTake (sgn s ere t.i).2.2 r' t) := fun x hx h1 h0 r' => by
  have := pTake_good r' h hz.1 (hz.2.2 (by omega) (by omega))
  exact ⟨this.le, fun h => by have := this.ok h; exact ⟨by omega, this.2⟩⟩
 unfold pRep
 dsimp only
 split
 ·
  exact tk _ rfl (by omega) (by omega) _
 split
 ·
  exact tk _ rfl (by omega) (by omega) _
 split
 ·
  exact tk _ rfl (by omega) (by omega) _
 split
 ·
  have hl := pInt_le s ere t.i (sgn s ere t.i).2.2 hz.1
  split
  ·
   rename_i j hj; rw [hj] at hl; exact fail_good hl (by omega)
  ·
   rename_i a b j hj
   rw [hj] at hl
   have h1 := pInt_ok hz.1 hj
   exact ⟨hl, fun _ => ⟨by show t.i + 0 ≤ j + 0; omega, ⟨hl, by show t.n + 1 ≤ 3 * (j + 0) + 1; omega, by show t.g ≤ j + 0; omega⟩, rfl⟩⟩
 ·
  exact ⟨h.i, fun _ => ⟨Nat.le_refl _, h, rfl⟩⟩
theorem sgnIn_sz (s : ByteArray) (ere : Bool) (began i : Nat) (hi : i ≤ s.size) : i + (sgnIn s ere began i).2.2 ≤ s.size ∧ (sgnIn s ere began i).2.2 ≤ 2 ∧ ((sgnIn s ere began i).1 ≠ 1 → (sgnIn s ere began i).1 ≠ 0 → 1 ≤ (sgnIn s ere began i).2.2) := by
 have hz := sgn_sz s ere i hi
 unfold sgnIn
 dsimp only
 split
 ·
  exact hz
 ·
  split
  ·
   rename_i hp
   refine ⟨hz.1, hz.2.1, fun _ _ => hz.2.2 ?_ ?_⟩
   ·
    intro h; rw [h] at hp; simp [plainIn] at hp
   ·
    intro h; rw [h] at hp; simp [plainIn] at hp
  ·
   exact hz
theorem pPart_good {c : St → Out} {s : ByteArray} {ere : Bool} {began : Nat} {t : St} (hc : CGood c s) (h : Inv s t) : PGood s t 1 (pPart c s ere began t) := by
 have hz := sgnIn_sz s ere began t.i h.i
 have ho := pOne_good (ere := ere) (b := (sgnIn s ere began t.i).2.1) hc h hz.1 hz.2.2
 unfold pPart
 dsimp only
 split
 ·
  exact ho
 ·
  rename_i he
  have he' : (pOne c s ere (sgnIn s ere began t.i).1 (sgnIn s ere began t.i).2.1 (sgnIn s ere began t.i).2.2 t).e = 0 := by
   apply Classical.byContradiction; intro h; exact he (Or.inl h)
  obtain ⟨a1, a2, a3⟩ := ho.ok he'
  have hr := pRep_good (ere := ere) (r := (pOne c s ere (sgnIn s ere began t.i).1 (sgnIn s ere began t.i).2.1 (sgnIn s ere began t.i).2.2 t).r) a2
  exact ⟨hr.le, fun h0 => by have := hr.ok h0; exact ⟨by omega, this.2.1, this.2.2.trans a3⟩⟩
structure RGood (s : ByteArray) (t : St) (m : Nat) (o : Out) : Prop where
 le : o.st.i ≤ s.size
 ok : o.e = 0 → t.i ≤ o.st.i ∧ o.st.n ≤ 3 * o.st.i + m ∧ o.st.g ≤ o.st.i ∧ o.st.d = t.d
theorem pRowL_good {c : St → Out} {s : ByteArray} {ere : Bool} {began : Nat} (hc : CGood c s) : ∀ f ks t, Inv s t → RGood s t 2 (pRowL c s ere began f ks t)
 | 0, ks, t, h => by unfold pRowL; exact ⟨h.i, fun h => by cases h⟩
 | f + 1, ks, t, h => by
  have hn := h.n
  unfold pRowL
  split
  ·
   unfold rowOut
   split
   ·
    exact ⟨h.i, fun _ => ⟨Nat.le_refl _, by show t.n ≤ 3 * t.i + 2; omega, h.g, rfl⟩⟩
   ·
    exact ⟨h.i, fun _ => ⟨Nat.le_refl _, by show t.n + 1 ≤ 3 * t.i + 2; omega, h.g, rfl⟩⟩
  ·
   have hp := pPart_good (ere := ere) (began := began) hc h
   dsimp only
   split
   ·
    rename_i he; exact ⟨hp.le, fun h0 => absurd h0 he⟩
   ·
    rename_i he
    obtain ⟨a1, a2, a3⟩ := hp.ok (by omega)
    have := pRowL_good (ere := ere) (began := began) hc f (keepL (pPart c s ere began t).st.n ks (pPart c s ere began t).r) _ a2
    exact ⟨this.le, fun h0 => by have := this.ok h0; exact ⟨by omega, this.2.1, this.2.2.1, this.2.2.2.trans a3⟩⟩
theorem pRow_good {c : St → Out} {s : ByteArray} {ere : Bool} {t : St} (hc : CGood c s) (h : Inv s t) : RGood s t 2 (pRow c s ere t) := pRowL_good hc _ _ _ h
theorem pChL_good {c : St → Out} {s : ByteArray} {ere : Bool} (hc : CGood c s) : ∀ f ks t, t.i ≤ s.size → t.n ≤ 3 * t.i + 2 → t.g ≤ t.i → RGood s t 3 (pChL c s ere f ks t)
 | 0, ks, t, h, _, _ => by unfold pChL; exact ⟨h, fun h => by cases h⟩
 | f + 1, ks, t, h, hn, hg => by
  unfold pChL
  split
  ·
   rename_i h9
   have hlt : t.i < s.size := by
    obtain ⟨x, y, z, hx⟩ : ∃ x y z, sgn s ere t.i = (x, y, z) := ⟨_, _, _, rfl⟩
    rw [hx] at h9
    have h9' : x = 9 := h9
    exact sgn_lt hx h (by omega)
   have hr := pRow_good (ere := ere) (t := ⟨t.i + 1, t.n, t.g, t.d⟩) hc ⟨hlt, by show t.n ≤ 3 * (t.i + 1) + 1; omega, by show t.g ≤ t.i + 1; omega⟩
   dsimp only
   split
   ·
    rename_i he; exact ⟨hr.le, fun h0 => absurd h0 he⟩
   ·
    rename_i he
    obtain ⟨a1, a2, a3, a4⟩ := hr.ok (by omega)
    simp only at a1 a4
    have := pChL_good (ere := ere) hc f (keepL (pRow c s ere ⟨t.i + 1, t.n, t.g, t.d⟩).st.n ks (pRow c s ere ⟨t.i + 1, t.n, t.g, t.d⟩).r) _ hr.le a2 a3
    exact ⟨this.le, fun h0 => by have := this.ok h0; exact ⟨by omega, this.2.1, this.2.2.1, this.2.2.2.trans a4⟩⟩
  ·
   exact ⟨h, fun _ => ⟨Nat.le_refl _, by show t.n + 1 ≤ 3 * t.i + 3; omega, hg, rfl⟩⟩
theorem pCh1_good {c : St → Out} {s : ByteArray} {ere : Bool} {t : St} (hc : CGood c s) (h : Inv s t) : RGood s t 3 (pCh1 c s ere t) := by
 have hr := pRow_good (ere := ere) hc h
 unfold pCh1
 dsimp only
 split
 ·
  exact ⟨hr.le, fun h0 => by have := hr.ok h0; exact ⟨this.1, by omega, this.2.2⟩⟩
 ·
  rename_i he
  have he' : (pRow c s ere t).e = 0 := by
   apply Classical.byContradiction; intro h; exact he (Or.inl h)
  obtain ⟨a1, a2, a3, a4⟩ := hr.ok he'
  have := pChL_good (ere := ere) hc (s.size + 1) [(pRow c s ere t).r] _ hr.le a2 a3
  exact ⟨this.le, fun h0 => by have := this.ok h0; exact ⟨by omega, this.2.1, this.2.2.1, this.2.2.2.trans a4⟩⟩
theorem pCh_good (s : ByteArray) (ere : Bool) : ∀ D, CGood (pCh s ere D) s
 | 0 => ⟨fun t h => ⟨h.i, fun h => by cases h⟩⟩
 | D + 1 => ⟨fun t h => by
   have := pCh1_good (ere := ere) (pCh_good s ere D) h
   exact ⟨this.le, this.ok⟩⟩
end Go.Proofs.YtnajcnhgeggngaaGreat

/-! ### Grp -/

namespace Go.Proofs.YtnajcnhgeggngaaGreat
set_option maxHeartbeats 2000000
set_option maxRecDepth 100000
open Go.RowKit
attribute [local go_sem] field91

structure ChSaid (c : St → Out) (s : ByteArray) (ere : Bool) (D : Nat) : Prop where
 all : ∀ (i n g d P : Nat) (w : World), Rd w P s ere i n g d → Inv s ⟨i, n, g, d⟩ → d + D = 7 → d ≤ 6 → Calls Tryz.prog 30 #[.pointer (some ⟨P, 0, none⟩)] w fun e w' => RetE w P s ere (c ⟨i, n, g, d⟩) e w'

theorem group_any (c : St → Out) (D x y z : Nat) (s : ByteArray) (ere : Bool) (i n g d P : Nat) (w : World) (HC : ChSaid c s ere D) (HGd : CGood c s) (h : Rd w P s ere i n g d) (hv : Inv s ⟨i, n, g, d⟩) (hD : d + D = 6) (hz : i + z ≤ s.size) (hz1 : 1 ≤ z) (hz2 : z ≤ 2) (hs : s.size ≤ 1000000) :
  Calls Tryz.prog 117 #[.pointer (some ⟨P, 0, none⟩), .agg #[.int .i64 (x : Int), .int .u8 (y : Int), .int .i64 (z : Int)]] w fun e w' => RetE w P s ere (pGroup c s ere z ⟨i, n, g, d⟩) e w' := by
 have R : Hid (Rd w P s ere i n g d) := h
 have hP : P < w.heap.size := h.lt
 clear h
 have hn := hv.n
 have hg := hv.g
 simp only at hn hg
 have gw : IntKind.i64.wrap ((i : Int) + (z : Int)) = (i : Int) + (z : Int) := by rw [IntKind.wrap_i64]; omega
 have gg : IntKind.i64.wrap ((g : Int) + 1) = (g : Int) + 1 := by rw [IntKind.wrap_i64]; omega
 have gd : IntKind.i64.wrap ((d : Int) + 1) = (d : Int) + 1 := by rw [IntKind.wrap_i64]; omega
 go_enter Tryz.func117, Tryz.ntmps117
 go_upto_region 1 with fail
 refine opq (fun W0 => Rd W0 P s ere i n g d ∧ W0.heap[w.heap.size]? = some (sgo x y z) ∧ W0.heap[(w.heap.size + 1)]? = some rzo ∧ Ks P w W0) ⟨by exact R.out.kp kpt, by (first | exact last_at _ _ _ (by simp) | (refine bl_alloc ?_ _; first | exact last_at _ _ _ (by simp) | (refine bl_alloc ?_ _; first | exact last_at _ _ _ (by simp) | (refine bl_alloc ?_ _; exact last_at _ _ _ (by simp))))), by (first | exact last_at _ _ _ (by simp) | (refine bl_alloc ?_ _; first | exact last_at _ _ _ (by simp) | (refine bl_alloc ?_ _; first | exact last_at _ _ _ (by simp) | (refine bl_alloc ?_ _; exact last_at _ _ _ (by simp))))), by exact (Kp.ks kpt (Nat.le_of_lt hP))⟩ ?_
 rintro W0 ⟨xR0, xG0, xB0, xK0⟩
 have R0 := hid xR0
 have G0 := hid xG0
 have B0 := hid xB0
 have K0 := hid xK0
 clear xR0 xG0 xB0 xK0
 clear R
 have p5 := R0.out.cells.2.2.2.2.2
 by_cases h6 : d = 6
 ·
  subst h6
  have E : Hid (pGroup c s ere z ⟨i, n, g, 6⟩ = ⟨rx0, 2, ⟨i, n, g, 6⟩⟩) := by show _ = _; unfold pGroup; rw [if_pos rfl]
  obtain ⟨b0, fb0, b1, fb1, b2, fb2, b3, fb3, b4, fb4, b5, fb5, b6, fb6, b7, fb7, b8, fb8⟩ := cellf9 (B0.out)
  go_wp2_with fail
  refine bodyPost_ret (v := .tuple #[rz, .int .i64 2]) (rx_ret2 rfl _ _ _ _ _ rfl rfl (bl_set9 B0.out _ _ _ _ _ _ _ _ _) rfl) rfl ?_
  rw [E.out]
  exact ⟨_, rfl, Ret.fail R0.out K0.out (ks_set9 _ _ _ _ _ _ _ _ _) hP (by omega)⟩
 have g6 : ((d : Int) == 6) = false := by simp; omega
 have g6' : ¬ (d : Int) = 6 := by omega
 go_upto_region 3 with fail
 clear p5
 go_cut [] (fun wc => Rd wc P s ere (i + z) n g d ∧ wc.heap[w.heap.size + 1]? = some rzo ∧ Ks P w wc)
 case first =>
  have Q0 : Kp W0 W0.drew := (Kp.refl _).drew
  have MK : Hid (∀ W, Kp W0 W → W.cell? ⟨P, 2, none⟩ = some (.int .i64 (i : Int)) ∧ W.cell? ⟨w.heap.size, 2, none⟩ = some (.int .i64 (z : Int)) ∧ Hid (Kp W0 W)) := fun W k => ⟨(R0.out.kp k).cells.2.2.1, bl_cell (bl_kp G0.out k) 2 _ rfl, k⟩
  refine wp_region_noPanic ?_
  refine hdrewZ 9 MK Q0 (fun hH => ?_)
  have KQ := Q0
  refine zk 9 0 [] (some 16) (Op.move (Operand.tmp 0)) 95 (v := ?v0a1) rfl ?h0a1 hH ?_
  case h0a1 => intro _ _; go_simp; try with_reducible rfl
  try simp only [ps]
  refine zk 9 1 [] (some 17) (Op.nilCheck (Operand.tmp 16)) 0 (v := ?v1a2) rfl ?h1a2 hH ?_
  case h1a2 => intro _ _; go_simp; try with_reducible rfl
  try simp only [ps]
  refine zk 9 2 [] (some 18) (Op.fieldAddr 65 (Operand.tmp 17) 2) 0 (v := ?v2a3) rfl ?h2a3 hH ?_
  case h2a3 => intro _ _; go_simp; try with_reducible rfl
  try simp only [ps]
  refine zk 9 3 [] (some 19) (Op.load 3 (Operand.tmp 18)) 3 (v := ?v3a4) rfl ?h3a4 hH ?_
  case h3a4 => intro _ _; go_simp; try with_reducible rfl
  try simp only [ps]
  refine zk 9 4 [] (some 20) (Op.fieldAddr 115 (Operand.tmp 3) 2) 0 (v := ?v4a5) rfl ?h4a5 hH ?_
  case h4a5 => intro _ _; go_simp; try with_reducible rfl
  try simp only [ps]
  refine zk 9 5 [] (some 21) (Op.load 3 (Operand.tmp 20)) 3 (v := ?v5a6) rfl ?h5a6 hH ?_
  case h5a6 => intro _ _; go_simp; try with_reducible rfl
  try simp only [ps]
  refine zk 9 6 [] (some 22) (Op.binOp BinOp.add 3 (Operand.tmp 19) (Operand.tmp 21) 3) 3 (v := ?v6a7) rfl ?h6a7 hH ?_
  case h6a7 => intro _ _; go_simp; try with_reducible rfl
  try simp only [ps]
  refine zk 9 7 [8] (some 23) (Op.nilCheck (Operand.tmp 16)) 0 (v := ?v7a8) rfl ?h7a8 hH ?_
  case h7a8 => intro _ _; go_simp; try with_reducible rfl
  try simp only [ps]
  refine zk 9 8 [] (some 24) (Op.fieldAddr 65 (Operand.tmp 23) 2) 0 (v := ?v8a9) rfl ?h8a9 hH ?_
  case h8a9 => intro _ _; go_simp; try with_reducible rfl
  try simp only [ps]
  refine anyZ_ready (rs := [9]) (by kernel_rfl) (by simp) ?_
  refine AllZ.last (o := { dst := none, op := Op.store 3 (Operand.tmp 24) (Operand.tmp 22), type := 0, pos := "parse.go:155", after := #[{ on := 8, ground := Ground.data }, { on := 6, ground := Ground.data }, { on := 0, ground := Ground.phase }, { on := 1, ground := Ground.phase }, { on := 2, ground := Ground.phase }, { on := 3, ground := Ground.phase }, { on := 4, ground := Ground.phase }, { on := 5, ground := Ground.phase }, { on := 6, ground := Ground.phase }], guard := none }) rfl (Or.inl rfl) (fun K hKq => ?_) AllZ.nil
  have fq2 := bl_frozen (R0.out.kp KQ).b 2
  have cq2 := (R0.out.kp KQ).cells.2.2.1
  go_simp
  refine hKq.out _ _ ?_
  clear fq2 cq2
  clear hKq K
  try simp only [ps]
  refine anyZ_done (by kernel_rfl) ?_ _
  refine NoPanic.normal ?_
  go_wp2_with fail
  go_meet
  case rel => exact ⟨(R0.out.kp KQ).at (i + z), bl_set (bl_kp B0.out KQ) (by omega) _, (K0.out.kpt KQ hP).set 2 _⟩
 case rest =>
  obtain ⟨r1, b1, k1⟩ := hcut
  rename World => W1
  have R1 := hid r1
  have B1 := hid b1
  have K1 := hid k1
  clear r1 b1 k1 R0 G0 B0 K0
  have p5 := R1.out.cells.2.2.2.2.2
  have fp5 := bl_frozen R1.out.b 5
  have p4 := R1.out.cells.2.2.2.2.1
  have fp4 := bl_frozen R1.out.b 4
  go_upto_region 7 with fail
  refine opq (fun W2 => Rd W2 P s ere (i + z) n (g + 1) (d + 1) ∧ W2.heap[(w.heap.size + 1)]? = some rzo ∧ Ks P w W2) ⟨by exact (R1.out.deep (d + 1)).groups (g + 1), by exact bl_set (bl_set B1.out (by omega) _) (by omega) _, by exact (K1.out.set 5 _).set 4 _⟩ ?_
  rintro W2 ⟨xR2, xB2, xK2⟩
  have R2 := hid xR2
  have B2 := hid xB2
  have K2 := hid xK2
  clear xR2 xB2 xK2
  clear p5 fp5 p4 fp4 R1 B1 K1
  have hinv : Inv s ⟨i + z, n, g + 1, d + 1⟩ := ⟨hz, by show n ≤ 3 * (i + z) + 1; omega, by show g + 1 ≤ i + z; omega⟩
  have hgood := HGd.all _ hinv
  have HCC := hid (HC.all (i + z) n (g + 1) (d + 1) P W2 R2.out hinv (by omega) (by omega))
  obtain ⟨o, ho⟩ : ∃ o, c ⟨i + z, n, g + 1, d + 1⟩ = o := ⟨_, rfl⟩
  rw [ho] at hgood HCC
  have HO := hid ho
  clear ho
  obtain ⟨r, er, ⟨i', n', g', d'⟩⟩ := o
  obtain ⟨hg1, hg2⟩ := hgood
  simp only at hg1 hg2
  have HG2 := hid hg2
  clear hg2 hinv
  have E0 : Hid (pGroup c s ere z ⟨i, n, g, d⟩ = if er ≠ 0 then ⟨rx0, er, ⟨i', n', g', d'⟩⟩ else if (sgn s ere i').1 ≠ 8 then ⟨rx0, 1, ⟨i', n', g', d'⟩⟩ else pTake (sgn s ere i').2.2 (.mk 5 0 0 ((g + 1 : Nat) : Int) W4.z [r]) ⟨i', n', g', d' - 1⟩) := by
   show _ = _
   unfold pGroup
   rw [if_neg h6, HO.out]
  go_wp2_with fail
  refine HCC.out.mono ?_
  rintro e W3 ⟨⟨v, rfl, r3⟩⟩
  obtain ⟨kk, mn, mx, mm, tt, ad, ll, cc, rfl⟩ := r3.is.form
  have hs2 : w.heap.size + 1 < W2.heap.size := bl_lt B2.out
  have hs3 : W2.heap.size ≤ W3.heap.size := r3.ks.size
  have R3 : Hid (Rd W3 P s ere i' n' g' d') := r3.rd
  have I3 : Hid (Is W3 (fun b => W2.heap.size ≤ b) r (rxv kk mn mx mm tt (.slice ad ll cc))) := r3.is
  have B3 : Hid (W3.heap[w.heap.size + 1]? = some rzo) := bl_ks B2.out (by omega) r3.ks
  have K3 : Hid (Ks P w W3) := K2.out.trans r3.ks
  clear r3 R2 B2 K2 HCC
  dsimp only
  go_upto_region 8 with fail
  refine opq (fun Wk => Rd Wk P s ere i' n' g' d' ∧ Wk.heap[W3.heap.size]? = some (rxo kk mn mx mm tt (.slice ad ll cc)) ∧ Wk.heap[(w.heap.size + 1)]? = some rzo ∧ Is Wk (fun b => W2.heap.size ≤ b) r (rxv kk mn mx mm tt (.slice ad ll cc)) ∧ Ks P w Wk) ⟨by exact R3.out.kp kpt, by (first | exact last_at _ _ _ (by simp) | (refine bl_alloc ?_ _; first | exact last_at _ _ _ (by simp) | (refine bl_alloc ?_ _; first | exact last_at _ _ _ (by simp) | (refine bl_alloc ?_ _; exact last_at _ _ _ (by simp))))), by exact bl_kp B3.out kpt, by exact I3.out.kp kpt, by exact K3.out.kpt kpt hP⟩ ?_
  rintro Wk ⟨xR4, xA4, xB4, xI4, xK4⟩
  have R4 := hid xR4
  have A4 := hid xA4
  have B4 := hid xB4
  have I4 := hid xI4
  have K4 := hid xK4
  clear xR4 xA4 xB4 xI4 xK4
  clear R3 I3 B3 K3
  by_cases he : er = 0
  ·
   subst he
   obtain ⟨j1, j2, j3, j4⟩ := HG2.out rfl
   have j4 : d' = d + 1 := j4
   subst j4
   have E1 : Hid (pGroup c s ere z ⟨i, n, g, d⟩ = if (sgn s ere i').1 ≠ 8 then ⟨rx0, 1, ⟨i', n', g', d + 1⟩⟩ else pTake (sgn s ere i').2.2 (.mk 5 0 0 ((g + 1 : Nat) : Int) W4.z [r]) ⟨i', n', g', d⟩) := by show _ = _; rw [E0.out, if_neg (by omega)]; rfl
   obtain ⟨x2, y2, z2, hg⟩ : ∃ x y z, sgn s ere i' = (x, y, z) := ⟨_, _, _, rfl⟩
   have hz3 := sgn_sz s ere i' hg1
   rw [hg] at hz3 E1
   obtain ⟨hz4, hz5, _⟩ := hz3
   simp only at hz4 hz5
   have HG := hid hg
   clear hg
   have gd1 : IntKind.i64.wrap ((d : Int) + 1 - 1) = (d : Int) := by rw [IntKind.wrap_i64]; omega
   have gd2 : IntKind.i64.wrap (d : Int) = (d : Int) := by rw [IntKind.wrap_i64]; omega
   go_wp2_with fail
   refine (sign_any s ere i' n' g' (d + 1) P _ R4.out hg1 hs).mono ?_
   rintro e W5 ⟨rfl, k5⟩
   rw [HG.out, sg3]
   have hs5 := k5.size
   have K5 := hid k5
   have hs4 : W3.heap.size < Wk.heap.size := bl_lt A4.out
   clear k5
   go_upto_region 11 with fail
   refine opq (fun W6 => Rd W6 P s ere i' n' g' (d + 1) ∧ W6.heap[W3.heap.size]? = some (rxo kk mn mx mm tt (.slice ad ll cc)) ∧ W6.heap[(w.heap.size + 1)]? = some rzo ∧ W6.heap[W5.heap.size]? = some (sgo x2 y2 z2) ∧ Is W6 (fun b => W2.heap.size ≤ b) r (rxv kk mn mx mm tt (.slice ad ll cc)) ∧ Ks P w W6) ⟨by exact R4.out.kp (K5.out.trans kpt), by exact bl_kp A4.out (K5.out.trans kpt), by exact bl_kp B4.out (K5.out.trans kpt), by (first | exact last_at _ _ _ (by simp) | (refine bl_alloc ?_ _; first | exact last_at _ _ _ (by simp) | (refine bl_alloc ?_ _; first | exact last_at _ _ _ (by simp) | (refine bl_alloc ?_ _; exact last_at _ _ _ (by simp))))), by exact I4.out.kp (K5.out.trans kpt), by exact K4.out.kpt (K5.out.trans kpt) hP⟩ ?_
   rintro W6 ⟨xR6, xA6, xB6, xG6, xI6, xK6⟩
   have R6 := hid xR6
   have A6 := hid xA6
   have B6 := hid xB6
   have G6 := hid xG6
   have I6 := hid xI6
   have K6 := hid xK6
   clear xR6 xA6 xB6 xG6 xI6 xK6
   clear R4 A4 B4 I4 K4 K5
   obtain ⟨q0, q1, q2⟩ := cells3 G6.out
   by_cases h8 : x2 = 8
   ·
    subst h8
    have E : Hid (pGroup c s ere z ⟨i, n, g, d⟩ = pTake z2 (.mk 5 0 0 ((g + 1 : Nat) : Int) W4.z [r]) ⟨i', n', g', d⟩) := by show _ = _; rw [E1.out]; rfl
    have p5 := R6.out.cells.2.2.2.2.2
    have fp5 := bl_frozen R6.out.b 5
    have hs6 : W5.heap.size < W6.heap.size := bl_lt G6.out
    go_upto_region 14 with fail
    refine opq (fun W7 => Rd W7 P s ere i' n' g' d ∧ W7.heap[W3.heap.size]? = some (rxo kk mn mx mm tt (.slice ad ll cc)) ∧ W7.heap[(w.heap.size + 1)]? = some rzo ∧ W7.heap[W5.heap.size]? = some (sgo 8 y2 z2) ∧ Is W7 (fun b => W2.heap.size ≤ b) r (rxv kk mn mx mm tt (.slice ad ll cc)) ∧ Ks P w W7) ⟨by exact R6.out.deep d, by exact bl_set A6.out (by omega) _, by exact bl_set B6.out (by omega) _, by exact bl_set G6.out (by omega) _, by exact I6.out.ks ((Ks.refl _ _).set 5 _) (fun _ hb _ => by omega), by exact K6.out.set 5 _⟩ ?_
    rintro W7 ⟨xR7, xA7, xB7, xG7, xI7, xK7⟩
    have R7 := hid xR7
    have A7 := hid xA7
    have B7 := hid xB7
    have G7 := hid xG7
    have I7 := hid xI7
    have K7 := hid xK7
    clear xR7 xA7 xB7 xG7 xI7 xK7
    clear p5 fp5 q0 q1 q2 R6 A6 B6 G6 I6 K6
    obtain ⟨q0, q1, q2⟩ := cells3 G7.out
    have hs7 : W5.heap.size < W7.heap.size := bl_lt G7.out
    obtain ⟨a0, a1, a2, a3, a4, a5, a6, a7, a8⟩ := cells9 (A7.out)
    go_wp2_with fail
    refine (take_any0 8 y2 z2 5 0 0 ((g : Int) + 1) (some ⟨W7.heap.size, 0, none⟩) 1 1 s ere i' n' g' d P _ (R7.out.kp ((Kp.refl _).alloc _)) (by omega) (by omega) (by omega)).mono ?_
    rintro e W8 ⟨rfl, r8, k8⟩
    have R8 := hid r8
    have K8 : Hid (Ks P w W8) := (K7.out.kpt ((Kp.refl _).alloc _) hP).trans k8
    have B8 : Hid (W8.heap[w.heap.size + 1]? = some rzo) := bl_ks (bl_alloc B7.out _) (by omega) k8
    have I8 : Hid (Is W8 (fun b => w.heap.size ≤ b ∧ b ≠ w.heap.size + 1) (.mk 5 0 0 ((g + 1 : Nat) : Int) W4.z [r]) (rxv 5 0 0 ((g : Int) + 1) W4.z (.slice (some ⟨W7.heap.size, 0, none⟩) 1 1))) :=
     ((((I7.out.weak (ok' := fun b => w.heap.size ≤ b ∧ b ≠ w.heap.size + 1) (fun _ hb _ => ⟨by omega, by omega⟩)).kp ((Kp.refl _).alloc _)).one (cells_new _ _ _ _ _ _ _ _ _) ⟨by omega, by omega⟩ (by simp) 5 0 0 ((g : Int) + 1) W4.z).ks k8 (fun _ hb _ => by omega))
    clear r8 k8 q0 q1 q2 a0 a1 a2 a3 a4 a5 a6 a7 a8
    obtain ⟨b0, fb0, b1, fb1, b2, fb2, b3, fb3, b4, fb4, b5, fb5, b6, fb6, b7, fb7, b8, fb8⟩ := cellf9 (B8.out)
    go_wp2_with fail
    refine bodyPost_ret (v := .tuple #[rxv 5 0 0 ((g : Int) + 1) W4.z (.slice (some ⟨W7.heap.size, 0, none⟩) 1 1), .int .i64 0]) (rx_ret2 rfl _ _ _ _ _ rfl rfl (bl_set9 B8.out _ _ _ _ _ _ _ _ _) rfl) rfl ?_
    rw [E.out]
    exact ⟨_, rfl, Ret.fin I8.out R8.out K8.out (ks_set9 _ _ _ _ _ _ _ _ _) hP (by omega)⟩
   ·
    have g8 : ((x2 : Int) != 8) = true := by simp; omega
    have E : Hid (pGroup c s ere z ⟨i, n, g, d⟩ = ⟨rx0, 1, ⟨i', n', g', d + 1⟩⟩) := by show _ = _; rw [E1.out]; exact if_pos h8
    obtain ⟨b0, fb0, b1, fb1, b2, fb2, b3, fb3, b4, fb4, b5, fb5, b6, fb6, b7, fb7, b8, fb8⟩ := cellf9 (B6.out)
    go_wp2_with fail
    refine bodyPost_ret (v := .tuple #[rz, .int .i64 1]) (rx_ret2 rfl _ _ _ _ _ rfl rfl (bl_set9 B6.out _ _ _ _ _ _ _ _ _) rfl) rfl ?_
    rw [E.out]
    exact ⟨_, rfl, Ret.fail R6.out K6.out (ks_set9 _ _ _ _ _ _ _ _ _) hP (by omega)⟩
  ·
   have ge : ((er : Int) != 0) = true := by simp; omega
   have E : Hid (pGroup c s ere z ⟨i, n, g, d⟩ = ⟨rx0, er, ⟨i', n', g', d'⟩⟩) := by show _ = _; rw [E0.out, if_pos he]
   obtain ⟨b0, fb0, b1, fb1, b2, fb2, b3, fb3, b4, fb4, b5, fb5, b6, fb6, b7, fb7, b8, fb8⟩ := cellf9 (B4.out)
   go_wp2_with fail
   refine bodyPost_ret (v := .tuple #[rz, .int .i64 (er : Int)]) (rx_ret2 rfl _ _ _ _ _ rfl rfl (bl_set9 B4.out _ _ _ _ _ _ _ _ _) rfl) rfl ?_
   rw [E.out]
   exact ⟨_, rfl, Ret.fail R4.out K4.out (ks_set9 _ _ _ _ _ _ _ _ _) hP (by omega)⟩
end Go.Proofs.YtnajcnhgeggngaaGreat

/-! ### Back -/

namespace Go.Proofs.YtnajcnhgeggngaaGreat
set_option maxHeartbeats 2000000
set_option maxRecDepth 100000
open Go.RowKit
attribute [local go_sem] field91

theorem back_any (x b z : Nat) (s : ByteArray) (ere : Bool) (i n g d P : Nat) (w : World) (h : Rd w P s ere i n g d) (hi : i ≤ 1000000000) (hz : z ≤ 100) (hn : n ≤ 1000000000) (hb : 48 ≤ b) (hb' : b ≤ 57) :
  Calls Tryz.prog 115 #[.pointer (some ⟨P, 0, none⟩), .agg #[.int .i64 (x : Int), .int .u8 (b : Int), .int .i64 (z : Int)]] w fun e w' => ∃ v, e = .returned (.tuple #[v, .int .i64 ((pBack b z ⟨i, n, g, d⟩).e : Nat)]) ∧ Ret w P s ere (pBack b z ⟨i, n, g, d⟩) v w' := by
 have R : Hid (Rd w P s ere i n g d) := h
 have hP : P < w.heap.size := h.lt
 clear h
 have gw : IntKind.u8.wrap ((b : Int) - 48) = (b : Int) - 48 := by rw [IntKind.wrap_u8']; omega
 have gw' : IntKind.i64.wrap ((b : Int) - 48) = (b : Int) - 48 := by rw [IntKind.wrap_i64]; omega
 by_cases hc : b < 49 ∨ g + 48 < b
 ·
  have E : Hid (pBack b z ⟨i, n, g, d⟩ = ⟨rx0, 1, ⟨i, n, g, d⟩⟩) := by show _ = _; unfold pBack; rw [if_pos hc]
  have fin : ∀ (W0 w2 : World), Rd W0 P s ere i n g d → Ks P w W0 → Ks (w.heap.size + 1) W0 w2 → ∃ v, Ending.returned (.tuple #[rz, .int .i64 1]) = .returned (.tuple #[v, .int .i64 ((pBack b z ⟨i, n, g, d⟩).e : Nat)]) ∧ Ret w P s ere (pBack b z ⟨i, n, g, d⟩) v w2 := by
   intro W0 w2 r k k'
   rw [E.out]
   exact ⟨_, rfl, Ret.fail r k k' hP (by omega)⟩
  have FIN := hid fin
  clear fin
  by_cases h1 : b < 49
  ·
   have c1 : (b : Int) - 48 < 1 := by omega
   go_enter Tryz.func115, Tryz.ntmps115
   go_upto_region 1 with fail
   refine opq (fun W0 => Rd W0 P s ere i n g d ∧ W0.heap[w.heap.size]? = some (sgo x b z) ∧ W0.heap[(w.heap.size + 1)]? = some rzo ∧ Kp w W0) ⟨by exact R.out.kp kpt, by (first | exact last_at _ _ _ (by simp) | (refine bl_alloc ?_ _; first | exact last_at _ _ _ (by simp) | (refine bl_alloc ?_ _; first | exact last_at _ _ _ (by simp) | (refine bl_alloc ?_ _; exact last_at _ _ _ (by simp))))), by (first | exact last_at _ _ _ (by simp) | (refine bl_alloc ?_ _; first | exact last_at _ _ _ (by simp) | (refine bl_alloc ?_ _; first | exact last_at _ _ _ (by simp) | (refine bl_alloc ?_ _; exact last_at _ _ _ (by simp))))), by exact kpt⟩ ?_
   rintro W0 ⟨xR0, xG0, xB0, xK0⟩
   have R0 := hid xR0
   have G0 := hid xG0
   have B0 := hid xB0
   have K0 := hid xK0
   clear xR0 xG0 xB0 xK0
   have ks0 : Hid (Ks P w W0) := K0.out.ks (Nat.le_of_lt hP)
   have hs0 : w.heap.size + 1 < W0.heap.size := bl_lt B0.out
   have p4 := R0.out.cells.2.2.2.2.1
   obtain ⟨q0, q1, q2⟩ := cells3 G0.out
   clear K0
   obtain ⟨b0, fb0, b1, fb1, b2, fb2, b3, fb3, b4, fb4, b5, fb5, b6, fb6, b7, fb7, b8, fb8⟩ := cellf9 (B0.out)
   go_wp2_with fail
   refine bodyPost_ret (v := .tuple #[rz, .int .i64 1]) (rx_ret2 rfl _ _ _ _ _ rfl rfl (bl_set9 B0.out _ _ _ _ _ _ _ _ _) rfl) rfl ?_
   exact FIN.out _ _ R0.out ks0.out (ks_set9 _ _ _ _ _ _ _ _ _)
  ·
   have c1 : ¬ (b : Int) - 48 < 1 := by omega
   have c2 : (g : Int) < (b : Int) - 48 := by omega
   go_enter Tryz.func115, Tryz.ntmps115
   go_upto_region 1 with fail
   refine opq (fun W0 => Rd W0 P s ere i n g d ∧ W0.heap[w.heap.size]? = some (sgo x b z) ∧ W0.heap[(w.heap.size + 1)]? = some rzo ∧ Kp w W0) ⟨by exact R.out.kp kpt, by (first | exact last_at _ _ _ (by simp) | (refine bl_alloc ?_ _; first | exact last_at _ _ _ (by simp) | (refine bl_alloc ?_ _; first | exact last_at _ _ _ (by simp) | (refine bl_alloc ?_ _; exact last_at _ _ _ (by simp))))), by (first | exact last_at _ _ _ (by simp) | (refine bl_alloc ?_ _; first | exact last_at _ _ _ (by simp) | (refine bl_alloc ?_ _; first | exact last_at _ _ _ (by simp) | (refine bl_alloc ?_ _; exact last_at _ _ _ (by simp))))), by exact kpt⟩ ?_
   rintro W0 ⟨xR0, xG0, xB0, xK0⟩
   have R0 := hid xR0
   have G0 := hid xG0
   have B0 := hid xB0
   have K0 := hid xK0
   clear xR0 xG0 xB0 xK0
   have ks0 : Hid (Ks P w W0) := K0.out.ks (Nat.le_of_lt hP)
   have hs0 : w.heap.size + 1 < W0.heap.size := bl_lt B0.out
   have p4 := R0.out.cells.2.2.2.2.1
   obtain ⟨q0, q1, q2⟩ := cells3 G0.out
   clear K0
   obtain ⟨b0, fb0, b1, fb1, b2, fb2, b3, fb3, b4, fb4, b5, fb5, b6, fb6, b7, fb7, b8, fb8⟩ := cellf9 (B0.out)
   go_wp2_with fail
   refine bodyPost_ret (v := .tuple #[rz, .int .i64 1]) (rx_ret2 rfl _ _ _ _ _ rfl rfl (bl_set9 B0.out _ _ _ _ _ _ _ _ _) rfl) rfl ?_
   exact FIN.out _ _ R0.out ks0.out (ks_set9 _ _ _ _ _ _ _ _ _)
 ·
  have E : Hid (pBack b z ⟨i, n, g, d⟩ = pTake z (.mk 6 0 0 ((b : Int) - 48) W4.z []) ⟨i, n, g, d⟩) := by show _ = _; unfold pBack; rw [if_neg hc]
  have c1 : ¬ (b : Int) - 48 < 1 := by omega
  have c2 : ¬ (g : Int) < (b : Int) - 48 := by omega
  have fin : ∀ (W0 w2 w3 : World), Ret W0 P s ere (pTake z (.mk 6 0 0 ((b : Int) - 48) W4.z []) ⟨i, n, g, d⟩) (rxv 6 0 0 ((b : Int) - 48) W4.z (.slice none 0 0)) w2 → Ks P w W0 → w.heap.size + 1 < W0.heap.size → Ks (w.heap.size + 1) w2 w3 → ∃ v, Ending.returned (.tuple #[rxv 6 0 0 ((b : Int) - 48) W4.z (.slice none 0 0), .int .i64 0]) = .returned (.tuple #[v, .int .i64 ((pBack b z ⟨i, n, g, d⟩).e : Nat)]) ∧ Ret w P s ere (pBack b z ⟨i, n, g, d⟩) v w3 := by
   intro W0 w2 w3 r k hl k'
   rw [E.out]
   exact ⟨_, rfl, r.upset k k' hP (by omega) hl⟩
  have FIN := hid fin
  clear fin hc
  go_enter Tryz.func115, Tryz.ntmps115
  go_upto_region 1 with fail
  refine opq (fun W0 => Rd W0 P s ere i n g d ∧ W0.heap[w.heap.size]? = some (sgo x b z) ∧ W0.heap[(w.heap.size + 1)]? = some rzo ∧ Kp w W0) ⟨by exact R.out.kp kpt, by (first | exact last_at _ _ _ (by simp) | (refine bl_alloc ?_ _; first | exact last_at _ _ _ (by simp) | (refine bl_alloc ?_ _; first | exact last_at _ _ _ (by simp) | (refine bl_alloc ?_ _; exact last_at _ _ _ (by simp))))), by (first | exact last_at _ _ _ (by simp) | (refine bl_alloc ?_ _; first | exact last_at _ _ _ (by simp) | (refine bl_alloc ?_ _; first | exact last_at _ _ _ (by simp) | (refine bl_alloc ?_ _; exact last_at _ _ _ (by simp))))), by exact kpt⟩ ?_
  rintro W0 ⟨xR0, xG0, xB0, xK0⟩
  have R0 := hid xR0
  have G0 := hid xG0
  have B0 := hid xB0
  have K0 := hid xK0
  clear xR0 xG0 xB0 xK0
  have ks0 : Hid (Ks P w W0) := K0.out.ks (Nat.le_of_lt hP)
  have hs0 : w.heap.size + 1 < W0.heap.size := bl_lt B0.out
  have p4 := R0.out.cells.2.2.2.2.1
  obtain ⟨q0, q1, q2⟩ := cells3 G0.out
  clear K0
  go_wp2_with fail
  refine (take_ret0 x b z 6 0 0 ((b : Int) - 48) none 0 0 s ere i n g d P (.mk 6 0 0 ((b : Int) - 48) W4.z []) W0 _ R0.out hi hz hn (Is.leaf _ _ _ _ _ _ _) (Ks.refl _ _) (by omega)).mono ?_
  rintro e w2 ⟨rfl, r2, k2⟩
  have R2 : Hid (Ret W0 P s ere (pTake z (.mk 6 0 0 ((b : Int) - 48) W4.z []) ⟨i, n, g, d⟩) (rxv 6 0 0 ((b : Int) - 48) W4.z (.slice none 0 0)) w2) := r2
  have B2 : Hid (w2.heap[w.heap.size + 1]? = some rzo) := bl_ks B0.out (by omega) k2
  clear r2 k2 p4 q0 q1 q2
  obtain ⟨b0, fb0, b1, fb1, b2, fb2, b3, fb3, b4, fb4, b5, fb5, b6, fb6, b7, fb7, b8, fb8⟩ := cellf9 (B2.out)
  go_wp2_with fail
  refine bodyPost_ret (v := .tuple #[rxv 6 0 0 ((b : Int) - 48) W4.z (.slice none 0 0), .int .i64 0]) (rx_ret2 rfl _ _ _ _ _ rfl rfl (bl_set9 B2.out _ _ _ _ _ _ _ _ _) rfl) rfl ?_
  exact FIN.out _ _ _ R2.out ks0.out hs0 (ks_set9 _ _ _ _ _ _ _ _ _)
end Go.Proofs.YtnajcnhgeggngaaGreat

/-! ### One -/

namespace Go.Proofs.YtnajcnhgeggngaaGreat
set_option maxHeartbeats 2000000
set_option maxRecDepth 100000
open Go.RowKit
attribute [local go_sem] field91

theorem not_zero (w : World) : Calls Tryz.prog 20 #[.agg #[.int .u64 0, .int .u64 0, .int .u64 0, .int .u64 0]] w fun e w' => e = .returned (sv (notB (fun _ => false))) ∧ Kp w w' := by
 have := not_any (fun _ => false) w
 rw [sv_none] at this
 exact this

theorem one_any (c : St → Out) (D k b z : Nat) (s : ByteArray) (ere : Bool) (i n g d P : Nat) (w : World) (HC : ChSaid c s ere D) (HGd : CGood c s) (h : Rd w P s ere i n g d) (hv : Inv s ⟨i, n, g, d⟩) (hD : d + D = 6) (hz : i + z ≤ s.size) (hz2 : z ≤ 2) (hz1 : k ≠ 1 → k ≠ 0 → 1 ≤ z) (hb : b < 256) (hb14 : k = 14 → 48 ≤ b ∧ b ≤ 57) (hs : s.size ≤ 1000000) :
  Calls Tryz.prog 94 #[.pointer (some ⟨P, 0, none⟩), .agg #[.int .i64 (k : Int), .int .u8 (b : Int), .int .i64 (z : Int)]] w fun e w' => RetE w P s ere (pOne c s ere k b z ⟨i, n, g, d⟩) e w' := by
 have R : Hid (Rd w P s ere i n g d) := h
 have hP : P < w.heap.size := h.lt
 clear h
 have hn : n ≤ 1000000000 := by have := hv.n; simp only at this; omega
 have hi : i ≤ 1000000000 := by omega
 have HZ1 := hid hz1
 have HB14 := hid hb14
 clear hz1 hb14
 go_enter Tryz.func94, Tryz.ntmps94
 go_upto_region 1 with fail
 refine opq (fun W0 => Rd W0 P s ere i n g d ∧ W0.heap[w.heap.size]? = some (sgo k b z) ∧ W0.heap[(w.heap.size + 1)]? = some rzo ∧ Ks P w W0) ⟨by exact R.out.kp kpt, by (first | exact last_at _ _ _ (by simp) | (refine bl_alloc ?_ _; first | exact last_at _ _ _ (by simp) | (refine bl_alloc ?_ _; first | exact last_at _ _ _ (by simp) | (refine bl_alloc ?_ _; exact last_at _ _ _ (by simp))))), by (first | exact last_at _ _ _ (by simp) | (refine bl_alloc ?_ _; first | exact last_at _ _ _ (by simp) | (refine bl_alloc ?_ _; first | exact last_at _ _ _ (by simp) | (refine bl_alloc ?_ _; exact last_at _ _ _ (by simp))))), by exact (Kp.ks kpt (Nat.le_of_lt hP))⟩ ?_
 rintro W0 ⟨xR0, xG0, xB0, xK0⟩
 have R0 := hid xR0
 have G0 := hid xG0
 have B0 := hid xB0
 have K0 := hid xK0
 clear xR0 xG0 xB0 xK0
 clear R
 have hsW : w.heap.size + 1 < W0.heap.size := bl_lt B0.out
 have hPW : P < W0.heap.size := by omega
 obtain ⟨q0, q1, q2⟩ := cells3 G0.out
 by_cases k2 : k = 2
 ·
  subst k2
  have E : Hid (pOne c s ere 2 b z ⟨i, n, g, d⟩ = pTake z (rset (addB (fun _ => false) b)) ⟨i, n, g, d⟩) := by show _ = _; unfold pOne; rw [if_pos rfl]
  go_upto_region 3 with fail
  have Q0 : Ks P W0 W0.drew := (Ks.refl _ _).drew
  have MK : Hid (∀ W, Ks P W0 W → W.cell? ⟨w.heap.size, 0, none⟩ = some (.int .i64 2) ∧ W.cell? ⟨w.heap.size, 1, none⟩ = some (.int .u8 (b : Int)) ∧ W.cell? ⟨w.heap.size, 2, none⟩ = some (.int .i64 (z : Int)) ∧ Hid (Ks P W0 W)) := fun W k => ⟨bl_cell (bl_ks G0.out (by omega) k) 0 _ rfl, bl_cell (bl_ks G0.out (by omega) k) 1 _ rfl, bl_cell (bl_ks G0.out (by omega) k) 2 _ rfl, k⟩
  refine wp_region_noPanic ?_
  refine hdrewZ 10 MK Q0 (fun hH => ?_)
  have KQ := Q0
  refine zk 10 0 [] (some 10) (Op.move (Operand.tmp 0)) 95 (v := ?v0a21) rfl ?h0a21 hH ?_
  case h0a21 => intro _ _; go_simp; try with_reducible rfl
  try simp only [ps]
  refine zk 10 1 [] (some 11) (Op.load 115 (Operand.tmp 3)) 115 (v := ?v1a22) rfl ?h1a22 hH ?_
  case h1a22 => intro _ _; go_simp; try with_reducible rfl
  try simp only [ps]
  refine zk 10 2 [] (some 12) (Op.fieldAddr 115 (Operand.tmp 3) 1) 0 (v := ?v2a23) rfl ?h2a23 hH ?_
  case h2a23 => intro _ _; go_simp; try with_reducible rfl
  try simp only [ps]
  refine zk 10 3 [] (some 13) (Op.load 5 (Operand.tmp 12)) 5 (v := ?v3a24) rfl ?h3a24 hH ?_
  case h3a24 => intro _ _; go_simp; try with_reducible rfl
  try simp only [ps]
  refine anyZ_ready (rs := [4]) (by kernel_rfl) (by simp) ?_
  refine AllZ.cons (o := { dst := some 14, op := Op.buildSlice 57 1 #[(0, Operand.tmp 13)], type := 57, pos := "parse.go:120", after := #[{ on := 3, ground := Ground.data }], guard := none }) rfl (fun K hKq => ?_) AllZ.nil
  go_simp
  refine hKq.out _ _ (MK.out _ (KQ.kpt ((Kp.refl _).alloc _) hPW)) (fun hN => ?_)
  clear hKq K hH KQ
  have hH := hN
  clear hN
  have KQ := hH.2.2.2.out
  try simp only [ps]
  refine anyZ_ready (rs := [5]) (by kernel_rfl) (by simp) ?_
  refine AllZ.cons (o := { dst := some 15, op := Op.call { callee := Callee.value (Operand.func 19), args := #[Operand.tmp 14], argTypes := #[57] }, type := 24, pos := "parse.go:120", after := #[{ on := 4, ground := Ground.data }], guard := none }) rfl (fun K hKq => ?_) AllZ.nil
  go_simp
  refine (of1 b _ W0.heap.size (by simp [World.drew]) (bl_cell (last_drew _ _) 0 _ rfl) hb).mono ?_
  rintro e ya ⟨rfl, kq⟩
  have KA : Hid (Kp W0 ya) := (((Kp.refl _).alloc _).drew).trans kq
  refine hKq.out _ _ (MK.out _ (KQ.kpt kq hPW)) (fun hN => ?_)
  clear kq
  clear hKq K hH KQ
  have hH := hN
  clear hN
  have KQ := hH.2.2.2.out
  try simp only [ps]
  refine anyZ_ready (rs := [6]) (by kernel_rfl) (by simp) ?_
  refine AllZ.cons (o := { dst := some 16, op := Op.call { callee := Callee.value (Operand.func 114), args := #[Operand.tmp 15], argTypes := #[24] }, type := 27, pos := "parse.go:120", after := #[{ on := 5, ground := Ground.data }, { on := 5, ground := Ground.chain }], guard := none }) rfl (fun K hKq => ?_) AllZ.nil
  go_simp
  refine (oneOf_any (addB (fun _ => false) b) _).mono ?_
  rintro e yb ⟨rfl, kq⟩
  have KB : Hid (Kp W0 yb) := KA.out.trans kq
  refine hKq.out _ _ (MK.out _ (KQ.kpt kq hPW)) (fun hN => ?_)
  clear kq KA
  clear hKq K hH KQ
  have hH := hN
  clear hN
  have KQ := hH.2.2.2.out
  try simp only [ps]
  refine anyZ_ready (rs := [7]) (by kernel_rfl) (by simp) ?_
  refine AllZ.cons (o := { dst := some 17, op := Op.call { callee := Callee.value (Operand.func 113), args := #[Operand.tmp 10, Operand.tmp 11, Operand.tmp 16], argTypes := #[95, 115, 27] }, type := 66, pos := "parse.go:120", after := #[{ on := 0, ground := Ground.data }, { on := 1, ground := Ground.data }, { on := 6, ground := Ground.data }, { on := 6, ground := Ground.chain }], guard := none }) rfl (fun K hKq => ?_) AllZ.nil
  go_simp
  refine (take_any 2 b z 1 0 0 0 (W4.of (addB (fun _ => false) b)) none 0 0 s ere i n g d P _ (R0.out.kp KB.out) hi (by omega) hn).mono ?_
  rintro e yc ⟨rfl, rr, kq⟩
  have R2 := hid rr
  have B2 : Hid (yc.heap[w.heap.size + 1]? = some rzo) := bl_ks (bl_kp B0.out KB.out) (by omega) kq
  have K2 : Hid (Ks P w yc) := (K0.out.kpt KB.out hP).trans kq
  refine hKq.out _ _ (MK.out _ (KQ.trans kq)) (fun hN => ?_)
  clear kq rr KB
  clear hKq K hH KQ
  have hH := hN
  clear hN
  have KQ := hH.2.2.2.out
  try simp only [ps]
  refine zk 10 8 [] (some 18) (Op.extract (Operand.tmp 17) 0) 27 (v := ?v8a25) rfl ?h8a25 hH ?_
  case h8a25 => intro _ _; go_simp; try with_reducible rfl
  try simp only [ps]
  refine zk 10 9 [] (some 19) (Op.extract (Operand.tmp 17) 1) 28 (v := ?v9a26) rfl ?h9a26 hH ?_
  case h9a26 => intro _ _; go_simp; try with_reducible rfl
  try simp only [ps]
  refine anyZ_ready (rs := [10]) (by kernel_rfl) (by simp) ?_
  refine AllZ.last (o := { dst := none, op := Op.store 27 (Operand.tmp 4) (Operand.tmp 18), type := 0, pos := "parse.go:120", after := #[{ on := 8, ground := Ground.data }, { on := 7, ground := Ground.chain }, { on := 0, ground := Ground.phase }, { on := 1, ground := Ground.phase }, { on := 2, ground := Ground.phase }, { on := 3, ground := Ground.phase }, { on := 4, ground := Ground.phase }, { on := 5, ground := Ground.phase }, { on := 6, ground := Ground.phase }, { on := 7, ground := Ground.phase }, { on := 8, ground := Ground.phase }, { on := 9, ground := Ground.phase }], guard := none }) rfl (Or.inl rfl) (fun K hKq => ?_) AllZ.nil
  obtain ⟨b0, fb0, b1, fb1, b2, fb2, b3, fb3, b4, fb4, b5, fb5, b6, fb6, b7, fb7, b8, fb8⟩ := cellf9 (B2.out)
  go_simp
  refine hKq.out _ _ ?_
  clear hKq K
  try simp only [ps]
  refine anyZ_ready (rs := [11]) (by kernel_rfl) (by simp) ?_
  refine AllZ.last (o := { dst := some 5, op := Op.assign (Operand.tmp 19), type := 28, pos := "parse.go:120", after := #[{ on := 9, ground := Ground.data }, { on := 10, ground := Ground.chain }, { on := 0, ground := Ground.phase }, { on := 1, ground := Ground.phase }, { on := 2, ground := Ground.phase }, { on := 3, ground := Ground.phase }, { on := 4, ground := Ground.phase }, { on := 5, ground := Ground.phase }, { on := 6, ground := Ground.phase }, { on := 7, ground := Ground.phase }, { on := 8, ground := Ground.phase }, { on := 9, ground := Ground.phase }, { on := 10, ground := Ground.phase }], guard := none }) rfl (Or.inr (by kernel_rfl)) (fun K hKq => ?_) AllZ.nil
  go_simp
  refine hKq.out _ _ ?_
  clear hKq K
  try simp only [ps]
  refine anyZ_done (by kernel_rfl) ?_ _
  refine NoPanic.normal ?_
  go_wp2_with fail
  refine bodyPost_ret (v := .tuple #[rxv 1 0 0 0 (W4.of (addB (fun _ => false) b)) (.slice none 0 0), .int .i64 0]) (rx_ret2 rfl _ _ _ _ _ rfl rfl (bl_set9 B2.out _ _ _ _ _ _ _ _ _) rfl) rfl ?_
  rw [E.out]
  exact ⟨_, rfl, Ret.fin (Is.leaf _ _ _ _ _ _ _) R2.out K2.out (ks_set9 _ _ _ _ _ _ _ _ _) hP (by omega)⟩
 by_cases k3 : k = 3
 ·
  subst k3
  have E : Hid (pOne c s ere 3 b z ⟨i, n, g, d⟩ = pTake z (rset (notB (fun _ => false))) ⟨i, n, g, d⟩) := by show _ = _; unfold pOne; rw [if_neg (by omega), if_pos rfl]
  go_upto_region 5 with fail
  have Q0 : Ks P W0 W0.drew := (Ks.refl _ _).drew
  have MK : Hid (∀ W, Ks P W0 W → W.cell? ⟨w.heap.size, 0, none⟩ = some (.int .i64 3) ∧ W.cell? ⟨w.heap.size, 1, none⟩ = some (.int .u8 (b : Int)) ∧ W.cell? ⟨w.heap.size, 2, none⟩ = some (.int .i64 (z : Int)) ∧ Hid (Ks P W0 W)) := fun W k => ⟨bl_cell (bl_ks G0.out (by omega) k) 0 _ rfl, bl_cell (bl_ks G0.out (by omega) k) 1 _ rfl, bl_cell (bl_ks G0.out (by omega) k) 2 _ rfl, k⟩
  refine wp_region_noPanic ?_
  refine hdrewZ 8 MK Q0 (fun hH => ?_)
  have KQ := Q0
  refine zk 8 0 [] (some 22) (Op.move (Operand.tmp 0)) 95 (v := ?v0a31) rfl ?h0a31 hH ?_
  case h0a31 => intro _ _; go_simp; try with_reducible rfl
  try simp only [ps]
  refine zk 8 1 [] (some 23) (Op.load 115 (Operand.tmp 3)) 115 (v := ?v1a32) rfl ?h1a32 hH ?_
  case h1a32 => intro _ _; go_simp; try with_reducible rfl
  try simp only [ps]
  refine zk 8 2 [] (some 24) (Op.build 24 #[]) 24 (v := ?v2a33) rfl ?h2a33 hH ?_
  case h2a33 => intro _ _; go_simp; try with_reducible rfl
  try simp only [ps]
  refine anyZ_ready (rs := [3]) (by kernel_rfl) (by simp) ?_
  refine AllZ.cons (o := { dst := some 25, op := Op.call { callee := Callee.value (Operand.func 20), args := #[Operand.tmp 24], argTypes := #[24] }, type := 24, pos := "parse.go:122", after := #[{ on := 2, ground := Ground.data }], guard := none }) rfl (fun K hKq => ?_) AllZ.nil
  go_simp
  refine (not_zero _).mono ?_
  rintro e ya ⟨rfl, kq⟩
  have KA : Hid (Kp W0 ya) := ((Kp.refl _).drew).trans kq
  refine hKq.out _ _ (MK.out _ (KQ.kpt kq hPW)) (fun hN => ?_)
  clear kq
  clear hKq K hH KQ
  have hH := hN
  clear hN
  have KQ := hH.2.2.2.out
  try simp only [ps]
  refine anyZ_ready (rs := [4]) (by kernel_rfl) (by simp) ?_
  refine AllZ.cons (o := { dst := some 26, op := Op.call { callee := Callee.value (Operand.func 114), args := #[Operand.tmp 25], argTypes := #[24] }, type := 27, pos := "parse.go:122", after := #[{ on := 3, ground := Ground.data }, { on := 3, ground := Ground.chain }], guard := none }) rfl (fun K hKq => ?_) AllZ.nil
  go_simp
  refine (oneOf_any (notB (fun _ => false)) _).mono ?_
  rintro e yb ⟨rfl, kq⟩
  have KB : Hid (Kp W0 yb) := KA.out.trans kq
  refine hKq.out _ _ (MK.out _ (KQ.kpt kq hPW)) (fun hN => ?_)
  clear kq KA
  clear hKq K hH KQ
  have hH := hN
  clear hN
  have KQ := hH.2.2.2.out
  try simp only [ps]
  refine anyZ_ready (rs := [5]) (by kernel_rfl) (by simp) ?_
  refine AllZ.cons (o := { dst := some 27, op := Op.call { callee := Callee.value (Operand.func 113), args := #[Operand.tmp 22, Operand.tmp 23, Operand.tmp 26], argTypes := #[95, 115, 27] }, type := 66, pos := "parse.go:122", after := #[{ on := 0, ground := Ground.data }, { on := 1, ground := Ground.data }, { on := 4, ground := Ground.data }, { on := 4, ground := Ground.chain }], guard := none }) rfl (fun K hKq => ?_) AllZ.nil
  go_simp
  refine (take_any 3 b z 1 0 0 0 (W4.of (notB (fun _ => false))) none 0 0 s ere i n g d P _ (R0.out.kp KB.out) hi (by omega) hn).mono ?_
  rintro e yc ⟨rfl, rr, kq⟩
  have R2 := hid rr
  have B2 : Hid (yc.heap[w.heap.size + 1]? = some rzo) := bl_ks (bl_kp B0.out KB.out) (by omega) kq
  have K2 : Hid (Ks P w yc) := (K0.out.kpt KB.out hP).trans kq
  refine hKq.out _ _ (MK.out _ (KQ.trans kq)) (fun hN => ?_)
  clear kq rr KB
  clear hKq K hH KQ
  have hH := hN
  clear hN
  have KQ := hH.2.2.2.out
  try simp only [ps]
  refine zk 8 6 [] (some 28) (Op.extract (Operand.tmp 27) 0) 27 (v := ?v6a34) rfl ?h6a34 hH ?_
  case h6a34 => intro _ _; go_simp; try with_reducible rfl
  try simp only [ps]
  refine zk 8 7 [] (some 29) (Op.extract (Operand.tmp 27) 1) 28 (v := ?v7a35) rfl ?h7a35 hH ?_
  case h7a35 => intro _ _; go_simp; try with_reducible rfl
  try simp only [ps]
  refine anyZ_ready (rs := [8]) (by kernel_rfl) (by simp) ?_
  refine AllZ.last (o := { dst := none, op := Op.store 27 (Operand.tmp 4) (Operand.tmp 28), type := 0, pos := "parse.go:122", after := #[{ on := 6, ground := Ground.data }, { on := 5, ground := Ground.chain }, { on := 0, ground := Ground.phase }, { on := 1, ground := Ground.phase }, { on := 2, ground := Ground.phase }, { on := 3, ground := Ground.phase }, { on := 4, ground := Ground.phase }, { on := 5, ground := Ground.phase }, { on := 6, ground := Ground.phase }, { on := 7, ground := Ground.phase }], guard := none }) rfl (Or.inl rfl) (fun K hKq => ?_) AllZ.nil
  obtain ⟨b0, fb0, b1, fb1, b2, fb2, b3, fb3, b4, fb4, b5, fb5, b6, fb6, b7, fb7, b8, fb8⟩ := cellf9 (B2.out)
  go_simp
  refine hKq.out _ _ ?_
  clear hKq K
  try simp only [ps]
  refine anyZ_ready (rs := [9]) (by kernel_rfl) (by simp) ?_
  refine AllZ.last (o := { dst := some 5, op := Op.assign (Operand.tmp 29), type := 28, pos := "parse.go:122", after := #[{ on := 7, ground := Ground.data }, { on := 8, ground := Ground.chain }, { on := 0, ground := Ground.phase }, { on := 1, ground := Ground.phase }, { on := 2, ground := Ground.phase }, { on := 3, ground := Ground.phase }, { on := 4, ground := Ground.phase }, { on := 5, ground := Ground.phase }, { on := 6, ground := Ground.phase }, { on := 7, ground := Ground.phase }, { on := 8, ground := Ground.phase }], guard := none }) rfl (Or.inr (by kernel_rfl)) (fun K hKq => ?_) AllZ.nil
  go_simp
  refine hKq.out _ _ ?_
  clear hKq K
  try simp only [ps]
  refine anyZ_done (by kernel_rfl) ?_ _
  refine NoPanic.normal ?_
  go_wp2_with fail
  refine bodyPost_ret (v := .tuple #[rxv 1 0 0 0 (W4.of (notB (fun _ => false))) (.slice none 0 0), .int .i64 0]) (rx_ret2 rfl _ _ _ _ _ rfl rfl (bl_set9 B2.out _ _ _ _ _ _ _ _ _) rfl) rfl ?_
  rw [E.out]
  exact ⟨_, rfl, Ret.fin (Is.leaf _ _ _ _ _ _ _) R2.out K2.out (ks_set9 _ _ _ _ _ _ _ _ _) hP (by omega)⟩
 by_cases k5 : k = 5
 ·
  subst k5
  have E : Hid (pOne c s ere 5 b z ⟨i, n, g, d⟩ = pTake z (.mk 7 0 0 0 W4.z []) ⟨i, n, g, d⟩) := by show _ = _; unfold pOne; rw [if_neg (by omega), if_neg (by omega), if_pos rfl]
  go_wp2_with fail
  refine (take_any0 5 b z 7 0 0 0 none 0 0 s ere i n g d P _ R0.out hi (by omega) hn).mono ?_
  rintro e W2 ⟨rfl, rr, kq⟩
  have R2 := hid rr
  have B2 : Hid (W2.heap[w.heap.size + 1]? = some rzo) := bl_ks B0.out (by omega) kq
  have K2 : Hid (Ks P w W2) := K0.out.trans kq
  clear kq rr q0 q1 q2 R0 G0 B0 K0
  obtain ⟨b0, fb0, b1, fb1, b2, fb2, b3, fb3, b4, fb4, b5, fb5, b6, fb6, b7, fb7, b8, fb8⟩ := cellf9 (B2.out)
  go_wp2_with fail
  refine bodyPost_ret (v := .tuple #[rxv 7 0 0 0 W4.z (.slice none 0 0), .int .i64 0]) (rx_ret2 rfl _ _ _ _ _ rfl rfl (bl_set9 B2.out _ _ _ _ _ _ _ _ _) rfl) rfl ?_
  rw [E.out]
  exact ⟨_, rfl, Ret.fin (Is.leaf _ _ _ _ _ _ _) R2.out K2.out (ks_set9 _ _ _ _ _ _ _ _ _) hP (by omega)⟩
 by_cases k6 : k = 6
 ·
  subst k6
  have E : Hid (pOne c s ere 6 b z ⟨i, n, g, d⟩ = pTake z (.mk 8 0 0 0 W4.z []) ⟨i, n, g, d⟩) := by show _ = _; unfold pOne; rw [if_neg (by omega), if_neg (by omega), if_neg (by omega), if_pos rfl]
  go_wp2_with fail
  refine (take_any0 6 b z 8 0 0 0 none 0 0 s ere i n g d P _ R0.out hi (by omega) hn).mono ?_
  rintro e W2 ⟨rfl, rr, kq⟩
  have R2 := hid rr
  have B2 : Hid (W2.heap[w.heap.size + 1]? = some rzo) := bl_ks B0.out (by omega) kq
  have K2 : Hid (Ks P w W2) := K0.out.trans kq
  clear kq rr q0 q1 q2 R0 G0 B0 K0
  obtain ⟨b0, fb0, b1, fb1, b2, fb2, b3, fb3, b4, fb4, b5, fb5, b6, fb6, b7, fb7, b8, fb8⟩ := cellf9 (B2.out)
  go_wp2_with fail
  refine bodyPost_ret (v := .tuple #[rxv 8 0 0 0 W4.z (.slice none 0 0), .int .i64 0]) (rx_ret2 rfl _ _ _ _ _ rfl rfl (bl_set9 B2.out _ _ _ _ _ _ _ _ _) rfl) rfl ?_
  rw [E.out]
  exact ⟨_, rfl, Ret.fin (Is.leaf _ _ _ _ _ _ _) R2.out K2.out (ks_set9 _ _ _ _ _ _ _ _ _) hP (by omega)⟩
 by_cases k14 : k = 14
 ·
  subst k14
  have E : Hid (pOne c s ere 14 b z ⟨i, n, g, d⟩ = pBack b z ⟨i, n, g, d⟩) := by show _ = _; unfold pOne; rw [if_neg (by omega), if_neg (by omega), if_neg (by omega), if_neg (by omega), if_pos rfl]
  go_wp2_with fail
  refine (back_any 14 b z s ere i n g d P _ R0.out hi (by omega) hn (HB14.out (by trivial)).1 (HB14.out (by trivial)).2).mono ?_
  rintro e W2 ⟨v, rfl, rr⟩
  obtain ⟨kk, mn, mx, mm, tt, ad, ll, cc, rfl⟩ := rr.is.form
  have B2 : Hid (W2.heap[w.heap.size + 1]? = some rzo) := bl_ks B0.out (by omega) rr.ks
  have RR := hid rr
  rw [← E.out] at RR ⊢
  have RR' := RR
  clear rr RR q0 q1 q2
  obtain ⟨b0, fb0, b1, fb1, b2, fb2, b3, fb3, b4, fb4, b5, fb5, b6, fb6, b7, fb7, b8, fb8⟩ := cellf9 (B2.out)
  go_wp2_with fail
  refine bodyPost_ret (v := .tuple #[rxv kk mn mx mm tt (.slice ad ll cc), .int .i64 ((pOne c s ere 14 b z ⟨i, n, g, d⟩).e : Nat)]) (rx_ret2 rfl _ _ _ _ _ rfl rfl (bl_set9 B2.out _ _ _ _ _ _ _ _ _) rfl) rfl ?_
  exact ⟨_, rfl, RR'.out.upset K0.out (ks_set9 _ _ _ _ _ _ _ _ _) hP (by omega) hsW⟩
 by_cases k4 : k = 4
 ·
  subst k4
  have E : Hid (pOne c s ere 4 b z ⟨i, n, g, d⟩ = pBracket s ⟨i, n, g, d⟩) := by show _ = _; unfold pOne; rw [if_neg (by omega), if_neg (by omega), if_neg (by omega), if_neg (by omega), if_neg (by omega), if_pos rfl]
  go_wp2_with fail
  refine (bracket_any s ere i n g d P _ R0.out (by have := HZ1.out (by omega) (by omega); omega) hs hn).mono ?_
  rintro e W2 ⟨⟨v, rfl, rr⟩⟩
  obtain ⟨kk, mn, mx, mm, tt, ad, ll, cc, rfl⟩ := rr.is.form
  have B2 : Hid (W2.heap[w.heap.size + 1]? = some rzo) := bl_ks B0.out (by omega) rr.ks
  have RR := hid rr
  rw [← E.out] at RR ⊢
  have RR' := RR
  clear rr RR q0 q1 q2
  obtain ⟨b0, fb0, b1, fb1, b2, fb2, b3, fb3, b4, fb4, b5, fb5, b6, fb6, b7, fb7, b8, fb8⟩ := cellf9 (B2.out)
  go_wp2_with fail
  refine bodyPost_ret (v := .tuple #[rxv kk mn mx mm tt (.slice ad ll cc), .int .i64 ((pOne c s ere 4 b z ⟨i, n, g, d⟩).e : Nat)]) (rx_ret2 rfl _ _ _ _ _ rfl rfl (bl_set9 B2.out _ _ _ _ _ _ _ _ _) rfl) rfl ?_
  exact ⟨_, rfl, RR'.out.upset K0.out (ks_set9 _ _ _ _ _ _ _ _ _) hP (by omega) hsW⟩
 by_cases k7 : k = 7
 ·
  subst k7
  have E : Hid (pOne c s ere 7 b z ⟨i, n, g, d⟩ = pGroup c s ere z ⟨i, n, g, d⟩) := by show _ = _; unfold pOne; rw [if_neg (by omega), if_neg (by omega), if_neg (by omega), if_neg (by omega), if_neg (by omega), if_neg (by omega), if_pos rfl]
  go_wp2_with fail
  refine (group_any c D 7 b z s ere i n g d P _ HC HGd R0.out hv hD hz (HZ1.out (by omega) (by omega)) hz2 hs).mono ?_
  rintro e W2 ⟨⟨v, rfl, rr⟩⟩
  obtain ⟨kk, mn, mx, mm, tt, ad, ll, cc, rfl⟩ := rr.is.form
  have B2 : Hid (W2.heap[w.heap.size + 1]? = some rzo) := bl_ks B0.out (by omega) rr.ks
  have RR := hid rr
  rw [← E.out] at RR ⊢
  have RR' := RR
  clear rr RR q0 q1 q2
  obtain ⟨b0, fb0, b1, fb1, b2, fb2, b3, fb3, b4, fb4, b5, fb5, b6, fb6, b7, fb7, b8, fb8⟩ := cellf9 (B2.out)
  go_wp2_with fail
  refine bodyPost_ret (v := .tuple #[rxv kk mn mx mm tt (.slice ad ll cc), .int .i64 ((pOne c s ere 7 b z ⟨i, n, g, d⟩).e : Nat)]) (rx_ret2 rfl _ _ _ _ _ rfl rfl (bl_set9 B2.out _ _ _ _ _ _ _ _ _) rfl) rfl ?_
  exact ⟨_, rfl, RR'.out.upset K0.out (ks_set9 _ _ _ _ _ _ _ _ _) hP (by omega) hsW⟩
 have g2 : ((k : Int) == 2) = false := by simp; omega
 have g3 : ((k : Int) == 3) = false := by simp; omega
 have g5 : ((k : Int) == 5) = false := by simp; omega
 have g6 : ((k : Int) == 6) = false := by simp; omega
 have g14 : ((k : Int) == 14) = false := by simp; omega
 have g4 : ((k : Int) == 4) = false := by simp; omega
 have g7 : ((k : Int) == 7) = false := by simp; omega
 have E : Hid (pOne c s ere k b z ⟨i, n, g, d⟩ = ⟨rx0, 1, ⟨i, n, g, d⟩⟩) := by show _ = _; unfold pOne; rw [if_neg k2, if_neg k3, if_neg k5, if_neg k6, if_neg k14, if_neg k4, if_neg k7]
 obtain ⟨b0, fb0, b1, fb1, b2, fb2, b3, fb3, b4, fb4, b5, fb5, b6, fb6, b7, fb7, b8, fb8⟩ := cellf9 (B0.out)
 go_wp2_with fail
 refine bodyPost_ret (v := .tuple #[rz, .int .i64 1]) (rx_ret2 rfl _ _ _ _ _ rfl rfl (bl_set9 B0.out _ _ _ _ _ _ _ _ _) rfl) rfl ?_
 rw [E.out]
 exact ⟨_, rfl, Ret.fail R0.out K0.out (ks_set9 _ _ _ _ _ _ _ _ _) hP (by omega)⟩
end Go.Proofs.YtnajcnhgeggngaaGreat

/-! ### Part -/

namespace Go.Proofs.YtnajcnhgeggngaaGreat
set_option maxHeartbeats 2000000
set_option maxRecDepth 100000
open Go.RowKit
attribute [local go_sem] field91

theorem ch_lt' (s : ByteArray) (i : Nat) : ch s i < 256 := ch_lt s i
theorem qs_dig (b : Nat) (ere : Bool) (hb : b < 256) : (qs b ere).2.1 < 256 ∧ ((qs b ere).1 = 14 → 48 ≤ (qs b ere).2.1 ∧ (qs b ere).2.1 ≤ 57) := by
 unfold qs
 split
 ·
  exact ⟨by show 10 < 256; omega, fun h => by cases h⟩
 split
 ·
  rename_i h; exact ⟨hb, fun _ => (rng_dig b).1 h⟩
 split
 ·
  exact ⟨hb, fun h => by cases h⟩
 split
 ·
  exact ⟨by show 0 < 256; omega, fun h => by cases h⟩
 ·
  refine ⟨hb, fun h => ?_⟩
  have h' : framing b = 14 := h
  unfold framing at h'
  split at h'
  ·
   omega
  split at h'
  ·
   omega
  split at h' <;> omega
theorem bare_ne (b : Nat) (ere : Bool) (hb : b < 256) : bare b ere ≠ 14 := (by decide +kernel : ∀ (b : Fin 256) (e : Bool), bare b.val e ≠ 14) ⟨b, hb⟩ ere
theorem sgn_dig (s : ByteArray) (ere : Bool) (i : Nat) : (sgn s ere i).2.1 < 256 ∧ ((sgn s ere i).1 = 14 → 48 ≤ (sgn s ere i).2.1 ∧ (sgn s ere i).2.1 ≤ 57) := by
 unfold sgn
 split
 ·
  exact ⟨by show 0 < 256; omega, fun h => by cases h⟩
 split
 ·
  unfold quoted
  split
  ·
   exact ⟨by show 0 < 256; omega, fun h => by cases h⟩
  ·
   exact qs_dig _ _ (ch_lt _ _)
 ·
  exact ⟨ch_lt _ _, fun h => absurd h (bare_ne _ _ (ch_lt _ _))⟩
theorem sgnIn_dig (s : ByteArray) (ere : Bool) (began i : Nat) : (sgnIn s ere began i).2.1 < 256 ∧ ((sgnIn s ere began i).1 = 14 → 48 ≤ (sgnIn s ere began i).2.1 ∧ (sgnIn s ere began i).2.1 ≤ 57) := by
 have h := sgn_dig s ere i
 unfold sgnIn
 dsimp only
 split
 ·
  exact h
 split
 ·
  exact ⟨h.1, fun h => by cases h⟩
 ·
  exact h

theorem Is.kind {w : World} {ok : Nat → Prop} {r : Rx} {k mn mx n : Int} {s : W4} {ks : Value} (h : Is w ok r (rxv k mn mx n s ks)) : r.k = k := by
 cases r with
 | mk k' mn' mx' n' s' kids =>
  unfold Is at h
  obtain ⟨ad, l, c, he, _⟩ := h
  injection he with he
  injection he with he
  simp at he
  exact he.1.symm

theorem part_any (c : St → Out) (D began : Nat) (s : ByteArray) (ere : Bool) (i n g d P : Nat) (w : World) (HC : ChSaid c s ere D) (HGd : CGood c s) (h : Rd w P s ere i n g d) (hv : Inv s ⟨i, n, g, d⟩) (hD : d + D = 6) (hbg : began ≤ i) (hs : s.size ≤ 1000000) :
  Calls Tryz.prog 69 #[.pointer (some ⟨P, 0, none⟩), .int .i64 (began : Int)] w fun e w' => RetE w P s ere (pPart c s ere began ⟨i, n, g, d⟩) e w' := by
 have R : Hid (Rd w P s ere i n g d) := h
 have hP : P < w.heap.size := h.lt
 clear h
 have hi : i ≤ s.size := hv.i
 obtain ⟨k, b, z, hg⟩ : ∃ x y z, sgnIn s ere began i = (x, y, z) := ⟨_, _, _, rfl⟩
 have hz := sgnIn_sz s ere began i hi
 have hd := sgnIn_dig s ere began i
 rw [hg] at hz hd
 obtain ⟨hz1, hz2, hz3⟩ := hz
 obtain ⟨hd1, hd2⟩ := hd
 simp only at hz1 hz2 hz3 hd1 hd2
 have hgood := pOne_good (ere := ere) (b := b) HGd hv hz1 hz3
 have HZ3 := hid hz3
 have HD2 := hid hd2
 have HG := hid hg
 clear hg hz3 hd2
 obtain ⟨o, ho⟩ : ∃ o, pOne c s ere k b z ⟨i, n, g, d⟩ = o := ⟨_, rfl⟩
 have ONE : Hid (∀ w, Rd w P s ere i n g d → Calls Tryz.prog 94 #[.pointer (some ⟨P, 0, none⟩), .agg #[.int .i64 (k : Int), .int .u8 (b : Int), .int .i64 (z : Int)]] w fun e w' => RetE w P s ere o e w') := by
  intro w h
  have := one_any c D k b z s ere i n g d P w HC HGd h hv hD hz1 hz2 HZ3.out hd1 HD2.out hs
  rw [ho] at this
  exact this
 have EO : Hid (pPart c s ere began ⟨i, n, g, d⟩ = if o.e ≠ 0 ∨ mayRep o.r.k = false then o else pRep s ere o.r o.st) := by
  show _ = _
  unfold pPart
  rw [HG.out, ← ho]
 rw [ho] at hgood
 have HGO := hid hgood
 clear ho hgood HZ3 HD2
 obtain ⟨r, er, ⟨i', n', g', d'⟩⟩ := o
 go_enter Tryz.func69, Tryz.ntmps69
 go_upto_region 1 with fail
 refine opq (fun W0 => Rd W0 P s ere i n g d ∧ W0.heap[w.heap.size]? = some rzo ∧ Ks P w W0) ⟨by exact R.out.kp kpt, by (first | exact last_at _ _ _ (by simp) | (refine bl_alloc ?_ _; first | exact last_at _ _ _ (by simp) | (refine bl_alloc ?_ _; first | exact last_at _ _ _ (by simp) | (refine bl_alloc ?_ _; exact last_at _ _ _ (by simp))))), by exact (Kp.ks kpt (Nat.le_of_lt hP))⟩ ?_
 rintro W0 ⟨xR0, xB0, xK0⟩
 have R0 := hid xR0
 have B0 := hid xB0
 have K0 := hid xK0
 clear xR0 xB0 xK0
 clear R
 go_wp2_with fail
 refine (signIn_any began s ere i n g d P _ R0.out hi hbg hs).mono ?_
 rintro e W1 ⟨rfl, k1⟩
 rw [HG.out, sg3]
 have R1 := hid (R0.out.kp k1)
 have B1 := hid (bl_kp B0.out k1)
 have K1 := hid (K0.out.kpt k1 hP)
 clear k1 R0 B0 K0
 go_wp2_with fail
 refine (ONE.out _ R1.out).mono ?_
 rintro e W2 ⟨⟨v, rfl, rr⟩⟩
 obtain ⟨kk, mn, mx, mm, tt, ad, ll, cc, rfl⟩ := rr.is.form
 have hs1 : w.heap.size < W1.heap.size := bl_lt B1.out
 have hs2 := rr.ks.size
 have hkk : r.k = kk := rr.is.kind
 have HKK := hid hkk
 have R2 : Hid (Rd W2 P s ere i' n' g' d') := rr.rd
 have I2 : Hid (Is W2 (fun b => W1.heap.size ≤ b) r (rxv kk mn mx mm tt (.slice ad ll cc))) := rr.is
 have B2 := hid (bl_ks B1.out (by omega) rr.ks)
 have K2 := hid (K1.out.trans rr.ks)
 have L2 := hid rr.ks
 clear rr hkk R1 ONE
 dsimp only
 go_upto_region 2 with fail
 refine opq (fun W3 => Rd W3 P s ere i' n' g' d' ∧ W3.heap[W2.heap.size]? = some (rxo kk mn mx mm tt (.slice ad ll cc)) ∧ W3.heap[w.heap.size]? = some rzo ∧ Is W3 (fun b => w.heap.size ≤ b ∧ b ≠ w.heap.size) r (rxv kk mn mx mm tt (.slice ad ll cc)) ∧ Ks P w W3 ∧ Is W3 (fun b => W1.heap.size ≤ b) r (rxv kk mn mx mm tt (.slice ad ll cc)) ∧ Ks P W1 W3) ⟨by exact R2.out.kp kpt, by (first | exact last_at _ _ _ (by simp) | (refine bl_alloc ?_ _; first | exact last_at _ _ _ (by simp) | (refine bl_alloc ?_ _; first | exact last_at _ _ _ (by simp) | (refine bl_alloc ?_ _; exact last_at _ _ _ (by simp))))), by exact bl_kp B2.out kpt, by exact (I2.out.weak (ok' := fun b => w.heap.size ≤ b ∧ b ≠ w.heap.size) (fun _ hb _ => ⟨by omega, by omega⟩)).kp kpt, by exact K2.out.kpt kpt hP, by exact I2.out.kp kpt, by exact L2.out.kpt kpt (by omega)⟩ ?_
 rintro W3 ⟨xR3, xA3, xB3, xI3, xK3, xJ3, xL3⟩
 have R3 := hid xR3
 have A3 := hid xA3
 have B3 := hid xB3
 have I3 := hid xI3
 have K3 := hid xK3
 have J3 := hid xJ3
 have L3 := hid xL3
 clear xR3 xA3 xB3 xI3 xK3 xJ3 xL3
 clear R2 I2 B2 K2 L2
 obtain ⟨a0, a1, a2, a3, a4, a5, a6, a7, a8⟩ := cells9 (A3.out)
 by_cases he : er = 0
 ·
  subst he
  obtain ⟨mr, hmr⟩ : ∃ mr, mayRep kk = mr := ⟨_, rfl⟩
  have RP : Hid (∀ w, Calls Tryz.prog 96 #[.int .i64 kk] w fun e w' => e = .returned (.bool mr) ∧ w' = w) := by
   intro w
   have := repeatable_any kk w
   rw [show (kk == 1 || kk == 5 || kk == 6) = mr from hmr] at this
   exact this
  have HMR := hid hmr
  clear hmr
  have j2 := (HGO.out.ok rfl).2.1
  go_wp2_with fail
  refine (RP.out _).mono ?_
  rintro e W3 ⟨rfl, rfl⟩
  cases mr with
  | false =>
   have E : Hid (pPart c s ere began ⟨i, n, g, d⟩ = ⟨r, 0, ⟨i', n', g', d'⟩⟩) := by show _ = _; rw [EO.out, if_pos (Or.inr (by rw [HKK.out, HMR.out]))]
   obtain ⟨b0, fb0, b1, fb1, b2, fb2, b3, fb3, b4, fb4, b5, fb5, b6, fb6, b7, fb7, b8, fb8⟩ := cellf9 (B3.out)
   go_wp2_with fail
   refine bodyPost_ret (v := .tuple #[rxv kk mn mx mm tt (.slice ad ll cc), .int .i64 0]) (rx_ret2 rfl _ _ _ _ _ rfl rfl (bl_set9 B3.out _ _ _ _ _ _ _ _ _) rfl) rfl ?_
   rw [E.out]
   exact ⟨_, rfl, Ret.fin I3.out R3.out K3.out (ks_set9 _ _ _ _ _ _ _ _ _) hP (by omega)⟩
  | true =>
   have E : Hid (pPart c s ere began ⟨i, n, g, d⟩ = pRep s ere r ⟨i', n', g', d'⟩) := by
    show _ = _
    rw [EO.out, if_neg]
    intro h
    rcases h with h | h
    ·
     exact h rfl
    ·
     rw [show Rx.k r = kk from HKK.out, HMR.out] at h; cases h
   have hn' : n' ≤ 1000000000 := by have h1 := j2.n; have h2 := j2.i; simp only at h1 h2; omega
   have hi' : i' ≤ s.size := j2.i
   have hs3 : W2.heap.size < W3.heap.size := bl_lt A3.out
   go_wp2_with fail
   refine (repeated_any r kk mn mx mm tt ad ll cc s ere i' n' g' d' P W1 _ R3.out J3.out L3.out (by omega) hi' hs hn').mono ?_
   rintro e W4 ⟨⟨v, rfl, rr⟩⟩
   obtain ⟨kk', mn', mx', mm', tt', ad', ll', cc', rfl⟩ := rr.is.form
   have R4 := hid rr
   have B4 := hid (bl_ks B1.out (by omega) rr.ks)
   clear rr R3 A3 B3 I3 K3 J3 L3 a0 a1 a2 a3 a4 a5 a6 a7 a8
   obtain ⟨b0, fb0, b1, fb1, b2, fb2, b3, fb3, b4, fb4, b5, fb5, b6, fb6, b7, fb7, b8, fb8⟩ := cellf9 (B4.out)
   go_wp2_with fail
   refine bodyPost_ret (v := .tuple #[rxv kk' mn' mx' mm' tt' (.slice ad' ll' cc'), .int .i64 ((pRep s ere r ⟨i', n', g', d'⟩).e : Nat)]) (rx_ret2 rfl _ _ _ _ _ rfl rfl (bl_set9 B4.out _ _ _ _ _ _ _ _ _) rfl) rfl ?_
   rw [E.out]
   exact ⟨_, rfl, R4.out.upset K1.out (ks_set9 _ _ _ _ _ _ _ _ _) hP (by omega) hs1⟩
 ·
  have ge : ((er : Int) != 0) = true := by simp; omega
  have E : Hid (pPart c s ere began ⟨i, n, g, d⟩ = ⟨r, er, ⟨i', n', g', d'⟩⟩) := by show _ = _; rw [EO.out, if_pos (Or.inl he)]
  obtain ⟨b0, fb0, b1, fb1, b2, fb2, b3, fb3, b4, fb4, b5, fb5, b6, fb6, b7, fb7, b8, fb8⟩ := cellf9 (B3.out)
  go_wp2_with fail
  refine bodyPost_ret (v := .tuple #[rxv kk mn mx mm tt (.slice ad ll cc), .int .i64 (er : Int)]) (rx_ret2 rfl _ _ _ _ _ rfl rfl (bl_set9 B3.out _ _ _ _ _ _ _ _ _) rfl) rfl ?_
  rw [E.out]
  exact ⟨_, rfl, Ret.fin I3.out R3.out K3.out (ks_set9 _ _ _ _ _ _ _ _ _) hP (by omega)⟩
end Go.Proofs.YtnajcnhgeggngaaGreat

/-! ### Row -/

namespace Go.Proofs.YtnajcnhgeggngaaGreat
set_option maxHeartbeats 2000000
set_option maxRecDepth 100000
open Go.RowKit
attribute [local go_sem] field91

theorem keep_any2 (base : Nat) (v : Value) (ts : List Rx) (r : Rx) (k mn mx m : Int) (t : W4) (ad : Option Addr) (l c : Nat) (s : ByteArray) (ere : Bool) (i n g d P : Nat) (w : World) (h : Rd w P s ere i n g d) (hK : RKids base w v ts) (hI : Is w (fun b => base ≤ b ∧ v.ownBlock ≠ some b) r (rxv k mn mx m t (.slice ad l c))) (hb : base ≤ w.heap.size) (ht : ts.length ≤ 1000000) :
  Calls Tryz.prog 46 #[.pointer (some ⟨P, 0, none⟩), v, rxv k mn mx m t (.slice ad l c)] w fun e w' => ∃ v', e = .returned v' ∧ RKids base w' v' (keepL n ts r) ∧ w.grownBy w' v.ownBlock := by
 have R : Hid (Rd w P s ere i n g d) := h
 have HK : Hid (RKids base w v ts) := hK
 have HI : Hid (Is w (fun b => base ≤ b ∧ v.ownBlock ≠ some b) r (rxv k mn mx m t (.slice ad l c))) := hI
 clear h hK hI
 by_cases hc : n > 40
 ·
  have E : Hid (keepL n ts r = ts) := by show _ = _; unfold keepL; rw [if_pos hc]
  have c1 : (40 : Int) < (n : Int) := by omega
  go_enter Tryz.func46, Tryz.ntmps46
  go_upto_region 1 with fail
  refine opq (fun W0 => Rd W0 P s ere i n g d ∧ W0.heap[w.heap.size]? = some (rxo k mn mx m t (.slice ad l c)) ∧ RKids base W0 v ts ∧ Is W0 (fun b => base ≤ b ∧ v.ownBlock ≠ some b) r (rxv k mn mx m t (.slice ad l c)) ∧ Kp w W0) ⟨by exact R.out.kp kpt, by (first | exact last_at _ _ _ (by simp) | (refine bl_alloc ?_ _; first | exact last_at _ _ _ (by simp) | (refine bl_alloc ?_ _; first | exact last_at _ _ _ (by simp) | (refine bl_alloc ?_ _; exact last_at _ _ _ (by simp))))), by exact HK.out.kp kpt, by exact HI.out.kp kpt, by exact kpt⟩ ?_
  rintro W0 ⟨xR0, xA0, xHK0, xHI0, xK0⟩
  have R0 := hid xR0
  have A0 := hid xA0
  have HK0 := hid xHK0
  have HI0 := hid xHI0
  have K0 := hid xK0
  clear xR0 xA0 xHK0 xHI0 xK0
  have p3 := R0.out.cells.2.2.2.1
  have hs0 := K0.out.size
  go_wp2
  go_ret
  exact ⟨_, rfl, by rw [E.out]; exact HK0.out, K0.out.grown _⟩
 ·
  have E : Hid (keepL n ts r = ts ++ [r]) := by show _ = _; unfold keepL; rw [if_neg hc]
  have c1 : ¬ (40 : Int) < (n : Int) := by omega
  go_enter Tryz.func46, Tryz.ntmps46
  go_upto_region 1 with fail
  refine opq (fun W0 => Rd W0 P s ere i n g d ∧ W0.heap[w.heap.size]? = some (rxo k mn mx m t (.slice ad l c)) ∧ RKids base W0 v ts ∧ Is W0 (fun b => base ≤ b ∧ v.ownBlock ≠ some b) r (rxv k mn mx m t (.slice ad l c)) ∧ Kp w W0) ⟨by exact R.out.kp kpt, by (first | exact last_at _ _ _ (by simp) | (refine bl_alloc ?_ _; first | exact last_at _ _ _ (by simp) | (refine bl_alloc ?_ _; first | exact last_at _ _ _ (by simp) | (refine bl_alloc ?_ _; exact last_at _ _ _ (by simp))))), by exact HK.out.kp kpt, by exact HI.out.kp kpt, by exact kpt⟩ ?_
  rintro W0 ⟨xR0, xA0, xHK0, xHI0, xK0⟩
  have R0 := hid xR0
  have A0 := hid xA0
  have HK0 := hid xHK0
  have HI0 := hid xHI0
  have K0 := hid xK0
  clear xR0 xA0 xHK0 xHI0 xK0
  have p3 := R0.out.cells.2.2.2.1
  have hs0 := K0.out.size
  obtain ⟨a0, a1, a2, a3, a4, a5, a6, a7, a8⟩ := cells9 (A0.out)
  go_wp2_with (at_builtin; go_must (refine wpList_append_rx W0 (by rfl) _ _ (by rfl) base v ts r (by rfl) HK0 k mn mx m t ad l c HI0 _ (by rfl) (by rfl) ?h1 ?h2 ?_))
  case h2 => omega
  intro v' w' hk' hg'
  have HK' : Hid (RKids base w' v' (ts ++ [r])) := hk'
  have HG' : Hid (w.grownBy w' v.ownBlock) := ⟨hg'.os.trans K0.out.os, hg'.tape.trans K0.out.tape, hg'.output.trans K0.out.output, Nat.le_trans K0.out.size hg'.size, fun b hb hne => (hg'.block b (Nat.lt_of_lt_of_le hb K0.out.size) hne).trans (K0.out.block b hb)⟩
  clear hk' hg'
  go_wp2_with fail
  go_ret
  exact ⟨_, rfl, by rw [E.out]; exact HK'.out, HG'.out⟩


theorem Ks.grown {P : Nat} {a b c : World} {row : Option Nat} (h : Ks P a b) (g : b.grownBy c row) (hr : ∀ k, row = some k → a.heap.size ≤ k) (hP : P < a.heap.size) : Ks P a c :=
 ⟨⟨g.os.trans h.lo.os, g.tape.trans h.lo.tape, g.output.trans h.lo.output, Nat.le_trans h.size g.size, fun x hx => (g.block x (by have := h.size; omega) (fun e => by have := hr x e.symm; omega)).trans (h.lo.block x hx)⟩,
  fun x hx hne => (g.block x (Nat.lt_of_lt_of_le hx h.size) (fun e => by have := hr x e.symm; omega)).trans (h.block x hx hne)⟩
theorem bl_grown {w w' : World} {row : Option Nat} {B : Nat} {o : Obj} (h : w.heap[B]? = some o) (g : w.grownBy w' row) (hr : row ≠ some B) : w'.heap[B]? = some o := (g.block B (bl_lt h) (Ne.symm hr)).trans h
theorem Rd.grown {w w' : World} {row : Option Nat} {P : Nat} {s : ByteArray} {ere : Bool} {i n g d : Nat} (h : Rd w P s ere i n g d) (k : w.grownBy w' row) (h1 : row ≠ some P) (h0 : row ≠ some 0) : Rd w' P s ere i n g d :=
 ⟨bl_grown h.b k h1, h.p, by
  obtain ⟨m, hm⟩ := h.v
  exact ⟨m, (World.cell?_of_block (w := w) (k.block 0 (Nat.lt_trans h.p h.lt) (Ne.symm h0))).trans hm⟩⟩
theorem node_any0 (k mn mx m : Int) (ad : Option Addr) (l c : Nat) (s : ByteArray) (ere : Bool) (i n g d P : Nat) (w : World) (h : Rd w P s ere i n g d) (hn : n ≤ 1000000000) :
  Calls Tryz.prog 47 #[.pointer (some ⟨P, 0, none⟩), .agg #[.int .i64 k, .int .i64 mn, .int .i64 mx, .int .i64 m, .int .u64 0, .int .u64 0, .int .u64 0, .int .u64 0, .slice ad l c]] w fun e w' => e = .returned (.agg #[.int .i64 k, .int .i64 mn, .int .i64 mx, .int .i64 m, .int .u64 0, .int .u64 0, .int .u64 0, .int .u64 0, .slice ad l c]) ∧ Rd w' P s ere i (n + 1) g d ∧ Ks P w w' :=
 node_any k mn mx m W4.z ad l c s ere i n g d P w h hn

structure Rw (c : St → Out) (s : ByteArray) (ere : Bool) (P : Nat) (w : World) (t0 : St) (k : Nat) (v : Value) (wr : World) (ks : List Rx) (t : St) : Prop where
 kids : RKids (w.heap.size + 1) wr v ks
 rd : Rd wr P s ere t.i t.n t.g t.d
 inv : Inv s t
 d : t.d = t0.d
 i : t0.i ≤ t.i
 f : s.size < k + t.i
 len : ks.length ≤ t.i
 eq : pRowL c s ere t0.i k ks t = pRow c s ere t0
 b : wr.heap[w.heap.size]? = some rzo
 ks : Ks P w wr

theorem row_any (c : St → Out) (D : Nat) (s : ByteArray) (ere : Bool) (i n g d P : Nat) (w : World) (HC : ChSaid c s ere D) (HGd : CGood c s) (h : Rd w P s ere i n g d) (hv : Inv s ⟨i, n, g, d⟩) (hD : d + D = 6) (hs : s.size ≤ 1000000) :
  Calls Tryz.prog 44 #[.pointer (some ⟨P, 0, none⟩)] w fun e w' => RetE w P s ere (pRow c s ere ⟨i, n, g, d⟩) e w' := by
 have R : Hid (Rd w P s ere i n g d) := h
 have hP : P < w.heap.size := h.lt
 clear h
 have hi : i ≤ s.size := hv.i
 go_enter Tryz.func44, Tryz.ntmps44
 go_upto_region 1 with fail
 refine opq (fun W0 => Rd W0 P s ere i n g d ∧ W0.heap[w.heap.size]? = some rzo ∧ Ks P w W0) ⟨by exact R.out.kp kpt, by (first | exact last_at _ _ _ (by simp) | (refine bl_alloc ?_ _; first | exact last_at _ _ _ (by simp) | (refine bl_alloc ?_ _; first | exact last_at _ _ _ (by simp) | (refine bl_alloc ?_ _; exact last_at _ _ _ (by simp))))), by exact (Kp.ks kpt (Nat.le_of_lt hP))⟩ ?_
 rintro W0 ⟨xR0, xB0, xK0⟩
 have R0 := hid xR0
 have B0 := hid xB0
 have K0 := hid xK0
 clear xR0 xB0 xK0
 clear R
 have p2 := R0.out.cells.2.2.1
 go_wp2_with fail
 clear p2
 go_loopg [4] (s.size + 1) (fun k v wr => ∃ (ks : List Rx) (t : St), Rw c s ere P w ⟨i, n, g, d⟩ k v wr ks t)
 case atStart => exact ⟨[], ⟨i, n, g, d⟩, RKids.nil _ _, R0.out, hv, rfl, Nat.le_refl _, by show s.size < s.size + 1 + i; omega, Nat.zero_le _, rfl, B0.out, K0.out⟩
 case round =>
  obtain ⟨ks, ⟨i', n', g', d'⟩, hrw⟩ := hrel
  have RW := hid hrw
  have hi' : i' ≤ s.size := hrw.inv.i
  have hn' : n' ≤ 3 * i' + 1 := hrw.inv.n
  have hd' : d' = d := hrw.d
  have hii : i ≤ i' := hrw.i
  have hf : s.size < gk + i' := hrw.f
  subst hd'
  obtain ⟨k, rfl⟩ : ∃ k, gk = k + 1 := ⟨gk - 1, by omega⟩
  have hlen : ks.length ≤ i' := hrw.len
  clear hrw R0 B0 K0
  have hB := bl_lt RW.out.b
  obtain ⟨en, hen⟩ : ∃ en, ends (sgn s ere i').1 = en := ⟨_, rfl⟩
  have HEN := hid hen
  clear hen
  go_wp2_with fail
  refine (rowEnds_any s ere i' n' g' d' P _ RW.out.rd hi' hs).mono ?_
  rintro e W1 ⟨rfl, k1⟩
  rw [HEN.out]
  have R1 := hid (RW.out.rd.kp k1)
  have L1 := hid (RW.out.kids.kp k1)
  have B1 := hid (bl_kp RW.out.b k1)
  have K1 := hid (RW.out.ks.kpt k1 hP)
  have hs1 : w.heap.size < W1.heap.size := bl_lt B1.out
  have EQ := hid RW.out.eq
  have INV := hid RW.out.inv
  clear k1 RW
  have OWN : Hid (∀ b, u4.ownBlock = some b → w.heap.size + 1 ≤ b ∧ b < W1.heap.size) := L1.out.block
  cases en with
  | true =>
   have E0 : Hid (pRow c s ere ⟨i, n, g, d'⟩ = rowOut ks ⟨i', n', g', d'⟩) := by
    have := EQ.out
    unfold pRowL at this
    rw [HEN.out] at this
    exact this.symm
   by_cases h1 : ks.length = 1
   ·
    obtain ⟨r, rfl⟩ : ∃ r, ks = [r] := List.length_eq_one_iff.1 h1
    obtain ⟨gb, cap, hv4, hcap, hb1, hb2, hcells⟩ := L1.out.get (by simp)
    obtain ⟨u, hIs, hCe⟩ := hcells 0 r rfl
    obtain ⟨kk, mn, mx, mm, tt, ad, ll, cc, rfl⟩ := hIs.form
    have IS := hid hIs
    have a0 := hCe 0 _ rfl
    have a1 := hCe 1 _ rfl
    have a2 := hCe 2 _ rfl
    have a3 := hCe 3 _ rfl
    have a4 := hCe 4 _ rfl
    have a5 := hCe 5 _ rfl
    have a6 := hCe 6 _ rfl
    have a7 := hCe 7 _ rfl
    have a8 := hCe 8 _ rfl
    simp only [Nat.mul_zero, Nat.zero_add] at a0 a1 a2 a3 a4 a5 a6 a7 a8
    have hv4' : u4 = .slice (some ⟨gb, 0, none⟩) 1 cap := hv4
    clear hv4 hCe hcells hIs
    subst hv4'
    have E : Hid (pRow c s ere ⟨i, n, g, d'⟩ = ⟨r, 0, ⟨i', n', g', d'⟩⟩) := E0.out
    obtain ⟨b0, fb0, b1, fb1, b2, fb2, b3, fb3, b4, fb4, b5, fb5, b6, fb6, b7, fb7, b8, fb8⟩ := cellf9 (B1.out)
    go_wp2_with fail
    refine bodyPost_ret (v := .tuple #[rxv kk mn mx mm tt (.slice ad ll cc), .int .i64 0]) (rx_ret2 rfl _ _ _ _ _ rfl rfl (bl_set9 B1.out _ _ _ _ _ _ _ _ _) rfl) rfl ?_
    rw [E.out]
    exact ⟨_, rfl, Ret.fin (IS.out.weak (fun _ hb _ => ⟨by omega, by omega⟩)) R1.out K1.out (ks_set9 _ _ _ _ _ _ _ _ _) hP (Nat.le_refl _)⟩
   ·
    have E : Hid (pRow c s ere ⟨i, n, g, d'⟩ = ⟨.mk 2 0 0 0 W4.z ks, 0, ⟨i', n' + 1, g', d'⟩⟩) := by
     show _ = _
     rw [E0.out]
     unfold rowOut
     split
     ·
      exact absurd rfl h1
     ·
      rfl
    obtain ⟨ad, cap, hv4, hcap⟩ := L1.out.form
    have g1 : ((ks.length : Int) == 1) = false := by simp; omega
    have g1' : ¬ (ks.length : Int) = 1 := by omega
    have IS := hid (L1.out.is 2 0 0 0 W4.z)
    subst hv4
    go_wp2_with fail
    refine (node_any0 2 0 0 0 ad ks.length cap s ere i' n' g' d' P _ R1.out (by omega)).mono ?_
    rintro e W2 ⟨rfl, r2, k2⟩
    have R2 := hid r2
    have I2 := hid (IS.out.ks k2 (fun _ hb _ => by omega))
    have B2 := hid (bl_ks B1.out (by omega) k2)
    have K2 := hid (K1.out.trans k2)
    clear r2 k2 R1 L1 B1 K1 IS
    obtain ⟨b0, fb0, b1, fb1, b2, fb2, b3, fb3, b4, fb4, b5, fb5, b6, fb6, b7, fb7, b8, fb8⟩ := cellf9 (B2.out)
    go_wp2_with fail
    refine bodyPost_ret (v := .tuple #[rxv 2 0 0 0 W4.z (.slice ad ks.length cap), .int .i64 0]) (rx_ret2 rfl _ _ _ _ _ rfl rfl (bl_set9 B2.out _ _ _ _ _ _ _ _ _) rfl) rfl ?_
    rw [E.out]
    exact ⟨_, rfl, Ret.fin (I2.out.weak (fun _ hb _ => ⟨by omega, by omega⟩)) R2.out K2.out (ks_set9 _ _ _ _ _ _ _ _ _) hP (Nat.le_refl _)⟩
  | false =>
   obtain ⟨o, ho⟩ : ∃ o, pPart c s ere i ⟨i', n', g', d'⟩ = o := ⟨_, rfl⟩
   have hgood := pPart_good (ere := ere) (began := i) HGd INV.out
   have PA := hid (part_any c D i s ere i' n' g' d' P W1 HC HGd R1.out INV.out hD hii hs)
   rw [ho] at hgood PA
   have HGO := hid hgood
   have E0 : Hid (pRow c s ere ⟨i, n, g, d'⟩ = if o.e ≠ 0 then ⟨rx0, o.e, o.st⟩ else pRowL c s ere i k (keepL o.st.n ks o.r) o.st) := by
    have := EQ.out
    unfold pRowL at this
    rw [HEN.out, ho] at this
    exact this.symm
   clear ho hgood
   obtain ⟨r, er, ⟨i2, n2, g2, d2⟩⟩ := o
   go_wp2_with fail
   refine PA.out.mono ?_
   rintro e W2 ⟨⟨v, rfl, rr⟩⟩
   obtain ⟨kk, mn, mx, mm, tt, ad, ll, cc, rfl⟩ := rr.is.form
   have hs2 := rr.ks.size
   have R2 : Hid (Rd W2 P s ere i2 n2 g2 d2) := rr.rd
   have I2 : Hid (Is W2 (fun b => w.heap.size + 1 ≤ b ∧ u4.ownBlock ≠ some b) r (rxv kk mn mx mm tt (.slice ad ll cc))) := rr.is.weak (fun b hb _ => ⟨by omega, fun he => by have := OWN.out b he; omega⟩)
   have L2 := hid (L1.out.ks rr.ks (by omega))
   have B2 := hid (bl_ks B1.out (by omega) rr.ks)
   have K2 := hid (K1.out.trans rr.ks)
   clear rr R1 L1 B1 K1 PA
   dsimp only
   go_upto_region 5 with fail
   refine opq (fun W3 => Rd W3 P s ere i2 n2 g2 d2 ∧ W3.heap[W2.heap.size]? = some (rxo kk mn mx mm tt (.slice ad ll cc)) ∧ Is W3 (fun b => w.heap.size + 1 ≤ b ∧ u4.ownBlock ≠ some b) r (rxv kk mn mx mm tt (.slice ad ll cc)) ∧ RKids (w.heap.size + 1) W3 u4 ks ∧ W3.heap[w.heap.size]? = some rzo ∧ Ks P w W3) ⟨by exact R2.out.kp kpt, by (first | exact last_at _ _ _ (by simp) | (refine bl_alloc ?_ _; first | exact last_at _ _ _ (by simp) | (refine bl_alloc ?_ _; first | exact last_at _ _ _ (by simp) | (refine bl_alloc ?_ _; exact last_at _ _ _ (by simp))))), by exact I2.out.kp kpt, by exact L2.out.kp kpt, by exact bl_kp B2.out kpt, by exact K2.out.kpt kpt hP⟩ ?_
   rintro W3 ⟨xR3, xA3, xI3, xL3, xB3, xK3⟩
   have R3 := hid xR3
   have A3 := hid xA3
   have I3 := hid xI3
   have L3 := hid xL3
   have B3 := hid xB3
   have K3 := hid xK3
   clear xR3 xA3 xI3 xL3 xB3 xK3
   clear R2 I2 L2 B2 K2
   have hs3 : W2.heap.size < W3.heap.size := bl_lt A3.out
   by_cases he : er = 0
   ·
    subst he
    obtain ⟨j1, j2, j3⟩ := HGO.out.ok rfl
    have j1' : i' + 1 ≤ i2 := j1
    have E1 : Hid (pRowL c s ere i k (keepL n2 ks r) ⟨i2, n2, g2, d2⟩ = pRow c s ere ⟨i, n, g, d'⟩) := by show _ = _; rw [E0.out]; rfl
    have J2 := hid j2
    have J3 := hid j3
    clear j1 j2 j3
    obtain ⟨a0, a1, a2, a3, a4, a5, a6, a7, a8⟩ := cells9 (A3.out)
    go_wp2_with fail
    refine (keep_any2 (w.heap.size + 1) u4 ks r kk mn mx mm tt ad ll cc s ere i2 n2 g2 d2 P _ R3.out L3.out I3.out (by omega) (by omega)).mono ?_
    rintro e W4 ⟨v', rfl, l4, g4⟩
    have R4 := hid (R3.out.grown g4 (fun he => by have := OWN.out P he; omega) (fun he => by have := OWN.out 0 he; omega))
    have L4 := hid l4
    have B4 := hid (bl_grown B3.out g4 (fun he => by have := OWN.out _ he; omega))
    have K4 := hid (K3.out.grown g4 (fun k hk => by have := OWN.out k hk; omega) hP)
    clear l4 g4 R3 A3 I3 L3 B3 K3 a0 a1 a2 a3 a4 a5 a6 a7 a8
    have HL : Hid ((keepL n2 ks r).length ≤ i2) := by
     show _ ≤ _
     unfold keepL
     split
     ·
      omega
     ·
      simp; omega
    go_wp2_with fail
    go_roundg k
    case measure => omega
    case rel => exact ⟨_, ⟨i2, n2, g2, d2⟩, L4.out, R4.out, J2.out, J3.out, by show i ≤ i2; omega, by show s.size < k + i2; omega, HL.out, E1.out, B4.out, K4.out⟩
   ·
    have ge : ((er : Int) != 0) = true := by simp; omega
    have E : Hid (pRow c s ere ⟨i, n, g, d'⟩ = ⟨rx0, er, ⟨i2, n2, g2, d2⟩⟩) := by show _ = _; rw [E0.out]; exact if_pos he
    obtain ⟨b0, fb0, b1, fb1, b2, fb2, b3, fb3, b4, fb4, b5, fb5, b6, fb6, b7, fb7, b8, fb8⟩ := cellf9 (B3.out)
    go_wp2_with fail
    refine bodyPost_ret (v := .tuple #[rz, .int .i64 (er : Int)]) (rx_ret2 rfl _ _ _ _ _ rfl rfl (bl_set9 B3.out _ _ _ _ _ _ _ _ _) rfl) rfl ?_
    rw [E.out]
    exact ⟨_, rfl, Ret.fail R3.out K3.out (ks_set9 _ _ _ _ _ _ _ _ _) hP (Nat.le_refl _)⟩
end Go.Proofs.YtnajcnhgeggngaaGreat

/-! ### Kids2 -/

namespace Go.Proofs.YtnajcnhgeggngaaGreat
set_option maxHeartbeats 2000000
set_option maxRecDepth 100000
open Go.RowKit

structure RK (ok : Nat → Prop) (base : Nat) (w : World) (v : Value) (ts : List Rx) : Prop where
 ex : ∃ vs : List Value, vs.length = ts.length ∧ w.ownsRow base 27 9 v ts.length (rowOf vs) ∧ (∀ b, v.ownBlock = some b → ok b) ∧ ∀ (j : Nat) t u, ts[j]? = some t → vs[j]? = some u → Is w (fun b => ok b ∧ v.ownBlock ≠ some b) t u
theorem RK.turn {ok : Nat → Prop} {base : Nat} {w w' : World} {v : Value} {ts : List Rx} (h : RK ok base w v ts) (hs : w.heap.size ≤ w'.heap.size) (hk : ∀ b, ok b → b < w.heap.size → w'.heap[b]? = w.heap[b]?) : RK ok base w' v ts := by
 obtain ⟨vs, h1, h2, h0, h3⟩ := h.ex
 exact ⟨vs, h1, owns_same h2 (fun b hb hl => hk b (h0 b hb) hl), h0, fun j t u hj hu => Is.turn hs (fun b hb hl => ⟨hb, hk b hb.1 hl⟩) t u (h3 j t u hj hu)⟩
theorem RK.kp {ok : Nat → Prop} {base : Nat} {w w' : World} {v : Value} {ts : List Rx} (h : RK ok base w v ts) (k : Kp w w') : RK ok base w' v ts := h.turn k.size (fun b _ hl => k.block b hl)
theorem RK.ks {ok : Nat → Prop} {P base : Nat} {w w' : World} {v : Value} {ts : List Rx} (h : RK ok base w v ts) (k : Ks P w w') (hP : ∀ b, ok b → b ≠ P) : RK ok base w' v ts := h.turn k.size (fun b hb hl => k.block b hl (hP b hb))
theorem RK.block {ok : Nat → Prop} {base : Nat} {w : World} {v : Value} {ts : List Rx} (h : RK ok base w v ts) : ∀ b, v.ownBlock = some b → ok b ∧ b < w.heap.size := by
 obtain ⟨vs, _, h2, h0, _⟩ := h.ex
 exact fun b hb => ⟨h0 b hb, (h2.lt b hb).2⟩
theorem RK.base {ok : Nat → Prop} {base : Nat} {w : World} {v : Value} {ts : List Rx} (h : RK ok base w v ts) (hb : ∀ b, ok b → base ≤ b) : RKids base w v ts := by
 obtain ⟨vs, h1, h2, h0, h3⟩ := h.ex
 exact ⟨vs, h1, h2, fun j t u hj hu => (h3 j t u hj hu).weak (fun b hx _ => ⟨hb b hx.1, hx.2⟩)⟩
theorem RK.form {ok : Nat → Prop} {base : Nat} {w : World} {v : Value} {ts : List Rx} (h : RK ok base w v ts) : ∃ ad c, v = .slice ad ts.length c ∧ ts.length ≤ c := by
 obtain ⟨vs, _, h2, _, _⟩ := h.ex
 rcases h2.2 with ⟨rfl, h0⟩ | ⟨g, cap, cur, hv, _, _, hc, _⟩
 ·
  exact ⟨none, 0, by rw [h0], by omega⟩
 ·
  exact ⟨_, cap, hv, hc⟩
theorem RK.is {ok : Nat → Prop} {base : Nat} {w : World} {v : Value} {ts : List Rx} (h : RK ok base w v ts) (k mn mx n : Int) (s : W4) : Is w ok (.mk k mn mx n s ts) (rxv k mn mx n s v) := by
 obtain ⟨vs, h1, h2, h0, h3⟩ := h.ex
 unfold Is
 by_cases hn : 0 < ts.length
 ·
  obtain ⟨g, cap, rfl, hc, hb, hl, hcell⟩ := owns_cells h2 hn
  refine ⟨_, _, cap, rfl, rfl, hc, fun _ => ⟨g, 0, rfl, h0 g rfl, hl, IsL.put fun j t hj => ?_⟩⟩
  have hjl : j < vs.length := by rw [h1]; exact (List.getElem?_eq_some_iff.1 hj).1
  have hu : vs[j]? = some vs[j] := List.getElem?_eq_getElem hjl
  refine ⟨vs[j], (h3 j t _ hj hu).weak (fun _ hb _ => hb.1), fun i x hi => ?_⟩
  rw [Nat.zero_add]
  refine hcell _ _ (rowOf_at vs ?_ j _ hu i x hi)
  intro y hy
  obtain ⟨q, hq⟩ := List.mem_iff_getElem?.1 hy
  have hq' : q < ts.length := by rw [← h1]; exact (List.getElem?_eq_some_iff.1 hq).1
  obtain ⟨k, mn, mx, n, s, ad, l, c, rfl⟩ := (h3 q _ y (List.getElem?_eq_getElem hq') hq).form
  rfl
 ·
  obtain ⟨ad, c, rfl, hc⟩ := h.form
  exact ⟨ad, _, c, rfl, rfl, hc, fun hne => absurd (List.eq_nil_of_length_eq_zero (by omega)) hne⟩
theorem RK.single {ok : Nat → Prop} {base : Nat} {w : World} {r : Rx} (k mn mx m : Int) (t : W4) (ad : Option Addr) (l c : Nat) (hI : Is w ok r (rxv k mn mx m t (.slice ad l c))) (hb : base ≤ w.heap.size) (ho : ok w.heap.size) :
  RK ok base (w.alloc (rxo k mn mx m t (.slice ad l c))) (.slice (some ⟨w.heap.size, 0, none⟩) 1 1) [r] := by
 refine ⟨[rxv k mn mx m t (.slice ad l c)], rfl, ⟨rfl, .inr ⟨w.heap.size, 1, _, rfl, hb, last_of w _, Nat.le_refl _, by unfold maxLen; omega, rfl, rfl⟩⟩, ?_, ?_⟩
 ·
  intro b hb'
  injection hb' with hb'
  rw [← hb']; exact ho
 intro j t' u hj hu
 match j, hj, hu with
 | 0, hj, hu =>
  simp at hj hu
  subst hj
  subst hu
  refine (hI.weak (ok' := fun b => ok b ∧ (Value.slice (some ⟨w.heap.size, 0, none⟩) 1 1).ownBlock ≠ some b) (fun b hb hl => ⟨hb, ?_⟩)).kp ((Kp.refl _).alloc _)
  show some w.heap.size ≠ some b
  intro he; injection he with he; omega
 | j + 1, hj, _ => simp at hj

theorem wpList_append_rk {ops : Array Oper} {rest : List Oper} {o : Oper} {a : Act} {Q : Exit → Act → World → Prop} (W : World) (hgd : o.guard = none) (s x : Operand)
  (ho : o.op = .call { callee := .builtin .append, args := #[s, x], argTypes := #[25, 25] })
  (base : Nat) (v : Value) (ts : List Rx) (r : Rx) (hs : a.eval s = v) (ok : Nat → Prop) (hnew : ∀ b, W.heap.size ≤ b → ok b) (hK : Hid (RK ok base W v ts)) (k mn mx m : Int) (t : W4) (ad : Option Addr) (l c : Nat)
  (hI : Hid (Is W (fun b => ok b ∧ v.ownBlock ≠ some b) r (rxv k mn mx m t (.slice ad l c)))) (B : Nat) (hB : B = W.heap.size)
  (hx : a.eval x = .slice (some ⟨B, 0, none⟩) 1 1) (h63 : ts.length ≤ 1000000) (hbase : base ≤ W.heap.size)
  (h : ∀ v' w', RK ok base w' v' (ts ++ [r]) → W.grownBy w' v.ownBlock → wpList Tryz.prog ops Q rest (a.put o.dst v') w') :
  wpList Tryz.prog ops Q (o :: rest) a (W.alloc (rxo k mn mx m t (.slice ad l c))) := by
 obtain ⟨i, hi, hz, hsz, hby⟩ := info27
 obtain ⟨vs, hv1, hv2, hv0, hv3⟩ := hK.out.ex
 have kal : Kp W (W.alloc (rxo k mn mx m t (.slice ad l c))) := (Kp.refl _).alloc _
 subst hB
 refine wpList_append_own_at (W.alloc (rxo k mn mx m t (.slice ad l c))) hgd s x 25 ho base 27 i rz 9 88 Tryz.underlying25 hi hz hsz hby rfl (by omega) v ts.length (rowOf vs) hs (owns_same hv2 fun b _ hl => kal.block b hl) ⟨W.heap.size, 0, none⟩ 1 1 (cellsOf (rxv k mn mx m t (.slice ad l c))) hx rfl ?_ (rx_one _ _ _ _ _ _ _ _) (by unfold maxLen; omega) (by omega) (by simp; omega) ?_
 ·
  intro j y hj
  have hn := last_of W (rxo k mn mx m t (.slice ad l c))
  rw [show (⟨W.heap.size, 0, none⟩ : Addr).add j = ⟨W.heap.size, j, none⟩ by simp [Addr.add]; exact Eq.symm]
  refine bl_cell hn j y ?_
  rw [← Array.getElem?_toList]; exact hj
 ·
  intro v' w' a1 a2 _ a4
  have hgr : W.grownBy w' v.ownBlock := ⟨a2.os.trans rfl, a2.tape.trans rfl, a2.output.trans rfl, Nat.le_trans kal.size a2.size, fun b hb hne => (a2.block b (Nat.lt_of_lt_of_le hb kal.size) hne).trans (kal.block b hb)⟩
  refine h v' w' ⟨vs ++ [rxv k mn mx m t (.slice ad l c)], by simp [hv1], ?_, ?_, ?_⟩ hgr
  ·
   rw [List.length_append, rowOf_append, rowOf_one]; exact a1
  ·
   intro b hb
   rcases a4 with a4 | a4
   ·
    rw [a4] at hb; exact hv0 b hb
   ·
    rw [a4] at hb; injection hb with hb; exact hnew b (by rw [← hb]; simp)
  ·
   have hok : ∀ b, (ok b ∧ v.ownBlock ≠ some b) → b < W.heap.size → (ok b ∧ v'.ownBlock ≠ some b) ∧ w'.heap[b]? = W.heap[b]? := by
    intro b hb hl
    refine ⟨⟨hb.1, ?_⟩, hgr.block b hl (Ne.symm hb.2)⟩
    rcases a4 with a4 | a4
    ·
     rw [a4]; exact hb.2
    ·
     rw [a4]; intro he; injection he with he; simp at he; omega
   intro j t' u hj hu
   by_cases hlt : j < ts.length
   ·
    rw [List.getElem?_append_left hlt] at hj
    rw [List.getElem?_append_left (by omega)] at hu
    exact Is.turn hgr.size hok t' u (hv3 j t' u hj hu)
   ·
    have hj0 : j = ts.length := by
     have := (List.getElem?_eq_some_iff.1 hj).1
     simp at this; omega
    subst hj0
    rw [List.getElem?_append_right (Nat.le_refl _)] at hj
    rw [List.getElem?_append_right (by omega), hv1] at hu
    simp at hj hu
    subst hj
    subst hu
    exact Is.turn hgr.size hok _ _ hI.out

theorem keep_rk (ok : Nat → Prop) (base : Nat) (v : Value) (ts : List Rx) (r : Rx) (k mn mx m : Int) (t : W4) (ad : Option Addr) (l c : Nat) (s : ByteArray) (ere : Bool) (i n g d P : Nat) (w : World) (h : Rd w P s ere i n g d) (hK : RK ok base w v ts) (hI : Is w (fun b => ok b ∧ v.ownBlock ≠ some b) r (rxv k mn mx m t (.slice ad l c))) (hnew : ∀ b, w.heap.size ≤ b → ok b) (hb : base ≤ w.heap.size) (ht : ts.length ≤ 1000000) :
  Calls Tryz.prog 46 #[.pointer (some ⟨P, 0, none⟩), v, rxv k mn mx m t (.slice ad l c)] w fun e w' => ∃ v', e = .returned v' ∧ RK ok base w' v' (keepL n ts r) ∧ w.grownBy w' v.ownBlock := by
 have R : Hid (Rd w P s ere i n g d) := h
 have HK : Hid (RK ok base w v ts) := hK
 have HI : Hid (Is w (fun b => ok b ∧ v.ownBlock ≠ some b) r (rxv k mn mx m t (.slice ad l c))) := hI
 have HN := hid hnew
 clear h hK hI hnew
 by_cases hc : n > 40
 ·
  have E : Hid (keepL n ts r = ts) := by show _ = _; unfold keepL; rw [if_pos hc]
  have c1 : (40 : Int) < (n : Int) := by omega
  go_enter Tryz.func46, Tryz.ntmps46
  go_upto_region 1 with fail
  refine opq (fun W0 => Rd W0 P s ere i n g d ∧ W0.heap[w.heap.size]? = some (rxo k mn mx m t (.slice ad l c)) ∧ RK ok base W0 v ts ∧ Is W0 (fun b => ok b ∧ v.ownBlock ≠ some b) r (rxv k mn mx m t (.slice ad l c)) ∧ Kp w W0) ⟨by exact R.out.kp kpt, by (first | exact last_at _ _ _ (by simp) | (refine bl_alloc ?_ _; first | exact last_at _ _ _ (by simp) | (refine bl_alloc ?_ _; first | exact last_at _ _ _ (by simp) | (refine bl_alloc ?_ _; exact last_at _ _ _ (by simp))))), by exact HK.out.kp kpt, by exact HI.out.kp kpt, by exact kpt⟩ ?_
  rintro W0 ⟨xR0, xA0, xHK0, xHI0, xK0⟩
  have R0 := hid xR0
  have A0 := hid xA0
  have HK0 := hid xHK0
  have HI0 := hid xHI0
  have K0 := hid xK0
  clear xR0 xA0 xHK0 xHI0 xK0
  have p3 := R0.out.cells.2.2.2.1
  have hs0 := K0.out.size
  go_wp2
  go_ret
  exact ⟨_, rfl, by rw [E.out]; exact HK0.out, K0.out.grown _⟩
 ·
  have E : Hid (keepL n ts r = ts ++ [r]) := by show _ = _; unfold keepL; rw [if_neg hc]
  have c1 : ¬ (40 : Int) < (n : Int) := by omega
  go_enter Tryz.func46, Tryz.ntmps46
  go_upto_region 1 with fail
  refine opq (fun W0 => Rd W0 P s ere i n g d ∧ W0.heap[w.heap.size]? = some (rxo k mn mx m t (.slice ad l c)) ∧ RK ok base W0 v ts ∧ Is W0 (fun b => ok b ∧ v.ownBlock ≠ some b) r (rxv k mn mx m t (.slice ad l c)) ∧ Kp w W0) ⟨by exact R.out.kp kpt, by (first | exact last_at _ _ _ (by simp) | (refine bl_alloc ?_ _; first | exact last_at _ _ _ (by simp) | (refine bl_alloc ?_ _; first | exact last_at _ _ _ (by simp) | (refine bl_alloc ?_ _; exact last_at _ _ _ (by simp))))), by exact HK.out.kp kpt, by exact HI.out.kp kpt, by exact kpt⟩ ?_
  rintro W0 ⟨xR0, xA0, xHK0, xHI0, xK0⟩
  have R0 := hid xR0
  have A0 := hid xA0
  have HK0 := hid xHK0
  have HI0 := hid xHI0
  have K0 := hid xK0
  clear xR0 xA0 xHK0 xHI0 xK0
  have p3 := R0.out.cells.2.2.2.1
  have hs0 := K0.out.size
  obtain ⟨a0, a1, a2, a3, a4, a5, a6, a7, a8⟩ := cells9 (A0.out)
  go_wp2_with (at_builtin; go_must (refine wpList_append_rk W0 (by rfl) _ _ (by rfl) base v ts r (by rfl) ok (fun b hb => HN.out b (Nat.le_trans hs0 hb)) HK0 k mn mx m t ad l c HI0 _ (by rfl) (by rfl) ?h1 ?h2 ?_))
  case h2 => omega
  intro v' w' hk' hg'
  have HK' : Hid (RK ok base w' v' (ts ++ [r])) := hk'
  have HG' : Hid (w.grownBy w' v.ownBlock) := ⟨hg'.os.trans K0.out.os, hg'.tape.trans K0.out.tape, hg'.output.trans K0.out.output, Nat.le_trans K0.out.size hg'.size, fun b hb hne => (hg'.block b (Nat.lt_of_lt_of_le hb K0.out.size) hne).trans (K0.out.block b hb)⟩
  clear hk' hg'
  go_wp2_with fail
  go_ret
  exact ⟨_, rfl, by rw [E.out]; exact HK'.out, HG'.out⟩

end Go.Proofs.YtnajcnhgeggngaaGreat
