/-
  Texts of this claim: InB, Brk.
-/
import Derived.Test.YtigdmebijbaofaaGreatDoorReadDM4
import Derived.Test.YtigdmebijbaofaaGreatDoorReadDM14
import Derived.Test.YtigdmebijbaofaaGreatDoorReadDM9
import Derived.Deep.LoopGhost
/-! ### InB -/
namespace Go.Proofs.YtigdmebijbaofaaGreatDoor
set_option maxHeartbeats 2000000
set_option maxRecDepth 100000
open Go.RowKit
theorem inBracket_any (s : ByteArray) (ere : Bool) (i n g d P : Nat) (w : World) (h : Rd w P s ere i n g d) (hi : i ≤ s.size) (hs : s.size ≤ 1000000) :
  Calls Tryz.prog 249 #[.pointer (some ⟨P, 0, none⟩)] w fun e w' => RetSE w P s ere (pIn s i) n g d e w' := by
 have R : Hid (Rd w P s ere i n g d) := h
 have hP : P < w.heap.size := h.lt
 clear h
 have gi : IntKind.i64.wrap ((i : Int) + 1) = (i : Int) + 1 := by rw [IntKind.wrap_i64]; omega
 obtain ⟨o, oj, ho⟩ : ∃ o oj, pIn s i = (o, oj) := ⟨_, _, rfl⟩
 have HO := hid ho
 rw [ho]
 clear ho
 go_enter Tryz.func249, Tryz.ntmps249
 go_upto_region 1 with fail
 refine opq (fun W0 => Rd W0 P s ere i n g d ∧ At W0 w.heap.size (fun _ => false) ∧ Kp w W0) ⟨by exact R.out.kp kpt, by exact At.zero _, by exact kpt⟩ ?_
 rintro W0 ⟨xR0, xB0, xK0⟩
 have R0 := hidT xR0
 have B0 := hidT xB0
 have K0 := hidT xK0
 clear xR0 xB0 xK0
 clear R
 have hsz : w.heap.size < W0.heap.size := B0.out.lt
 have K0' : Hid (Ks P w W0) := K0.out.ks (Nat.le_of_lt hP)
 by_cases e0 : i = s.size
 ·
  have g0 : ((i : Int) == (s.size : Int)) = true := by rw [e0]; simp
  have E : Hid (o = none ∧ oj = i) := by
   have := HO.out
   unfold pIn at this
   rw [if_pos e0] at this
   injection this with h1 h2
   exact ⟨h1.symm, h2.symm⟩
  clear e0
  go_cut [15] (fun v wc => v = .bool true ∧ Kp W0 wc)
  case first =>
   have Q0 : Kp W0 W0.drew := (Kp.refl _).drew
   have MK : Hid (∀ W, Kp W0 W → W.cell? ⟨P, 0, none⟩ = some (.string s) ∧ W.cell? ⟨P, 2, none⟩ = some (.int .i64 (i : Int)) ∧ Hid (Kp W0 W)) := fun W k => ⟨(R0.out.kp k).cells.1, (R0.out.kp k).cells.2.2.1, k⟩
   refine wp_region_noPanic ?_
   refine hdrew MK Q0 (fun hH => ?_)
   have KQ := Q0
   refine tk 0 (some 6) (.move (.tmp 0)) 142 (v := ?v0a1) rfl ?h0a1 hH ?_
   case h0a1 => intro _ _; go_simp; try with_reducible rfl
   try simp only [ps]
   refine tk 1 (some 7) (.nilCheck (.tmp 6)) 0 (v := ?v1a2) rfl ?h1a2 hH ?_
   case h1a2 => intro _ _; go_simp; try with_reducible rfl
   try simp only [ps]
   refine tk 2 (some 8) (.fieldAddr 99 (.tmp 7) 2) 0 (v := ?v2a3) rfl ?h2a3 hH ?_
   case h2a3 => intro _ _; go_simp; try with_reducible rfl
   try simp only [ps]
   refine tk 3 (some 9) (.load 3 (.tmp 8)) 3 (v := ?v3a4) rfl ?h3a4 hH ?_
   case h3a4 => intro _ _; go_simp; try with_reducible rfl
   try simp only [ps]
   refine tk 4 (some 10) (.move (.tmp 0)) 142 (v := ?v4a5) rfl ?h4a5 hH ?_
   case h4a5 => intro _ _; go_simp; try with_reducible rfl
   try simp only [ps]
   refine tk 5 (some 11) (.nilCheck (.tmp 10)) 0 (v := ?v5a6) rfl ?h5a6 hH ?_
   case h5a6 => intro _ _; go_simp; try with_reducible rfl
   try simp only [ps]
   refine tk 6 (some 12) (.fieldAddr 99 (.tmp 11) 0) 0 (v := ?v6a7) rfl ?h6a7 hH ?_
   case h6a7 => intro _ _; go_simp; try with_reducible rfl
   try simp only [ps]
   refine tk 7 (some 13) (.load 9 (.tmp 12)) 9 (v := ?v7a8) rfl ?h7a8 hH ?_
   case h7a8 => intro _ _; go_simp; try with_reducible rfl
   try simp only [ps]
   refine tk 8 (some 14) (.call { callee := .builtin .len, args := #[.tmp 13], argTypes := #[9] }) 3 (v := ?v8a9) rfl ?h8a9 hH ?_
   case h8a9 => intro _ _; go_simp; try with_reducible rfl
   try simp only [ps]
   refine tk 9 (some 15) (.binOp .eql 3 (.tmp 9) (.tmp 14) 3) 4 (v := ?v9a10) rfl ?h9a10 hH ?_
   case h9a10 => intro _ _; go_simp; try with_reducible rfl
   try simp only [ps]
   refine wpAnyH_done (by kernel_rfl) ?_ _
   refine NoPanic.normal ?_
   go_wp2_with fail
   go_meet
   case rel => exact ⟨rfl, KQ⟩
  case rest =>
   obtain ⟨rfl, k1⟩ := hcut
   rename World => W1
   have R1 : Hid (Rd W1 P s ere i n g d) := R0.out.kp k1
   have B1 : Hid (At W1 w.heap.size (fun _ => false)) := B0.out.kp k1
   have K1 : Hid (Ks P w W1) := K0'.out.kpt k1 hP
   clear k1 R0 B0 K0 K0'
   obtain ⟨b0, b1, b2, b3⟩ := B1.out.cells
   have fb0 := B1.out.frozen 0
   have fb1 := B1.out.frozen 1
   have fb2 := B1.out.frozen 2
   have fb3 := B1.out.frozen 3
   go_wp2_with fail
   refine bodyPost_ret (v := .tuple #[sv (fun _ => false), .bool false]) (ret2_set rfl _ _ _ _ _ rfl rfl (B1.out.set4z)) rfl ?_
   exact ⟨fun _ => false, false, rfl, by rw [E.out.1]; rfl, by rw [E.out.2]; exact R1.out.ks (ks_set4 _ _ _ _) (by omega) (by omega), K1.out.off (ks_set4 _ _ _ _) (by omega) hP⟩
 have g0 : ((i : Int) == (s.size : Int)) = false := by simp; omega
 have hlt : i < s.size := by omega
 go_cut [15] (fun v wc => v = .bool false ∧ Kp W0 wc)
 case first =>
  have Q0 : Kp W0 W0.drew := (Kp.refl _).drew
  have MK : Hid (∀ W, Kp W0 W → W.cell? ⟨P, 0, none⟩ = some (.string s) ∧ W.cell? ⟨P, 2, none⟩ = some (.int .i64 (i : Int)) ∧ Hid (Kp W0 W)) := fun W k => ⟨(R0.out.kp k).cells.1, (R0.out.kp k).cells.2.2.1, k⟩
  refine wp_region_noPanic ?_
  refine hdrew MK Q0 (fun hH => ?_)
  have KQ := Q0
  refine tk 0 (some 6) (.move (.tmp 0)) 142 (v := ?v0b1) rfl ?h0b1 hH ?_
  case h0b1 => intro _ _; go_simp; try with_reducible rfl
  try simp only [ps]
  refine tk 1 (some 7) (.nilCheck (.tmp 6)) 0 (v := ?v1b2) rfl ?h1b2 hH ?_
  case h1b2 => intro _ _; go_simp; try with_reducible rfl
  try simp only [ps]
  refine tk 2 (some 8) (.fieldAddr 99 (.tmp 7) 2) 0 (v := ?v2b3) rfl ?h2b3 hH ?_
  case h2b3 => intro _ _; go_simp; try with_reducible rfl
  try simp only [ps]
  refine tk 3 (some 9) (.load 3 (.tmp 8)) 3 (v := ?v3b4) rfl ?h3b4 hH ?_
  case h3b4 => intro _ _; go_simp; try with_reducible rfl
  try simp only [ps]
  refine tk 4 (some 10) (.move (.tmp 0)) 142 (v := ?v4b5) rfl ?h4b5 hH ?_
  case h4b5 => intro _ _; go_simp; try with_reducible rfl
  try simp only [ps]
  refine tk 5 (some 11) (.nilCheck (.tmp 10)) 0 (v := ?v5b6) rfl ?h5b6 hH ?_
  case h5b6 => intro _ _; go_simp; try with_reducible rfl
  try simp only [ps]
  refine tk 6 (some 12) (.fieldAddr 99 (.tmp 11) 0) 0 (v := ?v6b7) rfl ?h6b7 hH ?_
  case h6b7 => intro _ _; go_simp; try with_reducible rfl
  try simp only [ps]
  refine tk 7 (some 13) (.load 9 (.tmp 12)) 9 (v := ?v7b8) rfl ?h7b8 hH ?_
  case h7b8 => intro _ _; go_simp; try with_reducible rfl
  try simp only [ps]
  refine tk 8 (some 14) (.call { callee := .builtin .len, args := #[.tmp 13], argTypes := #[9] }) 3 (v := ?v8b9) rfl ?h8b9 hH ?_
  case h8b9 => intro _ _; go_simp; try with_reducible rfl
  try simp only [ps]
  refine tk 9 (some 15) (.binOp .eql 3 (.tmp 9) (.tmp 14) 3) 4 (v := ?v9b10) rfl ?h9b10 hH ?_
  case h9b10 => intro _ _; go_simp; try with_reducible rfl
  try simp only [ps]
  refine wpAnyH_done (by kernel_rfl) ?_ _
  refine NoPanic.normal ?_
  go_wp2_with fail
  go_meet
  case rel => exact ⟨rfl, KQ⟩
 case rest =>
  obtain ⟨rfl, k1⟩ := hcut
  rename World => W1
  have R1 : Hid (Rd W1 P s ere i n g d) := R0.out.kp k1
  have B1 : Hid (At W1 w.heap.size (fun _ => false)) := B0.out.kp k1
  have K1 : Hid (Kp w W1) := K0.out.trans k1
  clear k1 R0 B0 K0 K0' g0
  obtain ⟨q, hq⟩ : ∃ q, pfx s i [91, 58] = q := ⟨_, rfl⟩
  have HQ := hid hq
  have hq2 : q = true → i + 2 ≤ s.size := fun h => by rw [h] at hq; exact pfx_le hq hi
  have HQ2 := hid hq2
  clear hq hq2
  go_wp2_with fail
  refine (atClass_any s ere i n g d P _ R1.out hi).mono ?_
  rintro e W2 ⟨rfl, k2⟩
  rw [HQ.out]
  have R2 : Hid (Rd W2 P s ere i n g d) := R1.out.kp k2
  have B2 : Hid (At W2 w.heap.size (fun _ => false)) := B1.out.kp k2
  have K2 : Hid (Ks P w W2) := (K1.out.trans k2).ks (Nat.le_of_lt hP)
  have hsz2 : w.heap.size < W2.heap.size := B2.out.lt
  clear k2 R1 B1 K1
  cases q with
  | true =>
   have E : Hid (pClass s i = (o, oj)) := by
    have := HO.out
    unfold pIn at this
    rw [if_neg e0, if_pos HQ.out] at this
    exact this
   go_wp2_with fail
   refine (rclass_any s ere i n g d P _ R2.out (HQ2.out (by trivial)) hs).mono ?_
   rintro e W3 ⟨⟨q, ok, rfl, r3⟩⟩
   rw [E.out] at r3
   have R3 := hid r3
   have B3 : Hid (At W3 w.heap.size (fun _ => false)) := bl_ks B2.out (by omega) r3.ks
   have K3 : Hid (Ks P w W3) := K2.out.trans r3.ks
   clear r3 R2 B2 K2
   obtain ⟨b0, b1, b2, b3⟩ := B3.out.cells
   have fb0 := B3.out.frozen 0
   have fb1 := B3.out.frozen 1
   have fb2 := B3.out.frozen 2
   have fb3 := B3.out.frozen 3
   go_wp2_with fail
   refine bodyPost_ret (v := .tuple #[sv q, .bool ok]) (ret2_set rfl _ _ _ _ _ rfl rfl (At.set4 B3.out q)) rfl ?_
   exact ⟨q, ok, rfl, R3.out.eq, R3.out.rd.ks (ks_set4 _ _ _ _) (by omega) (by omega), K3.out.off (ks_set4 _ _ _ _) (by omega) hP⟩
  | false =>
   have ec := run_ch s i hlt
   obtain ⟨b, hb⟩ : ∃ b, ch s i = b := ⟨_, rfl⟩
   have HB := hid hb
   have hb256 : b < 256 := by rw [← hb]; exact ch_lt _ _
   rw [hb] at ec
   clear hb
   go_upto_region 5 with fail
   go_cut [4] (fun v wc => v = .int .u8 (b : Int) ∧ Kp W2 wc)
   case first =>
    have Q0 : Kp W2 W2.drew := (Kp.refl _).drew
    have MK : Hid (∀ W, Kp W2 W → W.cell? ⟨P, 0, none⟩ = some (.string s) ∧ W.cell? ⟨P, 2, none⟩ = some (.int .i64 (i : Int)) ∧ Hid (Kp W2 W)) := fun W k => ⟨(R2.out.kp k).cells.1, (R2.out.kp k).cells.2.2.1, k⟩
    refine wp_region_noPanic ?_
    refine hdrew MK Q0 (fun hH => ?_)
    have KQ := Q0
    refine tk 0 (some 23) (.move (.tmp 0)) 142 (v := ?v0c1) rfl ?h0c1 hH ?_
    case h0c1 => intro _ _; go_simp; try with_reducible rfl
    try simp only [ps]
    refine tk 1 (some 24) (.nilCheck (.tmp 23)) 0 (v := ?v1c2) rfl ?h1c2 hH ?_
    case h1c2 => intro _ _; go_simp; try with_reducible rfl
    try simp only [ps]
    refine tk 2 (some 25) (.fieldAddr 99 (.tmp 24) 0) 0 (v := ?v2c3) rfl ?h2c3 hH ?_
    case h2c3 => intro _ _; go_simp; try with_reducible rfl
    try simp only [ps]
    refine tk 3 (some 26) (.load 9 (.tmp 25)) 9 (v := ?v3c4) rfl ?h3c4 hH ?_
    case h3c4 => intro _ _; go_simp; try with_reducible rfl
    try simp only [ps]
    refine tk 4 (some 27) (.move (.tmp 0)) 142 (v := ?v4c5) rfl ?h4c5 hH ?_
    case h4c5 => intro _ _; go_simp; try with_reducible rfl
    try simp only [ps]
    refine tk 5 (some 28) (.nilCheck (.tmp 27)) 0 (v := ?v5c6) rfl ?h5c6 hH ?_
    case h5c6 => intro _ _; go_simp; try with_reducible rfl
    try simp only [ps]
    refine tk 6 (some 29) (.fieldAddr 99 (.tmp 28) 2) 0 (v := ?v6c7) rfl ?h6c7 hH ?_
    case h6c7 => intro _ _; go_simp; try with_reducible rfl
    try simp only [ps]
    refine tk 7 (some 30) (.load 3 (.tmp 29)) 3 (v := ?v7c8) rfl ?h7c8 hH ?_
    case h7c8 => intro _ _; go_simp; try with_reducible rfl
    try simp only [ps]
    refine tk 8 (some 31) (.index 9 (.tmp 26) (.tmp 30)) 5 (v := ?v8c9) rfl ?h8c9 hH ?_
    case h8c9 => intro _ _; go_simp; try with_reducible rfl
    try simp only [ps]
    refine tk 9 (some 4) (.assign (.tmp 31)) 5 (v := ?v9c10) rfl ?h9c10 hH ?_
    case h9c10 => intro _ _; go_simp; try with_reducible rfl
    try simp only [ps]
    refine wpAnyH_done (by kernel_rfl) ?_ _
    refine NoPanic.normal ?_
    go_wp2_with fail
    go_meet
    case rel => exact ⟨rfl, KQ⟩
   case rest =>
    obtain ⟨rfl, k3⟩ := hcut
    rename World => W3
    have R3 : Hid (Rd W3 P s ere i n g d) := R2.out.kp k3
    have B3 : Hid (At W3 w.heap.size (fun _ => false)) := B2.out.kp k3
    have K3 : Hid (Ks P w W3) := K2.out.kpt k3 hP
    clear k3 R2 B2 K2 ec
    have p2 := R3.out.cells.2.2.1
    have fp2 := bl_frozen R3.out.b 2
    go_upto_region 7 with fail
    refine opq (fun W4 => Rd W4 P s ere (i + 1) n g d ∧ At W4 w.heap.size (fun _ => false) ∧ Ks P w W4) ⟨by exact R3.out.at (i + 1), by exact bl_set B3.out (by omega) _, by exact K3.out.set 2 _⟩ ?_
    rintro W4 ⟨xR4, xB4, xK4⟩
    have R4 := hidT xR4
    have B4 := hidT xB4
    have K4 := hidT xK4
    clear xR4 xB4 xK4
    clear R3 B3 K3 p2 fp2
    obtain ⟨dd, hd⟩ : ∃ dd, dash s (i + 1) = dd := ⟨_, rfl⟩
    have HD := hid hd
    have hd2 : dd = true → i + 3 ≤ s.size := fun h => by
     rw [h] at hd
     unfold dash at hd
     simp at hd
     omega
    have HD2 := hid hd2
    clear hd hd2
    go_wp2_with fail
    refine (takesDash_any s ere (i + 1) n g d P _ R4.out (by omega) hs).mono ?_
    rintro e W5 ⟨rfl, r5, k5⟩
    have B5 : Hid (At W5 w.heap.size (fun _ => false)) := bl_ks B4.out (by omega) k5
    have K5 : Hid (Ks P w W5) := K4.out.trans k5
    unfold dashTo at r5
    rw [HD.out] at r5 ⊢
    have hsz5 : w.heap.size < W5.heap.size := B5.out.lt
    cases dd with
    | false =>
     have R5 : Hid (Rd W5 P s ere (i + 1) n g d) := r5
     clear r5 k5 R4 B4 K4
     have E : Hid (o = some (addB (fun _ => false) b) ∧ oj = i + 1) := by
      have := HO.out
      unfold pIn at this
      rw [if_neg e0, HQ.out, HD.out, HB.out] at this
      injection this with h1 h2
      exact ⟨h1.symm, h2.symm⟩
     go_wp2_with fail
     refine (of_one b _ _ rfl hb256).mono ?_
     rintro e W6 ⟨rfl, k6⟩
     have R6 : Hid (Rd W6 P s ere (i + 1) n g d) := R5.out.kp k6
     have B6 : Hid (At W6 w.heap.size (fun _ => false)) := B5.out.kp k6
     have K6 : Hid (Ks P w W6) := K5.out.kpt k6 hP
     clear k6 R5 B5 K5
     obtain ⟨b0, b1, b2, b3⟩ := B6.out.cells
     have fb0 := B6.out.frozen 0
     have fb1 := B6.out.frozen 1
     have fb2 := B6.out.frozen 2
     have fb3 := B6.out.frozen 3
     go_wp2_with fail
     refine bodyPost_ret (v := .tuple #[sv (addB (fun _ => false) b), .bool true]) (ret2_set rfl _ _ _ _ _ rfl rfl (At.set4 B6.out (addB (fun _ => false) b))) rfl ?_
     exact ⟨addB (fun _ => false) b, true, rfl, by rw [E.out.1]; rfl, by rw [E.out.2]; exact R6.out.ks (ks_set4 _ _ _ _) (by omega) (by omega), K6.out.off (ks_set4 _ _ _ _) (by omega) hP⟩
    | true =>
     have R5 : Hid (Rd W5 P s ere (i + 2) n g d) := r5
     clear r5 k5 R4 B4 K4
     have h3 := HD2.out (by trivial)
     have ec := run_ch s (i + 2) (by omega)
     obtain ⟨c, hc⟩ : ∃ c, ch s (i + 2) = c := ⟨_, rfl⟩
     have HC := hid hc
     have hc256 : c < 256 := by rw [← hc]; exact ch_lt _ _
     rw [hc, show ((i + 2 : Nat) : Int) = (i : Int) + 2 from rfl] at ec
     clear hc
     obtain ⟨cc, hcc⟩ : ∃ cc, pfx s (i + 2) [91, 58] = cc := ⟨_, rfl⟩
     have HCC := hid hcc
     have AC : Hid (∀ w, Rd w P s ere (i + 2) n g d → Calls Tryz.prog 257 #[.pointer (some ⟨P, 0, none⟩)] w fun e w' => e = .returned (.bool cc) ∧ Kp w w') := by
      intro w h
      have := atClass_any s ere (i + 2) n g d P w h (by omega)
      rw [hcc] at this
      exact this
     clear hcc
     have gi2 : IntKind.i64.wrap ((i : Int) + 2 + 1) = (i : Int) + 3 := by rw [IntKind.wrap_i64]; omega
     have EE : Hid ((o, oj) = if cc || decide (c < b) then (none, i + 2) else (some (rng b c), i + 3)) := by
      have := HO.out
      unfold pIn at this
      rw [if_neg e0, HQ.out, HD.out, HB.out, HC.out, HCC.out] at this
      exact this.symm
     go_upto_region 9 with fail
     cases cc with
     | true =>
      have E : Hid (o = none ∧ oj = i + 2) := by
       have := EE.out
       simp only [Bool.true_or, if_true] at this
       injection this with h1 h2
       exact ⟨h1, h2⟩
      go_cut [59] (fun v wc => v = .bool true ∧ Kp W5 wc)
      case first =>
       have Q0 : Kp W5 W5.drew := (Kp.refl _).drew
       have MK : Hid (∀ W, Kp W5 W → W.cell? ⟨P, 0, none⟩ = some (.string s) ∧ W.cell? ⟨P, 2, none⟩ = some (.int .i64 ((i : Int) + 2)) ∧ Hid (Kp W5 W)) := fun W k => ⟨(R5.out.kp k).cells.1, (R5.out.kp k).cells.2.2.1, k⟩
       refine wp_region_noPanic ?_
       refine hdrew MK Q0 (fun hH => ?_)
       have KQ := Q0
       refine tk 0 (some 45) (.move (.tmp 0)) 142 (v := ?v0d1) rfl ?h0d1 hH ?_
       case h0d1 => intro _ _; go_simp; try with_reducible rfl
       try simp only [ps]
       refine wpAnyH_ready (rs := [1]) (by kernel_rfl) (by simp) ?_
       refine AllReadyH.cons (o := { dst := some 46, op := .call { callee := .value (.func 257), args := #[.tmp 45], argTypes := #[142] }, type := 4, pos := "bracket.go:48", after := _, guard := none }) rfl (fun K hKq => ?_) AllReadyH.nil
       go_simp
       refine (AC.out _ (R5.out.kp KQ)).mono ?_
       rintro e y1 ⟨rfl, kq⟩
       refine hKq.out _ _ (MK.out _ (KQ.trans kq)) (fun hN => ?_)
       clear kq
       clear hKq K hH KQ
       have hH := hN
       clear hN
       have KQ := hH.2.2.out
       try simp only [ps]
       refine tk 2 (some 47) (.move (.tmp 46)) 4 (v := ?v2d2) rfl ?h2d2 hH ?_
       case h2d2 => intro _ _; go_simp; try with_reducible rfl
       try simp only [ps]
       refine tn 3 (some 48) (.move (.tmp 0)) 142 rfl hH ?_
       try simp only [ps]
       refine tn 4 (some 49) (.nilCheck (.tmp 48)) 0 rfl hH ?_
       try simp only [ps]
       refine tn 5 (some 50) (.fieldAddr 99 (.tmp 49) 0) 0 rfl hH ?_
       try simp only [ps]
       refine tn 6 (some 51) (.load 9 (.tmp 50)) 9 rfl hH ?_
       try simp only [ps]
       refine tn 7 (some 52) (.move (.tmp 0)) 142 rfl hH ?_
       try simp only [ps]
       refine tn 8 (some 53) (.nilCheck (.tmp 52)) 0 rfl hH ?_
       try simp only [ps]
       refine tn 9 (some 54) (.fieldAddr 99 (.tmp 53) 2) 0 rfl hH ?_
       try simp only [ps]
       refine tn 10 (some 55) (.load 3 (.tmp 54)) 3 rfl hH ?_
       try simp only [ps]
       refine tn 11 (some 56) (.index 9 (.tmp 51) (.tmp 55)) 5 rfl hH ?_
       try simp only [ps]
       refine tn 12 (some 57) (.move (.tmp 4)) 5 rfl hH ?_
       try simp only [ps]
       refine tn 13 (some 58) (.binOp .lss 5 (.tmp 56) (.tmp 57) 5) 4 rfl hH ?_
       try simp only [ps]
       refine tk 14 (some 59) (.pick (.tmp 47) (.const (.bool true)) (.tmp 58)) 4 (v := ?v14d14) rfl ?h14d14 hH ?_
       case h14d14 => intro _ _; go_simp; try with_reducible rfl
       try simp only [ps]
       refine wpAnyH_done (by kernel_rfl) ?_ _
       refine NoPanic.normal ?_
       go_wp2_with fail
       go_meet
       case rel => exact ⟨rfl, KQ⟩
      case rest =>
       obtain ⟨rfl, k6⟩ := hcut
       rename World => W6
       have R6 : Hid (Rd W6 P s ere (i + 2) n g d) := R5.out.kp k6
       have B6 : Hid (At W6 w.heap.size (fun _ => false)) := B5.out.kp k6
       have K6 : Hid (Ks P w W6) := K5.out.kpt k6 hP
       clear k6 R5 B5 K5
       obtain ⟨b0, b1, b2, b3⟩ := B6.out.cells
       have fb0 := B6.out.frozen 0
       have fb1 := B6.out.frozen 1
       have fb2 := B6.out.frozen 2
       have fb3 := B6.out.frozen 3
       go_wp2_with fail
       refine bodyPost_ret (v := .tuple #[sv (fun _ => false), .bool false]) (ret2_set rfl _ _ _ _ _ rfl rfl (B6.out.set4z)) rfl ?_
       exact ⟨fun _ => false, false, rfl, by rw [E.out.1]; rfl, by rw [E.out.2]; exact R6.out.ks (ks_set4 _ _ _ _) (by omega) (by omega), K6.out.off (ks_set4 _ _ _ _) (by omega) hP⟩
     | false =>
      by_cases hcb : c < b
      ·
       have gc : (c : Int) < (b : Int) := by omega
       have E : Hid (o = none ∧ oj = i + 2) := by
        have := EE.out
        rw [decide_eq_true hcb] at this
        injection this with h1 h2
        exact ⟨h1, h2⟩
       go_cut [59] (fun v wc => v = .bool true ∧ Kp W5 wc)
       case first =>
        have Q0 : Kp W5 W5.drew := (Kp.refl _).drew
        have MK : Hid (∀ W, Kp W5 W → W.cell? ⟨P, 0, none⟩ = some (.string s) ∧ W.cell? ⟨P, 2, none⟩ = some (.int .i64 ((i : Int) + 2)) ∧ Hid (Kp W5 W)) := fun W k => ⟨(R5.out.kp k).cells.1, (R5.out.kp k).cells.2.2.1, k⟩
        refine wp_region_noPanic ?_
        refine hdrew MK Q0 (fun hH => ?_)
        have KQ := Q0
        refine tk 0 (some 45) (.move (.tmp 0)) 142 (v := ?v0e1) rfl ?h0e1 hH ?_
        case h0e1 => intro _ _; go_simp; try with_reducible rfl
        try simp only [ps]
        refine wpAnyH_ready (rs := [1]) (by kernel_rfl) (by simp) ?_
        refine AllReadyH.cons (o := { dst := some 46, op := .call { callee := .value (.func 257), args := #[.tmp 45], argTypes := #[142] }, type := 4, pos := "bracket.go:48", after := _, guard := none }) rfl (fun K hKq => ?_) AllReadyH.nil
        go_simp
        refine (AC.out _ (R5.out.kp KQ)).mono ?_
        rintro e y1 ⟨rfl, kq⟩
        refine hKq.out _ _ (MK.out _ (KQ.trans kq)) (fun hN => ?_)
        clear kq
        clear hKq K hH KQ
        have hH := hN
        clear hN
        have KQ := hH.2.2.out
        try simp only [ps]
        refine tk 2 (some 47) (.move (.tmp 46)) 4 (v := ?v2e2) rfl ?h2e2 hH ?_
        case h2e2 => intro _ _; go_simp; try with_reducible rfl
        try simp only [ps]
        refine tk 3 (some 48) (.move (.tmp 0)) 142 (v := ?v3e3) rfl ?h3e3 hH ?_
        case h3e3 => intro _ _; go_simp; try with_reducible rfl
        try simp only [ps]
        refine tk 4 (some 49) (.nilCheck (.tmp 48)) 0 (v := ?v4e4) rfl ?h4e4 hH ?_
        case h4e4 => intro _ _; go_simp; try with_reducible rfl
        try simp only [ps]
        refine tk 5 (some 50) (.fieldAddr 99 (.tmp 49) 0) 0 (v := ?v5e5) rfl ?h5e5 hH ?_
        case h5e5 => intro _ _; go_simp; try with_reducible rfl
        try simp only [ps]
        refine tk 6 (some 51) (.load 9 (.tmp 50)) 9 (v := ?v6e6) rfl ?h6e6 hH ?_
        case h6e6 => intro _ _; go_simp; try with_reducible rfl
        try simp only [ps]
        refine tk 7 (some 52) (.move (.tmp 0)) 142 (v := ?v7e7) rfl ?h7e7 hH ?_
        case h7e7 => intro _ _; go_simp; try with_reducible rfl
        try simp only [ps]
        refine tk 8 (some 53) (.nilCheck (.tmp 52)) 0 (v := ?v8e8) rfl ?h8e8 hH ?_
        case h8e8 => intro _ _; go_simp; try with_reducible rfl
        try simp only [ps]
        refine tk 9 (some 54) (.fieldAddr 99 (.tmp 53) 2) 0 (v := ?v9e9) rfl ?h9e9 hH ?_
        case h9e9 => intro _ _; go_simp; try with_reducible rfl
        try simp only [ps]
        refine tk 10 (some 55) (.load 3 (.tmp 54)) 3 (v := ?v10e10) rfl ?h10e10 hH ?_
        case h10e10 => intro _ _; go_simp; try with_reducible rfl
        try simp only [ps]
        refine tk 11 (some 56) (.index 9 (.tmp 51) (.tmp 55)) 5 (v := ?v11e11) rfl ?h11e11 hH ?_
        case h11e11 => intro _ _; go_simp; try with_reducible rfl
        try simp only [ps]
        refine tk 12 (some 57) (.move (.tmp 4)) 5 (v := ?v12e12) rfl ?h12e12 hH ?_
        case h12e12 => intro _ _; go_simp; try with_reducible rfl
        try simp only [ps]
        refine tk 13 (some 58) (.binOp .lss 5 (.tmp 56) (.tmp 57) 5) 4 (v := ?v13e13) rfl ?h13e13 hH ?_
        case h13e13 => intro _ _; go_simp; try with_reducible rfl
        try simp only [ps]
        refine tk 14 (some 59) (.pick (.tmp 47) (.const (.bool true)) (.tmp 58)) 4 (v := ?v14e14) rfl ?h14e14 hH ?_
        case h14e14 => intro _ _; go_simp; try with_reducible rfl
        try simp only [ps]
        refine wpAnyH_done (by kernel_rfl) ?_ _
        refine NoPanic.normal ?_
        go_wp2_with fail
        go_meet
        case rel => exact ⟨rfl, KQ⟩
       case rest =>
        obtain ⟨rfl, k6⟩ := hcut
        rename World => W6
        have R6 : Hid (Rd W6 P s ere (i + 2) n g d) := R5.out.kp k6
        have B6 : Hid (At W6 w.heap.size (fun _ => false)) := B5.out.kp k6
        have K6 : Hid (Ks P w W6) := K5.out.kpt k6 hP
        clear k6 R5 B5 K5
        obtain ⟨b0, b1, b2, b3⟩ := B6.out.cells
        have fb0 := B6.out.frozen 0
        have fb1 := B6.out.frozen 1
        have fb2 := B6.out.frozen 2
        have fb3 := B6.out.frozen 3
        go_wp2_with fail
        refine bodyPost_ret (v := .tuple #[sv (fun _ => false), .bool false]) (ret2_set rfl _ _ _ _ _ rfl rfl (B6.out.set4z)) rfl ?_
        exact ⟨fun _ => false, false, rfl, by rw [E.out.1]; rfl, by rw [E.out.2]; exact R6.out.ks (ks_set4 _ _ _ _) (by omega) (by omega), K6.out.off (ks_set4 _ _ _ _) (by omega) hP⟩
      ·
       have gc : ¬ (c : Int) < (b : Int) := by omega
       have E : Hid (o = some (rng b c) ∧ oj = i + 3) := by
        have := EE.out
        rw [decide_eq_false hcb] at this
        injection this with h1 h2
        exact ⟨h1, h2⟩
       go_cut [59] (fun v wc => v = .bool false ∧ Kp W5 wc)
       case first =>
        have Q0 : Kp W5 W5.drew := (Kp.refl _).drew
        have MK : Hid (∀ W, Kp W5 W → W.cell? ⟨P, 0, none⟩ = some (.string s) ∧ W.cell? ⟨P, 2, none⟩ = some (.int .i64 ((i : Int) + 2)) ∧ Hid (Kp W5 W)) := fun W k => ⟨(R5.out.kp k).cells.1, (R5.out.kp k).cells.2.2.1, k⟩
        refine wp_region_noPanic ?_
        refine hdrew MK Q0 (fun hH => ?_)
        have KQ := Q0
        refine tk 0 (some 45) (.move (.tmp 0)) 142 (v := ?v0f1) rfl ?h0f1 hH ?_
        case h0f1 => intro _ _; go_simp; try with_reducible rfl
        try simp only [ps]
        refine wpAnyH_ready (rs := [1]) (by kernel_rfl) (by simp) ?_
        refine AllReadyH.cons (o := { dst := some 46, op := .call { callee := .value (.func 257), args := #[.tmp 45], argTypes := #[142] }, type := 4, pos := "bracket.go:48", after := _, guard := none }) rfl (fun K hKq => ?_) AllReadyH.nil
        go_simp
        refine (AC.out _ (R5.out.kp KQ)).mono ?_
        rintro e y1 ⟨rfl, kq⟩
        refine hKq.out _ _ (MK.out _ (KQ.trans kq)) (fun hN => ?_)
        clear kq
        clear hKq K hH KQ
        have hH := hN
        clear hN
        have KQ := hH.2.2.out
        try simp only [ps]
        refine tk 2 (some 47) (.move (.tmp 46)) 4 (v := ?v2f2) rfl ?h2f2 hH ?_
        case h2f2 => intro _ _; go_simp; try with_reducible rfl
        try simp only [ps]
        refine tk 3 (some 48) (.move (.tmp 0)) 142 (v := ?v3f3) rfl ?h3f3 hH ?_
        case h3f3 => intro _ _; go_simp; try with_reducible rfl
        try simp only [ps]
        refine tk 4 (some 49) (.nilCheck (.tmp 48)) 0 (v := ?v4f4) rfl ?h4f4 hH ?_
        case h4f4 => intro _ _; go_simp; try with_reducible rfl
        try simp only [ps]
        refine tk 5 (some 50) (.fieldAddr 99 (.tmp 49) 0) 0 (v := ?v5f5) rfl ?h5f5 hH ?_
        case h5f5 => intro _ _; go_simp; try with_reducible rfl
        try simp only [ps]
        refine tk 6 (some 51) (.load 9 (.tmp 50)) 9 (v := ?v6f6) rfl ?h6f6 hH ?_
        case h6f6 => intro _ _; go_simp; try with_reducible rfl
        try simp only [ps]
        refine tk 7 (some 52) (.move (.tmp 0)) 142 (v := ?v7f7) rfl ?h7f7 hH ?_
        case h7f7 => intro _ _; go_simp; try with_reducible rfl
        try simp only [ps]
        refine tk 8 (some 53) (.nilCheck (.tmp 52)) 0 (v := ?v8f8) rfl ?h8f8 hH ?_
        case h8f8 => intro _ _; go_simp; try with_reducible rfl
        try simp only [ps]
        refine tk 9 (some 54) (.fieldAddr 99 (.tmp 53) 2) 0 (v := ?v9f9) rfl ?h9f9 hH ?_
        case h9f9 => intro _ _; go_simp; try with_reducible rfl
        try simp only [ps]
        refine tk 10 (some 55) (.load 3 (.tmp 54)) 3 (v := ?v10f10) rfl ?h10f10 hH ?_
        case h10f10 => intro _ _; go_simp; try with_reducible rfl
        try simp only [ps]
        refine tk 11 (some 56) (.index 9 (.tmp 51) (.tmp 55)) 5 (v := ?v11f11) rfl ?h11f11 hH ?_
        case h11f11 => intro _ _; go_simp; try with_reducible rfl
        try simp only [ps]
        refine tk 12 (some 57) (.move (.tmp 4)) 5 (v := ?v12f12) rfl ?h12f12 hH ?_
        case h12f12 => intro _ _; go_simp; try with_reducible rfl
        try simp only [ps]
        refine tk 13 (some 58) (.binOp .lss 5 (.tmp 56) (.tmp 57) 5) 4 (v := ?v13f13) rfl ?h13f13 hH ?_
        case h13f13 => intro _ _; go_simp; try with_reducible rfl
        try simp only [ps]
        refine tk 14 (some 59) (.pick (.tmp 47) (.const (.bool true)) (.tmp 58)) 4 (v := ?v14f14) rfl ?h14f14 hH ?_
        case h14f14 => intro _ _; go_simp; try with_reducible rfl
        try simp only [ps]
        refine wpAnyH_done (by kernel_rfl) ?_ _
        refine NoPanic.normal ?_
        go_wp2_with fail
        go_meet
        case rel => exact ⟨rfl, KQ⟩
       case rest =>
        obtain ⟨rfl, k6⟩ := hcut
        rename World => W6
        have R6 : Hid (Rd W6 P s ere (i + 2) n g d) := R5.out.kp k6
        have B6 : Hid (At W6 w.heap.size (fun _ => false)) := B5.out.kp k6
        have K6 : Hid (Ks P w W6) := K5.out.kpt k6 hP
        clear k6 R5 B5 K5
        go_upto_region 11 with fail
        go_cut [5] (fun v wc => v = .int .u8 (c : Int) ∧ Kp W6 wc)
        case first =>
         have Q0 : Kp W6 W6.drew := (Kp.refl _).drew
         have MK : Hid (∀ W, Kp W6 W → W.cell? ⟨P, 0, none⟩ = some (.string s) ∧ W.cell? ⟨P, 2, none⟩ = some (.int .i64 ((i : Int) + 2)) ∧ Hid (Kp W6 W)) := fun W k => ⟨(R6.out.kp k).cells.1, (R6.out.kp k).cells.2.2.1, k⟩
         refine wp_region_noPanic ?_
         refine hdrew MK Q0 (fun hH => ?_)
         have KQ := Q0
         refine tk 0 (some 61) (.move (.tmp 0)) 142 (v := ?v0g1) rfl ?h0g1 hH ?_
         case h0g1 => intro _ _; go_simp; try with_reducible rfl
         try simp only [ps]
         refine tk 1 (some 62) (.nilCheck (.tmp 61)) 0 (v := ?v1g2) rfl ?h1g2 hH ?_
         case h1g2 => intro _ _; go_simp; try with_reducible rfl
         try simp only [ps]
         refine tk 2 (some 63) (.fieldAddr 99 (.tmp 62) 0) 0 (v := ?v2g3) rfl ?h2g3 hH ?_
         case h2g3 => intro _ _; go_simp; try with_reducible rfl
         try simp only [ps]
         refine tk 3 (some 64) (.load 9 (.tmp 63)) 9 (v := ?v3g4) rfl ?h3g4 hH ?_
         case h3g4 => intro _ _; go_simp; try with_reducible rfl
         try simp only [ps]
         refine tk 4 (some 65) (.move (.tmp 0)) 142 (v := ?v4g5) rfl ?h4g5 hH ?_
         case h4g5 => intro _ _; go_simp; try with_reducible rfl
         try simp only [ps]
         refine tk 5 (some 66) (.nilCheck (.tmp 65)) 0 (v := ?v5g6) rfl ?h5g6 hH ?_
         case h5g6 => intro _ _; go_simp; try with_reducible rfl
         try simp only [ps]
         refine tk 6 (some 67) (.fieldAddr 99 (.tmp 66) 2) 0 (v := ?v6g7) rfl ?h6g7 hH ?_
         case h6g7 => intro _ _; go_simp; try with_reducible rfl
         try simp only [ps]
         refine tk 7 (some 68) (.load 3 (.tmp 67)) 3 (v := ?v7g8) rfl ?h7g8 hH ?_
         case h7g8 => intro _ _; go_simp; try with_reducible rfl
         try simp only [ps]
         refine tk 8 (some 69) (.index 9 (.tmp 64) (.tmp 68)) 5 (v := ?v8g9) rfl ?h8g9 hH ?_
         case h8g9 => intro _ _; go_simp; try with_reducible rfl
         try simp only [ps]
         refine tk 9 (some 5) (.assign (.tmp 69)) 5 (v := ?v9g10) rfl ?h9g10 hH ?_
         case h9g10 => intro _ _; go_simp; try with_reducible rfl
         try simp only [ps]
         refine wpAnyH_done (by kernel_rfl) ?_ _
         refine NoPanic.normal ?_
         go_wp2_with fail
         go_meet
         case rel => exact ⟨rfl, KQ⟩
        case rest =>
         obtain ⟨rfl, k7⟩ := hcut
         rename World => W7
         have R7 : Hid (Rd W7 P s ere (i + 2) n g d) := R6.out.kp k7
         have B7 : Hid (At W7 w.heap.size (fun _ => false)) := B6.out.kp k7
         have K7 : Hid (Ks P w W7) := K6.out.kpt k7 hP
         clear k7 R6 B6 K6 ec
         have p2 := R7.out.cells.2.2.1
         have fp2 := bl_frozen R7.out.b 2
         have hsz7 : w.heap.size < W7.heap.size := B7.out.lt
         go_upto_region 13 with fail
         refine opq (fun W8 => Rd W8 P s ere (i + 3) n g d ∧ At W8 w.heap.size (fun _ => false) ∧ Ks P w W8) ⟨by exact R7.out.at (i + 3), by exact bl_set B7.out (by omega) _, by exact K7.out.set 2 _⟩ ?_
         rintro W8 ⟨xR8, xB8, xK8⟩
         have R8 := hidT xR8
         have B8 := hidT xB8
         have K8 := hidT xK8
         clear xR8 xB8 xK8
         clear R7 B7 K7 p2 fp2
         go_wp2_with fail
         refine (range_any b c _ hb256 hc256).mono ?_
         rintro e W9 ⟨rfl, k9⟩
         have R9 : Hid (Rd W9 P s ere (i + 3) n g d) := R8.out.kp k9
         have B9 : Hid (At W9 w.heap.size (fun _ => false)) := B8.out.kp k9
         have K9 : Hid (Ks P w W9) := K8.out.kpt k9 hP
         clear k9 R8 B8 K8
         obtain ⟨b0, b1, b2, b3⟩ := B9.out.cells
         have fb0 := B9.out.frozen 0
         have fb1 := B9.out.frozen 1
         have fb2 := B9.out.frozen 2
         have fb3 := B9.out.frozen 3
         go_wp2_with fail
         refine bodyPost_ret (v := .tuple #[sv (rng b c), .bool true]) (ret2_set rfl _ _ _ _ _ rfl rfl (At.set4 B9.out (rng b c))) rfl ?_
         exact ⟨rng b c, true, rfl, by rw [E.out.1]; rfl, by rw [E.out.2]; exact R9.out.ks (ks_set4 _ _ _ _) (by omega) (by omega), K9.out.off (ks_set4 _ _ _ _) (by omega) hP⟩
theorem pClass_le (s : ByteArray) (i : Nat) (hi : i + 2 ≤ s.size) : (pClass s i).2 ≤ s.size ∧ ((pClass s i).1 ≠ none → i < (pClass s i).2) := by
 have z : s.data.toList.length = s.size := Array.length_toList
 unfold pClass
 dsimp only
 split
 ·
  split
  ·
   refine ⟨by show s.size - _ ≤ s.size; omega, fun _ => ?_⟩
   have hl : (Lib.cut (List.drop (i + 2) s.data.toList) [58, 93]).2.1.length ≤ s.size - (i + 2) := by
    unfold Lib.cut
    split
    ·
     show (List.drop _ (List.drop (i + 2) s.data.toList)).length ≤ _
     rw [List.length_drop, List.length_drop, z]; omega
    ·
     exact Nat.zero_le _
   show i < s.size - (Lib.cut (List.drop (i + 2) s.data.toList) [58, 93]).2.1.length
   omega
  ·
   exact ⟨by show i ≤ s.size; omega, fun h => absurd rfl h⟩
 ·
  exact ⟨by show i ≤ s.size; omega, fun h => absurd rfl h⟩
theorem pIn_le (s : ByteArray) (i : Nat) (hi : i ≤ s.size) : (pIn s i).2 ≤ s.size ∧ ((pIn s i).1 ≠ none → i < (pIn s i).2) := by
 unfold pIn
 split
 ·
  exact ⟨hi, fun h => absurd rfl h⟩
 ·
  split
  ·
   rename_i hp; exact pClass_le s i (pfx_le hp hi)
  ·
   split
   ·
    rename_i hd
    have h3 : i + 3 ≤ s.size := by unfold dash at hd; simp at hd; omega
    split
    ·
     exact ⟨by show i + 2 ≤ s.size; omega, fun h => absurd rfl h⟩
    ·
     exact ⟨h3, fun _ => by show i < i + 3; omega⟩
   ·
    exact ⟨by show i + 1 ≤ s.size; omega, fun _ => by show i < i + 1; omega⟩
structure Br (s : ByteArray) (i2 k : Nat) (ok : Bool) (p : Nat → Bool) (j : Nat) : Prop where
 yes : ok = true → j ≤ s.size ∧ s.size < k + j ∧ pBrL s k p j = pBr s i2
 no : ok = false → pBr s i2 = (none, j)
theorem bracket_any (s : ByteArray) (ere : Bool) (i n g d P : Nat) (w : World) (h : Rd w P s ere i n g d) (hi : i < s.size) (hs : s.size ≤ 1000000) (hn : n ≤ 1000000000) :
  Calls Tryz.prog 232 #[.pointer (some ⟨P, 0, none⟩)] w fun e w' => RetE w P s ere (pBracket s ⟨i, n, g, d⟩) e w' := by
 have R : Hid (Rd w P s ere i n g d) := h
 have hP : P < w.heap.size := h.lt
 clear h
 have gi : IntKind.i64.wrap ((i : Int) + 1) = (i : Int) + 1 := by rw [IntKind.wrap_i64]; omega
 obtain ⟨tn, htn⟩ : ∃ tn, bTurn s i = tn := ⟨_, rfl⟩
 have T1 : Hid (∀ w, Rd w P s ere (i + 1) n g d → Calls Tryz.prog 248 #[.pointer (some ⟨P, 0, none⟩), .string ⟨#[94]⟩] w fun e w' => e = .returned (.bool tn) ∧ Rd w' P s ere (bFrom s i) n g d ∧ Ks P w w') := by
  intro w h
  have := takes_any ⟨#[94]⟩ s ere (i + 1) n g d P w h hi hs
  rw [show pfx s (i + 1) (⟨#[94]⟩ : ByteArray).data.toList = tn from htn] at this
  unfold bFrom
  rw [htn]
  cases tn <;> exact this
 have hf : bFrom s i ≤ s.size := by
  unfold bFrom
  split
  ·
   rename_i ht; exact pfx_le ht hi
  ·
   exact hi
 have HTN := hid htn
 clear htn
 obtain ⟨i2, hi2⟩ : ∃ i2, bFrom s i = i2 := ⟨_, rfl⟩
 rw [hi2] at T1 hf
 have HI2 := hid hi2
 clear hi2
 go_enter Tryz.func232, Tryz.ntmps232
 go_upto_region 1 with fail
 refine opq (fun W0 => Rd W0 P s ere i n g d ∧ W0.heap[w.heap.size]? = some rzo ∧ Ks P w W0) ⟨by exact R.out.kp kpt, by (first | exact last_at _ _ _ (by simp) | (refine bl_alloc ?_ _; first | exact last_at _ _ _ (by simp) | (refine bl_alloc ?_ _; first | exact last_at _ _ _ (by simp) | (refine bl_alloc ?_ _; exact last_at _ _ _ (by simp))))), by exact (Kp.ks kpt (Nat.le_of_lt hP))⟩ ?_
 rintro W0 ⟨xR0, xB0, xK0⟩
 have R0 := hidT xR0
 have B0 := hidT xB0
 have K0 := hidT xK0
 clear xR0 xB0 xK0
 clear R
 have p2 := R0.out.cells.2.2.1
 have fp2 := bl_frozen R0.out.b 2
 go_upto_region 3 with fail
 refine opq (fun W1 => Rd W1 P s ere (i + 1) n g d ∧ W1.heap[w.heap.size]? = some rzo ∧ Ks P w W1) ⟨by exact R0.out.at (i + 1), by exact bl_set B0.out (by omega) _, by exact K0.out.set 2 _⟩ ?_
 rintro W1 ⟨xR1, xB1, xK1⟩
 have R1 := hidT xR1
 have B1 := hidT xB1
 have K1 := hidT xK1
 clear xR1 xB1 xK1
 clear p2 fp2 R0 B0 K0
 go_wp2_with fail
 refine (T1.out _ R1.out).mono ?_
 rintro e W2 ⟨rfl, r2, k2⟩
 have R2 := hid r2
 have B2 : Hid (W2.heap[w.heap.size]? = some rzo) := bl_ks B1.out (by omega) k2
 have K2 : Hid (Ks P w W2) := K1.out.trans k2
 clear r2 k2 R1 B1 K1 T1
 go_wp2_with fail
 refine (inBracket_any s ere i2 n g d P _ R2.out hf hs).mono ?_
 rintro e w3 ⟨⟨q, ok, rfl, r3⟩⟩
 have hsz3 : w.heap.size < w3.heap.size := bl_lt (bl_ks B2.out (by omega) r3.ks)
 have R3 := hid r3
 have B3 : Hid (w3.heap[w.heap.size]? = some rzo) := bl_ks B2.out (by omega) r3.ks
 have K3 : Hid (Ks P w w3) := K2.out.trans r3.ks
 clear r3 R2 B2 K2
 obtain ⟨oo, jj, ho⟩ : ∃ oo jj, pIn s i2 = (oo, jj) := ⟨_, _, rfl⟩
 have HO := hid ho
 have hle := pIn_le s i2 hf
 rw [ho] at hle
 have HLE := hid hle
 clear hle ho
 have BR0 : Hid (Br s i2 (s.size + 1) ok q jj) := by
  have e := R3.out.eq
  rw [HO.out] at e
  refine ⟨fun h => ?_, fun h => ?_⟩
  ·
   subst h
   refine ⟨HLE.out.1, by omega, ?_⟩
   unfold pBr
   rw [HO.out, show oo = some q from e]
  ·
   subst h
   unfold pBr
   rw [HO.out, show oo = none from e]
 have RJ : Hid (Rd w3 P s ere jj n g d) := by have := R3.out.rd; rw [HO.out] at this; exact this
 clear R3 HO HLE
 go_wp2_with fail
 go_loopg [7] (s.size + 1) (fun k v wr => ∃ (ok : Bool) (p : Nat → Bool) (j : Nat), v = .bool ok ∧ Br s i2 k ok p j ∧ At wr w3.heap.size p ∧ Rd wr P s ere j n g d ∧ wr.heap[w.heap.size]? = some rzo ∧ Ks P w wr)
 case atStart => exact ⟨ok, q, jj, rfl, BR0.out, At.new _ _, RJ.out.kp ((Kp.refl _).alloc _), bl_alloc B3.out _, K3.out.kpt ((Kp.refl _).alloc _) hP⟩
 case round =>
  obtain ⟨ok, p, j, rfl, hbr, hA, hR, hB, hK⟩ := hrel
  have BR := hid hbr
  have A := hid hA
  have R := hid hR
  have B := hid hB
  have K := hid hK
  have hszr : w3.heap.size < wr.heap.size := hA.lt
  clear hbr hA hR hB hK B3 K3 RJ BR0
  cases ok with
  | false =>
   have E : Hid (pBracket s ⟨i, n, g, d⟩ = ⟨rx0, 1, ⟨j, n, g, d⟩⟩) := by show _ = _; unfold pBracket; rw [HI2.out, BR.out.no rfl]
   obtain ⟨b0, fb0, b1, fb1, b2, fb2, b3, fb3, b4, fb4, b5, fb5, b6, fb6, b7, fb7, b8, fb8⟩ := cellf9 (B.out)
   go_wp2_with fail
   refine bodyPost_ret (v := .tuple #[rz, .int .i64 1]) (rx_ret2 rfl _ _ _ _ _ rfl rfl (bl_set9 B.out _ _ _ _ _ _ _ _ _) rfl) rfl ?_
   rw [E.out]
   exact ⟨_, rfl, Ret.fail R.out K.out (ks_set9 _ _ _ _ _ _ _ _ _) hP (by omega)⟩
  | true =>
   obtain ⟨hj1, hj2, hj3⟩ := BR.out.yes rfl
   obtain ⟨k, rfl⟩ : ∃ k, gk = k + 1 := ⟨gk - 1, by omega⟩
   have HJ := hid hj3
   clear hj3 BR
   obtain ⟨sh, hsh⟩ : ∃ sh, pfx s j [93] = sh := ⟨_, rfl⟩
   have HSH := hid hsh
   have hsl : sh = true → j + 1 ≤ s.size := fun h => by rw [h] at hsh; exact pfx_le hsh hj1
   have HSL := hid hsl
   clear hsh hsl
   go_wp2_with fail
   refine (takes_any ⟨#[93]⟩ s ere j n g d P _ R.out hj1 hs).mono ?_
   rintro e V4 ⟨rfl, r4, k4⟩
   rw [show pfx s j (⟨#[93]⟩ : ByteArray).data.toList = sh from HSH.out] at r4 ⊢
   have A4 : Hid (At V4 w3.heap.size p) := bl_ks A.out (by omega) k4
   have B4 : Hid (V4.heap[w.heap.size]? = some rzo) := bl_ks B.out (by omega) k4
   have K4 : Hid (Ks P w V4) := K.out.trans k4
   have hsz4 : w3.heap.size < V4.heap.size := A4.out.lt
   cases sh with
   | false =>
    have R4 : Hid (Rd V4 P s ere j n g d) := r4
    clear r4 k4 A B K R
    obtain ⟨oo, jj, ho⟩ : ∃ oo jj, pIn s j = (oo, jj) := ⟨_, _, rfl⟩
    have HO := hid ho
    have hle := pIn_le s j hj1
    rw [ho] at hle
    have HLE := hid hle
    clear hle ho
    go_upto_region 7 with fail
    refine opq (fun W5 => Rd W5 P s ere j n g d ∧ At W5 w3.heap.size p ∧ At W5 V4.heap.size (fun _ => false) ∧ W5.heap[w.heap.size]? = some rzo ∧ Ks P w W5) ⟨by exact R4.out.kp kpt, by exact A4.out.kp kpt, by exact At.zero _, by exact bl_kp B4.out kpt, by exact K4.out.kpt kpt hP⟩ ?_
    rintro W5 ⟨xR5, xA5, xM5, xB5, xK5⟩
    have R5 := hidT xR5
    have A5 := hidT xA5
    have M5 := hidT xM5
    have B5 := hidT xB5
    have K5 := hidT xK5
    clear xR5 xA5 xM5 xB5 xK5
    clear R4 A4 B4 K4
    have hsz5 : V4.heap.size < W5.heap.size := M5.out.lt
    go_wp2_with fail
    refine (inBracket_any s ere j n g d P _ R5.out hj1 hs).mono ?_
    rintro e W6 ⟨⟨q, ok, rfl, r6⟩⟩
    have EQ := hid r6.eq
    rw [HO.out] at EQ
    have R6 : Hid (Rd W6 P s ere jj n g d) := by have := r6.rd; rw [HO.out] at this; exact this
    have A6 : Hid (At W6 w3.heap.size p) := bl_ks A5.out (by omega) r6.ks
    have M6 : Hid (At W6 V4.heap.size (fun _ => false)) := bl_ks M5.out (by omega) r6.ks
    have B6 : Hid (W6.heap[w.heap.size]? = some rzo) := bl_ks B5.out (by omega) r6.ks
    have K6 : Hid (Ks P w W6) := K5.out.trans r6.ks
    clear r6 R5 A5 M5 B5 K5
    have NX : Hid (Br s i2 k ok (orB p q) jj) := by
     have hj := HJ.out
     unfold pBrL at hj
     rw [HSH.out, HO.out] at hj
     have e := EQ.out
     refine ⟨fun h => ?_, fun h => ?_⟩
     ·
      subst h
      have e' : oo = some q := e
      subst e'
      have h4 : j < jj := HLE.out.2 (by simp)
      exact ⟨HLE.out.1, by omega, hj⟩
     ·
      subst h
      have e' : oo = none := e
      subst e'
      exact hj.symm
    obtain ⟨m0, m1, m2, m3⟩ := M6.out.cells
    have fm0 := M6.out.frozen 0
    have fm1 := M6.out.frozen 1
    have fm2 := M6.out.frozen 2
    have fm3 := M6.out.frozen 3
    go_upto_region 8 with fail
    clear m0 m1 m2 m3 fm0 fm1 fm2 fm3
    refine opq (fun W7 => Rd W7 P s ere jj n g d ∧ At W7 w3.heap.size p ∧ At W7 V4.heap.size q ∧ W7.heap[w.heap.size]? = some rzo ∧ Ks P w W7) ⟨by exact R6.out.ks (ks_set4 _ _ _ _) (by omega) (by omega), by exact bl_ks A6.out (by omega) (ks_set4 _ _ _ _), by exact M6.out.set4 q, by exact bl_ks B6.out (by omega) (ks_set4 _ _ _ _), by exact K6.out.off (ks_set4 _ _ _ _) (by omega) hP⟩ ?_
    rintro W7 ⟨xR7, xA7, xM7, xB7, xK7⟩
    have R7 := hidT xR7
    have A7 := hidT xA7
    have M7 := hidT xM7
    have B7 := hidT xB7
    have K7 := hidT xK7
    clear xR7 xA7 xM7 xB7 xK7
    clear R6 A6 M6 B6 K6
    obtain ⟨c0, c1, c2, c3⟩ := A7.out.cells
    obtain ⟨m0, m1, m2, m3⟩ := M7.out.cells
    go_wp2_with fail
    clear c0 c1 c2 c3 m0 m1 m2 m3
    refine (join2 p q _ W7.heap.size (by simp) (last_of _ _)).mono ?_
    rintro e W8 ⟨rfl, k8⟩
    have k8' := ((Kp.refl W7).alloc (two p q)).trans k8
    have R8 : Hid (Rd W8 P s ere jj n g d) := R7.out.kp k8'
    have A8 : Hid (At W8 w3.heap.size p) := A7.out.kp k8'
    have B8 : Hid (W8.heap[w.heap.size]? = some rzo) := bl_kp B7.out k8'
    have K8 : Hid (Ks P w W8) := K7.out.kpt k8' hP
    clear k8 k8' R7 A7 M7 B7 K7
    obtain ⟨c0, c1, c2, c3⟩ := A8.out.cells
    have fc0 := A8.out.frozen 0
    have fc1 := A8.out.frozen 1
    have fc2 := A8.out.frozen 2
    have fc3 := A8.out.frozen 3
    go_wp2_with fail
    go_roundg k
    case measure => omega
    case rel => exact ⟨ok, orB p q, jj, rfl, NX.out, A8.out.set4 (orB p q), R8.out.ks (ks_set4 _ _ _ _) (by omega) (by omega), bl_ks B8.out (by omega) (ks_set4 _ _ _ _), K8.out.off (ks_set4 _ _ _ _) (by omega) hP⟩
   | true =>
    have R4 : Hid (Rd V4 P s ere (j + 1) n g d) := r4
    have hj5 := HSL.out (by trivial)
    clear r4 k4 A B K R
    obtain ⟨t, ht⟩ : ∃ t, (if tn then notB p else p) = t := ⟨_, rfl⟩
    have HT := hid ht
    clear ht
    have E0 : Hid (pBracket s ⟨i, n, g, d⟩ = if cnt t 256 = 0 then ⟨rx0, 1, ⟨i, n, g, d⟩⟩ else ⟨rset t, 0, ⟨j + 1, n + 1, g, d⟩⟩) := by
     have hj := HJ.out
     unfold pBrL at hj
     rw [HSH.out] at hj
     show _ = _
     unfold pBracket
     rw [HI2.out, ← hj]
     simp only [if_true, HTN.out, HT.out]
    go_upto_if 45 with fail
    go_cut [] (fun wc => At wc w3.heap.size t ∧ Rd wc P s ere (j + 1) n g d ∧ wc.heap[w.heap.size]? = some rzo ∧ Ks P w wc)
    case first =>
     cases tn with
     | false =>
      have ht : p = t := HT.out
      subst ht
      go_wp2_with fail
      go_meet
      case rel => exact ⟨A4.out, R4.out, B4.out, K4.out⟩
     | true =>
      have ht : notB p = t := HT.out
      subst ht
      obtain ⟨c0, c1, c2, c3⟩ := A4.out.cells
      go_wp2_with fail
      clear c0 c1 c2 c3
      refine (not_any p _).mono ?_
      rintro e W5 ⟨rfl, k5⟩
      have A5 := hid (A4.out.kp k5)
      have R5 := hid (R4.out.kp k5)
      have B5 := hid (bl_kp B4.out k5)
      have K5 := hid (K4.out.kpt k5 hP)
      clear k5 A4 R4 B4 K4
      obtain ⟨c0, c1, c2, c3⟩ := A5.out.cells
      have fc0 := A5.out.frozen 0
      have fc1 := A5.out.frozen 1
      have fc2 := A5.out.frozen 2
      have fc3 := A5.out.frozen 3
      go_wp2_with fail
      go_meet
      case rel => exact ⟨A5.out.set4 (notB p), R5.out.ks (ks_set4 _ _ _ _) (by omega) (by omega), bl_ks B5.out (by omega) (ks_set4 _ _ _ _), K5.out.off (ks_set4 _ _ _ _) (by omega) hP⟩
    case rest =>
     obtain ⟨a5, r5, b5, k5⟩ := hcut
     rename World => W5
     have A5 := hid a5
     have R5 := hid r5
     have B5 := hid b5
     have K5 := hid k5
     clear a5 r5 b5 k5 A4 R4 B4 K4
     obtain ⟨c0, c1, c2, c3⟩ := A5.out.cells
     go_wp2_with fail
     clear c0 c1 c2 c3
     refine (count_any t _).mono ?_
     rintro e W6 ⟨rfl, k6⟩
     have A6 := hid (A5.out.kp k6)
     have R6 := hid (R5.out.kp k6)
     have B6 := hid (bl_kp B5.out k6)
     have K6 := hid (K5.out.kpt k6 hP)
     clear k6 A5 R5 B5 K5
     by_cases hc : cnt t 256 = 0
     ·
      have gc : ((cnt t 256 : Int) == 0) = true := by simp; omega
      have gc' : (cnt t 256 : Int) = 0 := by omega
      have E : Hid (pBracket s ⟨i, n, g, d⟩ = ⟨rx0, 1, ⟨i, n, g, d⟩⟩) := by show _ = _; rw [E0.out, if_pos hc]
      clear hc
      have p2 := R6.out.cells.2.2.1
      have fp2 := bl_frozen R6.out.b 2
      obtain ⟨b0, fb0, b1, fb1, b2, fb2, b3, fb3, b4, fb4, b5, fb5, b6, fb6, b7, fb7, b8, fb8⟩ := cellf9 (B6.out)
      go_wp2_with fail
      refine bodyPost_ret (v := .tuple #[rz, .int .i64 1]) (rx_ret2 rfl _ _ _ _ _ rfl rfl (bl_set9 (bl_set B6.out (by omega) _) _ _ _ _ _ _ _ _ _) rfl) rfl ?_
      rw [E.out]
      exact ⟨_, rfl, Ret.fail (R6.out.at i) (K6.out.set 2 _) (ks_set9 _ _ _ _ _ _ _ _ _) hP (by omega)⟩
     ·
      have gc : ((cnt t 256 : Int) == 0) = false := by simp; omega
      have gc' : ¬ (cnt t 256 : Int) = 0 := by omega
      have E : Hid (pBracket s ⟨i, n, g, d⟩ = ⟨rset t, 0, ⟨j + 1, n + 1, g, d⟩⟩) := by show _ = _; rw [E0.out, if_neg hc]
      clear hc
      obtain ⟨c0, c1, c2, c3⟩ := A6.out.cells
      go_wp2_with fail
      clear c0 c1 c2 c3
      refine (oneOf_any t _).mono ?_
      rintro e W7 ⟨rfl, k7⟩
      have R7 := hid (R6.out.kp k7)
      have B7 := hid (bl_kp B6.out k7)
      have K7 := hid (K6.out.kpt k7 hP)
      clear k7 A6 R6 B6 K6
      go_wp2_with fail
      refine (node_any 1 0 0 0 (W4.of t) none 0 0 s ere (j + 1) n g d P _ R7.out hn).mono ?_
      rintro e W8 ⟨rfl, r8, k8⟩
      have R8 := hid r8
      have B8 : Hid (W8.heap[w.heap.size]? = some rzo) := bl_ks B7.out (by omega) k8
      have K8 := hid (K7.out.trans k8)
      clear r8 k8 R7 B7 K7
      obtain ⟨b0, fb0, b1, fb1, b2, fb2, b3, fb3, b4, fb4, b5, fb5, b6, fb6, b7, fb7, b8, fb8⟩ := cellf9 (B8.out)
      go_wp2_with fail
      refine bodyPost_ret (v := .tuple #[rxv 1 0 0 0 (W4.of t) (.slice none 0 0), .int .i64 0]) (rx_ret2 rfl _ _ _ _ _ rfl rfl (bl_set9 B8.out _ _ _ _ _ _ _ _ _) rfl) rfl ?_
      rw [E.out]
      exact ⟨_, rfl, Ret.fin (Is.leaf _ _ _ _ _ _ _) R8.out K8.out (ks_set9 _ _ _ _ _ _ _ _ _) hP (by omega)⟩
end Go.Proofs.YtigdmebijbaofaaGreatDoor
