/-
  An interval.
-/
import Derived.Test.YtikmgckefbjbkaaGreatDoorNum
import Derived.Test.YtikmgckefbjbkaaGreatDoorKeep
namespace Go.Proofs.YtikmgckefbjbkaaGreatDoor
open Go.RowKit

theorem pNumL_le (s : ByteArray) : ∀ f m ok i, i ≤ s.size → m ≤ 21 → i ≤ (pNumL s f m ok i).2.2 ∧ (pNumL s f m ok i).2.2 ≤ s.size ∧ (pNumL s f m ok i).1 ≤ 21
  | 0, m, ok, i, h, hm => by unfold pNumL; exact ⟨Nat.le_refl _, h, hm⟩
  | f + 1, m, ok, i, h, hm => by
    unfold pNumL
    split
    · rename_i hc
      have hlt : i < s.size := by simp at hc; exact hc.1
      have := pNumL_le s f (min (10 * m + (ch s i - 48)) 21) true (i + 1) (by omega) (by omega)
      exact ⟨by omega, this.2.1, this.2.2⟩
    · exact ⟨Nat.le_refl _, h, hm⟩
theorem pNum_le (s : ByteArray) (i : Nat) (h : i ≤ s.size) : i ≤ (pNum s i).2.2 ∧ (pNum s i).2.2 ≤ s.size ∧ (pNum s i).1 ≤ 21 := pNumL_le s _ 0 false i h (by omega)
theorem pHigh_le (s : ByteArray) (lo i : Nat) (h : i ≤ s.size) (hl : lo ≤ 21) : i ≤ (pHigh s lo i).2 ∧ (pHigh s lo i).2 ≤ s.size ∧ -1 ≤ (pHigh s lo i).1 ∧ (pHigh s lo i).1 ≤ 21 := by
  unfold pHigh
  split
  · rename_i hp
    have h1 : i + 1 ≤ s.size := pfx_le hp h
    have := pNum_le s (i + 1) h1
    refine ⟨by show i ≤ (pNum s (i + 1)).2.2; omega, this.2.1, ?_, ?_⟩
    · show -1 ≤ (if _ then _ else _ : Int)
      split <;> omega
    · show (if _ then _ else _ : Int) ≤ 21
      split <;> omega
  · exact ⟨Nat.le_refl _, h, by show (-1 : Int) ≤ (lo : Int); omega, by show (lo : Int) ≤ 21; omega⟩

/-- What a call that reads an interval leaves. -/
structure RetI (w0 : World) (P : Nat) (s : ByteArray) (ere : Bool) (o : Option (Int × Int) × Nat) (n g d : Nat) (a b : Int) (ok : Bool) (w' : World) : Prop where
  eq : o.1 = if ok = true then some (a, b) else none
  rd : Rd w' P s ere o.2 n g d
  ks : Ks P w0 w'

structure RetIE (w0 : World) (P : Nat) (s : ByteArray) (ere : Bool) (o : Option (Int × Int) × Nat) (n g d : Nat) (e : Ending) (w' : World) : Prop where
  ex : ∃ a b ok, e = .returned (.tuple #[.int .i64 a, .int .i64 b, .bool ok]) ∧ RetI w0 P s ere o n g d a b ok w'

set_option maxRecDepth 100000 in
theorem interval_any (x y z : Nat) (s : ByteArray) (ere : Bool) (i n g d P : Nat) (w : World) (h : Rd w P s ere i n g d) (hi : i + z ≤ s.size) (hs : s.size ≤ 1000000) :
    Calls Tryz.prog 96 #[.pointer (some ⟨P, 0, none⟩), .agg #[.int .i64 (x : Int), .int .u8 (y : Int), .int .i64 (z : Int)]] w fun e w' => RetIE w P s ere (pInt s ere i z) n g d e w' := by
  have R : Hid (Rd w P s ere i n g d) := h
  have hP : P < w.heap.size := h.lt
  clear h
  have gw : IntKind.i64.wrap ((i : Int) + (z : Int)) = (i : Int) + (z : Int) := by rw [IntKind.wrap_i64]; omega
  obtain ⟨a, oka, ia, ha⟩ : ∃ a oka ia, pNum s (i + z) = (a, oka, ia) := ⟨_, _, _, rfl⟩
  have hle := pNum_le s (i + z) hi
  rw [ha] at hle
  obtain ⟨hle1, hle2, hle3⟩ := hle
  simp only at hle1 hle2 hle3
  have HA := hid ha
  clear ha
  go_enter Tryz.func96, Tryz.ntmps96
  go_upto_region 1 with fail
  refine opq (fun W0 => Rd W0 P s ere i n g d ∧ W0.heap[w.heap.size]? = some (sgo x y z) ∧ Kp w W0) ⟨by exact R.out.kp (by repeat (first | exact Kp.refl _ | refine Kp.alloc ?_ _ | refine Kp.drew ?_ | refine Kp.drewN _ ?_)), by (first | exact last_at _ _ _ (by simp) | (refine bl_alloc ?_ _; first | exact last_at _ _ _ (by simp) | (refine bl_alloc ?_ _; first | exact last_at _ _ _ (by simp) | (refine bl_alloc ?_ _; exact last_at _ _ _ (by simp))))), by exact (by repeat (first | exact Kp.refl _ | refine Kp.alloc ?_ _ | refine Kp.drew ?_ | refine Kp.drewN _ ?_))⟩ ?_
  rintro W0 ⟨xR0, xG0, xK0⟩
  have R0 : Hid (Rd W0 P s ere i n g d) := xR0
  have G0 : Hid (W0.heap[w.heap.size]? = some (sgo x y z)) := xG0
  have K0 : Hid (Kp w W0) := xK0
  clear xR0 xG0 xK0
  have p2 := R0.out.cells.2.2.1
  clear R
  go_upto_region 2 with fail
  clear p2
  have ks0 : Hid (Ks P w W0) := K0.out.ks (Nat.le_of_lt hP)
  clear K0
  go_cut [] (fun wc => Rd wc P s ere (i + z) n g d ∧ Ks P w wc)
  case first =>
    have Q0 : Kp W0 W0.drew := (Kp.refl _).drew
    have MK : Hid (∀ W, Kp W0 W → W.cell? ⟨P, 2, none⟩ = some (.int .i64 (i : Int)) ∧ W.cell? ⟨w.heap.size, 2, none⟩ = some (.int .i64 (z : Int)) ∧ Hid (Kp W0 W)) := fun W k => ⟨(R0.out.kp k).cells.2.2.1, bl_cell (bl_kp G0.out k) 2 _ rfl, k⟩
    refine wp_region_noPanic ?_
    refine region_Z (z := 9) (S := (fun W => W.cell? ⟨P, 2, none⟩ = some (.int .i64 (i : Int)) ∧ W.cell? ⟨w.heap.size, 2, none⟩ = some (.int .i64 (z : Int)) ∧ Hid (Kp W0 W))) (by kernel_rfl) ?_ (fun hH => ?_)
    · exact MK.out _ Q0
    have KQ := Q0
    refine anyZ_take (z := 9) (ks := []) (i := 0) (oi := { dst := some 13, op := Op.move (Operand.tmp 0), type := 77, pos := "parse.go:196", after := #[], guard := none }) (v := ?v0a1) rfl (by kernel_rfl) (by kernel_rfl) (by kernel_rfl) (by kernel_rfl) (by kernel_rfl) (fun _ _ _ h => h) (Or.inl ⟨by rfl, ?hy0a1⟩) hH ?r0a1
    case hy0a1 => (intro W hSw; (try dsimp only at hSw); go_simp; try (with_reducible rfl))
    try simp only [Act.put, List.setIfInBounds_toArray, List.set_cons_zero, List.set_cons_succ]
    refine anyZ_take (z := 9) (ks := []) (i := 1) (oi := { dst := some 14, op := Op.nilCheck (Operand.tmp 13), type := 0, pos := "parse.go:196", after := #[{ on := 0, ground := Ground.data }], guard := none }) (v := ?v1a2) rfl (by kernel_rfl) (by kernel_rfl) (by kernel_rfl) (by kernel_rfl) (by kernel_rfl) (fun _ _ _ h => h) (Or.inl ⟨by rfl, ?hy1a2⟩) hH ?r1a2
    case hy1a2 => (intro W hSw; (try dsimp only at hSw); go_simp; try (with_reducible rfl))
    try simp only [Act.put, List.setIfInBounds_toArray, List.set_cons_zero, List.set_cons_succ]
    refine anyZ_take (z := 9) (ks := []) (i := 2) (oi := { dst := some 15, op := Op.fieldAddr 55 (Operand.tmp 14) 2, type := 0, pos := "parse.go:196", after := #[{ on := 1, ground := Ground.data }], guard := none }) (v := ?v2a3) rfl (by kernel_rfl) (by kernel_rfl) (by kernel_rfl) (by kernel_rfl) (by kernel_rfl) (fun _ _ _ h => h) (Or.inl ⟨by rfl, ?hy2a3⟩) hH ?r2a3
    case hy2a3 => (intro W hSw; (try dsimp only at hSw); go_simp; try (with_reducible rfl))
    try simp only [Act.put, List.setIfInBounds_toArray, List.set_cons_zero, List.set_cons_succ]
    refine anyZ_take (z := 9) (ks := []) (i := 3) (oi := { dst := some 16, op := Op.load 3 (Operand.tmp 15), type := 3, pos := "parse.go:196", after := #[{ on := 2, ground := Ground.data }], guard := none }) (v := ?v3a4) rfl (by kernel_rfl) (by kernel_rfl) (by kernel_rfl) (by kernel_rfl) (by kernel_rfl) (fun _ _ _ h => h) (Or.inl ⟨by rfl, ?hy3a4⟩) hH ?r3a4
    case hy3a4 => (intro W hSw; (try dsimp only at hSw); go_simp; try (with_reducible rfl))
    try simp only [Act.put, List.setIfInBounds_toArray, List.set_cons_zero, List.set_cons_succ]
    refine anyZ_take (z := 9) (ks := []) (i := 4) (oi := { dst := some 17, op := Op.fieldAddr 91 (Operand.tmp 3) 2, type := 0, pos := "parse.go:196", after := #[], guard := none }) (v := ?v4a5) rfl (by kernel_rfl) (by kernel_rfl) (by kernel_rfl) (by kernel_rfl) (by kernel_rfl) (fun _ _ _ h => h) (Or.inl ⟨by rfl, ?hy4a5⟩) hH ?r4a5
    case hy4a5 => (intro W hSw; (try dsimp only at hSw); go_simp; try (with_reducible rfl))
    try simp only [Act.put, List.setIfInBounds_toArray, List.set_cons_zero, List.set_cons_succ]
    refine anyZ_take (z := 9) (ks := []) (i := 5) (oi := { dst := some 18, op := Op.load 3 (Operand.tmp 17), type := 3, pos := "parse.go:196", after := #[{ on := 4, ground := Ground.data }], guard := none }) (v := ?v5a6) rfl (by kernel_rfl) (by kernel_rfl) (by kernel_rfl) (by kernel_rfl) (by kernel_rfl) (fun _ _ _ h => h) (Or.inl ⟨by rfl, ?hy5a6⟩) hH ?r5a6
    case hy5a6 => (intro W hSw; (try dsimp only at hSw); go_simp; try (with_reducible rfl))
    try simp only [Act.put, List.setIfInBounds_toArray, List.set_cons_zero, List.set_cons_succ]
    refine anyZ_take (z := 9) (ks := []) (i := 6) (oi := { dst := some 19, op := Op.binOp BinOp.add 3 (Operand.tmp 16) (Operand.tmp 18) 3, type := 3, pos := "parse.go:196", after := #[{ on := 3, ground := Ground.data }, { on := 5, ground := Ground.data }], guard := none }) (v := ?v6a7) rfl (by kernel_rfl) (by kernel_rfl) (by kernel_rfl) (by kernel_rfl) (by kernel_rfl) (fun _ _ _ h => h) (Or.inl ⟨by rfl, ?hy6a7⟩) hH ?r6a7
    case hy6a7 => (intro W hSw; (try dsimp only at hSw); go_simp; try (with_reducible rfl))
    try simp only [Act.put, List.setIfInBounds_toArray, List.set_cons_zero, List.set_cons_succ]
    refine anyZ_take (z := 9) (ks := [8]) (i := 7) (oi := { dst := some 20, op := Op.nilCheck (Operand.tmp 13), type := 0, pos := "parse.go:196", after := #[{ on := 0, ground := Ground.data }, { on := 0, ground := Ground.phase }, { on := 1, ground := Ground.phase }, { on := 2, ground := Ground.phase }, { on := 3, ground := Ground.phase }, { on := 4, ground := Ground.phase }, { on := 5, ground := Ground.phase }, { on := 6, ground := Ground.phase }], guard := none }) (v := ?v7a8) rfl (by kernel_rfl) (by kernel_rfl) (by kernel_rfl) (by kernel_rfl) (by kernel_rfl) (fun _ _ _ h => h) (Or.inl ⟨by rfl, ?hy7a8⟩) hH ?r7a8
    case hy7a8 => (intro W hSw; (try dsimp only at hSw); go_simp; try (with_reducible rfl))
    try simp only [Act.put, List.setIfInBounds_toArray, List.set_cons_zero, List.set_cons_succ]
    refine anyZ_take (z := 9) (ks := []) (i := 8) (oi := { dst := some 21, op := Op.fieldAddr 55 (Operand.tmp 20) 2, type := 0, pos := "parse.go:196", after := #[{ on := 7, ground := Ground.data }, { on := 0, ground := Ground.phase }, { on := 1, ground := Ground.phase }, { on := 2, ground := Ground.phase }, { on := 3, ground := Ground.phase }, { on := 4, ground := Ground.phase }, { on := 5, ground := Ground.phase }, { on := 6, ground := Ground.phase }], guard := none }) (v := ?v8a9) rfl (by kernel_rfl) (by kernel_rfl) (by kernel_rfl) (by kernel_rfl) (by kernel_rfl) (fun _ _ _ h => h) (Or.inl ⟨by rfl, ?hy8a9⟩) hH ?r8a9
    case hy8a9 => (intro W hSw; (try dsimp only at hSw); go_simp; try (with_reducible rfl))
    try simp only [Act.put, List.setIfInBounds_toArray, List.set_cons_zero, List.set_cons_succ]
    refine anyZ_ready (rs := [9]) (by kernel_rfl) (by simp) ?_
    refine AllZ.last (o := { dst := none, op := Op.store 3 (Operand.tmp 21) (Operand.tmp 19), type := 0, pos := "parse.go:196", after := #[{ on := 8, ground := Ground.data }, { on := 6, ground := Ground.data }, { on := 0, ground := Ground.phase }, { on := 1, ground := Ground.phase }, { on := 2, ground := Ground.phase }, { on := 3, ground := Ground.phase }, { on := 4, ground := Ground.phase }, { on := 5, ground := Ground.phase }, { on := 6, ground := Ground.phase }], guard := none }) rfl (Or.inl rfl) (fun K hKq => ?_) AllZ.nil
    have fq2 := bl_frozen (R0.out.kp KQ).b 2
    have cq2 := (R0.out.kp KQ).cells.2.2.1
    go_simp
    refine hKq.out _ _ ?_
    clear fq2 cq2
    clear hKq K
    try simp only [Act.put, List.setIfInBounds_toArray, List.set_cons_zero, List.set_cons_succ]
    refine anyZ_done (by kernel_rfl) ?_ _
    refine NoPanic.normal ?_
    go_wp2_with fail
    go_meet
    case rel => exact ⟨(R0.out.kp KQ).at (i + z), (ks0.out.kpt KQ hP).set 2 _⟩
  case rest =>
    obtain ⟨r1, k1⟩ := hcut
    rename World => W1
    have R1 := hid r1
    have K1 := hid k1
    clear r1 k1 R0 G0 ks0
    go_wp2_with fail
    refine (number_any s ere (i + z) n g d P _ R1.out hi hs).mono ?_
    rintro e W2 ⟨rfl, r2, k2⟩
    rw [HA.out] at r2 ⊢
    have R2 : Hid (Rd W2 P s ere ia n g d) := r2
    have K2 : Hid (Ks P w W2) := K1.out.trans k2
    clear r2 k2 R1 K1
    dsimp only
    cases oka with
    | false =>
      have E : Hid (pInt s ere i z = (none, ia)) := by show _ = _; unfold pInt; rw [HA.out]; rfl
      have p1 := R2.out.cells.2.1
      have FIN : Hid (RetIE w P s ere (pInt s ere i z) n g d (.returned (.tuple #[.int .i64 0, .int .i64 0, .bool false])) W2) := ⟨0, 0, false, rfl, by rw [E.out]; rfl, by rw [E.out]; exact R2.out, K2.out⟩
      cases ere with
      | true =>
        go_wp2_with fail
        go_ret3
        exact FIN.out
      | false =>
        go_wp2_with fail
        go_ret3
        exact FIN.out
    | true =>
      obtain ⟨hg, ih, hh⟩ : ∃ hg ih, pHigh s a ia = (hg, ih) := ⟨_, _, rfl⟩
      have hle := pHigh_le s a ia hle2 hle3
      rw [hh] at hle
      obtain ⟨hle4, hle5, hle6, hle7⟩ := hle
      simp only at hle4 hle5 hle6 hle7
      have HH := hid hh
      clear hh
      obtain ⟨q, hq⟩ : ∃ q, pfx s ia [44] = q := ⟨_, rfl⟩
      have T1 : Hid (∀ w, Rd w P s ere ia n g d → Calls Tryz.prog 104 #[.pointer (some ⟨P, 0, none⟩), .string ⟨#[44]⟩] w fun e w' => e = .returned (.bool q) ∧ Rd w' P s ere (if q then ia + 1 else ia) n g d ∧ Ks P w w') := by
        intro w h
        have := takes_any ⟨#[44]⟩ s ere ia n g d P w h hle2 hs
        rw [show (⟨#[44]⟩ : ByteArray).data.toList = [44] from rfl, hq] at this
        exact this
      have HQ := hid hq
      have hq1 : q = true → ia + 1 ≤ s.size := fun h => by rw [h] at hq; exact pfx_le hq hle2
      have HQ1 := hid hq1
      clear hq hq1
      go_wp2_with fail
      refine (T1.out _ R2.out).mono ?_
      rintro e W3 ⟨rfl, r3, k3⟩
      have R3 := hid r3
      have K3 : Hid (Ks P w W3) := K2.out.trans k3
      clear r3 k3 R2 K2
      go_upto_if 32 with fail
      go_cut [5, 6] (fun h o wc => h = .int .i64 hg ∧ o = .bool true ∧ Rd wc P s ere ih n g d ∧ Ks P w wc)
      case first =>
        cases q with
        | false =>
          have E : Hid (hg = (a : Int) ∧ ih = ia) := by
            have := HH.out
            unfold pHigh at this
            rw [HQ.out] at this
            injection this with h1 h2
            exact ⟨h1.symm, h2.symm⟩
          go_wp2_with fail
          go_meet
          case rel => exact ⟨by rw [E.out.1], rfl, by rw [E.out.2]; exact R3.out, K3.out⟩
        | true =>
          obtain ⟨b, okb, ib, hb⟩ : ∃ b okb ib, pNum s (ia + 1) = (b, okb, ib) := ⟨_, _, _, rfl⟩
          have HB := hid hb
          clear hb
          have E : Hid (hg = (if okb then (b : Int) else -1) ∧ ih = ib) := by
            have := HH.out
            unfold pHigh at this
            rw [HQ.out, HB.out] at this
            injection this with h1 h2
            exact ⟨h1.symm, h2.symm⟩
          go_wp2_with fail
          refine (number_any s ere (ia + 1) n g d P _ R3.out (HQ1.out (by trivial)) hs).mono ?_
          rintro e W4 ⟨rfl, r4, k4⟩
          rw [HB.out] at r4 ⊢
          have R4 : Hid (Rd W4 P s ere ib n g d) := r4
          have K4 : Hid (Ks P w W4) := K3.out.trans k4
          clear r4 k4 R3 K3
          dsimp only
          cases okb with
          | false =>
            go_wp2_with fail
            go_meet
            case rel => exact ⟨by rw [E.out.1]; rfl, rfl, by rw [E.out.2]; exact R4.out, K4.out⟩
          | true =>
            go_wp2_with fail
            go_meet
            case rel => exact ⟨by rw [E.out.1]; rfl, rfl, by rw [E.out.2]; exact R4.out, K4.out⟩
      case rest =>
        obtain ⟨rfl, rfl, r5, k5⟩ := hcut
        rename World => W5
        have R5 := hid r5
        have K5 := hid k5
        clear r5 k5 R3 K3 T1 HQ HQ1
        have p1 := R5.out.cells.2.1
        obtain ⟨q2, hq2⟩ : ∃ q2, pfx s ih (closeB ere) = q2 := ⟨_, rfl⟩
        have HQ2 := hid hq2
        clear hq2
        obtain ⟨tf, htf⟩ : ∃ tf, timesFit (a : Int) hg = tf := ⟨_, rfl⟩
        have HT := hid htf
        clear htf
        have E : Hid (pInt s ere i z = if q2 then (if tf then (some ((a : Int), hg), ih + (closeB ere).length) else (none, i)) else (none, ih)) := by
          show _ = _
          unfold pInt
          rw [HA.out]
          simp only [HH.out, HQ2.out, HT.out, if_true]
        cases ere with
        | true =>
          go_wp2_with fail
          refine (takes_any ⟨#[125]⟩ s true ih n g d P _ R5.out hle5 hs).mono ?_
          rintro e W6 ⟨rfl, r6, k6⟩
          rw [show pfx s ih (⟨#[125]⟩ : ByteArray).data.toList = q2 from HQ2.out] at r6 ⊢
          have K6 : Hid (Ks P w W6) := K5.out.trans k6
          cases q2 with
          | false =>
            have R6 : Hid (Rd W6 P s true ih n g d) := r6
            clear r6 k6 p1 R5 K5
            go_wp2_with fail
            go_ret3
            exact ⟨0, 0, false, rfl, by rw [E.out]; rfl, by rw [E.out]; exact R6.out, K6.out⟩
          | true =>
            have R6 : Hid (Rd W6 P s true (ih + 1) n g d) := r6
            clear r6 k6 p1 R5 K5
            go_wp2_with fail
            refine (timesFit_any (a : Int) hg _).mono ?_
            rintro e W6 ⟨rfl, rfl⟩
            rw [HT.out]
            cases tf with
            | false =>
              have p2 := R6.out.cells.2.2.1
              have fp2 := bl_frozen R6.out.b 2
              go_wp2_with fail
              go_ret3
              exact ⟨0, 0, false, rfl, by rw [E.out]; rfl, by rw [E.out]; exact R6.out.at i, K6.out.set 2 _⟩
            | true =>
              go_wp2_with fail
              go_ret3
              exact ⟨_, _, true, rfl, by rw [E.out]; rfl, by rw [E.out]; exact R6.out, K6.out⟩
        | false =>
          go_wp2_with fail
          refine (takes_any ⟨#[92, 125]⟩ s false ih n g d P _ R5.out hle5 hs).mono ?_
          rintro e W6 ⟨rfl, r6, k6⟩
          rw [show pfx s ih (⟨#[92, 125]⟩ : ByteArray).data.toList = q2 from HQ2.out] at r6 ⊢
          have K6 : Hid (Ks P w W6) := K5.out.trans k6
          cases q2 with
          | false =>
            have R6 : Hid (Rd W6 P s false ih n g d) := r6
            clear r6 k6 p1 R5 K5
            go_wp2_with fail
            go_ret3
            exact ⟨0, 0, false, rfl, by rw [E.out]; rfl, by rw [E.out]; exact R6.out, K6.out⟩
          | true =>
            have R6 : Hid (Rd W6 P s false (ih + 2) n g d) := r6
            clear r6 k6 p1 R5 K5
            go_wp2_with fail
            refine (timesFit_any (a : Int) hg _).mono ?_
            rintro e W6 ⟨rfl, rfl⟩
            rw [HT.out]
            cases tf with
            | false =>
              have p2 := R6.out.cells.2.2.1
              have fp2 := bl_frozen R6.out.b 2
              go_wp2_with fail
              go_ret3
              exact ⟨0, 0, false, rfl, by rw [E.out]; rfl, by rw [E.out]; exact R6.out.at i, K6.out.set 2 _⟩
            | true =>
              go_wp2_with fail
              go_ret3
              exact ⟨_, _, true, rfl, by rw [E.out]; rfl, by rw [E.out]; exact R6.out, K6.out⟩
end Go.Proofs.YtikmgckefbjbkaaGreatDoor
