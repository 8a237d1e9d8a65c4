/-
  What the reader's small steps do.
-/
import Derived.Test.YtikmgckefbjbkaaGreatDoorRxs
import Derived.Test.YtikmgckefbjbkaaGreatDoorShelf
namespace Go.Proofs.YtikmgckefbjbkaaGreatDoor
open Go.RowKit

theorem run_from (s : ByteArray) (i : Nat) (hi : i ≤ s.size) (w : World) : (Instr.slice 9 (.string s) (some (.int .i64 (i : Int))) none none).run Tryz.prog w = .ok (.string (s.extract i s.size)) w := by
  rw [run_slice_string_from_if w 9 s .i64 (i : Int) (by kernel_rfl), if_pos ⟨by omega, by omega⟩, Int.toNat_natCast]
/-- Does it stand there? -/
def pfx (s : ByteArray) (i : Nat) (l : List UInt8) : Bool := l.isPrefixOf (s.data.toList.drop i)
theorem pfx_lib (s p : ByteArray) (i : Nat) : Lib.hasPrefix (s.extract i s.size).data.toList p.data.toList = pfx s i p.data.toList := by
  rw [Lib.extract_to_end]; rfl
theorem pfx_le {s : ByteArray} {i : Nat} {l : List UInt8} (h : pfx s i l = true) (hi : i ≤ s.size) : i + l.length ≤ s.size := by
  have := (List.isPrefixOf_iff_prefix.1 h).length_le
  rw [List.length_drop, show s.data.toList.length = s.size from Array.length_toList] at this
  omega

set_option maxRecDepth 100000 in
theorem takes_any (p : ByteArray) (s : ByteArray) (ere : Bool) (i n g d P : Nat) (w : World) (h : Rd w P s ere i n g d) (hi : i ≤ s.size) (hs : s.size ≤ 1000000) :
    Calls Tryz.prog 104 #[.pointer (some ⟨P, 0, none⟩), .string p] w fun e w' => e = .returned (.bool (pfx s i p.data.toList)) ∧ Rd w' P s ere (if pfx s i p.data.toList then i + p.size else i) n g d ∧ Ks P w w' := by
  have R : Hid (Rd w P s ere i n g d) := h
  have hP : P < w.heap.size := h.lt
  have hle : pfx s i p.data.toList = true → i + p.size ≤ s.size := fun hp => by have := pfx_le hp hi; rw [Array.length_toList] at this; exact this
  obtain ⟨q, hq⟩ : ∃ q, pfx s i p.data.toList = q := ⟨_, rfl⟩
  have HQ : Hid (pfx s i p.data.toList = q) := hq
  rw [hq] at hle ⊢
  clear h hq
  have es : ∀ w, (Instr.slice 9 (.string s) (some (.int .i64 (i : Int))) none none).run Tryz.prog w = .ok (.string (s.extract i s.size)) w := fun w => run_from s i hi w
  go_enter Tryz.func104, Tryz.ntmps104
  go_wp2_with fail
  go_cut [16] (fun v wc => v = .bool (!q) ∧ Kp w wc)
  case first =>
    have Q0 : Kp w w.drew := (Kp.refl _).drew
    have MK : Hid (∀ W, Kp w W → W.cell? ⟨P, 0, none⟩ = some (.string s) ∧ W.cell? ⟨P, 2, none⟩ = some (.int .i64 (i : Int)) ∧ Hid (Kp w W)) := fun W k => ⟨(R.out.kp k).cells.1, (R.out.kp k).cells.2.2.1, k⟩
    refine wp_region_noPanic ?_
    refine wp_region_held_drew (S := (fun W => W.cell? ⟨P, 0, none⟩ = some (.string s) ∧ W.cell? ⟨P, 2, none⟩ = some (.int .i64 (i : Int)) ∧ Hid (Kp w W))) (by kernel_rfl) ?_ (fun hH => ?_)
    · exact MK.out _ Q0
    have KQ := Q0
    refine wpAnyH_take (i := 0) (oi := { dst := some 5, op := Op.move (Operand.tmp 0), type := 77, pos := "parse.go:230", after := #[], guard := none }) (v := ?v0a1) rfl (by kernel_rfl) (by kernel_rfl) (by kernel_rfl) (fun _ _ _ h => h) (Or.inl ⟨by rfl, ?hy0a1⟩) hH ?r0a1
    case hy0a1 => (intro W hSw; (try dsimp only at hSw); go_simp; try (with_reducible rfl))
    try simp only [Act.put, List.setIfInBounds_toArray, List.set_cons_zero, List.set_cons_succ]
    refine wpAnyH_take (i := 1) (oi := { dst := some 6, op := Op.nilCheck (Operand.tmp 5), type := 0, pos := "parse.go:230", after := #[{ on := 0, ground := Ground.data }], guard := none }) (v := ?v1a2) rfl (by kernel_rfl) (by kernel_rfl) (by kernel_rfl) (fun _ _ _ h => h) (Or.inl ⟨by rfl, ?hy1a2⟩) hH ?r1a2
    case hy1a2 => (intro W hSw; (try dsimp only at hSw); go_simp; try (with_reducible rfl))
    try simp only [Act.put, List.setIfInBounds_toArray, List.set_cons_zero, List.set_cons_succ]
    refine wpAnyH_take (i := 2) (oi := { dst := some 7, op := Op.fieldAddr 55 (Operand.tmp 6) 0, type := 0, pos := "parse.go:230", after := #[{ on := 1, ground := Ground.data }], guard := none }) (v := ?v2a3) rfl (by kernel_rfl) (by kernel_rfl) (by kernel_rfl) (fun _ _ _ h => h) (Or.inl ⟨by rfl, ?hy2a3⟩) hH ?r2a3
    case hy2a3 => (intro W hSw; (try dsimp only at hSw); go_simp; try (with_reducible rfl))
    try simp only [Act.put, List.setIfInBounds_toArray, List.set_cons_zero, List.set_cons_succ]
    refine wpAnyH_take (i := 3) (oi := { dst := some 8, op := Op.load 9 (Operand.tmp 7), type := 9, pos := "parse.go:230", after := #[{ on := 2, ground := Ground.data }], guard := none }) (v := ?v3a4) rfl (by kernel_rfl) (by kernel_rfl) (by kernel_rfl) (fun _ _ _ h => h) (Or.inl ⟨by rfl, ?hy3a4⟩) hH ?r3a4
    case hy3a4 => (intro W hSw; (try dsimp only at hSw); go_simp; try (with_reducible rfl))
    try simp only [Act.put, List.setIfInBounds_toArray, List.set_cons_zero, List.set_cons_succ]
    refine wpAnyH_take (i := 4) (oi := { dst := some 9, op := Op.move (Operand.tmp 0), type := 77, pos := "parse.go:230", after := #[], guard := none }) (v := ?v4a5) rfl (by kernel_rfl) (by kernel_rfl) (by kernel_rfl) (fun _ _ _ h => h) (Or.inl ⟨by rfl, ?hy4a5⟩) hH ?r4a5
    case hy4a5 => (intro W hSw; (try dsimp only at hSw); go_simp; try (with_reducible rfl))
    try simp only [Act.put, List.setIfInBounds_toArray, List.set_cons_zero, List.set_cons_succ]
    refine wpAnyH_take (i := 5) (oi := { dst := some 10, op := Op.nilCheck (Operand.tmp 9), type := 0, pos := "parse.go:230", after := #[{ on := 4, ground := Ground.data }], guard := none }) (v := ?v5a6) rfl (by kernel_rfl) (by kernel_rfl) (by kernel_rfl) (fun _ _ _ h => h) (Or.inl ⟨by rfl, ?hy5a6⟩) hH ?r5a6
    case hy5a6 => (intro W hSw; (try dsimp only at hSw); go_simp; try (with_reducible rfl))
    try simp only [Act.put, List.setIfInBounds_toArray, List.set_cons_zero, List.set_cons_succ]
    refine wpAnyH_take (i := 6) (oi := { dst := some 11, op := Op.fieldAddr 55 (Operand.tmp 10) 2, type := 0, pos := "parse.go:230", after := #[{ on := 5, ground := Ground.data }], guard := none }) (v := ?v6a7) rfl (by kernel_rfl) (by kernel_rfl) (by kernel_rfl) (fun _ _ _ h => h) (Or.inl ⟨by rfl, ?hy6a7⟩) hH ?r6a7
    case hy6a7 => (intro W hSw; (try dsimp only at hSw); go_simp; try (with_reducible rfl))
    try simp only [Act.put, List.setIfInBounds_toArray, List.set_cons_zero, List.set_cons_succ]
    refine wpAnyH_take (i := 7) (oi := { dst := some 12, op := Op.load 3 (Operand.tmp 11), type := 3, pos := "parse.go:230", after := #[{ on := 6, ground := Ground.data }], guard := none }) (v := ?v7a8) rfl (by kernel_rfl) (by kernel_rfl) (by kernel_rfl) (fun _ _ _ h => h) (Or.inl ⟨by rfl, ?hy7a8⟩) hH ?r7a8
    case hy7a8 => (intro W hSw; (try dsimp only at hSw); go_simp; try (with_reducible rfl))
    try simp only [Act.put, List.setIfInBounds_toArray, List.set_cons_zero, List.set_cons_succ]
    refine wpAnyH_take (i := 8) (oi := { dst := some 13, op := Op.slice 9 (Operand.tmp 8) (some (Operand.tmp 12)) none none, type := 9, pos := "parse.go:230", after := #[{ on := 3, ground := Ground.data }, { on := 7, ground := Ground.data }], guard := none }) (v := ?v8a9) rfl (by kernel_rfl) (by kernel_rfl) (by kernel_rfl) (fun _ _ _ h => h) (Or.inl ⟨by rfl, ?hy8a9⟩) hH ?r8a9
    case hy8a9 => (intro W hSw; (try dsimp only at hSw); go_simp; try (with_reducible rfl))
    try simp only [Act.put, List.setIfInBounds_toArray, List.set_cons_zero, List.set_cons_succ]
    refine wpAnyH_take (i := 9) (oi := { dst := some 14, op := Op.move (Operand.tmp 1), type := 9, pos := "parse.go:230", after := #[], guard := none }) (v := ?v9a10) rfl (by kernel_rfl) (by kernel_rfl) (by kernel_rfl) (fun _ _ _ h => h) (Or.inl ⟨by rfl, ?hy9a10⟩) hH ?r9a10
    case hy9a10 => (intro W hSw; (try dsimp only at hSw); go_simp; try (with_reducible rfl))
    try simp only [Act.put, List.setIfInBounds_toArray, List.set_cons_zero, List.set_cons_succ]
    refine wpAnyH_ready (rs := [10]) (by kernel_rfl) (by simp) ?_
    refine AllReadyH.cons (o := { dst := some 15, op := Op.call { callee := Callee.value (Operand.func 109), args := #[Operand.tmp 13, Operand.tmp 14], argTypes := #[9, 9] }, type := 4, pos := "parse.go:230", after := #[{ on := 8, ground := Ground.data }, { on := 9, ground := Ground.data }], guard := none }) rfl (fun K hKq => ?_) AllReadyH.nil
    go_simp
    refine (Tryz.strings_HasPrefix (s.extract i s.size) p _).mono ?_
    rintro e yy ⟨rfl, rfl⟩
    rw [pfx_lib, HQ.out]
    refine hKq.out _ _ (MK.out _ KQ) (fun hN => ?_)
    clear hKq K hH KQ
    have hH := hN
    clear hN
    have KQ := hH.2.2.out
    try simp only [Act.put, List.setIfInBounds_toArray, List.set_cons_zero, List.set_cons_succ]
    refine wpAnyH_take (i := 11) (oi := { dst := some 16, op := Op.unOp UnOp.not 4 (Operand.tmp 15), type := 4, pos := "parse.go:230", after := #[{ on := 10, ground := Ground.data }], guard := none }) (v := ?v11a11) rfl (by kernel_rfl) (by kernel_rfl) (by kernel_rfl) (fun _ _ _ h => h) (Or.inl ⟨by rfl, ?hy11a11⟩) hH ?r11a11
    case hy11a11 => (intro W hSw; (try dsimp only at hSw); go_simp; try (with_reducible rfl))
    try simp only [Act.put, List.setIfInBounds_toArray, List.set_cons_zero, List.set_cons_succ]
    refine wpAnyH_done (by kernel_rfl) ?_ _
    refine NoPanic.normal ?_
    go_wp2_with fail
    go_meet
    case rel => exact ⟨rfl, KQ⟩
  case rest =>
    obtain ⟨rfl, k1⟩ := hcut
    rename World => w1
    have R1 : Hid (Rd w1 P s ere i n g d ∧ Kp w w1) := ⟨R.out.kp k1, k1⟩
    clear k1 R
    cases q with
    | false =>
      go_wp2_with fail
      go_ret
      exact ⟨rfl, R1.out.1, R1.out.2.ks (Nat.le_of_lt hP)⟩
    | true =>
      have hle' := hle rfl
      have p2 := R1.out.1.cells.2.2.1
      have fp2 := bl_frozen R1.out.1.b 2
      have gw : IntKind.i64.wrap ((i : Int) + (p.size : Int)) = (i : Int) + (p.size : Int) := by rw [IntKind.wrap_i64]; omega
      go_wp2_with fail
      go_ret
      exact ⟨rfl, R1.out.1.at (i + p.size), (R1.out.2.ks (Nat.le_of_lt hP)).set 2 _⟩

set_option maxRecDepth 100000 in
theorem atClass_any (s : ByteArray) (ere : Bool) (i n g d P : Nat) (w : World) (h : Rd w P s ere i n g d) (hi : i ≤ s.size) :
    Calls Tryz.prog 110 #[.pointer (some ⟨P, 0, none⟩)] w fun e w' => e = .returned (.bool (pfx s i [91, 58])) ∧ Kp w w' := by
  have R : Hid (Rd w P s ere i n g d) := h
  obtain ⟨q, hq⟩ : ∃ q, pfx s i [91, 58] = q := ⟨_, rfl⟩
  have HQ : Hid (Lib.hasPrefix (s.extract i s.size).data.toList (⟨#[91, 58]⟩ : ByteArray).data.toList = q) := by show _ = _; rw [pfx_lib]; exact hq
  rw [hq]
  clear h hq
  have es : ∀ w, (Instr.slice 9 (.string s) (some (.int .i64 (i : Int))) none none).run Tryz.prog w = .ok (.string (s.extract i s.size)) w := fun w => run_from s i hi w
  go_enter Tryz.func110, Tryz.ntmps110
  go_wp2_with fail
  have Q0 : Kp w w.drew := (Kp.refl _).drew
  have MK : Hid (∀ W, Kp w W → W.cell? ⟨P, 0, none⟩ = some (.string s) ∧ W.cell? ⟨P, 2, none⟩ = some (.int .i64 (i : Int)) ∧ Hid (Kp w W)) := fun W k => ⟨(R.out.kp k).cells.1, (R.out.kp k).cells.2.2.1, k⟩
  refine wp_region_noPanic ?_
  refine wp_region_held_drew (S := (fun W => W.cell? ⟨P, 0, none⟩ = some (.string s) ∧ W.cell? ⟨P, 2, none⟩ = some (.int .i64 (i : Int)) ∧ Hid (Kp w W))) (by kernel_rfl) ?_ (fun hH => ?_)
  · exact MK.out _ Q0
  have KQ := Q0
  refine wpAnyH_take (i := 0) (oi := { dst := some 3, op := Op.move (Operand.tmp 0), type := 77, pos := "bracket.go:56", after := #[], guard := none }) (v := ?v0b1) rfl (by kernel_rfl) (by kernel_rfl) (by kernel_rfl) (fun _ _ _ h => h) (Or.inl ⟨by rfl, ?hy0b1⟩) hH ?r0b1
  case hy0b1 => (intro W hSw; (try dsimp only at hSw); go_simp; try (with_reducible rfl))
  try simp only [Act.put, List.setIfInBounds_toArray, List.set_cons_zero, List.set_cons_succ]
  refine wpAnyH_take (i := 1) (oi := { dst := some 4, op := Op.nilCheck (Operand.tmp 3), type := 0, pos := "bracket.go:56", after := #[{ on := 0, ground := Ground.data }], guard := none }) (v := ?v1b2) rfl (by kernel_rfl) (by kernel_rfl) (by kernel_rfl) (fun _ _ _ h => h) (Or.inl ⟨by rfl, ?hy1b2⟩) hH ?r1b2
  case hy1b2 => (intro W hSw; (try dsimp only at hSw); go_simp; try (with_reducible rfl))
  try simp only [Act.put, List.setIfInBounds_toArray, List.set_cons_zero, List.set_cons_succ]
  refine wpAnyH_take (i := 2) (oi := { dst := some 5, op := Op.fieldAddr 55 (Operand.tmp 4) 0, type := 0, pos := "bracket.go:56", after := #[{ on := 1, ground := Ground.data }], guard := none }) (v := ?v2b3) rfl (by kernel_rfl) (by kernel_rfl) (by kernel_rfl) (fun _ _ _ h => h) (Or.inl ⟨by rfl, ?hy2b3⟩) hH ?r2b3
  case hy2b3 => (intro W hSw; (try dsimp only at hSw); go_simp; try (with_reducible rfl))
  try simp only [Act.put, List.setIfInBounds_toArray, List.set_cons_zero, List.set_cons_succ]
  refine wpAnyH_take (i := 3) (oi := { dst := some 6, op := Op.load 9 (Operand.tmp 5), type := 9, pos := "bracket.go:56", after := #[{ on := 2, ground := Ground.data }], guard := none }) (v := ?v3b4) rfl (by kernel_rfl) (by kernel_rfl) (by kernel_rfl) (fun _ _ _ h => h) (Or.inl ⟨by rfl, ?hy3b4⟩) hH ?r3b4
  case hy3b4 => (intro W hSw; (try dsimp only at hSw); go_simp; try (with_reducible rfl))
  try simp only [Act.put, List.setIfInBounds_toArray, List.set_cons_zero, List.set_cons_succ]
  refine wpAnyH_take (i := 4) (oi := { dst := some 7, op := Op.move (Operand.tmp 0), type := 77, pos := "bracket.go:56", after := #[], guard := none }) (v := ?v4b5) rfl (by kernel_rfl) (by kernel_rfl) (by kernel_rfl) (fun _ _ _ h => h) (Or.inl ⟨by rfl, ?hy4b5⟩) hH ?r4b5
  case hy4b5 => (intro W hSw; (try dsimp only at hSw); go_simp; try (with_reducible rfl))
  try simp only [Act.put, List.setIfInBounds_toArray, List.set_cons_zero, List.set_cons_succ]
  refine wpAnyH_take (i := 5) (oi := { dst := some 8, op := Op.nilCheck (Operand.tmp 7), type := 0, pos := "bracket.go:56", after := #[{ on := 4, ground := Ground.data }], guard := none }) (v := ?v5b6) rfl (by kernel_rfl) (by kernel_rfl) (by kernel_rfl) (fun _ _ _ h => h) (Or.inl ⟨by rfl, ?hy5b6⟩) hH ?r5b6
  case hy5b6 => (intro W hSw; (try dsimp only at hSw); go_simp; try (with_reducible rfl))
  try simp only [Act.put, List.setIfInBounds_toArray, List.set_cons_zero, List.set_cons_succ]
  refine wpAnyH_take (i := 6) (oi := { dst := some 9, op := Op.fieldAddr 55 (Operand.tmp 8) 2, type := 0, pos := "bracket.go:56", after := #[{ on := 5, ground := Ground.data }], guard := none }) (v := ?v6b7) rfl (by kernel_rfl) (by kernel_rfl) (by kernel_rfl) (fun _ _ _ h => h) (Or.inl ⟨by rfl, ?hy6b7⟩) hH ?r6b7
  case hy6b7 => (intro W hSw; (try dsimp only at hSw); go_simp; try (with_reducible rfl))
  try simp only [Act.put, List.setIfInBounds_toArray, List.set_cons_zero, List.set_cons_succ]
  refine wpAnyH_take (i := 7) (oi := { dst := some 10, op := Op.load 3 (Operand.tmp 9), type := 3, pos := "bracket.go:56", after := #[{ on := 6, ground := Ground.data }], guard := none }) (v := ?v7b8) rfl (by kernel_rfl) (by kernel_rfl) (by kernel_rfl) (fun _ _ _ h => h) (Or.inl ⟨by rfl, ?hy7b8⟩) hH ?r7b8
  case hy7b8 => (intro W hSw; (try dsimp only at hSw); go_simp; try (with_reducible rfl))
  try simp only [Act.put, List.setIfInBounds_toArray, List.set_cons_zero, List.set_cons_succ]
  refine wpAnyH_take (i := 8) (oi := { dst := some 11, op := Op.slice 9 (Operand.tmp 6) (some (Operand.tmp 10)) none none, type := 9, pos := "bracket.go:56", after := #[{ on := 3, ground := Ground.data }, { on := 7, ground := Ground.data }], guard := none }) (v := ?v8b9) rfl (by kernel_rfl) (by kernel_rfl) (by kernel_rfl) (fun _ _ _ h => h) (Or.inl ⟨by rfl, ?hy8b9⟩) hH ?r8b9
  case hy8b9 => (intro W hSw; (try dsimp only at hSw); go_simp; try (with_reducible rfl))
  try simp only [Act.put, List.setIfInBounds_toArray, List.set_cons_zero, List.set_cons_succ]
  refine wpAnyH_ready (rs := [9]) (by kernel_rfl) (by simp) ?_
  refine AllReadyH.cons (o := { dst := some 12, op := Op.call { callee := Callee.value (Operand.func 109), args := #[Operand.tmp 11, Operand.const (Value.string { data := #[91, 58] })], argTypes := #[9, 9] }, type := 4, pos := "bracket.go:56", after := #[{ on := 8, ground := Ground.data }], guard := none }) rfl (fun K hKq => ?_) AllReadyH.nil
  go_simp
  refine (Tryz.strings_HasPrefix (s.extract i s.size) ⟨#[91, 58]⟩ _).mono ?_
  rintro e yy ⟨rfl, rfl⟩
  rw [HQ.out]
  refine hKq.out _ _ (MK.out _ KQ) (fun hN => ?_)
  clear hKq K hH KQ
  have hH := hN
  clear hN
  have KQ := hH.2.2.out
  try simp only [Act.put, List.setIfInBounds_toArray, List.set_cons_zero, List.set_cons_succ]
  refine wpAnyH_take (i := 10) (oi := { dst := some 2, op := Op.assign (Operand.tmp 12), type := 4, pos := "bracket.go:56", after := #[{ on := 9, ground := Ground.data }, { on := 9, ground := Ground.chain }, { on := 0, ground := Ground.phase }, { on := 1, ground := Ground.phase }, { on := 2, ground := Ground.phase }, { on := 3, ground := Ground.phase }, { on := 4, ground := Ground.phase }, { on := 5, ground := Ground.phase }, { on := 6, ground := Ground.phase }, { on := 7, ground := Ground.phase }, { on := 8, ground := Ground.phase }, { on := 9, ground := Ground.phase }], guard := none }) (v := ?v10b10) rfl (by kernel_rfl) (by kernel_rfl) (by kernel_rfl) (fun _ _ _ h => h) (Or.inl ⟨by rfl, ?hy10b10⟩) hH ?r10b10
  case hy10b10 => (intro W hSw; (try dsimp only at hSw); go_simp; try (with_reducible rfl))
  try simp only [Act.put, List.setIfInBounds_toArray, List.set_cons_zero, List.set_cons_succ]
  refine wpAnyH_done (by kernel_rfl) ?_ _
  refine NoPanic.normal ?_
  go_wp2_with fail
  go_ret
  exact ⟨rfl, KQ⟩

/-- A dash with a byte of the bracket behind it. -/
def dash (s : ByteArray) (i : Nat) : Bool := decide (i + 2 ≤ s.size) && (ch s i == 45) && !(ch s (i + 1) == 93)
/-- Behind it, if it is there. -/
def dashTo (s : ByteArray) (i : Nat) : Nat := if dash s i then i + 1 else i
theorem ch_ext (s : ByteArray) (i j : Nat) (h : i + j < s.size) : ch (s.extract i s.size) j = ch s (i + j) := by
  have z : s.data.size = s.size := rfl
  have e : (s.extract i s.size).data[j]? = s.data[i + j]? := by
    rw [ByteArray.data_extract, Array.getElem?_extract, if_pos (by omega)]
  unfold ch
  rw [e]
theorem ext_size (s : ByteArray) (i : Nat) (h : i ≤ s.size) : (s.extract i s.size).size = s.size - i := by
  rw [ByteArray.size_extract]; omega

set_option maxRecDepth 100000 in
theorem takesDash_any (s : ByteArray) (ere : Bool) (i n g d P : Nat) (w : World) (h : Rd w P s ere i n g d) (hi : i ≤ s.size) (hs : s.size ≤ 1000000) :
    Calls Tryz.prog 112 #[.pointer (some ⟨P, 0, none⟩)] w fun e w' => e = .returned (.bool (dash s i)) ∧ Rd w' P s ere (dashTo s i) n g d ∧ Ks P w w' := by
  have R : Hid (Rd w P s ere i n g d) := h
  have hP : P < w.heap.size := h.lt
  clear h
  have es : ∀ w, (Instr.slice 9 (.string s) (some (.int .i64 (i : Int))) none none).run Tryz.prog w = .ok (.string (s.extract i s.size)) w := fun w => run_from s i hi w
  have ez := ext_size s i hi
  have e0 : i + 2 ≤ s.size → ∀ w, (Instr.index 9 (.string (s.extract i s.size)) (.int .i64 0)).run Tryz.prog w = .ok (.int .u8 (ch s i : Nat)) w := fun h w => by
    have := run_ch (s.extract i s.size) 0 (by omega) w; rw [ch_ext s i 0 (by omega)] at this; exact this
  have e1 : i + 2 ≤ s.size → ∀ w, (Instr.index 9 (.string (s.extract i s.size)) (.int .i64 1)).run Tryz.prog w = .ok (.int .u8 (ch s (i + 1) : Nat)) w := fun h w => by
    have := run_ch (s.extract i s.size) 1 (by omega) w; rw [ch_ext s i 1 (by omega)] at this; exact this
  obtain ⟨t, ht⟩ : ∃ t, s.extract i s.size = t := ⟨_, rfl⟩
  rw [ht] at es ez e0 e1
  clear ht
  obtain ⟨b0, hb0⟩ : ∃ b, ch s i = b := ⟨_, rfl⟩
  obtain ⟨b1, hb1⟩ : ∃ b, ch s (i + 1) = b := ⟨_, rfl⟩
  have HD : Hid (dash s i = (decide (i + 2 ≤ s.size) && (b0 == 45) && !(b1 == 93))) := by show _ = _; unfold dash; rw [hb0, hb1]
  rw [hb0] at e0
  rw [hb1] at e1
  clear hb0 hb1
  obtain ⟨z, hz⟩ : ∃ z, t.size = z := ⟨_, rfl⟩
  rw [hz] at ez
  have EZ : Hid (z = s.size - i) := ez
  clear ez
  go_enter Tryz.func112, Tryz.ntmps112
  go_wp2_with fail
  go_cut [3] (fun v wc => v = .string t ∧ Kp w wc)
  case first =>
    have Q0 : Kp w w.drew := (Kp.refl _).drew
    have MK : Hid (∀ W, Kp w W → W.cell? ⟨P, 0, none⟩ = some (.string s) ∧ W.cell? ⟨P, 2, none⟩ = some (.int .i64 (i : Int)) ∧ Hid (Kp w W)) := fun W k => ⟨(R.out.kp k).cells.1, (R.out.kp k).cells.2.2.1, k⟩
    refine wp_region_noPanic ?_
    refine wp_region_held_drew (S := (fun W => W.cell? ⟨P, 0, none⟩ = some (.string s) ∧ W.cell? ⟨P, 2, none⟩ = some (.int .i64 (i : Int)) ∧ Hid (Kp w W))) (by kernel_rfl) ?_ (fun hH => ?_)
    · exact MK.out _ Q0
    have KQ := Q0
    refine wpAnyH_take (i := 0) (oi := { dst := some 4, op := Op.move (Operand.tmp 0), type := 77, pos := "bracket.go:70", after := #[], guard := none }) (v := ?v0c1) rfl (by kernel_rfl) (by kernel_rfl) (by kernel_rfl) (fun _ _ _ h => h) (Or.inl ⟨by rfl, ?hy0c1⟩) hH ?r0c1
    case hy0c1 => (intro W hSw; (try dsimp only at hSw); go_simp; try (with_reducible rfl))
    try simp only [Act.put, List.setIfInBounds_toArray, List.set_cons_zero, List.set_cons_succ]
    refine wpAnyH_take (i := 1) (oi := { dst := some 5, op := Op.nilCheck (Operand.tmp 4), type := 0, pos := "bracket.go:70", after := #[{ on := 0, ground := Ground.data }], guard := none }) (v := ?v1c2) rfl (by kernel_rfl) (by kernel_rfl) (by kernel_rfl) (fun _ _ _ h => h) (Or.inl ⟨by rfl, ?hy1c2⟩) hH ?r1c2
    case hy1c2 => (intro W hSw; (try dsimp only at hSw); go_simp; try (with_reducible rfl))
    try simp only [Act.put, List.setIfInBounds_toArray, List.set_cons_zero, List.set_cons_succ]
    refine wpAnyH_take (i := 2) (oi := { dst := some 6, op := Op.fieldAddr 55 (Operand.tmp 5) 0, type := 0, pos := "bracket.go:70", after := #[{ on := 1, ground := Ground.data }], guard := none }) (v := ?v2c3) rfl (by kernel_rfl) (by kernel_rfl) (by kernel_rfl) (fun _ _ _ h => h) (Or.inl ⟨by rfl, ?hy2c3⟩) hH ?r2c3
    case hy2c3 => (intro W hSw; (try dsimp only at hSw); go_simp; try (with_reducible rfl))
    try simp only [Act.put, List.setIfInBounds_toArray, List.set_cons_zero, List.set_cons_succ]
    refine wpAnyH_take (i := 3) (oi := { dst := some 7, op := Op.load 9 (Operand.tmp 6), type := 9, pos := "bracket.go:70", after := #[{ on := 2, ground := Ground.data }], guard := none }) (v := ?v3c4) rfl (by kernel_rfl) (by kernel_rfl) (by kernel_rfl) (fun _ _ _ h => h) (Or.inl ⟨by rfl, ?hy3c4⟩) hH ?r3c4
    case hy3c4 => (intro W hSw; (try dsimp only at hSw); go_simp; try (with_reducible rfl))
    try simp only [Act.put, List.setIfInBounds_toArray, List.set_cons_zero, List.set_cons_succ]
    refine wpAnyH_take (i := 4) (oi := { dst := some 8, op := Op.move (Operand.tmp 0), type := 77, pos := "bracket.go:70", after := #[], guard := none }) (v := ?v4c5) rfl (by kernel_rfl) (by kernel_rfl) (by kernel_rfl) (fun _ _ _ h => h) (Or.inl ⟨by rfl, ?hy4c5⟩) hH ?r4c5
    case hy4c5 => (intro W hSw; (try dsimp only at hSw); go_simp; try (with_reducible rfl))
    try simp only [Act.put, List.setIfInBounds_toArray, List.set_cons_zero, List.set_cons_succ]
    refine wpAnyH_take (i := 5) (oi := { dst := some 9, op := Op.nilCheck (Operand.tmp 8), type := 0, pos := "bracket.go:70", after := #[{ on := 4, ground := Ground.data }], guard := none }) (v := ?v5c6) rfl (by kernel_rfl) (by kernel_rfl) (by kernel_rfl) (fun _ _ _ h => h) (Or.inl ⟨by rfl, ?hy5c6⟩) hH ?r5c6
    case hy5c6 => (intro W hSw; (try dsimp only at hSw); go_simp; try (with_reducible rfl))
    try simp only [Act.put, List.setIfInBounds_toArray, List.set_cons_zero, List.set_cons_succ]
    refine wpAnyH_take (i := 6) (oi := { dst := some 10, op := Op.fieldAddr 55 (Operand.tmp 9) 2, type := 0, pos := "bracket.go:70", after := #[{ on := 5, ground := Ground.data }], guard := none }) (v := ?v6c7) rfl (by kernel_rfl) (by kernel_rfl) (by kernel_rfl) (fun _ _ _ h => h) (Or.inl ⟨by rfl, ?hy6c7⟩) hH ?r6c7
    case hy6c7 => (intro W hSw; (try dsimp only at hSw); go_simp; try (with_reducible rfl))
    try simp only [Act.put, List.setIfInBounds_toArray, List.set_cons_zero, List.set_cons_succ]
    refine wpAnyH_take (i := 7) (oi := { dst := some 11, op := Op.load 3 (Operand.tmp 10), type := 3, pos := "bracket.go:70", after := #[{ on := 6, ground := Ground.data }], guard := none }) (v := ?v7c8) rfl (by kernel_rfl) (by kernel_rfl) (by kernel_rfl) (fun _ _ _ h => h) (Or.inl ⟨by rfl, ?hy7c8⟩) hH ?r7c8
    case hy7c8 => (intro W hSw; (try dsimp only at hSw); go_simp; try (with_reducible rfl))
    try simp only [Act.put, List.setIfInBounds_toArray, List.set_cons_zero, List.set_cons_succ]
    refine wpAnyH_take (i := 8) (oi := { dst := some 12, op := Op.slice 9 (Operand.tmp 7) (some (Operand.tmp 11)) none none, type := 9, pos := "bracket.go:70", after := #[{ on := 3, ground := Ground.data }, { on := 7, ground := Ground.data }], guard := none }) (v := ?v8c9) rfl (by kernel_rfl) (by kernel_rfl) (by kernel_rfl) (fun _ _ _ h => h) (Or.inl ⟨by rfl, ?hy8c9⟩) hH ?r8c9
    case hy8c9 => (intro W hSw; (try dsimp only at hSw); go_simp; try (with_reducible rfl))
    try simp only [Act.put, List.setIfInBounds_toArray, List.set_cons_zero, List.set_cons_succ]
    refine wpAnyH_take (i := 9) (oi := { dst := some 3, op := Op.assign (Operand.tmp 12), type := 9, pos := "bracket.go:70", after := #[{ on := 8, ground := Ground.data }, { on := 0, ground := Ground.phase }, { on := 1, ground := Ground.phase }, { on := 2, ground := Ground.phase }, { on := 3, ground := Ground.phase }, { on := 4, ground := Ground.phase }, { on := 5, ground := Ground.phase }, { on := 6, ground := Ground.phase }, { on := 7, ground := Ground.phase }, { on := 8, ground := Ground.phase }], guard := none }) (v := ?v9c10) rfl (by kernel_rfl) (by kernel_rfl) (by kernel_rfl) (fun _ _ _ h => h) (Or.inl ⟨by rfl, ?hy9c10⟩) hH ?r9c10
    case hy9c10 => (intro W hSw; (try dsimp only at hSw); go_simp; try (with_reducible rfl))
    try simp only [Act.put, List.setIfInBounds_toArray, List.set_cons_zero, List.set_cons_succ]
    refine wpAnyH_done (by kernel_rfl) ?_ _
    refine NoPanic.normal ?_
    go_wp2_with fail
    go_meet
    case rel => exact ⟨rfl, KQ⟩
  case rest =>
    obtain ⟨rfl, k1⟩ := hcut
    rename World => w1
    have R1 : Hid (Rd w1 P s ere i n g d ∧ Kp w w1) := ⟨R.out.kp k1, k1⟩
    clear k1 R es
    by_cases h2 : i + 2 ≤ s.size
    · have x0 := e0 h2
      have x1 := e1 h2
      clear e0 e1
      have gz : ¬ (z : Int) < 2 := by have := EZ.out; omega
      by_cases h45 : b0 = 45
      · subst h45
        rw [show ((45 : Nat) : Int) = 45 from rfl] at x0
        by_cases h93 : b1 = 93
        · subst h93
          rw [show ((93 : Nat) : Int) = 93 from rfl] at x1
          have E : Hid (dash s i = false) := by show _ = _; rw [HD.out]; simp
          go_wp2_with fail
          go_ret
          exact ⟨by rw [E.out]; rfl, by unfold dashTo; rw [E.out]; exact R1.out.1, R1.out.2.ks (Nat.le_of_lt hP)⟩
        · have g93 : ((b1 : Int) == 93) = false := by simp; omega
          have g93' : ¬ (b1 : Int) = 93 := by omega
          have E : Hid (dash s i = true) := by show _ = _; rw [HD.out, decide_eq_true h2]; simp [h93]
          have p2 := R1.out.1.cells.2.2.1
          have fp2 := bl_frozen R1.out.1.b 2
          have gw : IntKind.i64.wrap ((i : Int) + 1) = (i : Int) + 1 := by rw [IntKind.wrap_i64]; omega
          go_wp2_with fail
          go_ret
          exact ⟨by rw [E.out]; rfl, by unfold dashTo; rw [E.out]; exact R1.out.1.at (i + 1), (R1.out.2.ks (Nat.le_of_lt hP)).set 2 _⟩
      · have g45 : ((b0 : Int) != 45) = true := by simp; omega
        have g45' : ¬ (b0 : Int) = 45 := by omega
        have E : Hid (dash s i = false) := by show _ = _; rw [HD.out]; simp [h45]
        go_wp2_with fail
        go_ret
        exact ⟨by rw [E.out]; rfl, by unfold dashTo; rw [E.out]; exact R1.out.1, R1.out.2.ks (Nat.le_of_lt hP)⟩
    · have gz : (z : Int) < 2 := by have := EZ.out; omega
      have E : Hid (dash s i = false) := by show _ = _; rw [HD.out, decide_eq_false h2]; simp
      clear e0 e1
      go_wp2_with fail
      go_ret
      exact ⟨by rw [E.out]; rfl, by unfold dashTo; rw [E.out]; exact R1.out.1, R1.out.2.ks (Nat.le_of_lt hP)⟩
end Go.Proofs.YtikmgckefbjbkaaGreatDoor
