/-
  Texts of this claim: Read1, Bytes, Class, Without.
-/
import Derived.Test.YtigdmebijbaofaaGreatDoorReadDM4
import Derived.Test.YtigdmebijbaofaaGreatDoorReadDM1
import Derived.Test.YtigdmebijbaofaaGreatDoorReadDM2
import Derived.Maps.AppendAt
import Derived.Laws.OwnMore
/-! ### Read1 -/
namespace Go.Proofs.YtigdmebijbaofaaGreatDoor
open Go.RowKit
theorem run_from (s : ByteArray) (i : Nat) (hi : i ≤ s.size) (w : World) : (Instr.slice 9 (.string s) (some (.int .i64 (i : Int))) none none).run Tryz.prog w = .ok (.string (s.extract i s.size)) w := by
 rw [run_slice_string_from_if w 9 s .i64 (i : Int) (by kernel_rfl), if_pos ⟨by omega, by omega⟩, Int.toNat_natCast]
def pfx (s : ByteArray) (i : Nat) (l : List UInt8) : Bool := l.isPrefixOf (s.data.toList.drop i)
theorem pfx_lib (s p : ByteArray) (i : Nat) : Lib.hasPrefix (s.extract i s.size).data.toList p.data.toList = pfx s i p.data.toList := by
 rw [Lib.extract_to_end]; rfl
theorem pfx_le {s : ByteArray} {i : Nat} {l : List UInt8} (h : pfx s i l = true) (hi : i ≤ s.size) : i + l.length ≤ s.size := by
 have := (List.isPrefixOf_iff_prefix.1 h).length_le
 rw [List.length_drop, show s.data.toList.length = s.size from Array.length_toList] at this
 omega
set_option maxRecDepth 100000 in
theorem takes_any (p : ByteArray) (s : ByteArray) (ere : Bool) (i n g d P : Nat) (w : World) (h : Rd w P s ere i n g d) (hi : i ≤ s.size) (hs : s.size ≤ 1000000) :
  Calls Tryz.prog 248 #[.pointer (some ⟨P, 0, none⟩), .string p] w fun e w' => e = .returned (.bool (pfx s i p.data.toList)) ∧ Rd w' P s ere (if pfx s i p.data.toList then i + p.size else i) n g d ∧ Ks P w w' := by
 have R : Hid (Rd w P s ere i n g d) := h
 have hP : P < w.heap.size := h.lt
 have hle : pfx s i p.data.toList = true → i + p.size ≤ s.size := fun hp => by have := pfx_le hp hi; rw [Array.length_toList] at this; exact this
 obtain ⟨q, hq⟩ : ∃ q, pfx s i p.data.toList = q := ⟨_, rfl⟩
 have HQ : Hid (pfx s i p.data.toList = q) := hq
 rw [hq] at hle ⊢
 clear h hq
 have es : ∀ w, (Instr.slice 9 (.string s) (some (.int .i64 (i : Int))) none none).run Tryz.prog w = .ok (.string (s.extract i s.size)) w := fun w => run_from s i hi w
 go_enter Tryz.func248, Tryz.ntmps248
 go_wp2_with fail
 go_cut [16] (fun v wc => v = .bool (!q) ∧ Kp w wc)
 case first =>
  have Q0 : Kp w w.drew := (Kp.refl _).drew
  have MK : Hid (∀ W, Kp w W → W.cell? ⟨P, 0, none⟩ = some (.string s) ∧ W.cell? ⟨P, 2, none⟩ = some (.int .i64 (i : Int)) ∧ Hid (Kp w W)) := fun W k => ⟨(R.out.kp k).cells.1, (R.out.kp k).cells.2.2.1, k⟩
  refine wp_region_noPanic ?_
  refine wp_region_held_drew (S := (fun W => W.cell? ⟨P, 0, none⟩ = some (.string s) ∧ W.cell? ⟨P, 2, none⟩ = some (.int .i64 (i : Int)) ∧ Hid (Kp w W))) (by kernel_rfl) ?_ (fun hH => ?_)
  ·
   exact MK.out _ Q0
  have KQ := Q0
  refine wpAnyH_take (i := 0) (oi := { dst := some 5, op := .move (.tmp 0), type := 142, pos := "parse.go:230", after := #[], guard := none }) (v := ?v0a1) rfl (by kernel_rfl) (by kernel_rfl) (by kernel_rfl) (fun _ _ _ h => h) (Or.inl ⟨by rfl, ?hy0a1⟩) hH ?r0a1
  case hy0a1 => (intro W hSw; (try dsimp only at hSw); go_simp; try (with_reducible rfl))
  try simp only [Act.put, List.setIfInBounds_toArray, List.set_cons_zero, List.set_cons_succ]
  refine wpAnyH_take (i := 1) (oi := { dst := some 6, op := .nilCheck (.tmp 5), type := 0, pos := "parse.go:230", after := #[{ on := 0, ground := Ground.data }], guard := none }) (v := ?v1a2) rfl (by kernel_rfl) (by kernel_rfl) (by kernel_rfl) (fun _ _ _ h => h) (Or.inl ⟨by rfl, ?hy1a2⟩) hH ?r1a2
  case hy1a2 => (intro W hSw; (try dsimp only at hSw); go_simp; try (with_reducible rfl))
  try simp only [Act.put, List.setIfInBounds_toArray, List.set_cons_zero, List.set_cons_succ]
  refine wpAnyH_take (i := 2) (oi := { dst := some 7, op := .fieldAddr 99 (.tmp 6) 0, type := 0, pos := "parse.go:230", after := #[{ on := 1, ground := Ground.data }], guard := none }) (v := ?v2a3) rfl (by kernel_rfl) (by kernel_rfl) (by kernel_rfl) (fun _ _ _ h => h) (Or.inl ⟨by rfl, ?hy2a3⟩) hH ?r2a3
  case hy2a3 => (intro W hSw; (try dsimp only at hSw); go_simp; try (with_reducible rfl))
  try simp only [Act.put, List.setIfInBounds_toArray, List.set_cons_zero, List.set_cons_succ]
  refine wpAnyH_take (i := 3) (oi := { dst := some 8, op := .load 9 (.tmp 7), type := 9, pos := "parse.go:230", after := #[{ on := 2, ground := Ground.data }], guard := none }) (v := ?v3a4) rfl (by kernel_rfl) (by kernel_rfl) (by kernel_rfl) (fun _ _ _ h => h) (Or.inl ⟨by rfl, ?hy3a4⟩) hH ?r3a4
  case hy3a4 => (intro W hSw; (try dsimp only at hSw); go_simp; try (with_reducible rfl))
  try simp only [Act.put, List.setIfInBounds_toArray, List.set_cons_zero, List.set_cons_succ]
  refine wpAnyH_take (i := 4) (oi := { dst := some 9, op := .move (.tmp 0), type := 142, pos := "parse.go:230", after := #[], guard := none }) (v := ?v4a5) rfl (by kernel_rfl) (by kernel_rfl) (by kernel_rfl) (fun _ _ _ h => h) (Or.inl ⟨by rfl, ?hy4a5⟩) hH ?r4a5
  case hy4a5 => (intro W hSw; (try dsimp only at hSw); go_simp; try (with_reducible rfl))
  try simp only [Act.put, List.setIfInBounds_toArray, List.set_cons_zero, List.set_cons_succ]
  refine wpAnyH_take (i := 5) (oi := { dst := some 10, op := .nilCheck (.tmp 9), type := 0, pos := "parse.go:230", after := #[{ on := 4, ground := Ground.data }], guard := none }) (v := ?v5a6) rfl (by kernel_rfl) (by kernel_rfl) (by kernel_rfl) (fun _ _ _ h => h) (Or.inl ⟨by rfl, ?hy5a6⟩) hH ?r5a6
  case hy5a6 => (intro W hSw; (try dsimp only at hSw); go_simp; try (with_reducible rfl))
  try simp only [Act.put, List.setIfInBounds_toArray, List.set_cons_zero, List.set_cons_succ]
  refine wpAnyH_take (i := 6) (oi := { dst := some 11, op := .fieldAddr 99 (.tmp 10) 2, type := 0, pos := "parse.go:230", after := #[{ on := 5, ground := Ground.data }], guard := none }) (v := ?v6a7) rfl (by kernel_rfl) (by kernel_rfl) (by kernel_rfl) (fun _ _ _ h => h) (Or.inl ⟨by rfl, ?hy6a7⟩) hH ?r6a7
  case hy6a7 => (intro W hSw; (try dsimp only at hSw); go_simp; try (with_reducible rfl))
  try simp only [Act.put, List.setIfInBounds_toArray, List.set_cons_zero, List.set_cons_succ]
  refine wpAnyH_take (i := 7) (oi := { dst := some 12, op := .load 3 (.tmp 11), type := 3, pos := "parse.go:230", after := #[{ on := 6, ground := Ground.data }], guard := none }) (v := ?v7a8) rfl (by kernel_rfl) (by kernel_rfl) (by kernel_rfl) (fun _ _ _ h => h) (Or.inl ⟨by rfl, ?hy7a8⟩) hH ?r7a8
  case hy7a8 => (intro W hSw; (try dsimp only at hSw); go_simp; try (with_reducible rfl))
  try simp only [Act.put, List.setIfInBounds_toArray, List.set_cons_zero, List.set_cons_succ]
  refine wpAnyH_take (i := 8) (oi := { dst := some 13, op := .slice 9 (.tmp 8) (some (.tmp 12)) none none, type := 9, pos := "parse.go:230", after := #[{ on := 3, ground := Ground.data }, { on := 7, ground := Ground.data }], guard := none }) (v := ?v8a9) rfl (by kernel_rfl) (by kernel_rfl) (by kernel_rfl) (fun _ _ _ h => h) (Or.inl ⟨by rfl, ?hy8a9⟩) hH ?r8a9
  case hy8a9 => (intro W hSw; (try dsimp only at hSw); go_simp; try (with_reducible rfl))
  try simp only [Act.put, List.setIfInBounds_toArray, List.set_cons_zero, List.set_cons_succ]
  refine wpAnyH_take (i := 9) (oi := { dst := some 14, op := .move (.tmp 1), type := 9, pos := "parse.go:230", after := #[], guard := none }) (v := ?v9a10) rfl (by kernel_rfl) (by kernel_rfl) (by kernel_rfl) (fun _ _ _ h => h) (Or.inl ⟨by rfl, ?hy9a10⟩) hH ?r9a10
  case hy9a10 => (intro W hSw; (try dsimp only at hSw); go_simp; try (with_reducible rfl))
  try simp only [Act.put, List.setIfInBounds_toArray, List.set_cons_zero, List.set_cons_succ]
  refine wpAnyH_ready (rs := [10]) (by kernel_rfl) (by simp) ?_
  refine AllReadyH.cons (o := { dst := some 15, op := .call { callee := .value (.func 256), args := #[.tmp 13, .tmp 14], argTypes := #[9, 9] }, type := 4, pos := "parse.go:230", after := #[{ on := 8, ground := Ground.data }, { on := 9, ground := Ground.data }], guard := none }) rfl (fun K hKq => ?_) AllReadyH.nil
  go_simp
  refine (Tryz.strings_HasPrefix (s.extract i s.size) p _).mono ?_
  rintro e yy ⟨rfl, rfl⟩
  rw [pfx_lib, HQ.out]
  refine hKq.out _ _ (MK.out _ KQ) (fun hN => ?_)
  clear hKq K hH KQ
  have hH := hN
  clear hN
  have KQ := hH.2.2.out
  try simp only [Act.put, List.setIfInBounds_toArray, List.set_cons_zero, List.set_cons_succ]
  refine wpAnyH_take (i := 11) (oi := { dst := some 16, op := .unOp .not 4 (.tmp 15), type := 4, pos := "parse.go:230", after := #[{ on := 10, ground := Ground.data }], guard := none }) (v := ?v11a11) rfl (by kernel_rfl) (by kernel_rfl) (by kernel_rfl) (fun _ _ _ h => h) (Or.inl ⟨by rfl, ?hy11a11⟩) hH ?r11a11
  case hy11a11 => (intro W hSw; (try dsimp only at hSw); go_simp; try (with_reducible rfl))
  try simp only [Act.put, List.setIfInBounds_toArray, List.set_cons_zero, List.set_cons_succ]
  refine wpAnyH_done (by kernel_rfl) ?_ _
  refine NoPanic.normal ?_
  go_wp2_with fail
  go_meet
  case rel => exact ⟨rfl, KQ⟩
 case rest =>
  obtain ⟨rfl, k1⟩ := hcut
  rename World => w1
  have R1 : Hid (Rd w1 P s ere i n g d ∧ Kp w w1) := ⟨R.out.kp k1, k1⟩
  clear k1 R
  cases q with
  | false =>
   go_wp2_with fail
   go_ret
   exact ⟨rfl, R1.out.1, R1.out.2.ks (Nat.le_of_lt hP)⟩
  | true =>
   have hle' := hle rfl
   have p2 := R1.out.1.cells.2.2.1
   have fp2 := bl_frozen R1.out.1.b 2
   have gw : IntKind.i64.wrap ((i : Int) + (p.size : Int)) = (i : Int) + (p.size : Int) := by rw [IntKind.wrap_i64]; omega
   go_wp2_with fail
   go_ret
   exact ⟨rfl, R1.out.1.at (i + p.size), (R1.out.2.ks (Nat.le_of_lt hP)).set 2 _⟩
set_option maxRecDepth 100000 in
theorem atClass_any (s : ByteArray) (ere : Bool) (i n g d P : Nat) (w : World) (h : Rd w P s ere i n g d) (hi : i ≤ s.size) :
  Calls Tryz.prog 257 #[.pointer (some ⟨P, 0, none⟩)] w fun e w' => e = .returned (.bool (pfx s i [91, 58])) ∧ Kp w w' := by
 have R : Hid (Rd w P s ere i n g d) := h
 obtain ⟨q, hq⟩ : ∃ q, pfx s i [91, 58] = q := ⟨_, rfl⟩
 have HQ : Hid (Lib.hasPrefix (s.extract i s.size).data.toList (⟨#[91, 58]⟩ : ByteArray).data.toList = q) := by show _ = _; rw [pfx_lib]; exact hq
 rw [hq]
 clear h hq
 have es : ∀ w, (Instr.slice 9 (.string s) (some (.int .i64 (i : Int))) none none).run Tryz.prog w = .ok (.string (s.extract i s.size)) w := fun w => run_from s i hi w
 go_enter Tryz.func257, Tryz.ntmps257
 go_wp2_with fail
 have Q0 : Kp w w.drew := (Kp.refl _).drew
 have MK : Hid (∀ W, Kp w W → W.cell? ⟨P, 0, none⟩ = some (.string s) ∧ W.cell? ⟨P, 2, none⟩ = some (.int .i64 (i : Int)) ∧ Hid (Kp w W)) := fun W k => ⟨(R.out.kp k).cells.1, (R.out.kp k).cells.2.2.1, k⟩
 refine wp_region_noPanic ?_
 refine wp_region_held_drew (S := (fun W => W.cell? ⟨P, 0, none⟩ = some (.string s) ∧ W.cell? ⟨P, 2, none⟩ = some (.int .i64 (i : Int)) ∧ Hid (Kp w W))) (by kernel_rfl) ?_ (fun hH => ?_)
 ·
  exact MK.out _ Q0
 have KQ := Q0
 refine wpAnyH_take (i := 0) (oi := { dst := some 3, op := .move (.tmp 0), type := 142, pos := "bracket.go:56", after := #[], guard := none }) (v := ?v0b1) rfl (by kernel_rfl) (by kernel_rfl) (by kernel_rfl) (fun _ _ _ h => h) (Or.inl ⟨by rfl, ?hy0b1⟩) hH ?r0b1
 case hy0b1 => (intro W hSw; (try dsimp only at hSw); go_simp; try (with_reducible rfl))
 try simp only [Act.put, List.setIfInBounds_toArray, List.set_cons_zero, List.set_cons_succ]
 refine wpAnyH_take (i := 1) (oi := { dst := some 4, op := .nilCheck (.tmp 3), type := 0, pos := "bracket.go:56", after := #[{ on := 0, ground := Ground.data }], guard := none }) (v := ?v1b2) rfl (by kernel_rfl) (by kernel_rfl) (by kernel_rfl) (fun _ _ _ h => h) (Or.inl ⟨by rfl, ?hy1b2⟩) hH ?r1b2
 case hy1b2 => (intro W hSw; (try dsimp only at hSw); go_simp; try (with_reducible rfl))
 try simp only [Act.put, List.setIfInBounds_toArray, List.set_cons_zero, List.set_cons_succ]
 refine wpAnyH_take (i := 2) (oi := { dst := some 5, op := .fieldAddr 99 (.tmp 4) 0, type := 0, pos := "bracket.go:56", after := #[{ on := 1, ground := Ground.data }], guard := none }) (v := ?v2b3) rfl (by kernel_rfl) (by kernel_rfl) (by kernel_rfl) (fun _ _ _ h => h) (Or.inl ⟨by rfl, ?hy2b3⟩) hH ?r2b3
 case hy2b3 => (intro W hSw; (try dsimp only at hSw); go_simp; try (with_reducible rfl))
 try simp only [Act.put, List.setIfInBounds_toArray, List.set_cons_zero, List.set_cons_succ]
 refine wpAnyH_take (i := 3) (oi := { dst := some 6, op := .load 9 (.tmp 5), type := 9, pos := "bracket.go:56", after := #[{ on := 2, ground := Ground.data }], guard := none }) (v := ?v3b4) rfl (by kernel_rfl) (by kernel_rfl) (by kernel_rfl) (fun _ _ _ h => h) (Or.inl ⟨by rfl, ?hy3b4⟩) hH ?r3b4
 case hy3b4 => (intro W hSw; (try dsimp only at hSw); go_simp; try (with_reducible rfl))
 try simp only [Act.put, List.setIfInBounds_toArray, List.set_cons_zero, List.set_cons_succ]
 refine wpAnyH_take (i := 4) (oi := { dst := some 7, op := .move (.tmp 0), type := 142, pos := "bracket.go:56", after := #[], guard := none }) (v := ?v4b5) rfl (by kernel_rfl) (by kernel_rfl) (by kernel_rfl) (fun _ _ _ h => h) (Or.inl ⟨by rfl, ?hy4b5⟩) hH ?r4b5
 case hy4b5 => (intro W hSw; (try dsimp only at hSw); go_simp; try (with_reducible rfl))
 try simp only [Act.put, List.setIfInBounds_toArray, List.set_cons_zero, List.set_cons_succ]
 refine wpAnyH_take (i := 5) (oi := { dst := some 8, op := .nilCheck (.tmp 7), type := 0, pos := "bracket.go:56", after := #[{ on := 4, ground := Ground.data }], guard := none }) (v := ?v5b6) rfl (by kernel_rfl) (by kernel_rfl) (by kernel_rfl) (fun _ _ _ h => h) (Or.inl ⟨by rfl, ?hy5b6⟩) hH ?r5b6
 case hy5b6 => (intro W hSw; (try dsimp only at hSw); go_simp; try (with_reducible rfl))
 try simp only [Act.put, List.setIfInBounds_toArray, List.set_cons_zero, List.set_cons_succ]
 refine wpAnyH_take (i := 6) (oi := { dst := some 9, op := .fieldAddr 99 (.tmp 8) 2, type := 0, pos := "bracket.go:56", after := #[{ on := 5, ground := Ground.data }], guard := none }) (v := ?v6b7) rfl (by kernel_rfl) (by kernel_rfl) (by kernel_rfl) (fun _ _ _ h => h) (Or.inl ⟨by rfl, ?hy6b7⟩) hH ?r6b7
 case hy6b7 => (intro W hSw; (try dsimp only at hSw); go_simp; try (with_reducible rfl))
 try simp only [Act.put, List.setIfInBounds_toArray, List.set_cons_zero, List.set_cons_succ]
 refine wpAnyH_take (i := 7) (oi := { dst := some 10, op := .load 3 (.tmp 9), type := 3, pos := "bracket.go:56", after := #[{ on := 6, ground := Ground.data }], guard := none }) (v := ?v7b8) rfl (by kernel_rfl) (by kernel_rfl) (by kernel_rfl) (fun _ _ _ h => h) (Or.inl ⟨by rfl, ?hy7b8⟩) hH ?r7b8
 case hy7b8 => (intro W hSw; (try dsimp only at hSw); go_simp; try (with_reducible rfl))
 try simp only [Act.put, List.setIfInBounds_toArray, List.set_cons_zero, List.set_cons_succ]
 refine wpAnyH_take (i := 8) (oi := { dst := some 11, op := .slice 9 (.tmp 6) (some (.tmp 10)) none none, type := 9, pos := "bracket.go:56", after := #[{ on := 3, ground := Ground.data }, { on := 7, ground := Ground.data }], guard := none }) (v := ?v8b9) rfl (by kernel_rfl) (by kernel_rfl) (by kernel_rfl) (fun _ _ _ h => h) (Or.inl ⟨by rfl, ?hy8b9⟩) hH ?r8b9
 case hy8b9 => (intro W hSw; (try dsimp only at hSw); go_simp; try (with_reducible rfl))
 try simp only [Act.put, List.setIfInBounds_toArray, List.set_cons_zero, List.set_cons_succ]
 refine wpAnyH_ready (rs := [9]) (by kernel_rfl) (by simp) ?_
 refine AllReadyH.cons (o := { dst := some 12, op := .call { callee := .value (.func 256), args := #[.tmp 11, .const (.string { data := #[91, 58] })], argTypes := #[9, 9] }, type := 4, pos := "bracket.go:56", after := #[{ on := 8, ground := Ground.data }], guard := none }) rfl (fun K hKq => ?_) AllReadyH.nil
 go_simp
 refine (Tryz.strings_HasPrefix (s.extract i s.size) ⟨#[91, 58]⟩ _).mono ?_
 rintro e yy ⟨rfl, rfl⟩
 rw [HQ.out]
 refine hKq.out _ _ (MK.out _ KQ) (fun hN => ?_)
 clear hKq K hH KQ
 have hH := hN
 clear hN
 have KQ := hH.2.2.out
 try simp only [Act.put, List.setIfInBounds_toArray, List.set_cons_zero, List.set_cons_succ]
 refine wpAnyH_take (i := 10) (oi := { dst := some 2, op := .assign (.tmp 12), type := 4, pos := "bracket.go:56", after := #[{ on := 9, ground := Ground.data }, { on := 9, ground := Ground.chain }, { on := 0, ground := Ground.phase }, { on := 1, ground := Ground.phase }, { on := 2, ground := Ground.phase }, { on := 3, ground := Ground.phase }, { on := 4, ground := Ground.phase }, { on := 5, ground := Ground.phase }, { on := 6, ground := Ground.phase }, { on := 7, ground := Ground.phase }, { on := 8, ground := Ground.phase }, { on := 9, ground := Ground.phase }], guard := none }) (v := ?v10b10) rfl (by kernel_rfl) (by kernel_rfl) (by kernel_rfl) (fun _ _ _ h => h) (Or.inl ⟨by rfl, ?hy10b10⟩) hH ?r10b10
 case hy10b10 => (intro W hSw; (try dsimp only at hSw); go_simp; try (with_reducible rfl))
 try simp only [Act.put, List.setIfInBounds_toArray, List.set_cons_zero, List.set_cons_succ]
 refine wpAnyH_done (by kernel_rfl) ?_ _
 refine NoPanic.normal ?_
 go_wp2_with fail
 go_ret
 exact ⟨rfl, KQ⟩
def dash (s : ByteArray) (i : Nat) : Bool := decide (i + 2 ≤ s.size) && (ch s i == 45) && !(ch s (i + 1) == 93)
def dashTo (s : ByteArray) (i : Nat) : Nat := if dash s i then i + 1 else i
theorem ch_ext (s : ByteArray) (i j : Nat) (h : i + j < s.size) : ch (s.extract i s.size) j = ch s (i + j) := by
 have z : s.data.size = s.size := rfl
 have e : (s.extract i s.size).data[j]? = s.data[i + j]? := by
  rw [ByteArray.data_extract, Array.getElem?_extract, if_pos (by omega)]
 unfold ch
 rw [e]
theorem ext_size (s : ByteArray) (i : Nat) (h : i ≤ s.size) : (s.extract i s.size).size = s.size - i := by
 rw [ByteArray.size_extract]; omega
set_option maxRecDepth 100000 in
theorem takesDash_any (s : ByteArray) (ere : Bool) (i n g d P : Nat) (w : World) (h : Rd w P s ere i n g d) (hi : i ≤ s.size) (hs : s.size ≤ 1000000) :
  Calls Tryz.prog 259 #[.pointer (some ⟨P, 0, none⟩)] w fun e w' => e = .returned (.bool (dash s i)) ∧ Rd w' P s ere (dashTo s i) n g d ∧ Ks P w w' := by
 have R : Hid (Rd w P s ere i n g d) := h
 have hP : P < w.heap.size := h.lt
 clear h
 have es : ∀ w, (Instr.slice 9 (.string s) (some (.int .i64 (i : Int))) none none).run Tryz.prog w = .ok (.string (s.extract i s.size)) w := fun w => run_from s i hi w
 have ez := ext_size s i hi
 have e0 : i + 2 ≤ s.size → ∀ w, (Instr.index 9 (.string (s.extract i s.size)) (.int .i64 0)).run Tryz.prog w = .ok (.int .u8 (ch s i : Nat)) w := fun h w => by
  have := run_ch (s.extract i s.size) 0 (by omega) w; rw [ch_ext s i 0 (by omega)] at this; exact this
 have e1 : i + 2 ≤ s.size → ∀ w, (Instr.index 9 (.string (s.extract i s.size)) (.int .i64 1)).run Tryz.prog w = .ok (.int .u8 (ch s (i + 1) : Nat)) w := fun h w => by
  have := run_ch (s.extract i s.size) 1 (by omega) w; rw [ch_ext s i 1 (by omega)] at this; exact this
 obtain ⟨t, ht⟩ : ∃ t, s.extract i s.size = t := ⟨_, rfl⟩
 rw [ht] at es ez e0 e1
 clear ht
 obtain ⟨b0, hb0⟩ : ∃ b, ch s i = b := ⟨_, rfl⟩
 obtain ⟨b1, hb1⟩ : ∃ b, ch s (i + 1) = b := ⟨_, rfl⟩
 have HD : Hid (dash s i = (decide (i + 2 ≤ s.size) && (b0 == 45) && !(b1 == 93))) := by show _ = _; unfold dash; rw [hb0, hb1]
 rw [hb0] at e0
 rw [hb1] at e1
 clear hb0 hb1
 obtain ⟨z, hz⟩ : ∃ z, t.size = z := ⟨_, rfl⟩
 rw [hz] at ez
 have EZ : Hid (z = s.size - i) := ez
 clear ez
 go_enter Tryz.func259, Tryz.ntmps259
 go_wp2_with fail
 go_cut [3] (fun v wc => v = .string t ∧ Kp w wc)
 case first =>
  have Q0 : Kp w w.drew := (Kp.refl _).drew
  have MK : Hid (∀ W, Kp w W → W.cell? ⟨P, 0, none⟩ = some (.string s) ∧ W.cell? ⟨P, 2, none⟩ = some (.int .i64 (i : Int)) ∧ Hid (Kp w W)) := fun W k => ⟨(R.out.kp k).cells.1, (R.out.kp k).cells.2.2.1, k⟩
  refine wp_region_noPanic ?_
  refine wp_region_held_drew (S := (fun W => W.cell? ⟨P, 0, none⟩ = some (.string s) ∧ W.cell? ⟨P, 2, none⟩ = some (.int .i64 (i : Int)) ∧ Hid (Kp w W))) (by kernel_rfl) ?_ (fun hH => ?_)
  ·
   exact MK.out _ Q0
  have KQ := Q0
  refine wpAnyH_take (i := 0) (oi := { dst := some 4, op := .move (.tmp 0), type := 142, pos := "bracket.go:70", after := #[], guard := none }) (v := ?v0c1) rfl (by kernel_rfl) (by kernel_rfl) (by kernel_rfl) (fun _ _ _ h => h) (Or.inl ⟨by rfl, ?hy0c1⟩) hH ?r0c1
  case hy0c1 => (intro W hSw; (try dsimp only at hSw); go_simp; try (with_reducible rfl))
  try simp only [Act.put, List.setIfInBounds_toArray, List.set_cons_zero, List.set_cons_succ]
  refine wpAnyH_take (i := 1) (oi := { dst := some 5, op := .nilCheck (.tmp 4), type := 0, pos := "bracket.go:70", after := #[{ on := 0, ground := Ground.data }], guard := none }) (v := ?v1c2) rfl (by kernel_rfl) (by kernel_rfl) (by kernel_rfl) (fun _ _ _ h => h) (Or.inl ⟨by rfl, ?hy1c2⟩) hH ?r1c2
  case hy1c2 => (intro W hSw; (try dsimp only at hSw); go_simp; try (with_reducible rfl))
  try simp only [Act.put, List.setIfInBounds_toArray, List.set_cons_zero, List.set_cons_succ]
  refine wpAnyH_take (i := 2) (oi := { dst := some 6, op := .fieldAddr 99 (.tmp 5) 0, type := 0, pos := "bracket.go:70", after := #[{ on := 1, ground := Ground.data }], guard := none }) (v := ?v2c3) rfl (by kernel_rfl) (by kernel_rfl) (by kernel_rfl) (fun _ _ _ h => h) (Or.inl ⟨by rfl, ?hy2c3⟩) hH ?r2c3
  case hy2c3 => (intro W hSw; (try dsimp only at hSw); go_simp; try (with_reducible rfl))
  try simp only [Act.put, List.setIfInBounds_toArray, List.set_cons_zero, List.set_cons_succ]
  refine wpAnyH_take (i := 3) (oi := { dst := some 7, op := .load 9 (.tmp 6), type := 9, pos := "bracket.go:70", after := #[{ on := 2, ground := Ground.data }], guard := none }) (v := ?v3c4) rfl (by kernel_rfl) (by kernel_rfl) (by kernel_rfl) (fun _ _ _ h => h) (Or.inl ⟨by rfl, ?hy3c4⟩) hH ?r3c4
  case hy3c4 => (intro W hSw; (try dsimp only at hSw); go_simp; try (with_reducible rfl))
  try simp only [Act.put, List.setIfInBounds_toArray, List.set_cons_zero, List.set_cons_succ]
  refine wpAnyH_take (i := 4) (oi := { dst := some 8, op := .move (.tmp 0), type := 142, pos := "bracket.go:70", after := #[], guard := none }) (v := ?v4c5) rfl (by kernel_rfl) (by kernel_rfl) (by kernel_rfl) (fun _ _ _ h => h) (Or.inl ⟨by rfl, ?hy4c5⟩) hH ?r4c5
  case hy4c5 => (intro W hSw; (try dsimp only at hSw); go_simp; try (with_reducible rfl))
  try simp only [Act.put, List.setIfInBounds_toArray, List.set_cons_zero, List.set_cons_succ]
  refine wpAnyH_take (i := 5) (oi := { dst := some 9, op := .nilCheck (.tmp 8), type := 0, pos := "bracket.go:70", after := #[{ on := 4, ground := Ground.data }], guard := none }) (v := ?v5c6) rfl (by kernel_rfl) (by kernel_rfl) (by kernel_rfl) (fun _ _ _ h => h) (Or.inl ⟨by rfl, ?hy5c6⟩) hH ?r5c6
  case hy5c6 => (intro W hSw; (try dsimp only at hSw); go_simp; try (with_reducible rfl))
  try simp only [Act.put, List.setIfInBounds_toArray, List.set_cons_zero, List.set_cons_succ]
  refine wpAnyH_take (i := 6) (oi := { dst := some 10, op := .fieldAddr 99 (.tmp 9) 2, type := 0, pos := "bracket.go:70", after := #[{ on := 5, ground := Ground.data }], guard := none }) (v := ?v6c7) rfl (by kernel_rfl) (by kernel_rfl) (by kernel_rfl) (fun _ _ _ h => h) (Or.inl ⟨by rfl, ?hy6c7⟩) hH ?r6c7
  case hy6c7 => (intro W hSw; (try dsimp only at hSw); go_simp; try (with_reducible rfl))
  try simp only [Act.put, List.setIfInBounds_toArray, List.set_cons_zero, List.set_cons_succ]
  refine wpAnyH_take (i := 7) (oi := { dst := some 11, op := .load 3 (.tmp 10), type := 3, pos := "bracket.go:70", after := #[{ on := 6, ground := Ground.data }], guard := none }) (v := ?v7c8) rfl (by kernel_rfl) (by kernel_rfl) (by kernel_rfl) (fun _ _ _ h => h) (Or.inl ⟨by rfl, ?hy7c8⟩) hH ?r7c8
  case hy7c8 => (intro W hSw; (try dsimp only at hSw); go_simp; try (with_reducible rfl))
  try simp only [Act.put, List.setIfInBounds_toArray, List.set_cons_zero, List.set_cons_succ]
  refine wpAnyH_take (i := 8) (oi := { dst := some 12, op := .slice 9 (.tmp 7) (some (.tmp 11)) none none, type := 9, pos := "bracket.go:70", after := #[{ on := 3, ground := Ground.data }, { on := 7, ground := Ground.data }], guard := none }) (v := ?v8c9) rfl (by kernel_rfl) (by kernel_rfl) (by kernel_rfl) (fun _ _ _ h => h) (Or.inl ⟨by rfl, ?hy8c9⟩) hH ?r8c9
  case hy8c9 => (intro W hSw; (try dsimp only at hSw); go_simp; try (with_reducible rfl))
  try simp only [Act.put, List.setIfInBounds_toArray, List.set_cons_zero, List.set_cons_succ]
  refine wpAnyH_take (i := 9) (oi := { dst := some 3, op := .assign (.tmp 12), type := 9, pos := "bracket.go:70", after := #[{ on := 8, ground := Ground.data }, { on := 0, ground := Ground.phase }, { on := 1, ground := Ground.phase }, { on := 2, ground := Ground.phase }, { on := 3, ground := Ground.phase }, { on := 4, ground := Ground.phase }, { on := 5, ground := Ground.phase }, { on := 6, ground := Ground.phase }, { on := 7, ground := Ground.phase }, { on := 8, ground := Ground.phase }], guard := none }) (v := ?v9c10) rfl (by kernel_rfl) (by kernel_rfl) (by kernel_rfl) (fun _ _ _ h => h) (Or.inl ⟨by rfl, ?hy9c10⟩) hH ?r9c10
  case hy9c10 => (intro W hSw; (try dsimp only at hSw); go_simp; try (with_reducible rfl))
  try simp only [Act.put, List.setIfInBounds_toArray, List.set_cons_zero, List.set_cons_succ]
  refine wpAnyH_done (by kernel_rfl) ?_ _
  refine NoPanic.normal ?_
  go_wp2_with fail
  go_meet
  case rel => exact ⟨rfl, KQ⟩
 case rest =>
  obtain ⟨rfl, k1⟩ := hcut
  rename World => w1
  have R1 : Hid (Rd w1 P s ere i n g d ∧ Kp w w1) := ⟨R.out.kp k1, k1⟩
  clear k1 R es
  by_cases h2 : i + 2 ≤ s.size
  ·
   have x0 := e0 h2
   have x1 := e1 h2
   clear e0 e1
   have gz : ¬ (z : Int) < 2 := by have := EZ.out; omega
   by_cases h45 : b0 = 45
   ·
    subst h45
    rw [show ((45 : Nat) : Int) = 45 from rfl] at x0
    by_cases h93 : b1 = 93
    ·
     subst h93
     rw [show ((93 : Nat) : Int) = 93 from rfl] at x1
     have E : Hid (dash s i = false) := by show _ = _; rw [HD.out]; simp
     go_wp2_with fail
     go_ret
     exact ⟨by rw [E.out]; rfl, by unfold dashTo; rw [E.out]; exact R1.out.1, R1.out.2.ks (Nat.le_of_lt hP)⟩
    ·
     have g93 : ((b1 : Int) == 93) = false := by simp; omega
     have g93' : ¬ (b1 : Int) = 93 := by omega
     have E : Hid (dash s i = true) := by show _ = _; rw [HD.out, decide_eq_true h2]; simp [h93]
     have p2 := R1.out.1.cells.2.2.1
     have fp2 := bl_frozen R1.out.1.b 2
     have gw : IntKind.i64.wrap ((i : Int) + 1) = (i : Int) + 1 := by rw [IntKind.wrap_i64]; omega
     go_wp2_with fail
     go_ret
     exact ⟨by rw [E.out]; rfl, by unfold dashTo; rw [E.out]; exact R1.out.1.at (i + 1), (R1.out.2.ks (Nat.le_of_lt hP)).set 2 _⟩
   ·
    have g45 : ((b0 : Int) != 45) = true := by simp; omega
    have g45' : ¬ (b0 : Int) = 45 := by omega
    have E : Hid (dash s i = false) := by show _ = _; rw [HD.out]; simp [h45]
    go_wp2_with fail
    go_ret
    exact ⟨by rw [E.out]; rfl, by unfold dashTo; rw [E.out]; exact R1.out.1, R1.out.2.ks (Nat.le_of_lt hP)⟩
  ·
   have gz : (z : Int) < 2 := by have := EZ.out; omega
   have E : Hid (dash s i = false) := by show _ = _; rw [HD.out, decide_eq_false h2]; simp
   clear e0 e1
   go_wp2_with fail
   go_ret
   exact ⟨by rw [E.out]; rfl, by unfold dashTo; rw [E.out]; exact R1.out.1, R1.out.2.ks (Nat.le_of_lt hP)⟩
def lst (p : Nat → Bool) (k : Nat) : List Nat := (List.range k).filter p
theorem lst_succ (p : Nat → Bool) (k : Nat) : lst p (k + 1) = lst p k ++ if p k then [k] else [] := by
 unfold lst
 rw [List.range_succ, List.filter_append]
 cases h : p k <;> simp [h]
theorem lst_length (p : Nat → Bool) (k : Nat) : (lst p k).length = cnt p k := by
 induction k with
 | zero => rfl
 | succ k ih =>
  rw [lst_succ, List.length_append, ih]
  unfold cnt
  rw [sm]
  cases p k <;> rfl
theorem cnt_le (p : Nat → Bool) (k : Nat) : cnt p k ≤ k := by
 rw [← lst_length]
 have := List.length_filter_le p (List.range k)
 rw [List.length_range] at this
 exact this
abbrev u8v (n : Nat) : Value := .int .u8 (n : Int)
theorem info5 : ∃ i, Tryz.prog.info? 5 = some i ∧ i.zero = some (.int .u8 0) ∧ i.size = 1 ∧ i.bytes = 1 := by
 obtain ⟨i, hi, h0, h1, h2⟩ := info_parts (P := Tryz.prog) (e := 5) (z := .int .u8 0) (size := 1) (bytes := 1) (by kernel_rfl)
 exact ⟨i, hi, h0, h1, h2⟩
theorem wpList_append_byte {ops : Array Oper} {rest : List Oper} {o : Oper} {a : Act} {Q : Exit → Act → World → Prop} (W : World) (hgd : o.guard = none) (s x : Operand)
  (ho : o.op = .call { callee := .builtin .append, args := #[s, x], argTypes := #[59, 59] })
  (base : Nat) (v u : Value) (n : Nat) (xs : List Value) (hs : a.eval s = v) (hown : Hid (W.ownsRow base 5 1 v n xs)) (B : Nat) (hB : B = W.heap.size)
  (hx : a.eval x = .slice (some ⟨B, 0, none⟩) 1 1) (h1 : u.oneCell' = true) (h63 : n ≤ 900) (hbase : base ≤ W.heap.size)
  (h : ∀ v' w', w'.ownsRow base 5 1 v' (n + 1) (xs ++ [u]) → (W.alloc (.cells #[u] 5)).grownBy w' v.ownBlock → wpList Tryz.prog ops Q rest (a.put o.dst v') w') :
  wpList Tryz.prog ops Q (o :: rest) a (W.alloc (.cells #[u] 5)) := by
 obtain ⟨i, hi, hz, hsz, hby⟩ := info5
 subst hB
 refine wpList_append_own_at (W.alloc (.cells #[u] 5)) hgd s x 59 ho base 5 i (.int .u8 0) 1 1 Tryz.underlying59 hi hz hsz hby rfl (by omega) v n xs hs (hown.out.alloc _) ⟨W.heap.size, 0, none⟩ 1 1 [u] hx rfl ?_ ?_ (by unfold maxLen; omega) (by omega) (by simp; omega) ?_
 ·
  intro j y hj
  match j, hj with
  | 0, hj => simp at hj; subst hj; simp [Addr.add]
 ·
  intro y hy; simp at hy; subst hy; exact h1
 ·
  intro v' w' a1 a2 _ _
  exact h v' w' a1 a2
theorem owns_kp {w w' : World} {B e k n : Nat} {v : Value} {xs : List Value} (h : w.ownsRow B e k v n xs) (hk : Kp w w') : w'.ownsRow B e k v n xs := by
 obtain ⟨h1, h2⟩ := h
 refine ⟨h1, ?_⟩
 rcases h2 with h2 | ⟨g, cap, cur, hv, hb, hg, hr⟩
 ·
  exact .inl h2
 ·
  exact .inr ⟨g, cap, cur, hv, hb, (hk.block g (Array.getElem?_eq_some_iff.1 hg).1).trans hg, hr⟩
set_option maxRecDepth 100000 in
set_option maxHeartbeats 2000000 in
theorem bytes_any (p : Nat → Bool) (w : World) :
  Calls Tryz.prog 190 #[sv p] w fun e w' => ∃ v, e = .returned v ∧ w'.ownsRow (w.heap.size + 1) 5 1 v (lst p 256).length ((lst p 256).map u8v) ∧ Kp w w' := by
 go_enter Tryz.func190, Tryz.ntmps190
 go_wp2
 go_loopw [3, 5] (fun v i wr => ∃ k : Nat, k ≤ 256 ∧ i = .int .i64 k ∧ wr.ownsRow (w.heap.size + 1) 5 1 v (lst p k).length ((lst p k).map u8v) ∧ Kp (w.alloc (blk p)) wr) (fun _ i _ => 256 - (intOf i).toNat)
 case atStart => exact ⟨0, by omega, rfl, World.ownsRow_nil _ _ _ _, Kp.refl _⟩
 case round =>
  obtain ⟨k, hk, rfl, hO, hK⟩ := hrel
  have hA : At wr w.heap.size p := hK.at (At.new w p)
  by_cases hlt : k < 256
  ·
   obtain ⟨c0, c1, c2, c3⟩ := hA.cells
   have hs : w.heap.size < wr.heap.size := hA.lt
   have HO : Hid (wr.ownsRow (w.heap.size + 1) 5 1 u3 (lst p k).length ((lst p k).map u8v)) := hO
   have HK : Hid (Kp (w.alloc (blk p)) wr) := hK
   clear hO hK hA
   have hw8 : IntKind.u8.wrap (k : Int) = (k : Int) := by rw [IntKind.wrap_u8']; omega
   have HL := lst_succ p k
   have hle : cnt p k ≤ 256 := Nat.le_trans (cnt_le p k) hk
   cases hp : p k
   ·
    rw [hp] at HL
    have HL' : Hid (lst p (k + 1) = lst p k) := HL.trans (by simp)
    clear HL
    go_wp2_with fail
    refine (has_any p k _ hlt).mono ?_
    rintro e w1 ⟨rfl, hk1⟩
    have HK1 : Hid (Kp wr w1) := hk1
    clear hk1
    rw [hp]
    go_wp2_with fail
    refine ⟨⟨k + 1, by omega, by go_num, ?_, ?_⟩, by simp [intOf]; omega⟩
    ·
     rw [HL'.out]; exact owns_kp HO.out HK1.out
    ·
     exact HK.out.trans HK1.out
   ·
    rw [hp] at HL
    have HL' : Hid (lst p (k + 1) = lst p k ++ [k]) := HL.trans (by simp)
    clear HL
    go_wp2_with fail
    refine (has_any p k _ hlt).mono ?_
    rintro e w1 ⟨rfl, hk1⟩
    have HO1 : Hid (w1.ownsRow (w.heap.size + 1) 5 1 u3 (lst p k).length ((lst p k).map u8v)) := owns_kp HO.out hk1
    have HK1 : Hid (Kp (w.alloc (blk p)) w1) := HK.out.trans hk1
    have hs1 : w.heap.size < w1.heap.size := Nat.lt_of_lt_of_le hs hk1.size
    clear hk1 HO HK
    rw [hp]
    go_wp2_with (at_builtin; go_must (refine wpList_append_byte _ (by rfl) _ _ (by rfl) (w.heap.size + 1) u3 (.int .u8 (k : Int)) (lst p k).length _ (by rfl) HO1 _ (by rfl) (by rfl) (by rfl) ?h1 ?h2 ?_))
    case h1 => rw [lst_length]; omega
    case h2 => omega
    intro v' w2 hown' hgrow
    have HO2 : Hid (w2.ownsRow (w.heap.size + 1) 5 1 v' (lst p (k + 1)).length ((lst p (k + 1)).map u8v)) := by
     rw [HL'.out, List.length_append, List.map_append]; exact hown'
    have HK2 : Hid (Kp (w.alloc (blk p)) w2) :=
     Below.grown (HK1.out.alloc _) hgrow (by simp; omega) (fun b hb => by have := (HO1.out.lt b hb).1; simp; omega)
    clear hown' hgrow
    go_wp2_with fail
    exact ⟨⟨k + 1, by omega, by go_num, HO2.out, HK2.out⟩, by simp [intOf]; omega⟩
  ·
   obtain rfl : k = 256 := by omega
   have HO : Hid (wr.ownsRow (w.heap.size + 1) 5 1 u3 (lst p 256).length ((lst p 256).map u8v)) := hO
   have HK : Hid (Kp (w.alloc (blk p)) wr) := hK
   clear hO hK hA
   go_wp2
   go_ret
   exact ⟨_, rfl, HO.out, ((Kp.refl _).alloc _).trans HK.out⟩
def cUpper : Nat → Bool := rng 65 90
def cLower : Nat → Bool := rng 97 122
def cAlpha : Nat → Bool := orB (rng 65 90) (rng 97 122)
def cDigit : Nat → Bool := rng 48 57
def cAlnum : Nat → Bool := orB cAlpha cDigit
def cSpace : Nat → Bool := orB (addB (fun _ => false) 32) (rng 9 13)
def cBlank : Nat → Bool := addB (addB (fun _ => false) 32) 9
def cGraph : Nat → Bool := rng 33 126
def less (s t : Nat → Bool) : Nat → Bool := notB (orB (notB s) t)
def cPunct : Nat → Bool := less cGraph cAlnum
def cPrint : Nat → Bool := orB (addB (fun _ => false) 32) cGraph
def cCntrl : Nat → Bool := orB (rng 0 31) (addB (fun _ => false) 127)
def cXdigit : Nat → Bool := orB (orB cDigit (rng 65 70)) (rng 97 102)
theorem ret2_at {fn : Func} {p u : Tmp} (h : fn.results = #[.cell p 24, .tmp u]) (tmps : Array Value) (w : World) (S : Nat) (q : Nat → Bool)
  (hp : tmps.getD p undef = .pointer (some ⟨S, 0, none⟩)) (hA : At w S q) : (results fn tmps).run Tryz.prog w = .ok (.tuple #[sv q, tmps.getD u undef]) w := by
 have hp' : tmps[p]?.getD undef = .pointer (some ⟨S, 0, none⟩) := by simpa using hp
 have hl := run_loadVar_row (P := Tryz.prog) w S 24 24 _ (0, 0) _ hA Tryz.underlying24 rfl (by kernel_rfl)
 simp [results, h, hp', asAddr, hl]
theorem set4_kp {w wN : World} {B : Nat} (hB : w.heap.size ≤ B) (K : Kp w wN) (a b c d : Value) :
  Kp w ((((wN.setCell ⟨B, 0, none⟩ a).setCell ⟨B, 1, none⟩ b).setCell ⟨B, 2, none⟩ c).setCell ⟨B, 3, none⟩ d) :=
 (((K.setCell hB _).setCell hB _).setCell hB _).setCell hB _
theorem only_no (p : Nat → Bool) (h : cnt p 256 ≠ 1) (w : World) :
  Calls Tryz.prog 155 #[sv p] w fun e w' => e = .returned (.tuple #[.int .u8 0, .bool false]) ∧ Kp w w' := by
 have hc : ((cnt p 256 : Int) != 1) = true := by simp; omega
 clear h
 go_enter Tryz.func155, Tryz.ntmps155
 go_wp2_with fail
 refine (count_any p _).mono ?_
 rintro e w1 ⟨rfl, k1⟩
 go_wp2_with fail
 go_ret2
 exact ⟨rfl, ((Kp.refl _).alloc _).trans k1⟩
theorem only_yes (p : Nat → Bool) (x : Nat) (h : lst p 256 = [x]) (w : World) :
  Calls Tryz.prog 155 #[sv p] w fun e w' => e = .returned (.tuple #[.int .u8 (x : Int), .bool true]) ∧ Kp w w' := by
 have hc : cnt p 256 = 1 := by rw [← lst_length, h]; rfl
 have HL : Hid (lst p 256 = [x]) := h
 clear h
 go_enter Tryz.func155, Tryz.ntmps155
 go_wp2_with fail
 refine (count_any p _).mono ?_
 rintro e w1 ⟨rfl, k1⟩
 obtain ⟨c0, c1, c2, c3⟩ := (k1.at (At.new w p)).cells
 have K1 : Hid (Kp w w1) := ((Kp.refl _).alloc _).trans k1
 clear k1
 go_wp2_with fail
 refine (bytes_any p _).mono ?_
 rintro e w2 ⟨v, rfl, hO, k2⟩
 rw [HL.out] at hO
 have K2 : Hid (Kp w w2) := K1.out.trans k2
 clear k2
 obtain ⟨g, cap, rfl, hcell⟩ : ∃ g cap, v = .slice (some ⟨g, 0, none⟩) 1 cap ∧ w2.cell? ⟨g, 0, none⟩ = some (.int .u8 (x : Int)) := by
  rcases hO.2 with ⟨_, h0⟩ | ⟨g, cap, cur, hv, _⟩
  ·
   simp at h0
  ·
   have e1 : v = .slice (some ⟨g, 0, none⟩) 1 cap := hv
   subst e1
   have := World.ownsRow.cellAt hO 0 (by simp)
   exact ⟨g, cap, rfl, this⟩
 clear hO
 go_wp2_with fail
 go_ret2
 exact ⟨rfl, K2.out⟩
theorem alpha_any (w : World) : Calls Tryz.prog 268 #[] w fun e w' => e = .returned (sv cAlpha) ∧ Kp w w' := by
 go_enter Tryz.func268, Tryz.ntmps268
 go_wp2_with fail
 refine (range_any 65 90 _ (by omega) (by omega)).mono ?_
 rintro e w1 ⟨rfl, k⟩
 have K1 : Hid (Kp (w.alloc zero4) w1) := (((Kp.refl _))).trans k
 clear k
 go_wp2_with fail
 refine (range_any 97 122 _ (by omega) (by omega)).mono ?_
 rintro e w2 ⟨rfl, k⟩
 have K2 : Hid (Kp (w.alloc zero4) w2) := ((K1.out)).trans k
 clear k
 go_wp2_with fail
 refine (join2 (rng 65 90) (rng 97 122) _ _ (by simp) (last_of _ _)).mono ?_
 rintro e w3 ⟨rfl, k⟩
 have K3 : Hid (Kp (w.alloc zero4) w3) := ((K2.out).alloc _).trans k
 clear k
 have z := K3.out.at (At.zero w)
 obtain ⟨d0, d1, d2, d3⟩ := z.cells
 have f0 := z.frozen 0; have f1 := z.frozen 1; have f2 := z.frozen 2; have f3 := z.frozen 3
 have Z : Hid (At w3 w.heap.size (fun _ => false)) := z
 clear z
 go_wp2
 refine bodyPost_ret (v := sv cAlpha) (ret_at Tryz.results268 _ _ w.heap.size _ rfl (Z.out.set4 cAlpha)) rfl ⟨rfl, ?_⟩
 exact set4_kp (Nat.le_refl _) (((Kp.refl _).alloc _).trans K3.out) _ _ _ _
theorem digit_any (w : World) : Calls Tryz.prog 269 #[] w fun e w' => e = .returned (sv cDigit) ∧ Kp w w' := by
 go_enter Tryz.func269, Tryz.ntmps269
 go_wp2_with fail
 refine (range_any 48 57 _ (by omega) (by omega)).mono ?_
 rintro e w1 ⟨rfl, k⟩
 have K1 : Hid (Kp (w.alloc zero4) w1) := (((Kp.refl _))).trans k
 clear k
 have z := K1.out.at (At.zero w)
 obtain ⟨d0, d1, d2, d3⟩ := z.cells
 have f0 := z.frozen 0; have f1 := z.frozen 1; have f2 := z.frozen 2; have f3 := z.frozen 3
 have Z : Hid (At w1 w.heap.size (fun _ => false)) := z
 clear z
 go_wp2
 refine bodyPost_ret (v := sv cDigit) (ret_at Tryz.results269 _ _ w.heap.size _ rfl (Z.out.set4 cDigit)) rfl ⟨rfl, ?_⟩
 exact set4_kp (Nat.le_refl _) (((Kp.refl _).alloc _).trans K1.out) _ _ _ _
theorem alnum_any (w : World) : Calls Tryz.prog 270 #[] w fun e w' => e = .returned (sv cAlnum) ∧ Kp w w' := by
 go_enter Tryz.func270, Tryz.ntmps270
 go_wp2_with fail
 refine (alpha_any _).mono ?_
 rintro e w1 ⟨rfl, k⟩
 have K1 : Hid (Kp (w.alloc zero4) w1) := (((Kp.refl _))).trans k
 clear k
 go_wp2_with fail
 refine (digit_any _).mono ?_
 rintro e w2 ⟨rfl, k⟩
 have K2 : Hid (Kp (w.alloc zero4) w2) := ((K1.out)).trans k
 clear k
 go_wp2_with fail
 refine (join2 cAlpha cDigit _ _ (by simp) (last_of _ _)).mono ?_
 rintro e w3 ⟨rfl, k⟩
 have K3 : Hid (Kp (w.alloc zero4) w3) := ((K2.out).alloc _).trans k
 clear k
 have z := K3.out.at (At.zero w)
 obtain ⟨d0, d1, d2, d3⟩ := z.cells
 have f0 := z.frozen 0; have f1 := z.frozen 1; have f2 := z.frozen 2; have f3 := z.frozen 3
 have Z : Hid (At w3 w.heap.size (fun _ => false)) := z
 clear z
 go_wp2
 refine bodyPost_ret (v := sv cAlnum) (ret_at Tryz.results270 _ _ w.heap.size _ rfl (Z.out.set4 cAlnum)) rfl ⟨rfl, ?_⟩
 exact set4_kp (Nat.le_refl _) (((Kp.refl _).alloc _).trans K3.out) _ _ _ _
theorem graph_any (w : World) : Calls Tryz.prog 272 #[] w fun e w' => e = .returned (sv cGraph) ∧ Kp w w' := by
 go_enter Tryz.func272, Tryz.ntmps272
 go_wp2_with fail
 refine (range_any 33 126 _ (by omega) (by omega)).mono ?_
 rintro e w1 ⟨rfl, k⟩
 have K1 : Hid (Kp (w.alloc zero4) w1) := (((Kp.refl _))).trans k
 clear k
 have z := K1.out.at (At.zero w)
 obtain ⟨d0, d1, d2, d3⟩ := z.cells
 have f0 := z.frozen 0; have f1 := z.frozen 1; have f2 := z.frozen 2; have f3 := z.frozen 3
 have Z : Hid (At w1 w.heap.size (fun _ => false)) := z
 clear z
 go_wp2
 refine bodyPost_ret (v := sv cGraph) (ret_at Tryz.results272 _ _ w.heap.size _ rfl (Z.out.set4 cGraph)) rfl ⟨rfl, ?_⟩
 exact set4_kp (Nat.le_refl _) (((Kp.refl _).alloc _).trans K1.out) _ _ _ _
theorem At.new' (w : World) (q : Nat → Bool) (B : Nat) (hB : B = w.heap.size) : At (w.alloc (blk q)) B q := by subst hB; exact At.new w q
theorem At.zero' (w : World) (B : Nat) (hB : B = w.heap.size) : At (w.alloc zero4) B (fun _ => false) := by subst hB; exact At.zero w
set_option maxRecDepth 100000 in
set_option maxHeartbeats 2000000 in
theorem without_any (s t : Nat → Bool) (w : World) : Calls Tryz.prog 271 #[sv s, sv t] w fun e w' => e = .returned (sv (less s t)) ∧ Kp w w' := by
 have A1 : Hid (At (((w.alloc (blk s)).alloc (blk t)).alloc zero4) (w.heap.size + 1) t) := (At.new' _ _ _ (by simp)).alloc _
 have A2 : Hid (At (((w.alloc (blk s)).alloc (blk t)).alloc zero4) (w.heap.size + 1 + 1) (fun _ => false)) := At.zero' _ _ (by simp)
 have S0 : Hid (Kp (((w.alloc (blk s)).alloc (blk t)).alloc zero4) (((w.alloc (blk s)).alloc (blk t)).alloc zero4)) := Kp.refl _
 go_enter Tryz.func271, Tryz.ntmps271
 go_wp2
 go_region_with (first
  | (go_at_call 157; have T := S0.out; clear T; refine (not_any s _).mono ?_; rintro e w1 ⟨rfl, k⟩; have S1 : Hid (Kp (((w.alloc (blk s)).alloc (blk t)).alloc zero4) w1) := (by refine Kp.trans ?_ k; first | exact S0.out | exact S0.out.drew | exact S0.out.drewN _); clear S0 k; obtain ⟨d0, d1, d2, d3⟩ := (S1.out.at A1.out).cells)
  | (go_at_call 221; refine (join2 (notB s) t _ _ ?hs ?hX).mono ?_; (case hs => simp); (case hX => exact last_of _ _); rintro e w2 ⟨rfl, k⟩; have S2 : Hid (Kp (((w.alloc (blk s)).alloc (blk t)).alloc zero4) w2) := (by refine Kp.trans ?_ k; first | exact S1.out.alloc _ | exact (S1.out.alloc _).drew | exact (S1.out.alloc _).drewN _); clear k)
  | (go_at_call 157; have T := S2.out; clear T; refine (not_any (orB (notB s) t) _).mono ?_; rintro e w3 ⟨rfl, k⟩; have S3 : Hid (Kp (((w.alloc (blk s)).alloc (blk t)).alloc zero4) w3) := (by refine Kp.trans ?_ k; first | exact S2.out | exact S2.out.drew | exact S2.out.drewN _); clear k; obtain ⟨e0, e1, e2, e3⟩ := (S3.out.at A2.out).cells; have f0 := (S3.out.at A2.out).frozen 0; have f1 := (S3.out.at A2.out).frozen 1; have f2 := (S3.out.at A2.out).frozen 2; have f3 := (S3.out.at A2.out).frozen 3))
 all_goals
  go_wp2
  refine bodyPost_ret (v := sv (less s t)) (ret_at Tryz.results271 _ _ (w.heap.size + 1 + 1) _ rfl ((S3.out.at A2.out).set4 (less s t))) rfl ⟨rfl, ?_⟩
  exact set4_kp (by omega) (((((Kp.refl _).alloc _).alloc _).alloc _).trans S3.out) _ _ _ _
end Go.Proofs.YtigdmebijbaofaaGreatDoor
