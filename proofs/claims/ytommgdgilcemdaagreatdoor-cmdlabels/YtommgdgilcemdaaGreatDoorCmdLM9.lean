/-
  Texts of this claim: Cls.
-/
import Derived.Test.YtommgdgilcemdaaGreatDoorCmdLM6

/-! ### Cls -/

namespace Go.Proofs.YtommgdgilcemdaaGreatDoor
open Go.RowKit

theorem cls_any (l : List UInt8) (w : World) : Calls Tryz.prog 175 #[.string ⟨l.toArray⟩] w fun e w' => ∃ q ok, e = .returned (.tuple #[sv q, .bool ok]) ∧ cls l = (if ok = true then some q else none) ∧ Kp w w' := by
 by_cases halpha : l = [97, 108, 112, 104, 97]
 ·
  subst halpha
  refine (class_alpha w).mono ?_
  rintro e w' ⟨rfl, k⟩
  exact ⟨_, true, rfl, rfl, k⟩
 by_cases hdigit : l = [100, 105, 103, 105, 116]
 ·
  subst hdigit
  refine (class_digit w).mono ?_
  rintro e w' ⟨rfl, k⟩
  exact ⟨_, true, rfl, rfl, k⟩
 by_cases halnum : l = [97, 108, 110, 117, 109]
 ·
  subst halnum
  refine (class_alnum w).mono ?_
  rintro e w' ⟨rfl, k⟩
  exact ⟨_, true, rfl, rfl, k⟩
 by_cases hupper : l = [117, 112, 112, 101, 114]
 ·
  subst hupper
  refine (class_upper w).mono ?_
  rintro e w' ⟨rfl, k⟩
  exact ⟨_, true, rfl, rfl, k⟩
 by_cases hlower : l = [108, 111, 119, 101, 114]
 ·
  subst hlower
  refine (class_lower w).mono ?_
  rintro e w' ⟨rfl, k⟩
  exact ⟨_, true, rfl, rfl, k⟩
 by_cases hspace : l = [115, 112, 97, 99, 101]
 ·
  subst hspace
  refine (class_space w).mono ?_
  rintro e w' ⟨rfl, k⟩
  exact ⟨_, true, rfl, rfl, k⟩
 by_cases hblank : l = [98, 108, 97, 110, 107]
 ·
  subst hblank
  refine (class_blank w).mono ?_
  rintro e w' ⟨rfl, k⟩
  exact ⟨_, true, rfl, rfl, k⟩
 by_cases hpunct : l = [112, 117, 110, 99, 116]
 ·
  subst hpunct
  refine (class_punct w).mono ?_
  rintro e w' ⟨rfl, k⟩
  exact ⟨_, true, rfl, rfl, k⟩
 by_cases hprint : l = [112, 114, 105, 110, 116]
 ·
  subst hprint
  refine (class_print w).mono ?_
  rintro e w' ⟨rfl, k⟩
  exact ⟨_, true, rfl, rfl, k⟩
 by_cases hgraph : l = [103, 114, 97, 112, 104]
 ·
  subst hgraph
  refine (class_graph w).mono ?_
  rintro e w' ⟨rfl, k⟩
  exact ⟨_, true, rfl, rfl, k⟩
 by_cases hcntrl : l = [99, 110, 116, 114, 108]
 ·
  subst hcntrl
  refine (class_cntrl w).mono ?_
  rintro e w' ⟨rfl, k⟩
  exact ⟨_, true, rfl, rfl, k⟩
 by_cases hxdigit : l = [120, 100, 105, 103, 105, 116]
 ·
  subst hxdigit
  refine (class_xdigit w).mono ?_
  rintro e w' ⟨rfl, k⟩
  exact ⟨_, true, rfl, rfl, k⟩
 refine (class_other ⟨l.toArray⟩ ?_ w).mono ?_
 ·
  unfold named
  rw [ByteArray.toList_mk]
  simp only [not_or]
  exact ⟨halpha, hdigit, halnum, hupper, hlower, hspace, hblank, hpunct, hprint, hgraph, hcntrl, hxdigit⟩
 rintro e w' ⟨rfl, k⟩
 refine ⟨_, false, rfl, ?_, k⟩
 unfold cls
 rw [if_neg halpha, if_neg hdigit, if_neg halnum, if_neg hupper, if_neg hlower, if_neg hspace, if_neg hblank, if_neg hpunct, if_neg hprint, if_neg hgraph, if_neg hcntrl, if_neg hxdigit]
 rfl

/-- What a call that reads a set leaves. -/
structure RetS (w0 : World) (P : Nat) (s : ByteArray) (ere : Bool) (o : Option (Nat → Bool) × Nat) (n g d : Nat) (q : Nat → Bool) (ok : Bool) (w' : World) : Prop where
 eq : o.1 = if ok = true then some q else none
 rd : Rd w' P s ere o.2 n g d
 ks : Ks P w0 w'
structure RetSE (w0 : World) (P : Nat) (s : ByteArray) (ere : Bool) (o : Option (Nat → Bool) × Nat) (n g d : Nat) (e : Ending) (w' : World) : Prop where
 ex : ∃ q ok, e = .returned (.tuple #[sv q, .bool ok]) ∧ RetS w0 P s ere o n g d q ok w'

theorem pClass_eq {s : ByteArray} {i : Nat} {nm bh : List UInt8} {cl ok : Bool} {q : Nat → Bool} (hc : Lib.cut (s.data.toList.drop (i + 2)) [58, 93] = (nm, bh, cl)) (hq : cls nm = if ok = true then some q else none) : pClass s i = if cl && ok then (some q, s.size - bh.length) else (none, i) := by
 unfold pClass
 rw [hc]
 cases cl <;> cases ok <;> simp_all

theorem ret2_set {fn : Func} {p u : Tmp} (h : fn.results = #[.cell p 24, .tmp u]) (tmps : Array Value) (w : World) (S : Nat) (q : Nat → Bool) (x : Value)
  (hp : tmps.getD p undef = .pointer (some ⟨S, 0, none⟩)) (hu : tmps.getD u undef = x) (hA : At w S q) : (results fn tmps).run Tryz.prog w = .ok (.tuple #[sv q, x]) w := by
 rw [← hu]; exact ret2_at h tmps w S q hp hA
theorem At.set4z {w : World} {S : Nat} {q : Nat → Bool} (h : At w S q) : At ((((w.setCell ⟨S, 0, none⟩ (.int .u64 0)).setCell ⟨S, 1, none⟩ (.int .u64 0)).setCell ⟨S, 2, none⟩ (.int .u64 0)).setCell ⟨S, 3, none⟩ (.int .u64 0)) S (fun _ => false) := by
 have := h.set4 (fun _ => false)
 simp only [wd_none] at this
 exact this

set_option maxRecDepth 100000 in
theorem rclass_any (s : ByteArray) (ere : Bool) (i n g d P : Nat) (w : World) (h : Rd w P s ere i n g d) (hi : i + 2 ≤ s.size) (hs : s.size ≤ 1000000) :
  Calls Tryz.prog 171 #[.pointer (some ⟨P, 0, none⟩)] w fun e w' => RetSE w P s ere (pClass s i) n g d e w' := by
 have R : Hid (Rd w P s ere i n g d) := h
 have hP : P < w.heap.size := h.lt
 clear h
 have gw : IntKind.i64.wrap ((i : Int) + 2) = (i : Int) + 2 := by rw [IntKind.wrap_i64]; omega
 have gl1 : (0 : Int) ≤ (i : Int) + 2 := by omega
 have gl2 : (i : Int) + 2 ≤ (s.size : Int) := by omega
 have es : ∀ w, (Instr.slice 9 (.string s) (some (.int .i64 ((i : Int) + 2))) none none).run Tryz.prog w = .ok (.string (s.extract (i + 2) s.size)) w := by
  intro w
  rw [run_slice_string_from_if w 9 s .i64 ((i : Int) + 2) (by kernel_rfl), if_pos ⟨by omega, by omega⟩, show ((i : Int) + 2).toNat = i + 2 by omega]
 obtain ⟨nm, bh, cl, hc⟩ : ∃ nm bh cl, Lib.cut (s.data.toList.drop (i + 2)) [58, 93] = (nm, bh, cl) := ⟨_, _, _, rfl⟩
 have hbh : bh.length ≤ s.size := by
  have z : s.data.toList.length = s.size := Array.length_toList
  unfold Lib.cut at hc
  split at hc
  ·
   injection hc with _ h2; injection h2 with h3 _; rw [← h3, List.length_drop, List.length_drop]; omega
  ·
   injection hc with _ h2; injection h2 with h3 _; rw [← h3]; exact Nat.zero_le _
 have SC : Hid (∀ (m : Int) (w : World), w.cell? ⟨1, 0, none⟩ = some (.int .i64 m) → Calls Tryz.prog 174 #[.string (s.extract (i + 2) s.size), .string ⟨#[58, 93]⟩] w fun e w' => e = .returned (.tuple #[.string ⟨nm.toArray⟩, .string ⟨bh.toArray⟩, .bool cl]) ∧ ∃ n, w' = w.drewN n) := by
  intro m w hm
  have := Tryz.strings_Cut (s.extract (i + 2) s.size) ⟨#[58, 93]⟩ m w (by rw [ext_size s (i + 2) hi]; omega) hm
  rw [Lib.extract_to_end] at this
  rw [show (⟨#[58, 93]⟩ : ByteArray).data.toList = [58, 93] from rfl, hc] at this
  exact this
 have HC := hid hc
 clear hc
 go_enter Tryz.func171, Tryz.ntmps171
 go_upto_region 1 with fail
 refine opq (fun W0 => Rd W0 P s ere i n g d ∧ At W0 w.heap.size (fun _ => false) ∧ Kp w W0) ⟨by exact R.out.kp (by repeat (first | exact Kp.refl _ | refine Kp.alloc ?_ _ | refine Kp.drew ?_ | refine Kp.drewN _ ?_)), by exact At.zero _, by exact (by repeat (first | exact Kp.refl _ | refine Kp.alloc ?_ _ | refine Kp.drew ?_ | refine Kp.drewN _ ?_))⟩ ?_
 rintro W0 ⟨xR0, xB0, xK0⟩
 have R0 : Hid (Rd W0 P s ere i n g d) := xR0
 have B0 : Hid (At W0 w.heap.size (fun _ => false)) := xB0
 have K0 : Hid (Kp w W0) := xK0
 clear xR0 xB0 xK0
 clear R
 go_cut [4, 5, 6] (fun a b c wc => a = .string ⟨nm.toArray⟩ ∧ b = .string ⟨bh.toArray⟩ ∧ c = .bool cl ∧ Kp W0 wc)
 case first =>
  have Q0 : Kp W0 W0.drew := (Kp.refl _).drew
  have MK : Hid (∀ W, Kp W0 W → W.cell? ⟨P, 0, none⟩ = some (.string s) ∧ W.cell? ⟨P, 2, none⟩ = some (.int .i64 (i : Int)) ∧ Hid (Kp W0 W)) := fun W k => ⟨(R0.out.kp k).cells.1, (R0.out.kp k).cells.2.2.1, k⟩
  refine wp_region_noPanic ?_
  refine wp_region_held_drew (S := (fun W => W.cell? ⟨P, 0, none⟩ = some (.string s) ∧ W.cell? ⟨P, 2, none⟩ = some (.int .i64 (i : Int)) ∧ Hid (Kp W0 W))) (by kernel_rfl) ?_ (fun hH => ?_)
  ·
   exact MK.out _ Q0
  have KQ := Q0
  refine wpAnyH_take (i := 0) (oi := { dst := some 10, op := Op.move (Operand.tmp 0), type := 90, pos := "bracket.go:59", after := #[], guard := none }) (v := ?v0a1) rfl (by kernel_rfl) (by kernel_rfl) (by kernel_rfl) (fun _ _ _ h => h) (Or.inl ⟨by rfl, ?hy0a1⟩) hH ?r0a1
  case hy0a1 => (intro W hSw; (try dsimp only at hSw); go_simp; try (with_reducible rfl))
  try simp only [Act.put, List.setIfInBounds_toArray, List.set_cons_zero, List.set_cons_succ]
  refine wpAnyH_take (i := 1) (oi := { dst := some 11, op := Op.nilCheck (Operand.tmp 10), type := 0, pos := "bracket.go:59", after := #[{ on := 0, ground := Ground.data }], guard := none }) (v := ?v1a2) rfl (by kernel_rfl) (by kernel_rfl) (by kernel_rfl) (fun _ _ _ h => h) (Or.inl ⟨by rfl, ?hy1a2⟩) hH ?r1a2
  case hy1a2 => (intro W hSw; (try dsimp only at hSw); go_simp; try (with_reducible rfl))
  try simp only [Act.put, List.setIfInBounds_toArray, List.set_cons_zero, List.set_cons_succ]
  refine wpAnyH_take (i := 2) (oi := { dst := some 12, op := Op.fieldAddr 66 (Operand.tmp 11) 0, type := 0, pos := "bracket.go:59", after := #[{ on := 1, ground := Ground.data }], guard := none }) (v := ?v2a3) rfl (by kernel_rfl) (by kernel_rfl) (by kernel_rfl) (fun _ _ _ h => h) (Or.inl ⟨by rfl, ?hy2a3⟩) hH ?r2a3
  case hy2a3 => (intro W hSw; (try dsimp only at hSw); go_simp; try (with_reducible rfl))
  try simp only [Act.put, List.setIfInBounds_toArray, List.set_cons_zero, List.set_cons_succ]
  refine wpAnyH_take (i := 3) (oi := { dst := some 13, op := Op.load 9 (Operand.tmp 12), type := 9, pos := "bracket.go:59", after := #[{ on := 2, ground := Ground.data }], guard := none }) (v := ?v3a4) rfl (by kernel_rfl) (by kernel_rfl) (by kernel_rfl) (fun _ _ _ h => h) (Or.inl ⟨by rfl, ?hy3a4⟩) hH ?r3a4
  case hy3a4 => (intro W hSw; (try dsimp only at hSw); go_simp; try (with_reducible rfl))
  try simp only [Act.put, List.setIfInBounds_toArray, List.set_cons_zero, List.set_cons_succ]
  refine wpAnyH_take (i := 4) (oi := { dst := some 14, op := Op.move (Operand.tmp 0), type := 90, pos := "bracket.go:59", after := #[], guard := none }) (v := ?v4a5) rfl (by kernel_rfl) (by kernel_rfl) (by kernel_rfl) (fun _ _ _ h => h) (Or.inl ⟨by rfl, ?hy4a5⟩) hH ?r4a5
  case hy4a5 => (intro W hSw; (try dsimp only at hSw); go_simp; try (with_reducible rfl))
  try simp only [Act.put, List.setIfInBounds_toArray, List.set_cons_zero, List.set_cons_succ]
  refine wpAnyH_take (i := 5) (oi := { dst := some 15, op := Op.nilCheck (Operand.tmp 14), type := 0, pos := "bracket.go:59", after := #[{ on := 4, ground := Ground.data }], guard := none }) (v := ?v5a6) rfl (by kernel_rfl) (by kernel_rfl) (by kernel_rfl) (fun _ _ _ h => h) (Or.inl ⟨by rfl, ?hy5a6⟩) hH ?r5a6
  case hy5a6 => (intro W hSw; (try dsimp only at hSw); go_simp; try (with_reducible rfl))
  try simp only [Act.put, List.setIfInBounds_toArray, List.set_cons_zero, List.set_cons_succ]
  refine wpAnyH_take (i := 6) (oi := { dst := some 16, op := Op.fieldAddr 66 (Operand.tmp 15) 2, type := 0, pos := "bracket.go:59", after := #[{ on := 5, ground := Ground.data }], guard := none }) (v := ?v6a7) rfl (by kernel_rfl) (by kernel_rfl) (by kernel_rfl) (fun _ _ _ h => h) (Or.inl ⟨by rfl, ?hy6a7⟩) hH ?r6a7
  case hy6a7 => (intro W hSw; (try dsimp only at hSw); go_simp; try (with_reducible rfl))
  try simp only [Act.put, List.setIfInBounds_toArray, List.set_cons_zero, List.set_cons_succ]
  refine wpAnyH_take (i := 7) (oi := { dst := some 17, op := Op.load 3 (Operand.tmp 16), type := 3, pos := "bracket.go:59", after := #[{ on := 6, ground := Ground.data }], guard := none }) (v := ?v7a8) rfl (by kernel_rfl) (by kernel_rfl) (by kernel_rfl) (fun _ _ _ h => h) (Or.inl ⟨by rfl, ?hy7a8⟩) hH ?r7a8
  case hy7a8 => (intro W hSw; (try dsimp only at hSw); go_simp; try (with_reducible rfl))
  try simp only [Act.put, List.setIfInBounds_toArray, List.set_cons_zero, List.set_cons_succ]
  refine wpAnyH_take (i := 8) (oi := { dst := some 18, op := Op.binOp BinOp.add 3 (Operand.tmp 17) (Operand.const (Value.int IntKind.i64 2)) 3, type := 3, pos := "bracket.go:59", after := #[{ on := 7, ground := Ground.data }], guard := none }) (v := ?v8a9) rfl (by kernel_rfl) (by kernel_rfl) (by kernel_rfl) (fun _ _ _ h => h) (Or.inl ⟨by rfl, ?hy8a9⟩) hH ?r8a9
  case hy8a9 => (intro W hSw; (try dsimp only at hSw); go_simp; try (with_reducible rfl))
  try simp only [Act.put, List.setIfInBounds_toArray, List.set_cons_zero, List.set_cons_succ]
  refine wpAnyH_take (i := 9) (oi := { dst := some 19, op := Op.slice 9 (Operand.tmp 13) (some (Operand.tmp 18)) none none, type := 9, pos := "bracket.go:59", after := #[{ on := 3, ground := Ground.data }, { on := 8, ground := Ground.data }], guard := none }) (v := ?v9a10) rfl (by kernel_rfl) (by kernel_rfl) (by kernel_rfl) (fun _ _ _ h => h) (Or.inl ⟨by rfl, ?hy9a10⟩) hH ?r9a10
  case hy9a10 => (intro W hSw; (try dsimp only at hSw); go_simp; try (with_reducible rfl))
  try simp only [Act.put, List.setIfInBounds_toArray, List.set_cons_zero, List.set_cons_succ]
  refine wpAnyH_ready (rs := [10]) (by kernel_rfl) (by simp) ?_
  refine AllReadyH.cons (o := { dst := some 20, op := Op.call { callee := Callee.value (Operand.func 174), args := #[Operand.tmp 19, Operand.const (Value.string { data := #[58, 93] })], argTypes := #[9, 9] }, type := 190, pos := "bracket.go:59", after := #[{ on := 9, ground := Ground.data }], guard := none }) rfl (fun K hKq => ?_) AllReadyH.nil
  obtain ⟨mm, hmm⟩ := (R0.out.kp KQ).v
  have HM := hid hmm
  clear hmm
  go_simp
  refine (SC.out mm _ HM.out).mono ?_
  rintro e yy ⟨rfl, nn, rfl⟩
  refine hKq.out _ _ (MK.out _ (KQ.drewN nn)) (fun hN => ?_)
  clear HM mm
  clear hKq K hH KQ
  have hH := hN
  clear hN
  have KQ := hH.2.2.out
  try simp only [Act.put, List.setIfInBounds_toArray, List.set_cons_zero, List.set_cons_succ]
  refine wpAnyH_take (i := 11) (oi := { dst := some 9, op := Op.move (Operand.tmp 20), type := 190, pos := "bracket.go:59", after := #[{ on := 10, ground := Ground.data }], guard := none }) (v := ?v11a11) rfl (by kernel_rfl) (by kernel_rfl) (by kernel_rfl) (fun _ _ _ h => h) (Or.inl ⟨by rfl, ?hy11a11⟩) hH ?r11a11
  case hy11a11 => (intro W hSw; (try dsimp only at hSw); go_simp; try (with_reducible rfl))
  try simp only [Act.put, List.setIfInBounds_toArray, List.set_cons_zero, List.set_cons_succ]
  refine wpAnyH_take (i := 12) (oi := { dst := some 21, op := Op.extract (Operand.tmp 9) 0, type := 9, pos := "bracket.go:59", after := #[{ on := 11, ground := Ground.data }], guard := none }) (v := ?v12a12) rfl (by kernel_rfl) (by kernel_rfl) (by kernel_rfl) (fun _ _ _ h => h) (Or.inl ⟨by rfl, ?hy12a12⟩) hH ?r12a12
  case hy12a12 => (intro W hSw; (try dsimp only at hSw); go_simp; try (with_reducible rfl))
  try simp only [Act.put, List.setIfInBounds_toArray, List.set_cons_zero, List.set_cons_succ]
  refine wpAnyH_take (i := 13) (oi := { dst := some 22, op := Op.extract (Operand.tmp 9) 1, type := 9, pos := "bracket.go:59", after := #[{ on := 11, ground := Ground.data }, { on := 15, ground := Ground.gcOnly Departure.lateStores }], guard := none }) (v := ?v13a13) rfl (by kernel_rfl) (by kernel_rfl) (by kernel_rfl) (fun _ _ _ h => h) (Or.inl ⟨by rfl, ?hy13a13⟩) hH ?r13a13
  case hy13a13 => (intro W hSw; (try dsimp only at hSw); go_simp; try (with_reducible rfl))
  try simp only [Act.put, List.setIfInBounds_toArray, List.set_cons_zero, List.set_cons_succ]
  refine wpAnyH_take (i := 14) (oi := { dst := some 23, op := Op.extract (Operand.tmp 9) 2, type := 4, pos := "bracket.go:59", after := #[{ on := 11, ground := Ground.data }, { on := 16, ground := Ground.gcOnly Departure.lateStores }], guard := none }) (v := ?v14a14) rfl (by kernel_rfl) (by kernel_rfl) (by kernel_rfl) (fun _ _ _ h => h) (Or.inl ⟨by rfl, ?hy14a14⟩) hH ?r14a14
  case hy14a14 => (intro W hSw; (try dsimp only at hSw); go_simp; try (with_reducible rfl))
  try simp only [Act.put, List.setIfInBounds_toArray, List.set_cons_zero, List.set_cons_succ]
  refine wpAnyH_take (i := 15) (oi := { dst := some 4, op := Op.assign (Operand.tmp 21), type := 9, pos := "bracket.go:59", after := #[{ on := 12, ground := Ground.data }, { on := 10, ground := Ground.chain }, { on := 0, ground := Ground.phase }, { on := 1, ground := Ground.phase }, { on := 2, ground := Ground.phase }, { on := 3, ground := Ground.phase }, { on := 4, ground := Ground.phase }, { on := 5, ground := Ground.phase }, { on := 6, ground := Ground.phase }, { on := 7, ground := Ground.phase }, { on := 8, ground := Ground.phase }, { on := 9, ground := Ground.phase }, { on := 10, ground := Ground.phase }, { on := 11, ground := Ground.phase }, { on := 12, ground := Ground.phase }, { on := 13, ground := Ground.textOnly Departure.lateStores }, { on := 14, ground := Ground.textOnly Departure.lateStores }], guard := none }) (v := ?v15a15) rfl (by kernel_rfl) (by kernel_rfl) (by kernel_rfl) (fun _ _ _ h => h) (Or.inl ⟨by rfl, ?hy15a15⟩) hH ?r15a15
  case hy15a15 => (intro W hSw; (try dsimp only at hSw); go_simp; try (with_reducible rfl))
  try simp only [Act.put, List.setIfInBounds_toArray, List.set_cons_zero, List.set_cons_succ]
  refine wpAnyH_take (i := 16) (oi := { dst := some 5, op := Op.assign (Operand.tmp 22), type := 9, pos := "bracket.go:59", after := #[{ on := 13, ground := Ground.data }, { on := 15, ground := Ground.chain }, { on := 0, ground := Ground.phase }, { on := 1, ground := Ground.phase }, { on := 2, ground := Ground.phase }, { on := 3, ground := Ground.phase }, { on := 4, ground := Ground.phase }, { on := 5, ground := Ground.phase }, { on := 6, ground := Ground.phase }, { on := 7, ground := Ground.phase }, { on := 8, ground := Ground.phase }, { on := 9, ground := Ground.phase }, { on := 10, ground := Ground.phase }, { on := 11, ground := Ground.phase }, { on := 12, ground := Ground.phase }, { on := 13, ground := Ground.phase }, { on := 14, ground := Ground.textOnly Departure.lateStores }, { on := 15, ground := Ground.phase }], guard := none }) (v := ?v16a16) rfl (by kernel_rfl) (by kernel_rfl) (by kernel_rfl) (fun _ _ _ h => h) (Or.inl ⟨by rfl, ?hy16a16⟩) hH ?r16a16
  case hy16a16 => (intro W hSw; (try dsimp only at hSw); go_simp; try (with_reducible rfl))
  try simp only [Act.put, List.setIfInBounds_toArray, List.set_cons_zero, List.set_cons_succ]
  refine wpAnyH_take (i := 17) (oi := { dst := some 6, op := Op.assign (Operand.tmp 23), type := 4, pos := "bracket.go:59", after := #[{ on := 14, ground := Ground.data }, { on := 16, ground := Ground.chain }, { on := 0, ground := Ground.phase }, { on := 1, ground := Ground.phase }, { on := 2, ground := Ground.phase }, { on := 3, ground := Ground.phase }, { on := 4, ground := Ground.phase }, { on := 5, ground := Ground.phase }, { on := 6, ground := Ground.phase }, { on := 7, ground := Ground.phase }, { on := 8, ground := Ground.phase }, { on := 9, ground := Ground.phase }, { on := 10, ground := Ground.phase }, { on := 11, ground := Ground.phase }, { on := 12, ground := Ground.phase }, { on := 13, ground := Ground.phase }, { on := 14, ground := Ground.phase }, { on := 15, ground := Ground.phase }, { on := 16, ground := Ground.phase }], guard := none }) (v := ?v17a17) rfl (by kernel_rfl) (by kernel_rfl) (by kernel_rfl) (fun _ _ _ h => h) (Or.inl ⟨by rfl, ?hy17a17⟩) hH ?r17a17
  case hy17a17 => (intro W hSw; (try dsimp only at hSw); go_simp; try (with_reducible rfl))
  try simp only [Act.put, List.setIfInBounds_toArray, List.set_cons_zero, List.set_cons_succ]
  refine wpAnyH_done (by kernel_rfl) ?_ _
  refine NoPanic.normal ?_
  go_wp2_with fail
  go_meet
  case rel => exact ⟨rfl, rfl, rfl, KQ⟩
 case rest =>
  obtain ⟨rfl, rfl, rfl, k1⟩ := hcut
  rename World => W1
  have hsz : w.heap.size < W0.heap.size := B0.out.lt
  have R1 : Hid (Rd W1 P s ere i n g d) := R0.out.kp k1
  have B1 : Hid (At W1 w.heap.size (fun _ => false)) := B0.out.kp k1
  have K1 : Hid (Kp w W1) := K0.out.trans k1
  have hsz1 := k1.size
  clear k1 R0 B0 K0 es
  go_wp2_with fail
  refine (cls_any nm _).mono ?_
  rintro e w2 ⟨q, ok, rfl, hq, k2⟩
  have hsz2 := k2.size
  have HQ := hid hq
  have KQ2 := hid k2
  clear hq k2
  go_upto_region 3 with fail
  refine opq (fun W2 => Rd W2 P s ere i n g d ∧ At W2 w.heap.size (fun _ => false) ∧ At W2 w2.heap.size q ∧ Kp w W2) ⟨by exact R1.out.kp (KQ2.out.trans (by repeat (first | exact Kp.refl _ | refine Kp.alloc ?_ _ | refine Kp.drew ?_ | refine Kp.drewN _ ?_))), by exact B1.out.kp (KQ2.out.trans (by repeat (first | exact Kp.refl _ | refine Kp.alloc ?_ _ | refine Kp.drew ?_ | refine Kp.drewN _ ?_))), by exact At.new _ _, by exact K1.out.trans (KQ2.out.trans (by repeat (first | exact Kp.refl _ | refine Kp.alloc ?_ _ | refine Kp.drew ?_ | refine Kp.drewN _ ?_)))⟩ ?_
  rintro W2 ⟨xR2, xB2, xQ2, xK2⟩
  have R2 : Hid (Rd W2 P s ere i n g d) := xR2
  have B2 : Hid (At W2 w.heap.size (fun _ => false)) := xB2
  have Q2 : Hid (At W2 w2.heap.size q) := xQ2
  have K2 : Hid (Kp w W2) := xK2
  clear xR2 xB2 xQ2 xK2
  clear R1 B1 K1 KQ2
  have hsz3 : w2.heap.size < W2.heap.size := Q2.out.lt
  obtain ⟨b0, b1, b2, b3⟩ := B2.out.cells
  have fb0 := B2.out.frozen 0
  have fb1 := B2.out.frozen 1
  have fb2 := B2.out.frozen 2
  have fb3 := B2.out.frozen 3
  obtain ⟨q0, q1, q2, q3⟩ := Q2.out.cells
  have p0 := R2.out.cells.1
  have p2 := R2.out.cells.2.2.1
  have fp2 := bl_frozen R2.out.b 2
  have gs : IntKind.i64.wrap ((s.size : Int) - (bh.length : Int)) = (s.size : Int) - (bh.length : Int) := by rw [IntKind.wrap_i64]; omega
  cases cl with
  | false =>
   have E : Hid (pClass s i = (none, i)) := by show _ = _; rw [pClass_eq HC.out HQ.out]; rfl
   go_wp2_with fail
   refine bodyPost_ret (v := .tuple #[sv (fun _ => false), .bool false]) (ret2_set rfl _ _ _ _ _ rfl rfl (B2.out.set4z)) rfl ?_
   refine ⟨fun _ => false, false, rfl, by rw [E.out]; rfl, by rw [E.out]; exact R2.out.ks (ks_set4 _ _ _ _) (by omega) (by omega), (K2.out.ks (Nat.le_of_lt hP)).off (ks_set4 _ _ _ _) (by omega) hP⟩
  | true =>
   cases ok with
   | false =>
    have E : Hid (pClass s i = (none, i)) := by show _ = _; rw [pClass_eq HC.out HQ.out]; rfl
    go_wp2_with fail
    refine bodyPost_ret (v := .tuple #[sv (fun _ => false), .bool false]) (ret2_set rfl _ _ _ _ _ rfl rfl (B2.out.set4z)) rfl ?_
    refine ⟨fun _ => false, false, rfl, by rw [E.out]; rfl, by rw [E.out]; exact R2.out.ks (ks_set4 _ _ _ _) (by omega) (by omega), (K2.out.ks (Nat.le_of_lt hP)).off (ks_set4 _ _ _ _) (by omega) hP⟩
   | true =>
    have E : Hid (pClass s i = (some q, s.size - bh.length)) := by show _ = _; rw [pClass_eq HC.out HQ.out]; rfl
    have ge : ((s.size - bh.length : Nat) : Int) = (s.size : Int) - (bh.length : Int) := by omega
    go_wp2_with fail
    refine bodyPost_ret (v := .tuple #[sv q, .bool true]) (ret2_set rfl _ _ _ _ _ rfl rfl (At.set4 (bl_set B2.out (by omega) _) q)) rfl ?_
    refine ⟨q, true, rfl, by rw [E.out]; rfl, ?_, (((K2.out.ks (Nat.le_of_lt hP)).set 2 _).off (ks_set4 _ _ _ _) (by omega) hP)⟩
    rw [E.out]
    refine Rd.ks ?_ (ks_set4 _ _ _ _) (by omega) (by omega)
    have := R2.out.at (s.size - bh.length)
    rw [ge] at this
    exact this
end Go.Proofs.YtommgdgilcemdaaGreatDoor
