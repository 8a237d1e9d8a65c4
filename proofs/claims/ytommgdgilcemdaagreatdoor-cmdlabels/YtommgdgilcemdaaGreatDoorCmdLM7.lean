/-
  Texts of this claim: Num.
-/
import Derived.Test.YtommgdgilcemdaaGreatDoorCmdLM6
import Derived.Deep.LoopGhost

/-! ### Num -/

namespace Go.Proofs.YtommgdgilcemdaaGreatDoor
open Go.RowKit

theorem rng_dig (b : Nat) : rng 48 57 b = true ↔ 48 ≤ b ∧ b ≤ 57 := by unfold rng; simp

set_option maxRecDepth 100000 in
theorem number_any (s : ByteArray) (ere : Bool) (i n g d P : Nat) (w : World) (h : Rd w P s ere i n g d) (hi : i ≤ s.size) (hs : s.size ≤ 1000000) :
  Calls Tryz.prog 168 #[.pointer (some ⟨P, 0, none⟩)] w fun e w' => e = .returned (.tuple #[.int .i64 ((pNum s i).1 : Nat), .bool (pNum s i).2.1]) ∧ Rd w' P s ere (pNum s i).2.2 n g d ∧ Ks P w w' := by
 have R : Hid (Rd w P s ere i n g d) := h
 have hP : P < w.heap.size := h.lt
 clear h
 go_enter Tryz.func168, Tryz.ntmps168
 go_wp2_with fail
 refine (range_any 48 57 _ (by omega) (by omega)).mono ?_
 rintro e w1 ⟨rfl, kq⟩
 have hs1 : w.heap.size ≤ w1.heap.size := kq.size
 have R1 : Hid (Rd w1 P s ere i n g d ∧ Ks P w w1) := ⟨R.out.kp kq, kq.ks (Nat.le_of_lt hP)⟩
 clear kq R
 go_wp2_with fail
 go_loopg [2, 3] (s.size + 1) (fun k v2 v3 wr => ∃ (m : Nat) (ok : Bool) (j : Nat), v2 = .int .i64 (m : Int) ∧ v3 = .bool ok ∧ m ≤ 21 ∧ j ≤ s.size ∧ s.size < k + j ∧ pNumL s k m ok j = pNum s i ∧ At wr w1.heap.size (rng 48 57) ∧ Rd wr P s ere j n g d ∧ Ks P w wr)
 case atStart => exact ⟨0, false, i, rfl, rfl, by omega, hi, by omega, rfl, At.new _ _, R1.out.1.kp (by repeat (first | exact Kp.refl _ | refine Kp.alloc ?_ _ | refine Kp.drew ?_ | refine Kp.drewN _ ?_)), R1.out.2.kpt (by repeat (first | exact Kp.refl _ | refine Kp.alloc ?_ _ | refine Kp.drew ?_ | refine Kp.drewN _ ?_)) hP⟩
 case round =>
  obtain ⟨m, ok, j, rfl, rfl, hm, hj, hk, hp, hA, hR, hK⟩ := hrel
  obtain ⟨k, rfl⟩ : ∃ k, gk = k + 1 := ⟨gk - 1, by omega⟩
  have A : Hid (At wr w1.heap.size (rng 48 57)) := hA
  have R : Hid (Rd wr P s ere j n g d) := hR
  have K : Hid (Ks P w wr) := hK
  have HP := hid hp
  clear hA hR hK hp R1
  have hsr := K.out.size
  have hPr : P < wr.heap.size := by omega
  have gj : IntKind.i64.wrap ((j : Int) + 1) = (j : Int) + 1 := by rw [IntKind.wrap_i64]; omega
  by_cases hlt : j < s.size
  ·
   have hli : (j : Int) < (s.size : Int) := by omega
   have ec := run_ch s j hlt
   obtain ⟨b, hb⟩ : ∃ b, ch s j = b := ⟨_, rfl⟩
   have HB := hid hb
   have hb256 : b < 256 := by rw [← hb]; exact ch_lt _ _
   rw [hb] at ec
   clear hb
   by_cases hd : rng 48 57 b = true
   ·
    have HD : Hid (rng 48 57 b = true) := hd
    have hd' := (rng_dig b).1 hd
    clear hd
    have g1 : IntKind.i64.wrap (10 * (m : Int)) = 10 * (m : Int) := by rw [IntKind.wrap_i64]; omega
    have g2 : IntKind.u8.wrap ((b : Int) - 48) = (b : Int) - 48 := by rw [IntKind.wrap_u8']; omega
    have g3 : IntKind.i64.wrap ((b : Int) - 48) = (b : Int) - 48 := by rw [IntKind.wrap_i64]; omega
    have g4 : IntKind.i64.wrap (10 * (m : Int) + ((b : Int) - 48)) = 10 * (m : Int) + ((b : Int) - 48) := by rw [IntKind.wrap_i64]; omega
    have E : Hid (pNumL s k (min (10 * m + (b - 48)) 21) true (j + 1) = pNum s i) := by
     have := HP.out
     unfold pNumL at this
     rw [HB.out, HD.out, decide_eq_true hlt] at this
     exact this
    go_upto_region 2 with fail
    go_cut [28] (fun v wc => v = .bool true ∧ Kp wr wc)
    case first =>
     have Q0 : Kp wr wr.drew := (Kp.refl _).drew
     have MK : Hid (∀ W, Kp wr W → W.cell? ⟨P, 0, none⟩ = some (.string s) ∧ W.cell? ⟨P, 2, none⟩ = some (.int .i64 (j : Int)) ∧ W.cell? ⟨w1.heap.size, 0, none⟩ = some (.int .u64 (wd (rng 48 57) 0 : Nat)) ∧ W.cell? ⟨w1.heap.size, 1, none⟩ = some (.int .u64 (wd (rng 48 57) 1 : Nat)) ∧ W.cell? ⟨w1.heap.size, 2, none⟩ = some (.int .u64 (wd (rng 48 57) 2 : Nat)) ∧ W.cell? ⟨w1.heap.size, 3, none⟩ = some (.int .u64 (wd (rng 48 57) 3 : Nat)) ∧ Hid (Kp wr W)) := fun W k => ⟨(R.out.kp k).cells.1, (R.out.kp k).cells.2.2.1, (A.out.kp k).cells.1, (A.out.kp k).cells.2.1, (A.out.kp k).cells.2.2.1, (A.out.kp k).cells.2.2.2, k⟩
     refine wp_region_noPanic ?_
     refine wp_region_held_drew (S := (fun W => W.cell? ⟨P, 0, none⟩ = some (.string s) ∧ W.cell? ⟨P, 2, none⟩ = some (.int .i64 (j : Int)) ∧ W.cell? ⟨w1.heap.size, 0, none⟩ = some (.int .u64 (wd (rng 48 57) 0 : Nat)) ∧ W.cell? ⟨w1.heap.size, 1, none⟩ = some (.int .u64 (wd (rng 48 57) 1 : Nat)) ∧ W.cell? ⟨w1.heap.size, 2, none⟩ = some (.int .u64 (wd (rng 48 57) 2 : Nat)) ∧ W.cell? ⟨w1.heap.size, 3, none⟩ = some (.int .u64 (wd (rng 48 57) 3 : Nat)) ∧ Hid (Kp wr W))) (by kernel_rfl) ?_ (fun hH => ?_)
     ·
      exact MK.out _ Q0
     have KQ := Q0
     refine wpAnyH_take (i := 0) (oi := { dst := some 6, op := Op.move (Operand.tmp 0), type := 90, pos := "parse.go:221", after := #[], guard := none }) (v := ?v0a1) rfl (by kernel_rfl) (by kernel_rfl) (by kernel_rfl) (fun _ _ _ h => h) (Or.inl ⟨by rfl, ?hy0a1⟩) hH ?r0a1
     case hy0a1 => (intro W hSw; (try dsimp only at hSw); go_simp; try (with_reducible rfl))
     try simp only [Act.put, List.setIfInBounds_toArray, List.set_cons_zero, List.set_cons_succ]
     refine wpAnyH_take (i := 1) (oi := { dst := some 7, op := Op.nilCheck (Operand.tmp 6), type := 0, pos := "parse.go:221", after := #[{ on := 0, ground := Ground.data }], guard := none }) (v := ?v1a2) rfl (by kernel_rfl) (by kernel_rfl) (by kernel_rfl) (fun _ _ _ h => h) (Or.inl ⟨by rfl, ?hy1a2⟩) hH ?r1a2
     case hy1a2 => (intro W hSw; (try dsimp only at hSw); go_simp; try (with_reducible rfl))
     try simp only [Act.put, List.setIfInBounds_toArray, List.set_cons_zero, List.set_cons_succ]
     refine wpAnyH_take (i := 2) (oi := { dst := some 8, op := Op.fieldAddr 66 (Operand.tmp 7) 2, type := 0, pos := "parse.go:221", after := #[{ on := 1, ground := Ground.data }], guard := none }) (v := ?v2a3) rfl (by kernel_rfl) (by kernel_rfl) (by kernel_rfl) (fun _ _ _ h => h) (Or.inl ⟨by rfl, ?hy2a3⟩) hH ?r2a3
     case hy2a3 => (intro W hSw; (try dsimp only at hSw); go_simp; try (with_reducible rfl))
     try simp only [Act.put, List.setIfInBounds_toArray, List.set_cons_zero, List.set_cons_succ]
     refine wpAnyH_take (i := 3) (oi := { dst := some 9, op := Op.load 3 (Operand.tmp 8), type := 3, pos := "parse.go:221", after := #[{ on := 2, ground := Ground.data }], guard := none }) (v := ?v3a4) rfl (by kernel_rfl) (by kernel_rfl) (by kernel_rfl) (fun _ _ _ h => h) (Or.inl ⟨by rfl, ?hy3a4⟩) hH ?r3a4
     case hy3a4 => (intro W hSw; (try dsimp only at hSw); go_simp; try (with_reducible rfl))
     try simp only [Act.put, List.setIfInBounds_toArray, List.set_cons_zero, List.set_cons_succ]
     refine wpAnyH_take (i := 4) (oi := { dst := some 10, op := Op.move (Operand.tmp 0), type := 90, pos := "parse.go:221", after := #[], guard := none }) (v := ?v4a5) rfl (by kernel_rfl) (by kernel_rfl) (by kernel_rfl) (fun _ _ _ h => h) (Or.inl ⟨by rfl, ?hy4a5⟩) hH ?r4a5
     case hy4a5 => (intro W hSw; (try dsimp only at hSw); go_simp; try (with_reducible rfl))
     try simp only [Act.put, List.setIfInBounds_toArray, List.set_cons_zero, List.set_cons_succ]
     refine wpAnyH_take (i := 5) (oi := { dst := some 11, op := Op.nilCheck (Operand.tmp 10), type := 0, pos := "parse.go:221", after := #[{ on := 4, ground := Ground.data }], guard := none }) (v := ?v5a6) rfl (by kernel_rfl) (by kernel_rfl) (by kernel_rfl) (fun _ _ _ h => h) (Or.inl ⟨by rfl, ?hy5a6⟩) hH ?r5a6
     case hy5a6 => (intro W hSw; (try dsimp only at hSw); go_simp; try (with_reducible rfl))
     try simp only [Act.put, List.setIfInBounds_toArray, List.set_cons_zero, List.set_cons_succ]
     refine wpAnyH_take (i := 6) (oi := { dst := some 12, op := Op.fieldAddr 66 (Operand.tmp 11) 0, type := 0, pos := "parse.go:221", after := #[{ on := 5, ground := Ground.data }], guard := none }) (v := ?v6a7) rfl (by kernel_rfl) (by kernel_rfl) (by kernel_rfl) (fun _ _ _ h => h) (Or.inl ⟨by rfl, ?hy6a7⟩) hH ?r6a7
     case hy6a7 => (intro W hSw; (try dsimp only at hSw); go_simp; try (with_reducible rfl))
     try simp only [Act.put, List.setIfInBounds_toArray, List.set_cons_zero, List.set_cons_succ]
     refine wpAnyH_take (i := 7) (oi := { dst := some 13, op := Op.load 9 (Operand.tmp 12), type := 9, pos := "parse.go:221", after := #[{ on := 6, ground := Ground.data }], guard := none }) (v := ?v7a8) rfl (by kernel_rfl) (by kernel_rfl) (by kernel_rfl) (fun _ _ _ h => h) (Or.inl ⟨by rfl, ?hy7a8⟩) hH ?r7a8
     case hy7a8 => (intro W hSw; (try dsimp only at hSw); go_simp; try (with_reducible rfl))
     try simp only [Act.put, List.setIfInBounds_toArray, List.set_cons_zero, List.set_cons_succ]
     refine wpAnyH_take (i := 8) (oi := { dst := some 14, op := Op.call { callee := Callee.builtin Builtin.len, args := #[Operand.tmp 13], argTypes := #[9] }, type := 3, pos := "parse.go:221", after := #[{ on := 7, ground := Ground.data }], guard := none }) (v := ?v8a9) rfl (by kernel_rfl) (by kernel_rfl) (by kernel_rfl) (fun _ _ _ h => h) (Or.inl ⟨by rfl, ?hy8a9⟩) hH ?r8a9
     case hy8a9 => (intro W hSw; (try dsimp only at hSw); go_simp; try (with_reducible rfl))
     try simp only [Act.put, List.setIfInBounds_toArray, List.set_cons_zero, List.set_cons_succ]
     refine wpAnyH_take (i := 9) (oi := { dst := some 15, op := Op.binOp BinOp.lss 3 (Operand.tmp 9) (Operand.tmp 14) 3, type := 4, pos := "parse.go:221", after := #[{ on := 3, ground := Ground.data }, { on := 8, ground := Ground.data }], guard := none }) (v := ?v9a10) rfl (by kernel_rfl) (by kernel_rfl) (by kernel_rfl) (fun _ _ _ h => h) (Or.inl ⟨by rfl, ?hy9a10⟩) hH ?r9a10
     case hy9a10 => (intro W hSw; (try dsimp only at hSw); go_simp; try (with_reducible rfl))
     try simp only [Act.put, List.setIfInBounds_toArray, List.set_cons_zero, List.set_cons_succ]
     refine wpAnyH_take (i := 10) (oi := { dst := some 16, op := Op.move (Operand.tmp 15), type := 4, pos := "parse.go:221", after := #[{ on := 9, ground := Ground.data }], guard := none }) (v := ?v10a11) rfl (by kernel_rfl) (by kernel_rfl) (by kernel_rfl) (fun _ _ _ h => h) (Or.inl ⟨by rfl, ?hy10a11⟩) hH ?r10a11
     case hy10a11 => (intro W hSw; (try dsimp only at hSw); go_simp; try (with_reducible rfl))
     try simp only [Act.put, List.setIfInBounds_toArray, List.set_cons_zero, List.set_cons_succ]
     refine wpAnyH_take (i := 11) (oi := { dst := some 17, op := Op.load 24 (Operand.tmp 4), type := 24, pos := "parse.go:221", after := #[{ on := 10, ground := Ground.guard }], guard := some (10, true) }) (v := ?v11a12) rfl (by kernel_rfl) (by kernel_rfl) (by kernel_rfl) (fun _ _ _ h => h) (Or.inl ⟨by rfl, ?hy11a12⟩) hH ?r11a12
     case hy11a12 => (intro W hSw; (try dsimp only at hSw); go_simp; try (with_reducible rfl))
     try simp only [Act.put, List.setIfInBounds_toArray, List.set_cons_zero, List.set_cons_succ]
     refine wpAnyH_take (i := 12) (oi := { dst := some 18, op := Op.move (Operand.tmp 0), type := 90, pos := "parse.go:221", after := #[{ on := 10, ground := Ground.guard }], guard := some (10, true) }) (v := ?v12a13) rfl (by kernel_rfl) (by kernel_rfl) (by kernel_rfl) (fun _ _ _ h => h) (Or.inl ⟨by rfl, ?hy12a13⟩) hH ?r12a13
     case hy12a13 => (intro W hSw; (try dsimp only at hSw); go_simp; try (with_reducible rfl))
     try simp only [Act.put, List.setIfInBounds_toArray, List.set_cons_zero, List.set_cons_succ]
     refine wpAnyH_take (i := 13) (oi := { dst := some 19, op := Op.nilCheck (Operand.tmp 18), type := 0, pos := "parse.go:221", after := #[{ on := 12, ground := Ground.data }, { on := 10, ground := Ground.guard }], guard := some (10, true) }) (v := ?v13a14) rfl (by kernel_rfl) (by kernel_rfl) (by kernel_rfl) (fun _ _ _ h => h) (Or.inl ⟨by rfl, ?hy13a14⟩) hH ?r13a14
     case hy13a14 => (intro W hSw; (try dsimp only at hSw); go_simp; try (with_reducible rfl))
     try simp only [Act.put, List.setIfInBounds_toArray, List.set_cons_zero, List.set_cons_succ]
     refine wpAnyH_take (i := 14) (oi := { dst := some 20, op := Op.fieldAddr 66 (Operand.tmp 19) 0, type := 0, pos := "parse.go:221", after := #[{ on := 13, ground := Ground.data }, { on := 10, ground := Ground.guard }], guard := some (10, true) }) (v := ?v14a15) rfl (by kernel_rfl) (by kernel_rfl) (by kernel_rfl) (fun _ _ _ h => h) (Or.inl ⟨by rfl, ?hy14a15⟩) hH ?r14a15
     case hy14a15 => (intro W hSw; (try dsimp only at hSw); go_simp; try (with_reducible rfl))
     try simp only [Act.put, List.setIfInBounds_toArray, List.set_cons_zero, List.set_cons_succ]
     refine wpAnyH_take (i := 15) (oi := { dst := some 21, op := Op.load 9 (Operand.tmp 20), type := 9, pos := "parse.go:221", after := #[{ on := 14, ground := Ground.data }, { on := 10, ground := Ground.guard }], guard := some (10, true) }) (v := ?v15a16) rfl (by kernel_rfl) (by kernel_rfl) (by kernel_rfl) (fun _ _ _ h => h) (Or.inl ⟨by rfl, ?hy15a16⟩) hH ?r15a16
     case hy15a16 => (intro W hSw; (try dsimp only at hSw); go_simp; try (with_reducible rfl))
     try simp only [Act.put, List.setIfInBounds_toArray, List.set_cons_zero, List.set_cons_succ]
     refine wpAnyH_take (i := 16) (oi := { dst := some 22, op := Op.move (Operand.tmp 0), type := 90, pos := "parse.go:221", after := #[{ on := 10, ground := Ground.guard }], guard := some (10, true) }) (v := ?v16a17) rfl (by kernel_rfl) (by kernel_rfl) (by kernel_rfl) (fun _ _ _ h => h) (Or.inl ⟨by rfl, ?hy16a17⟩) hH ?r16a17
     case hy16a17 => (intro W hSw; (try dsimp only at hSw); go_simp; try (with_reducible rfl))
     try simp only [Act.put, List.setIfInBounds_toArray, List.set_cons_zero, List.set_cons_succ]
     refine wpAnyH_take (i := 17) (oi := { dst := some 23, op := Op.nilCheck (Operand.tmp 22), type := 0, pos := "parse.go:221", after := #[{ on := 16, ground := Ground.data }, { on := 10, ground := Ground.guard }], guard := some (10, true) }) (v := ?v17a18) rfl (by kernel_rfl) (by kernel_rfl) (by kernel_rfl) (fun _ _ _ h => h) (Or.inl ⟨by rfl, ?hy17a18⟩) hH ?r17a18
     case hy17a18 => (intro W hSw; (try dsimp only at hSw); go_simp; try (with_reducible rfl))
     try simp only [Act.put, List.setIfInBounds_toArray, List.set_cons_zero, List.set_cons_succ]
     refine wpAnyH_take (i := 18) (oi := { dst := some 24, op := Op.fieldAddr 66 (Operand.tmp 23) 2, type := 0, pos := "parse.go:221", after := #[{ on := 17, ground := Ground.data }, { on := 10, ground := Ground.guard }], guard := some (10, true) }) (v := ?v18a19) rfl (by kernel_rfl) (by kernel_rfl) (by kernel_rfl) (fun _ _ _ h => h) (Or.inl ⟨by rfl, ?hy18a19⟩) hH ?r18a19
     case hy18a19 => (intro W hSw; (try dsimp only at hSw); go_simp; try (with_reducible rfl))
     try simp only [Act.put, List.setIfInBounds_toArray, List.set_cons_zero, List.set_cons_succ]
     refine wpAnyH_take (i := 19) (oi := { dst := some 25, op := Op.load 3 (Operand.tmp 24), type := 3, pos := "parse.go:221", after := #[{ on := 18, ground := Ground.data }, { on := 10, ground := Ground.guard }], guard := some (10, true) }) (v := ?v19a20) rfl (by kernel_rfl) (by kernel_rfl) (by kernel_rfl) (fun _ _ _ h => h) (Or.inl ⟨by rfl, ?hy19a20⟩) hH ?r19a20
     case hy19a20 => (intro W hSw; (try dsimp only at hSw); go_simp; try (with_reducible rfl))
     try simp only [Act.put, List.setIfInBounds_toArray, List.set_cons_zero, List.set_cons_succ]
     refine wpAnyH_take (i := 20) (oi := { dst := some 26, op := Op.index 9 (Operand.tmp 21) (Operand.tmp 25), type := 5, pos := "parse.go:221", after := #[{ on := 15, ground := Ground.data }, { on := 19, ground := Ground.data }, { on := 10, ground := Ground.guard }], guard := some (10, true) }) (v := ?v20a21) rfl (by kernel_rfl) (by kernel_rfl) (by kernel_rfl) (fun _ _ _ h => h) (Or.inl ⟨by rfl, ?hy20a21⟩) hH ?r20a21
     case hy20a21 => (intro W hSw; (try dsimp only at hSw); go_simp; try (with_reducible rfl))
     try simp only [Act.put, List.setIfInBounds_toArray, List.set_cons_zero, List.set_cons_succ]
     refine wpAnyH_ready (rs := [21]) (by kernel_rfl) (by simp) ?_
     refine AllReadyH.cons (o := { dst := some 27, op := Op.call { callee := Callee.value (Operand.func 133), args := #[Operand.tmp 17, Operand.tmp 26], argTypes := #[24, 5] }, type := 4, pos := "parse.go:221", after := #[{ on := 11, ground := Ground.data }, { on := 20, ground := Ground.data }, { on := 10, ground := Ground.chain }, { on := 10, ground := Ground.guard }], guard := some (10, true) }) rfl (fun K hKq => ?_) AllReadyH.nil
     go_simp
     refine (has_any (rng 48 57) b _ hb256).mono ?_
     rintro e y1 ⟨rfl, kq⟩
     rw [HD.out]
     refine hKq.out _ _ (MK.out _ (KQ.trans kq)) (fun hN => ?_)
     clear kq
     clear hKq K hH KQ
     have hH := hN
     clear hN
     have KQ := hH.2.2.2.2.2.2.out
     try simp only [Act.put, List.setIfInBounds_toArray, List.set_cons_zero, List.set_cons_succ]
     refine wpAnyH_take (i := 22) (oi := { dst := some 28, op := Op.pick (Operand.tmp 16) (Operand.tmp 27) (Operand.const (Value.bool false)), type := 4, pos := "parse.go:221", after := #[{ on := 10, ground := Ground.data }, { on := 21, ground := Ground.data }], guard := none }) (v := ?v22a22) rfl (by kernel_rfl) (by kernel_rfl) (by kernel_rfl) (fun _ _ _ h => h) (Or.inl ⟨by rfl, ?hy22a22⟩) hH ?r22a22
     case hy22a22 => (intro W hSw; (try dsimp only at hSw); go_simp; try (with_reducible rfl))
     try simp only [Act.put, List.setIfInBounds_toArray, List.set_cons_zero, List.set_cons_succ]
     refine wpAnyH_done (by kernel_rfl) ?_ _
     refine NoPanic.normal ?_
     go_wp2_with fail
     go_meet
     case rel => exact ⟨rfl, KQ⟩
    case rest =>
     obtain ⟨rfl, k2⟩ := hcut
     rename World => W2
     have A2 : Hid (At W2 w1.heap.size (rng 48 57)) := A.out.kp k2
     have R2 : Hid (Rd W2 P s ere j n g d) := R.out.kp k2
     have K2 : Hid (Ks P w W2) := K.out.kpt k2 hP
     clear k2 A R K
     go_upto_region 3 with fail
     go_cut [2, 3] (fun v u wc => v = .int .i64 ((min (10 * m + (b - 48)) 21 : Nat) : Int) ∧ u = .bool true ∧ Kp W2 wc)
     case first =>
      have Q0 : Kp W2 W2.drew := (Kp.refl _).drew
      have MK : Hid (∀ W, Kp W2 W → W.cell? ⟨P, 0, none⟩ = some (.string s) ∧ W.cell? ⟨P, 2, none⟩ = some (.int .i64 (j : Int)) ∧ Hid (Kp W2 W)) := fun W k => ⟨(R2.out.kp k).cells.1, (R2.out.kp k).cells.2.2.1, k⟩
      refine wp_region_noPanic ?_
      refine wp_region_held_drew (S := (fun W => W.cell? ⟨P, 0, none⟩ = some (.string s) ∧ W.cell? ⟨P, 2, none⟩ = some (.int .i64 (j : Int)) ∧ Hid (Kp W2 W))) (by kernel_rfl) ?_ (fun hH => ?_)
      ·
       exact MK.out _ Q0
      have KQ := Q0
      refine wpAnyH_take (i := 0) (oi := { dst := some 29, op := Op.move (Operand.tmp 2), type := 3, pos := "parse.go:222", after := #[], guard := none }) (v := ?v0b1) rfl (by kernel_rfl) (by kernel_rfl) (by kernel_rfl) (fun _ _ _ h => h) (Or.inl ⟨by rfl, ?hy0b1⟩) hH ?r0b1
      case hy0b1 => (intro W hSw; (try dsimp only at hSw); go_simp; try (with_reducible rfl))
      try simp only [Act.put, List.setIfInBounds_toArray, List.set_cons_zero, List.set_cons_succ]
      refine wpAnyH_take (i := 1) (oi := { dst := some 30, op := Op.binOp BinOp.mul 3 (Operand.const (Value.int IntKind.i64 10)) (Operand.tmp 29) 3, type := 3, pos := "parse.go:222", after := #[{ on := 0, ground := Ground.data }], guard := none }) (v := ?v1b2) rfl (by kernel_rfl) (by kernel_rfl) (by kernel_rfl) (fun _ _ _ h => h) (Or.inl ⟨by rfl, ?hy1b2⟩) hH ?r1b2
      case hy1b2 => (intro W hSw; (try dsimp only at hSw); go_simp; try (with_reducible rfl))
      try simp only [Act.put, List.setIfInBounds_toArray, List.set_cons_zero, List.set_cons_succ]
      refine wpAnyH_take (i := 2) (oi := { dst := some 31, op := Op.move (Operand.tmp 0), type := 90, pos := "parse.go:222", after := #[], guard := none }) (v := ?v2b3) rfl (by kernel_rfl) (by kernel_rfl) (by kernel_rfl) (fun _ _ _ h => h) (Or.inl ⟨by rfl, ?hy2b3⟩) hH ?r2b3
      case hy2b3 => (intro W hSw; (try dsimp only at hSw); go_simp; try (with_reducible rfl))
      try simp only [Act.put, List.setIfInBounds_toArray, List.set_cons_zero, List.set_cons_succ]
      refine wpAnyH_take (i := 3) (oi := { dst := some 32, op := Op.nilCheck (Operand.tmp 31), type := 0, pos := "parse.go:222", after := #[{ on := 2, ground := Ground.data }], guard := none }) (v := ?v3b4) rfl (by kernel_rfl) (by kernel_rfl) (by kernel_rfl) (fun _ _ _ h => h) (Or.inl ⟨by rfl, ?hy3b4⟩) hH ?r3b4
      case hy3b4 => (intro W hSw; (try dsimp only at hSw); go_simp; try (with_reducible rfl))
      try simp only [Act.put, List.setIfInBounds_toArray, List.set_cons_zero, List.set_cons_succ]
      refine wpAnyH_take (i := 4) (oi := { dst := some 33, op := Op.fieldAddr 66 (Operand.tmp 32) 0, type := 0, pos := "parse.go:222", after := #[{ on := 3, ground := Ground.data }], guard := none }) (v := ?v4b5) rfl (by kernel_rfl) (by kernel_rfl) (by kernel_rfl) (fun _ _ _ h => h) (Or.inl ⟨by rfl, ?hy4b5⟩) hH ?r4b5
      case hy4b5 => (intro W hSw; (try dsimp only at hSw); go_simp; try (with_reducible rfl))
      try simp only [Act.put, List.setIfInBounds_toArray, List.set_cons_zero, List.set_cons_succ]
      refine wpAnyH_take (i := 5) (oi := { dst := some 34, op := Op.load 9 (Operand.tmp 33), type := 9, pos := "parse.go:222", after := #[{ on := 4, ground := Ground.data }], guard := none }) (v := ?v5b6) rfl (by kernel_rfl) (by kernel_rfl) (by kernel_rfl) (fun _ _ _ h => h) (Or.inl ⟨by rfl, ?hy5b6⟩) hH ?r5b6
      case hy5b6 => (intro W hSw; (try dsimp only at hSw); go_simp; try (with_reducible rfl))
      try simp only [Act.put, List.setIfInBounds_toArray, List.set_cons_zero, List.set_cons_succ]
      refine wpAnyH_take (i := 6) (oi := { dst := some 35, op := Op.move (Operand.tmp 0), type := 90, pos := "parse.go:222", after := #[], guard := none }) (v := ?v6b7) rfl (by kernel_rfl) (by kernel_rfl) (by kernel_rfl) (fun _ _ _ h => h) (Or.inl ⟨by rfl, ?hy6b7⟩) hH ?r6b7
      case hy6b7 => (intro W hSw; (try dsimp only at hSw); go_simp; try (with_reducible rfl))
      try simp only [Act.put, List.setIfInBounds_toArray, List.set_cons_zero, List.set_cons_succ]
      refine wpAnyH_take (i := 7) (oi := { dst := some 36, op := Op.nilCheck (Operand.tmp 35), type := 0, pos := "parse.go:222", after := #[{ on := 6, ground := Ground.data }], guard := none }) (v := ?v7b8) rfl (by kernel_rfl) (by kernel_rfl) (by kernel_rfl) (fun _ _ _ h => h) (Or.inl ⟨by rfl, ?hy7b8⟩) hH ?r7b8
      case hy7b8 => (intro W hSw; (try dsimp only at hSw); go_simp; try (with_reducible rfl))
      try simp only [Act.put, List.setIfInBounds_toArray, List.set_cons_zero, List.set_cons_succ]
      refine wpAnyH_take (i := 8) (oi := { dst := some 37, op := Op.fieldAddr 66 (Operand.tmp 36) 2, type := 0, pos := "parse.go:222", after := #[{ on := 7, ground := Ground.data }], guard := none }) (v := ?v8b9) rfl (by kernel_rfl) (by kernel_rfl) (by kernel_rfl) (fun _ _ _ h => h) (Or.inl ⟨by rfl, ?hy8b9⟩) hH ?r8b9
      case hy8b9 => (intro W hSw; (try dsimp only at hSw); go_simp; try (with_reducible rfl))
      try simp only [Act.put, List.setIfInBounds_toArray, List.set_cons_zero, List.set_cons_succ]
      refine wpAnyH_take (i := 9) (oi := { dst := some 38, op := Op.load 3 (Operand.tmp 37), type := 3, pos := "parse.go:222", after := #[{ on := 8, ground := Ground.data }], guard := none }) (v := ?v9b10) rfl (by kernel_rfl) (by kernel_rfl) (by kernel_rfl) (fun _ _ _ h => h) (Or.inl ⟨by rfl, ?hy9b10⟩) hH ?r9b10
      case hy9b10 => (intro W hSw; (try dsimp only at hSw); go_simp; try (with_reducible rfl))
      try simp only [Act.put, List.setIfInBounds_toArray, List.set_cons_zero, List.set_cons_succ]
      refine wpAnyH_take (i := 10) (oi := { dst := some 39, op := Op.index 9 (Operand.tmp 34) (Operand.tmp 38), type := 5, pos := "parse.go:222", after := #[{ on := 5, ground := Ground.data }, { on := 9, ground := Ground.data }], guard := none }) (v := ?v10b11) rfl (by kernel_rfl) (by kernel_rfl) (by kernel_rfl) (fun _ _ _ h => h) (Or.inl ⟨by rfl, ?hy10b11⟩) hH ?r10b11
      case hy10b11 => (intro W hSw; (try dsimp only at hSw); go_simp; try (with_reducible rfl))
      try simp only [Act.put, List.setIfInBounds_toArray, List.set_cons_zero, List.set_cons_succ]
      refine wpAnyH_take (i := 11) (oi := { dst := some 40, op := Op.binOp BinOp.sub 5 (Operand.tmp 39) (Operand.const (Value.int IntKind.u8 48)) 5, type := 5, pos := "parse.go:222", after := #[{ on := 10, ground := Ground.data }], guard := none }) (v := ?v11b12) rfl (by kernel_rfl) (by kernel_rfl) (by kernel_rfl) (fun _ _ _ h => h) (Or.inl ⟨by rfl, ?hy11b12⟩) hH ?r11b12
      case hy11b12 => (intro W hSw; (try dsimp only at hSw); go_simp; try (with_reducible rfl))
      try simp only [Act.put, List.setIfInBounds_toArray, List.set_cons_zero, List.set_cons_succ]
      refine wpAnyH_take (i := 12) (oi := { dst := some 41, op := Op.convert 5 3 (Operand.tmp 40), type := 3, pos := "parse.go:222", after := #[{ on := 11, ground := Ground.data }], guard := none }) (v := ?v12b13) rfl (by kernel_rfl) (by kernel_rfl) (by kernel_rfl) (fun _ _ _ h => h) (Or.inl ⟨by rfl, ?hy12b13⟩) hH ?r12b13
      case hy12b13 => (intro W hSw; (try dsimp only at hSw); go_simp; try (with_reducible rfl))
      try simp only [Act.put, List.setIfInBounds_toArray, List.set_cons_zero, List.set_cons_succ]
      refine wpAnyH_take (i := 13) (oi := { dst := some 42, op := Op.binOp BinOp.add 3 (Operand.tmp 30) (Operand.tmp 41) 3, type := 3, pos := "parse.go:222", after := #[{ on := 1, ground := Ground.data }, { on := 12, ground := Ground.data }], guard := none }) (v := ?v13b14) rfl (by kernel_rfl) (by kernel_rfl) (by kernel_rfl) (fun _ _ _ h => h) (Or.inl ⟨by rfl, ?hy13b14⟩) hH ?r13b14
      case hy13b14 => (intro W hSw; (try dsimp only at hSw); go_simp; try (with_reducible rfl))
      try simp only [Act.put, List.setIfInBounds_toArray, List.set_cons_zero, List.set_cons_succ]
      refine wpAnyH_take (i := 14) (oi := { dst := some 43, op := Op.call { callee := Callee.builtin Builtin.min, args := #[Operand.tmp 42, Operand.const (Value.int IntKind.i64 21)], argTypes := #[3, 3] }, type := 3, pos := "parse.go:222", after := #[{ on := 13, ground := Ground.data }], guard := none }) (v := ?v14b15) rfl (by kernel_rfl) (by kernel_rfl) (by kernel_rfl) (fun _ _ _ h => h) (Or.inl ⟨by rfl, ?hy14b15⟩) hH ?r14b15
      case hy14b15 => (intro W hSw; (try dsimp only at hSw); go_simp; try (with_reducible rfl))
      try simp only [Act.put, List.setIfInBounds_toArray, List.set_cons_zero, List.set_cons_succ]
      refine wpAnyH_take (i := 15) (oi := { dst := some 2, op := Op.assign (Operand.tmp 43), type := 3, pos := "parse.go:222", after := #[{ on := 14, ground := Ground.data }, { on := 0, ground := Ground.phase }, { on := 1, ground := Ground.phase }, { on := 2, ground := Ground.phase }, { on := 3, ground := Ground.phase }, { on := 4, ground := Ground.phase }, { on := 5, ground := Ground.phase }, { on := 6, ground := Ground.phase }, { on := 7, ground := Ground.phase }, { on := 8, ground := Ground.phase }, { on := 9, ground := Ground.phase }, { on := 10, ground := Ground.phase }, { on := 11, ground := Ground.phase }, { on := 12, ground := Ground.phase }, { on := 13, ground := Ground.phase }, { on := 14, ground := Ground.phase }], guard := none }) (v := ?v15b16) rfl (by kernel_rfl) (by kernel_rfl) (by kernel_rfl) (fun _ _ _ h => h) (Or.inl ⟨by rfl, ?hy15b16⟩) hH ?r15b16
      case hy15b16 => (intro W hSw; (try dsimp only at hSw); go_simp; try (with_reducible rfl))
      try simp only [Act.put, List.setIfInBounds_toArray, List.set_cons_zero, List.set_cons_succ]
      refine wpAnyH_take (i := 16) (oi := { dst := some 3, op := Op.assign (Operand.const (Value.bool true)), type := 4, pos := "parse.go:222", after := #[{ on := 15, ground := Ground.chain }, { on := 0, ground := Ground.phase }, { on := 1, ground := Ground.phase }, { on := 2, ground := Ground.phase }, { on := 3, ground := Ground.phase }, { on := 4, ground := Ground.phase }, { on := 5, ground := Ground.phase }, { on := 6, ground := Ground.phase }, { on := 7, ground := Ground.phase }, { on := 8, ground := Ground.phase }, { on := 9, ground := Ground.phase }, { on := 10, ground := Ground.phase }, { on := 11, ground := Ground.phase }, { on := 12, ground := Ground.phase }, { on := 13, ground := Ground.phase }, { on := 14, ground := Ground.phase }, { on := 15, ground := Ground.phase }], guard := none }) (v := ?v16b17) rfl (by kernel_rfl) (by kernel_rfl) (by kernel_rfl) (fun _ _ _ h => h) (Or.inl ⟨by rfl, ?hy16b17⟩) hH ?r16b17
      case hy16b17 => (intro W hSw; (try dsimp only at hSw); go_simp; try (with_reducible rfl))
      try simp only [Act.put, List.setIfInBounds_toArray, List.set_cons_zero, List.set_cons_succ]
      refine wpAnyH_done (by kernel_rfl) ?_ _
      refine NoPanic.normal ?_
      go_wp2_with fail
      go_meet
      case rel => exact ⟨by congr 1; omega, rfl, KQ⟩
     case rest =>
      obtain ⟨rfl, rfl, k3⟩ := hcut
      rename World => W3
      have A3 : Hid (At W3 w1.heap.size (rng 48 57)) := A2.out.kp k3
      have R3 : Hid (Rd W3 P s ere j n g d) := R2.out.kp k3
      have K3 : Hid (Ks P w W3) := K2.out.kpt k3 hP
      clear k3 A2 R2 K2
      have p2 := R3.out.cells.2.2.1
      have fp2 := bl_frozen R3.out.b 2
      go_wp2_with fail
      go_roundg k
      case measure => omega
      case rel => exact ⟨_, true, j + 1, rfl, rfl, by omega, by omega, by omega, E.out, bl_set A3.out (by omega) _, R3.out.at (j + 1), K3.out.set 2 _⟩
   ·
    have hd2 : rng 48 57 b = false := by simpa using hd
    have HD := hid hd2
    clear hd2
    clear hd
    have E : Hid (pNum s i = (m, ok, j)) := by
     have := HP.out
     unfold pNumL at this
     rw [HB.out, HD.out, decide_eq_true hlt] at this
     exact this.symm
    go_upto_region 2 with fail
    go_cut [28] (fun v wc => v = .bool false ∧ Kp wr wc)
    case first =>
     have Q0 : Kp wr wr.drew := (Kp.refl _).drew
     have MK : Hid (∀ W, Kp wr W → W.cell? ⟨P, 0, none⟩ = some (.string s) ∧ W.cell? ⟨P, 2, none⟩ = some (.int .i64 (j : Int)) ∧ W.cell? ⟨w1.heap.size, 0, none⟩ = some (.int .u64 (wd (rng 48 57) 0 : Nat)) ∧ W.cell? ⟨w1.heap.size, 1, none⟩ = some (.int .u64 (wd (rng 48 57) 1 : Nat)) ∧ W.cell? ⟨w1.heap.size, 2, none⟩ = some (.int .u64 (wd (rng 48 57) 2 : Nat)) ∧ W.cell? ⟨w1.heap.size, 3, none⟩ = some (.int .u64 (wd (rng 48 57) 3 : Nat)) ∧ Hid (Kp wr W)) := fun W k => ⟨(R.out.kp k).cells.1, (R.out.kp k).cells.2.2.1, (A.out.kp k).cells.1, (A.out.kp k).cells.2.1, (A.out.kp k).cells.2.2.1, (A.out.kp k).cells.2.2.2, k⟩
     refine wp_region_noPanic ?_
     refine wp_region_held_drew (S := (fun W => W.cell? ⟨P, 0, none⟩ = some (.string s) ∧ W.cell? ⟨P, 2, none⟩ = some (.int .i64 (j : Int)) ∧ W.cell? ⟨w1.heap.size, 0, none⟩ = some (.int .u64 (wd (rng 48 57) 0 : Nat)) ∧ W.cell? ⟨w1.heap.size, 1, none⟩ = some (.int .u64 (wd (rng 48 57) 1 : Nat)) ∧ W.cell? ⟨w1.heap.size, 2, none⟩ = some (.int .u64 (wd (rng 48 57) 2 : Nat)) ∧ W.cell? ⟨w1.heap.size, 3, none⟩ = some (.int .u64 (wd (rng 48 57) 3 : Nat)) ∧ Hid (Kp wr W))) (by kernel_rfl) ?_ (fun hH => ?_)
     ·
      exact MK.out _ Q0
     have KQ := Q0
     refine wpAnyH_take (i := 0) (oi := { dst := some 6, op := Op.move (Operand.tmp 0), type := 90, pos := "parse.go:221", after := #[], guard := none }) (v := ?v0c1) rfl (by kernel_rfl) (by kernel_rfl) (by kernel_rfl) (fun _ _ _ h => h) (Or.inl ⟨by rfl, ?hy0c1⟩) hH ?r0c1
     case hy0c1 => (intro W hSw; (try dsimp only at hSw); go_simp; try (with_reducible rfl))
     try simp only [Act.put, List.setIfInBounds_toArray, List.set_cons_zero, List.set_cons_succ]
     refine wpAnyH_take (i := 1) (oi := { dst := some 7, op := Op.nilCheck (Operand.tmp 6), type := 0, pos := "parse.go:221", after := #[{ on := 0, ground := Ground.data }], guard := none }) (v := ?v1c2) rfl (by kernel_rfl) (by kernel_rfl) (by kernel_rfl) (fun _ _ _ h => h) (Or.inl ⟨by rfl, ?hy1c2⟩) hH ?r1c2
     case hy1c2 => (intro W hSw; (try dsimp only at hSw); go_simp; try (with_reducible rfl))
     try simp only [Act.put, List.setIfInBounds_toArray, List.set_cons_zero, List.set_cons_succ]
     refine wpAnyH_take (i := 2) (oi := { dst := some 8, op := Op.fieldAddr 66 (Operand.tmp 7) 2, type := 0, pos := "parse.go:221", after := #[{ on := 1, ground := Ground.data }], guard := none }) (v := ?v2c3) rfl (by kernel_rfl) (by kernel_rfl) (by kernel_rfl) (fun _ _ _ h => h) (Or.inl ⟨by rfl, ?hy2c3⟩) hH ?r2c3
     case hy2c3 => (intro W hSw; (try dsimp only at hSw); go_simp; try (with_reducible rfl))
     try simp only [Act.put, List.setIfInBounds_toArray, List.set_cons_zero, List.set_cons_succ]
     refine wpAnyH_take (i := 3) (oi := { dst := some 9, op := Op.load 3 (Operand.tmp 8), type := 3, pos := "parse.go:221", after := #[{ on := 2, ground := Ground.data }], guard := none }) (v := ?v3c4) rfl (by kernel_rfl) (by kernel_rfl) (by kernel_rfl) (fun _ _ _ h => h) (Or.inl ⟨by rfl, ?hy3c4⟩) hH ?r3c4
     case hy3c4 => (intro W hSw; (try dsimp only at hSw); go_simp; try (with_reducible rfl))
     try simp only [Act.put, List.setIfInBounds_toArray, List.set_cons_zero, List.set_cons_succ]
     refine wpAnyH_take (i := 4) (oi := { dst := some 10, op := Op.move (Operand.tmp 0), type := 90, pos := "parse.go:221", after := #[], guard := none }) (v := ?v4c5) rfl (by kernel_rfl) (by kernel_rfl) (by kernel_rfl) (fun _ _ _ h => h) (Or.inl ⟨by rfl, ?hy4c5⟩) hH ?r4c5
     case hy4c5 => (intro W hSw; (try dsimp only at hSw); go_simp; try (with_reducible rfl))
     try simp only [Act.put, List.setIfInBounds_toArray, List.set_cons_zero, List.set_cons_succ]
     refine wpAnyH_take (i := 5) (oi := { dst := some 11, op := Op.nilCheck (Operand.tmp 10), type := 0, pos := "parse.go:221", after := #[{ on := 4, ground := Ground.data }], guard := none }) (v := ?v5c6) rfl (by kernel_rfl) (by kernel_rfl) (by kernel_rfl) (fun _ _ _ h => h) (Or.inl ⟨by rfl, ?hy5c6⟩) hH ?r5c6
     case hy5c6 => (intro W hSw; (try dsimp only at hSw); go_simp; try (with_reducible rfl))
     try simp only [Act.put, List.setIfInBounds_toArray, List.set_cons_zero, List.set_cons_succ]
     refine wpAnyH_take (i := 6) (oi := { dst := some 12, op := Op.fieldAddr 66 (Operand.tmp 11) 0, type := 0, pos := "parse.go:221", after := #[{ on := 5, ground := Ground.data }], guard := none }) (v := ?v6c7) rfl (by kernel_rfl) (by kernel_rfl) (by kernel_rfl) (fun _ _ _ h => h) (Or.inl ⟨by rfl, ?hy6c7⟩) hH ?r6c7
     case hy6c7 => (intro W hSw; (try dsimp only at hSw); go_simp; try (with_reducible rfl))
     try simp only [Act.put, List.setIfInBounds_toArray, List.set_cons_zero, List.set_cons_succ]
     refine wpAnyH_take (i := 7) (oi := { dst := some 13, op := Op.load 9 (Operand.tmp 12), type := 9, pos := "parse.go:221", after := #[{ on := 6, ground := Ground.data }], guard := none }) (v := ?v7c8) rfl (by kernel_rfl) (by kernel_rfl) (by kernel_rfl) (fun _ _ _ h => h) (Or.inl ⟨by rfl, ?hy7c8⟩) hH ?r7c8
     case hy7c8 => (intro W hSw; (try dsimp only at hSw); go_simp; try (with_reducible rfl))
     try simp only [Act.put, List.setIfInBounds_toArray, List.set_cons_zero, List.set_cons_succ]
     refine wpAnyH_take (i := 8) (oi := { dst := some 14, op := Op.call { callee := Callee.builtin Builtin.len, args := #[Operand.tmp 13], argTypes := #[9] }, type := 3, pos := "parse.go:221", after := #[{ on := 7, ground := Ground.data }], guard := none }) (v := ?v8c9) rfl (by kernel_rfl) (by kernel_rfl) (by kernel_rfl) (fun _ _ _ h => h) (Or.inl ⟨by rfl, ?hy8c9⟩) hH ?r8c9
     case hy8c9 => (intro W hSw; (try dsimp only at hSw); go_simp; try (with_reducible rfl))
     try simp only [Act.put, List.setIfInBounds_toArray, List.set_cons_zero, List.set_cons_succ]
     refine wpAnyH_take (i := 9) (oi := { dst := some 15, op := Op.binOp BinOp.lss 3 (Operand.tmp 9) (Operand.tmp 14) 3, type := 4, pos := "parse.go:221", after := #[{ on := 3, ground := Ground.data }, { on := 8, ground := Ground.data }], guard := none }) (v := ?v9c10) rfl (by kernel_rfl) (by kernel_rfl) (by kernel_rfl) (fun _ _ _ h => h) (Or.inl ⟨by rfl, ?hy9c10⟩) hH ?r9c10
     case hy9c10 => (intro W hSw; (try dsimp only at hSw); go_simp; try (with_reducible rfl))
     try simp only [Act.put, List.setIfInBounds_toArray, List.set_cons_zero, List.set_cons_succ]
     refine wpAnyH_take (i := 10) (oi := { dst := some 16, op := Op.move (Operand.tmp 15), type := 4, pos := "parse.go:221", after := #[{ on := 9, ground := Ground.data }], guard := none }) (v := ?v10c11) rfl (by kernel_rfl) (by kernel_rfl) (by kernel_rfl) (fun _ _ _ h => h) (Or.inl ⟨by rfl, ?hy10c11⟩) hH ?r10c11
     case hy10c11 => (intro W hSw; (try dsimp only at hSw); go_simp; try (with_reducible rfl))
     try simp only [Act.put, List.setIfInBounds_toArray, List.set_cons_zero, List.set_cons_succ]
     refine wpAnyH_take (i := 11) (oi := { dst := some 17, op := Op.load 24 (Operand.tmp 4), type := 24, pos := "parse.go:221", after := #[{ on := 10, ground := Ground.guard }], guard := some (10, true) }) (v := ?v11c12) rfl (by kernel_rfl) (by kernel_rfl) (by kernel_rfl) (fun _ _ _ h => h) (Or.inl ⟨by rfl, ?hy11c12⟩) hH ?r11c12
     case hy11c12 => (intro W hSw; (try dsimp only at hSw); go_simp; try (with_reducible rfl))
     try simp only [Act.put, List.setIfInBounds_toArray, List.set_cons_zero, List.set_cons_succ]
     refine wpAnyH_take (i := 12) (oi := { dst := some 18, op := Op.move (Operand.tmp 0), type := 90, pos := "parse.go:221", after := #[{ on := 10, ground := Ground.guard }], guard := some (10, true) }) (v := ?v12c13) rfl (by kernel_rfl) (by kernel_rfl) (by kernel_rfl) (fun _ _ _ h => h) (Or.inl ⟨by rfl, ?hy12c13⟩) hH ?r12c13
     case hy12c13 => (intro W hSw; (try dsimp only at hSw); go_simp; try (with_reducible rfl))
     try simp only [Act.put, List.setIfInBounds_toArray, List.set_cons_zero, List.set_cons_succ]
     refine wpAnyH_take (i := 13) (oi := { dst := some 19, op := Op.nilCheck (Operand.tmp 18), type := 0, pos := "parse.go:221", after := #[{ on := 12, ground := Ground.data }, { on := 10, ground := Ground.guard }], guard := some (10, true) }) (v := ?v13c14) rfl (by kernel_rfl) (by kernel_rfl) (by kernel_rfl) (fun _ _ _ h => h) (Or.inl ⟨by rfl, ?hy13c14⟩) hH ?r13c14
     case hy13c14 => (intro W hSw; (try dsimp only at hSw); go_simp; try (with_reducible rfl))
     try simp only [Act.put, List.setIfInBounds_toArray, List.set_cons_zero, List.set_cons_succ]
     refine wpAnyH_take (i := 14) (oi := { dst := some 20, op := Op.fieldAddr 66 (Operand.tmp 19) 0, type := 0, pos := "parse.go:221", after := #[{ on := 13, ground := Ground.data }, { on := 10, ground := Ground.guard }], guard := some (10, true) }) (v := ?v14c15) rfl (by kernel_rfl) (by kernel_rfl) (by kernel_rfl) (fun _ _ _ h => h) (Or.inl ⟨by rfl, ?hy14c15⟩) hH ?r14c15
     case hy14c15 => (intro W hSw; (try dsimp only at hSw); go_simp; try (with_reducible rfl))
     try simp only [Act.put, List.setIfInBounds_toArray, List.set_cons_zero, List.set_cons_succ]
     refine wpAnyH_take (i := 15) (oi := { dst := some 21, op := Op.load 9 (Operand.tmp 20), type := 9, pos := "parse.go:221", after := #[{ on := 14, ground := Ground.data }, { on := 10, ground := Ground.guard }], guard := some (10, true) }) (v := ?v15c16) rfl (by kernel_rfl) (by kernel_rfl) (by kernel_rfl) (fun _ _ _ h => h) (Or.inl ⟨by rfl, ?hy15c16⟩) hH ?r15c16
     case hy15c16 => (intro W hSw; (try dsimp only at hSw); go_simp; try (with_reducible rfl))
     try simp only [Act.put, List.setIfInBounds_toArray, List.set_cons_zero, List.set_cons_succ]
     refine wpAnyH_take (i := 16) (oi := { dst := some 22, op := Op.move (Operand.tmp 0), type := 90, pos := "parse.go:221", after := #[{ on := 10, ground := Ground.guard }], guard := some (10, true) }) (v := ?v16c17) rfl (by kernel_rfl) (by kernel_rfl) (by kernel_rfl) (fun _ _ _ h => h) (Or.inl ⟨by rfl, ?hy16c17⟩) hH ?r16c17
     case hy16c17 => (intro W hSw; (try dsimp only at hSw); go_simp; try (with_reducible rfl))
     try simp only [Act.put, List.setIfInBounds_toArray, List.set_cons_zero, List.set_cons_succ]
     refine wpAnyH_take (i := 17) (oi := { dst := some 23, op := Op.nilCheck (Operand.tmp 22), type := 0, pos := "parse.go:221", after := #[{ on := 16, ground := Ground.data }, { on := 10, ground := Ground.guard }], guard := some (10, true) }) (v := ?v17c18) rfl (by kernel_rfl) (by kernel_rfl) (by kernel_rfl) (fun _ _ _ h => h) (Or.inl ⟨by rfl, ?hy17c18⟩) hH ?r17c18
     case hy17c18 => (intro W hSw; (try dsimp only at hSw); go_simp; try (with_reducible rfl))
     try simp only [Act.put, List.setIfInBounds_toArray, List.set_cons_zero, List.set_cons_succ]
     refine wpAnyH_take (i := 18) (oi := { dst := some 24, op := Op.fieldAddr 66 (Operand.tmp 23) 2, type := 0, pos := "parse.go:221", after := #[{ on := 17, ground := Ground.data }, { on := 10, ground := Ground.guard }], guard := some (10, true) }) (v := ?v18c19) rfl (by kernel_rfl) (by kernel_rfl) (by kernel_rfl) (fun _ _ _ h => h) (Or.inl ⟨by rfl, ?hy18c19⟩) hH ?r18c19
     case hy18c19 => (intro W hSw; (try dsimp only at hSw); go_simp; try (with_reducible rfl))
     try simp only [Act.put, List.setIfInBounds_toArray, List.set_cons_zero, List.set_cons_succ]
     refine wpAnyH_take (i := 19) (oi := { dst := some 25, op := Op.load 3 (Operand.tmp 24), type := 3, pos := "parse.go:221", after := #[{ on := 18, ground := Ground.data }, { on := 10, ground := Ground.guard }], guard := some (10, true) }) (v := ?v19c20) rfl (by kernel_rfl) (by kernel_rfl) (by kernel_rfl) (fun _ _ _ h => h) (Or.inl ⟨by rfl, ?hy19c20⟩) hH ?r19c20
     case hy19c20 => (intro W hSw; (try dsimp only at hSw); go_simp; try (with_reducible rfl))
     try simp only [Act.put, List.setIfInBounds_toArray, List.set_cons_zero, List.set_cons_succ]
     refine wpAnyH_take (i := 20) (oi := { dst := some 26, op := Op.index 9 (Operand.tmp 21) (Operand.tmp 25), type := 5, pos := "parse.go:221", after := #[{ on := 15, ground := Ground.data }, { on := 19, ground := Ground.data }, { on := 10, ground := Ground.guard }], guard := some (10, true) }) (v := ?v20c21) rfl (by kernel_rfl) (by kernel_rfl) (by kernel_rfl) (fun _ _ _ h => h) (Or.inl ⟨by rfl, ?hy20c21⟩) hH ?r20c21
     case hy20c21 => (intro W hSw; (try dsimp only at hSw); go_simp; try (with_reducible rfl))
     try simp only [Act.put, List.setIfInBounds_toArray, List.set_cons_zero, List.set_cons_succ]
     refine wpAnyH_ready (rs := [21]) (by kernel_rfl) (by simp) ?_
     refine AllReadyH.cons (o := { dst := some 27, op := Op.call { callee := Callee.value (Operand.func 133), args := #[Operand.tmp 17, Operand.tmp 26], argTypes := #[24, 5] }, type := 4, pos := "parse.go:221", after := #[{ on := 11, ground := Ground.data }, { on := 20, ground := Ground.data }, { on := 10, ground := Ground.chain }, { on := 10, ground := Ground.guard }], guard := some (10, true) }) rfl (fun K hKq => ?_) AllReadyH.nil
     go_simp
     refine (has_any (rng 48 57) b _ hb256).mono ?_
     rintro e y1 ⟨rfl, kq⟩
     rw [HD.out]
     refine hKq.out _ _ (MK.out _ (KQ.trans kq)) (fun hN => ?_)
     clear kq
     clear hKq K hH KQ
     have hH := hN
     clear hN
     have KQ := hH.2.2.2.2.2.2.out
     try simp only [Act.put, List.setIfInBounds_toArray, List.set_cons_zero, List.set_cons_succ]
     refine wpAnyH_take (i := 22) (oi := { dst := some 28, op := Op.pick (Operand.tmp 16) (Operand.tmp 27) (Operand.const (Value.bool false)), type := 4, pos := "parse.go:221", after := #[{ on := 10, ground := Ground.data }, { on := 21, ground := Ground.data }], guard := none }) (v := ?v22c22) rfl (by kernel_rfl) (by kernel_rfl) (by kernel_rfl) (fun _ _ _ h => h) (Or.inl ⟨by rfl, ?hy22c22⟩) hH ?r22c22
     case hy22c22 => (intro W hSw; (try dsimp only at hSw); go_simp; try (with_reducible rfl))
     try simp only [Act.put, List.setIfInBounds_toArray, List.set_cons_zero, List.set_cons_succ]
     refine wpAnyH_done (by kernel_rfl) ?_ _
     refine NoPanic.normal ?_
     go_wp2_with fail
     go_meet
     case rel => exact ⟨rfl, KQ⟩
    case rest =>
     obtain ⟨rfl, k2⟩ := hcut
     rename World => W2
     have R2 : Hid (Rd W2 P s ere j n g d) := R.out.kp k2
     have K2 : Hid (Ks P w W2) := K.out.kpt k2 hP
     clear k2 A R K
     go_wp2_with fail
     go_ret2
     exact ⟨by rw [E.out]; rfl, by rw [E.out]; exact R2.out, K2.out⟩
  ·
   have hli : ¬ (j : Int) < (s.size : Int) := by omega
   have E : Hid (pNum s i = (m, ok, j)) := by
    have := HP.out
    unfold pNumL at this
    rw [decide_eq_false hlt] at this
    exact this.symm
   go_upto_region 2 with fail
   go_cut [28] (fun v wc => v = .bool false ∧ Kp wr wc)
   case first =>
    have Q0 : Kp wr wr.drew := (Kp.refl _).drew
    have MK : Hid (∀ W, Kp wr W → W.cell? ⟨P, 0, none⟩ = some (.string s) ∧ W.cell? ⟨P, 2, none⟩ = some (.int .i64 (j : Int)) ∧ W.cell? ⟨w1.heap.size, 0, none⟩ = some (.int .u64 (wd (rng 48 57) 0 : Nat)) ∧ W.cell? ⟨w1.heap.size, 1, none⟩ = some (.int .u64 (wd (rng 48 57) 1 : Nat)) ∧ W.cell? ⟨w1.heap.size, 2, none⟩ = some (.int .u64 (wd (rng 48 57) 2 : Nat)) ∧ W.cell? ⟨w1.heap.size, 3, none⟩ = some (.int .u64 (wd (rng 48 57) 3 : Nat)) ∧ Hid (Kp wr W)) := fun W k => ⟨(R.out.kp k).cells.1, (R.out.kp k).cells.2.2.1, (A.out.kp k).cells.1, (A.out.kp k).cells.2.1, (A.out.kp k).cells.2.2.1, (A.out.kp k).cells.2.2.2, k⟩
    refine wp_region_noPanic ?_
    refine wp_region_held_drew (S := (fun W => W.cell? ⟨P, 0, none⟩ = some (.string s) ∧ W.cell? ⟨P, 2, none⟩ = some (.int .i64 (j : Int)) ∧ W.cell? ⟨w1.heap.size, 0, none⟩ = some (.int .u64 (wd (rng 48 57) 0 : Nat)) ∧ W.cell? ⟨w1.heap.size, 1, none⟩ = some (.int .u64 (wd (rng 48 57) 1 : Nat)) ∧ W.cell? ⟨w1.heap.size, 2, none⟩ = some (.int .u64 (wd (rng 48 57) 2 : Nat)) ∧ W.cell? ⟨w1.heap.size, 3, none⟩ = some (.int .u64 (wd (rng 48 57) 3 : Nat)) ∧ Hid (Kp wr W))) (by kernel_rfl) ?_ (fun hH => ?_)
    ·
     exact MK.out _ Q0
    have KQ := Q0
    refine wpAnyH_take (i := 0) (oi := { dst := some 6, op := Op.move (Operand.tmp 0), type := 90, pos := "parse.go:221", after := #[], guard := none }) (v := ?v0d1) rfl (by kernel_rfl) (by kernel_rfl) (by kernel_rfl) (fun _ _ _ h => h) (Or.inl ⟨by rfl, ?hy0d1⟩) hH ?r0d1
    case hy0d1 => (intro W hSw; (try dsimp only at hSw); go_simp; try (with_reducible rfl))
    try simp only [Act.put, List.setIfInBounds_toArray, List.set_cons_zero, List.set_cons_succ]
    refine wpAnyH_take (i := 1) (oi := { dst := some 7, op := Op.nilCheck (Operand.tmp 6), type := 0, pos := "parse.go:221", after := #[{ on := 0, ground := Ground.data }], guard := none }) (v := ?v1d2) rfl (by kernel_rfl) (by kernel_rfl) (by kernel_rfl) (fun _ _ _ h => h) (Or.inl ⟨by rfl, ?hy1d2⟩) hH ?r1d2
    case hy1d2 => (intro W hSw; (try dsimp only at hSw); go_simp; try (with_reducible rfl))
    try simp only [Act.put, List.setIfInBounds_toArray, List.set_cons_zero, List.set_cons_succ]
    refine wpAnyH_take (i := 2) (oi := { dst := some 8, op := Op.fieldAddr 66 (Operand.tmp 7) 2, type := 0, pos := "parse.go:221", after := #[{ on := 1, ground := Ground.data }], guard := none }) (v := ?v2d3) rfl (by kernel_rfl) (by kernel_rfl) (by kernel_rfl) (fun _ _ _ h => h) (Or.inl ⟨by rfl, ?hy2d3⟩) hH ?r2d3
    case hy2d3 => (intro W hSw; (try dsimp only at hSw); go_simp; try (with_reducible rfl))
    try simp only [Act.put, List.setIfInBounds_toArray, List.set_cons_zero, List.set_cons_succ]
    refine wpAnyH_take (i := 3) (oi := { dst := some 9, op := Op.load 3 (Operand.tmp 8), type := 3, pos := "parse.go:221", after := #[{ on := 2, ground := Ground.data }], guard := none }) (v := ?v3d4) rfl (by kernel_rfl) (by kernel_rfl) (by kernel_rfl) (fun _ _ _ h => h) (Or.inl ⟨by rfl, ?hy3d4⟩) hH ?r3d4
    case hy3d4 => (intro W hSw; (try dsimp only at hSw); go_simp; try (with_reducible rfl))
    try simp only [Act.put, List.setIfInBounds_toArray, List.set_cons_zero, List.set_cons_succ]
    refine wpAnyH_take (i := 4) (oi := { dst := some 10, op := Op.move (Operand.tmp 0), type := 90, pos := "parse.go:221", after := #[], guard := none }) (v := ?v4d5) rfl (by kernel_rfl) (by kernel_rfl) (by kernel_rfl) (fun _ _ _ h => h) (Or.inl ⟨by rfl, ?hy4d5⟩) hH ?r4d5
    case hy4d5 => (intro W hSw; (try dsimp only at hSw); go_simp; try (with_reducible rfl))
    try simp only [Act.put, List.setIfInBounds_toArray, List.set_cons_zero, List.set_cons_succ]
    refine wpAnyH_take (i := 5) (oi := { dst := some 11, op := Op.nilCheck (Operand.tmp 10), type := 0, pos := "parse.go:221", after := #[{ on := 4, ground := Ground.data }], guard := none }) (v := ?v5d6) rfl (by kernel_rfl) (by kernel_rfl) (by kernel_rfl) (fun _ _ _ h => h) (Or.inl ⟨by rfl, ?hy5d6⟩) hH ?r5d6
    case hy5d6 => (intro W hSw; (try dsimp only at hSw); go_simp; try (with_reducible rfl))
    try simp only [Act.put, List.setIfInBounds_toArray, List.set_cons_zero, List.set_cons_succ]
    refine wpAnyH_take (i := 6) (oi := { dst := some 12, op := Op.fieldAddr 66 (Operand.tmp 11) 0, type := 0, pos := "parse.go:221", after := #[{ on := 5, ground := Ground.data }], guard := none }) (v := ?v6d7) rfl (by kernel_rfl) (by kernel_rfl) (by kernel_rfl) (fun _ _ _ h => h) (Or.inl ⟨by rfl, ?hy6d7⟩) hH ?r6d7
    case hy6d7 => (intro W hSw; (try dsimp only at hSw); go_simp; try (with_reducible rfl))
    try simp only [Act.put, List.setIfInBounds_toArray, List.set_cons_zero, List.set_cons_succ]
    refine wpAnyH_take (i := 7) (oi := { dst := some 13, op := Op.load 9 (Operand.tmp 12), type := 9, pos := "parse.go:221", after := #[{ on := 6, ground := Ground.data }], guard := none }) (v := ?v7d8) rfl (by kernel_rfl) (by kernel_rfl) (by kernel_rfl) (fun _ _ _ h => h) (Or.inl ⟨by rfl, ?hy7d8⟩) hH ?r7d8
    case hy7d8 => (intro W hSw; (try dsimp only at hSw); go_simp; try (with_reducible rfl))
    try simp only [Act.put, List.setIfInBounds_toArray, List.set_cons_zero, List.set_cons_succ]
    refine wpAnyH_take (i := 8) (oi := { dst := some 14, op := Op.call { callee := Callee.builtin Builtin.len, args := #[Operand.tmp 13], argTypes := #[9] }, type := 3, pos := "parse.go:221", after := #[{ on := 7, ground := Ground.data }], guard := none }) (v := ?v8d9) rfl (by kernel_rfl) (by kernel_rfl) (by kernel_rfl) (fun _ _ _ h => h) (Or.inl ⟨by rfl, ?hy8d9⟩) hH ?r8d9
    case hy8d9 => (intro W hSw; (try dsimp only at hSw); go_simp; try (with_reducible rfl))
    try simp only [Act.put, List.setIfInBounds_toArray, List.set_cons_zero, List.set_cons_succ]
    refine wpAnyH_take (i := 9) (oi := { dst := some 15, op := Op.binOp BinOp.lss 3 (Operand.tmp 9) (Operand.tmp 14) 3, type := 4, pos := "parse.go:221", after := #[{ on := 3, ground := Ground.data }, { on := 8, ground := Ground.data }], guard := none }) (v := ?v9d10) rfl (by kernel_rfl) (by kernel_rfl) (by kernel_rfl) (fun _ _ _ h => h) (Or.inl ⟨by rfl, ?hy9d10⟩) hH ?r9d10
    case hy9d10 => (intro W hSw; (try dsimp only at hSw); go_simp; try (with_reducible rfl))
    try simp only [Act.put, List.setIfInBounds_toArray, List.set_cons_zero, List.set_cons_succ]
    refine wpAnyH_take (i := 10) (oi := { dst := some 16, op := Op.move (Operand.tmp 15), type := 4, pos := "parse.go:221", after := #[{ on := 9, ground := Ground.data }], guard := none }) (v := ?v10d11) rfl (by kernel_rfl) (by kernel_rfl) (by kernel_rfl) (fun _ _ _ h => h) (Or.inl ⟨by rfl, ?hy10d11⟩) hH ?r10d11
    case hy10d11 => (intro W hSw; (try dsimp only at hSw); go_simp; try (with_reducible rfl))
    try simp only [Act.put, List.setIfInBounds_toArray, List.set_cons_zero, List.set_cons_succ]
    refine wpAnyH_take (i := 11) (oi := { dst := some 17, op := Op.load 24 (Operand.tmp 4), type := 24, pos := "parse.go:221", after := #[{ on := 10, ground := Ground.guard }], guard := some (10, true) }) (v := undef) rfl (by kernel_rfl) (by kernel_rfl) (by kernel_rfl) (fun _ _ _ h => h) (Or.inr ⟨by rfl, rfl⟩) hH ?r11d12
    try simp only [Act.put, List.setIfInBounds_toArray, List.set_cons_zero, List.set_cons_succ]
    refine wpAnyH_take (i := 12) (oi := { dst := some 18, op := Op.move (Operand.tmp 0), type := 90, pos := "parse.go:221", after := #[{ on := 10, ground := Ground.guard }], guard := some (10, true) }) (v := undef) rfl (by kernel_rfl) (by kernel_rfl) (by kernel_rfl) (fun _ _ _ h => h) (Or.inr ⟨by rfl, rfl⟩) hH ?r12d13
    try simp only [Act.put, List.setIfInBounds_toArray, List.set_cons_zero, List.set_cons_succ]
    refine wpAnyH_take (i := 13) (oi := { dst := some 19, op := Op.nilCheck (Operand.tmp 18), type := 0, pos := "parse.go:221", after := #[{ on := 12, ground := Ground.data }, { on := 10, ground := Ground.guard }], guard := some (10, true) }) (v := undef) rfl (by kernel_rfl) (by kernel_rfl) (by kernel_rfl) (fun _ _ _ h => h) (Or.inr ⟨by rfl, rfl⟩) hH ?r13d14
    try simp only [Act.put, List.setIfInBounds_toArray, List.set_cons_zero, List.set_cons_succ]
    refine wpAnyH_take (i := 14) (oi := { dst := some 20, op := Op.fieldAddr 66 (Operand.tmp 19) 0, type := 0, pos := "parse.go:221", after := #[{ on := 13, ground := Ground.data }, { on := 10, ground := Ground.guard }], guard := some (10, true) }) (v := undef) rfl (by kernel_rfl) (by kernel_rfl) (by kernel_rfl) (fun _ _ _ h => h) (Or.inr ⟨by rfl, rfl⟩) hH ?r14d15
    try simp only [Act.put, List.setIfInBounds_toArray, List.set_cons_zero, List.set_cons_succ]
    refine wpAnyH_take (i := 15) (oi := { dst := some 21, op := Op.load 9 (Operand.tmp 20), type := 9, pos := "parse.go:221", after := #[{ on := 14, ground := Ground.data }, { on := 10, ground := Ground.guard }], guard := some (10, true) }) (v := undef) rfl (by kernel_rfl) (by kernel_rfl) (by kernel_rfl) (fun _ _ _ h => h) (Or.inr ⟨by rfl, rfl⟩) hH ?r15d16
    try simp only [Act.put, List.setIfInBounds_toArray, List.set_cons_zero, List.set_cons_succ]
    refine wpAnyH_take (i := 16) (oi := { dst := some 22, op := Op.move (Operand.tmp 0), type := 90, pos := "parse.go:221", after := #[{ on := 10, ground := Ground.guard }], guard := some (10, true) }) (v := undef) rfl (by kernel_rfl) (by kernel_rfl) (by kernel_rfl) (fun _ _ _ h => h) (Or.inr ⟨by rfl, rfl⟩) hH ?r16d17
    try simp only [Act.put, List.setIfInBounds_toArray, List.set_cons_zero, List.set_cons_succ]
    refine wpAnyH_take (i := 17) (oi := { dst := some 23, op := Op.nilCheck (Operand.tmp 22), type := 0, pos := "parse.go:221", after := #[{ on := 16, ground := Ground.data }, { on := 10, ground := Ground.guard }], guard := some (10, true) }) (v := undef) rfl (by kernel_rfl) (by kernel_rfl) (by kernel_rfl) (fun _ _ _ h => h) (Or.inr ⟨by rfl, rfl⟩) hH ?r17d18
    try simp only [Act.put, List.setIfInBounds_toArray, List.set_cons_zero, List.set_cons_succ]
    refine wpAnyH_take (i := 18) (oi := { dst := some 24, op := Op.fieldAddr 66 (Operand.tmp 23) 2, type := 0, pos := "parse.go:221", after := #[{ on := 17, ground := Ground.data }, { on := 10, ground := Ground.guard }], guard := some (10, true) }) (v := undef) rfl (by kernel_rfl) (by kernel_rfl) (by kernel_rfl) (fun _ _ _ h => h) (Or.inr ⟨by rfl, rfl⟩) hH ?r18d19
    try simp only [Act.put, List.setIfInBounds_toArray, List.set_cons_zero, List.set_cons_succ]
    refine wpAnyH_take (i := 19) (oi := { dst := some 25, op := Op.load 3 (Operand.tmp 24), type := 3, pos := "parse.go:221", after := #[{ on := 18, ground := Ground.data }, { on := 10, ground := Ground.guard }], guard := some (10, true) }) (v := undef) rfl (by kernel_rfl) (by kernel_rfl) (by kernel_rfl) (fun _ _ _ h => h) (Or.inr ⟨by rfl, rfl⟩) hH ?r19d20
    try simp only [Act.put, List.setIfInBounds_toArray, List.set_cons_zero, List.set_cons_succ]
    refine wpAnyH_take (i := 20) (oi := { dst := some 26, op := Op.index 9 (Operand.tmp 21) (Operand.tmp 25), type := 5, pos := "parse.go:221", after := #[{ on := 15, ground := Ground.data }, { on := 19, ground := Ground.data }, { on := 10, ground := Ground.guard }], guard := some (10, true) }) (v := undef) rfl (by kernel_rfl) (by kernel_rfl) (by kernel_rfl) (fun _ _ _ h => h) (Or.inr ⟨by rfl, rfl⟩) hH ?r20d21
    try simp only [Act.put, List.setIfInBounds_toArray, List.set_cons_zero, List.set_cons_succ]
    refine wpAnyH_take (i := 21) (oi := { dst := some 27, op := Op.call { callee := Callee.value (Operand.func 133), args := #[Operand.tmp 17, Operand.tmp 26], argTypes := #[24, 5] }, type := 4, pos := "parse.go:221", after := #[{ on := 11, ground := Ground.data }, { on := 20, ground := Ground.data }, { on := 10, ground := Ground.chain }, { on := 10, ground := Ground.guard }], guard := some (10, true) }) (v := undef) rfl (by kernel_rfl) (by kernel_rfl) (by kernel_rfl) (fun _ _ _ h => h) (Or.inr ⟨by rfl, rfl⟩) hH ?r21d22
    try simp only [Act.put, List.setIfInBounds_toArray, List.set_cons_zero, List.set_cons_succ]
    refine wpAnyH_take (i := 22) (oi := { dst := some 28, op := Op.pick (Operand.tmp 16) (Operand.tmp 27) (Operand.const (Value.bool false)), type := 4, pos := "parse.go:221", after := #[{ on := 10, ground := Ground.data }, { on := 21, ground := Ground.data }], guard := none }) (v := ?v22d23) rfl (by kernel_rfl) (by kernel_rfl) (by kernel_rfl) (fun _ _ _ h => h) (Or.inl ⟨by rfl, ?hy22d23⟩) hH ?r22d23
    case hy22d23 => (intro W hSw; (try dsimp only at hSw); go_simp; try (with_reducible rfl))
    try simp only [Act.put, List.setIfInBounds_toArray, List.set_cons_zero, List.set_cons_succ]
    refine wpAnyH_done (by kernel_rfl) ?_ _
    refine NoPanic.normal ?_
    go_wp2_with fail
    go_meet
    case rel => exact ⟨rfl, KQ⟩
   case rest =>
    obtain ⟨rfl, k2⟩ := hcut
    rename World => W2
    have R2 : Hid (Rd W2 P s ere j n g d) := R.out.kp k2
    have K2 : Hid (Ks P w W2) := K.out.kpt k2 hP
    clear k2 A R K
    go_wp2_with fail
    go_ret2
    exact ⟨by rw [E.out]; rfl, by rw [E.out]; exact R2.out, K2.out⟩
end Go.Proofs.YtommgdgilcemdaaGreatDoor
