/-
  The law BsetClasses.
-/
import Derived.Test.YtfijmepkbflahaaNamed
import Derived.Test.YtfijmepkbflahaaJoined
import Derived.Deep.RegionHeld3
import Derived.Deep.DeepCutAuto
namespace Go.Proofs.Ytfijmepkbflahaa
open Go.RowKit Go.Maps

abbrev namesBlk : Obj := .cells #[.string ⟨#[97, 108, 112, 104, 97]⟩, .string ⟨#[100, 105, 103, 105, 116]⟩, .string ⟨#[97, 108, 110, 117, 109]⟩, .string ⟨#[117, 112, 112, 101, 114]⟩, .string ⟨#[108, 111, 119, 101, 114]⟩, .string ⟨#[115, 112, 97, 99, 101]⟩, .string ⟨#[98, 108, 97, 110, 107]⟩, .string ⟨#[112, 117, 110, 99, 116]⟩, .string ⟨#[112, 114, 105, 110, 116]⟩, .string ⟨#[103, 114, 97, 112, 104]⟩, .string ⟨#[99, 110, 116, 114, 108]⟩, .string ⟨#[120, 100, 105, 103, 105, 116]⟩] 9

theorem names_cell (w : World) (B k : Nat) (h : w.heap[B]? = some namesBlk) (hk : k < 12) : w.cell? ⟨B, 0 + k, none⟩ = some (.string (nm k)) := by
  rw [Nat.zero_add]
  match k, hk with
  | 0, _ => exact cell_of_row w B 0 _ 9 (0, 0) h
  | 1, _ => exact cell_of_row w B 1 _ 9 (0, 0) h
  | 2, _ => exact cell_of_row w B 2 _ 9 (0, 0) h
  | 3, _ => exact cell_of_row w B 3 _ 9 (0, 0) h
  | 4, _ => exact cell_of_row w B 4 _ 9 (0, 0) h
  | 5, _ => exact cell_of_row w B 5 _ 9 (0, 0) h
  | 6, _ => exact cell_of_row w B 6 _ 9 (0, 0) h
  | 7, _ => exact cell_of_row w B 7 _ 9 (0, 0) h
  | 8, _ => exact cell_of_row w B 8 _ 9 (0, 0) h
  | 9, _ => exact cell_of_row w B 9 _ 9 (0, 0) h
  | 10, _ => exact cell_of_row w B 10 _ 9 (0, 0) h
  | 11, _ => exact cell_of_row w B 11 _ 9 (0, 0) h

theorem eqc1 : ∀ i, i < 256 → cGraph i = orB cAlnum cPunct i := by decide +kernel
theorem eqc2 : ∀ i, i < 256 → cPrint i = orB cGraph (addB (fun _ => false) 32) i := by decide +kernel
theorem eqc3 : ∀ i, i < 256 → orB cPrint cCntrl i = rng 0 127 i := by decide +kernel
theorem eqc4 : ∀ i, i < 256 → orB cSpace cBlank i = cSpace i := by decide +kernel

def MapKeep (w W : World) : Prop := MapAt W w.heap.size ∧ Kp w W
theorem MapKeep.kp {w W1 W2 : World} (h : MapKeep w W1) (k : Kp W1 W2) : MapKeep w W2 := ⟨MapAt.kp h.1 k, h.2.trans k⟩
theorem MapKeep.alloc {w W1 : World} (h : MapKeep w W1) (o : Obj) : MapKeep w (W1.alloc o) := h.kp ((Kp.refl _).alloc _)
theorem MapKeep.mk {w W : World} (h : MapKeep w W) : (Instr.lookup 43 (.map (some w.heap.size)) (.string ⟨#[97, 108, 112, 104, 97]⟩) false).run Try.prog W = .ok (sv cAlpha) W ∧ (Instr.lookup 43 (.map (some w.heap.size)) (.string ⟨#[117, 112, 112, 101, 114]⟩) false).run Try.prog W = .ok (sv cUpper) W ∧ (Instr.lookup 43 (.map (some w.heap.size)) (.string ⟨#[108, 111, 119, 101, 114]⟩) false).run Try.prog W = .ok (sv cLower) W ∧ (Instr.lookup 43 (.map (some w.heap.size)) (.string ⟨#[97, 108, 110, 117, 109]⟩) false).run Try.prog W = .ok (sv cAlnum) W ∧ (Instr.lookup 43 (.map (some w.heap.size)) (.string ⟨#[100, 105, 103, 105, 116]⟩) false).run Try.prog W = .ok (sv cDigit) W ∧ (Instr.lookup 43 (.map (some w.heap.size)) (.string ⟨#[103, 114, 97, 112, 104]⟩) false).run Try.prog W = .ok (sv cGraph) W ∧ (Instr.lookup 43 (.map (some w.heap.size)) (.string ⟨#[112, 117, 110, 99, 116]⟩) false).run Try.prog W = .ok (sv cPunct) W ∧ (Instr.lookup 43 (.map (some w.heap.size)) (.string ⟨#[112, 114, 105, 110, 116]⟩) false).run Try.prog W = .ok (sv cPrint) W ∧ (Instr.lookup 43 (.map (some w.heap.size)) (.string ⟨#[99, 110, 116, 114, 108]⟩) false).run Try.prog W = .ok (sv cCntrl) W ∧ (Instr.lookup 43 (.map (some w.heap.size)) (.string ⟨#[115, 112, 97, 99, 101]⟩) false).run Try.prog W = .ok (sv cSpace) W ∧ (Instr.lookup 43 (.map (some w.heap.size)) (.string ⟨#[98, 108, 97, 110, 107]⟩) false).run Try.prog W = .ok (sv cBlank) W ∧ Hid (MapKeep w W) :=
  ⟨h.1.alpha, h.1.upper, h.1.lower, h.1.alnum, h.1.digit, h.1.graph, h.1.punct, h.1.print, h.1.cntrl, h.1.space, h.1.blank, h⟩

set_option maxRecDepth 100000 in
set_option maxHeartbeats 2000000 in
theorem classes_any (s : ByteArray) (hs : s.size ≤ maxLen) (w : World) :
    Calls Try.prog 6 #[.string s] w fun e w' => e = .returned (.bool true) ∧ Kp w w' := by
  have HS : Hid (s.size ≤ maxLen) := hs
  clear hs
  have hmm := @run_makeMap Try.prog
  go_enter Try.func6, Try.ntmps6
  go_wp2_with fail
  go_loopw [15] (fun i wr => ∃ k : Nat, k ≤ 12 ∧ i = .int .i64 k ∧ wr.ownsMap Try.prog 9 RV w.heap.size k (dk k) ∧ wr.heap[w.heap.size + 1]? = some namesBlk ∧ Kp w wr) (fun i _ => 12 - (intOf i).toNat)
  case atStart =>
    refine ⟨0, by omega, rfl, (World.ownsMap_made _ _ _ _).alloc _, ?_, ((Kp.refl _).alloc _).alloc _⟩
    have h := last_of (w.alloc (.map #[] 0)) namesBlk
    rw [show (w.alloc (.map #[] 0)).heap.size = w.heap.size + 1 by simp] at h
    exact h
  case round =>
    obtain ⟨k, hk, rfl, hO, hN, hK⟩ := hrel
    by_cases hlt : k < 12
    · have hc := names_cell wr (w.heap.size + 1) k hN hlt
      rw [Nat.zero_add] at hc
      obtain ⟨y, hy⟩ : ∃ y, nm k = y := ⟨_, rfl⟩
      obtain ⟨qk, hqk⟩ : ∃ q, cq k = q := ⟨_, rfl⟩
      have HC : Hid (∀ W, Calls Try.prog 8 #[.string y] W fun e w' => e = .returned (.tuple #[sv qk, .bool true]) ∧ Kp W w') := by
        intro W; rw [← hy, ← hqk]; exact class_nth k hlt W
      have HD : Hid (dk (k + 1) = (dk k).put (.string y.data.toList) (.held (sv qk))) := by rw [← hy, ← hqk]; rfl
      have HKY : Hid (keyOf Try.prog 9 (.string y) = some (.string y.data.toList)) := by rw [← hy]; exact key_nm k
      rw [hy] at hc
      have HO : Hid (wr.ownsMap Try.prog 9 RV w.heap.size k (dk k)) := hO
      have HN : Hid (wr.heap[w.heap.size + 1]? = some namesBlk) := hN
      have HK : Hid (Kp w wr) := hK
      clear hy hO hN hK hqk
      go_wp2_with fail
      refine (HC.out _).mono ?_
      rintro e w1 ⟨rfl, k1⟩
      have HO1 : (w1.alloc (blk qk)).ownsMap Try.prog 9 RV w.heap.size k (dk k) := (own_kp HO.out k1).alloc _
      have HN1 : Hid (w1.heap[w.heap.size + 1]? = some namesBlk) := (k1.block _ (Array.getElem?_eq_some_iff.1 HN.out).1).trans HN.out
      have HK1 : Hid (Kp w w1) := HK.out.trans k1
      clear k1 HO HN HK HC
      go_wp2_with (at_mapUpdate; go_must (refine wpList_mapUpdate_own _ (by rfl) _ _ _ 43 (by rfl) 9 24 keyed9 Try.underlying43 RV w.heap.size k (dk k) (by rfl) HO1 ?h1 _ (sv qk) _ (by rfl) (by rfl) HKY.out _ [] (by rfl) ?_))
      case h1 => unfold maxLen; omega
      intro w2 hown2 hgrow2
      have HO2 : Hid (w2.ownsMap Try.prog 9 RV w.heap.size (k + 1) (dk (k + 1))) := by rw [HD.out]; exact hown2
      have hlt1 := (Array.getElem?_eq_some_iff.1 HN1.out).1
      have HN2 : Hid (w2.heap[w.heap.size + 1]? = some namesBlk) := by
        refine (hgrow2.block _ (by simp; omega) (by simp)).trans ?_
        rw [Below.heap_alloc _ _ _ hlt1]; exact HN1.out
      have HK2 : Hid (Kp w w2) := Below.grown (HK1.out.alloc _) hgrow2 (by simp; omega) (fun b hb => by cases hb; exact Nat.le_refl _)
      clear hown2 hgrow2 HO1
      go_wp2_with fail
      exact ⟨⟨k + 1, by omega, by go_num, HO2.out, HN2.out, HK2.out⟩, by simp [intOf]; omega⟩
    · obtain rfl : k = 12 := by omega
      have M0 : Hid (MapAt wr w.heap.size) := hO
      have K0 : Hid (Kp w wr) := hK
      obtain ⟨p0, L0⟩ := MapAt.known hO s HS.out
      clear hO hN hK
      go_wp2_with fail
      refine (class_any s _).mono ?_
      rintro e w3 ⟨p1, rfl, k⟩
      have k3 : Hid (Kp (wr.alloc (blk p0)) w3) := k
      clear k L0 hmm
      have E1 : ∀ W, (Op.equalIn 10000 24 (sv cAlpha) (sv (orB cUpper cLower))).run Try.prog W = .ok true W := eq_same (fun _ _ => rfl)
      have E2 : ∀ W, (Op.equalIn 10000 24 (sv cAlnum) (sv (orB cAlpha cDigit))).run Try.prog W = .ok true W := eq_same (fun _ _ => rfl)
      have E3 : ∀ W, (Op.equalIn 10000 24 (sv cGraph) (sv (orB cAlnum cPunct))).run Try.prog W = .ok true W := eq_same eqc1
      have E4 : ∀ W, (Op.equalIn 10000 24 (sv cPrint) (sv (orB cGraph (addB (fun _ => false) 32)))).run Try.prog W = .ok true W := eq_same eqc2
      have E5 : ∀ W, (Op.equalIn 10000 24 (sv (orB cPrint cCntrl)) (sv (rng 0 127))).run Try.prog W = .ok true W := eq_same eqc3
      have E6 : ∀ W, (Op.equalIn 10000 24 (sv (orB cSpace cBlank)) (sv cSpace)).run Try.prog W = .ok true W := eq_same eqc4
      have E7 : ∀ W, (Op.equalIn 10000 24 (sv cUpper) (sv (rng 65 90))).run Try.prog W = .ok true W := eq_same (fun _ _ => rfl)
      go_upto_region 12 with fail
      obtain ⟨W4, hW4⟩ : ∃ W4, w3.alloc (.cells #[.int .u64 (wd p1 0 : Nat), .int .u64 (wd p1 1 : Nat), .int .u64 (wd p1 2 : Nat), .int .u64 (wd p1 3 : Nat)] 24) = W4 := ⟨_, rfl⟩
      have Q0 : MapKeep w W4.drew := by
        subst hW4
        exact ⟨MapAt.kp (MapAt.kp M0.out ((Kp.refl _).alloc _)) (k3.out.trans ((Kp.refl _).alloc _).drew), ((K0.out.alloc _).trans (k3.out.trans ((Kp.refl _).alloc _))).drew⟩
      rw [hW4]
      clear hW4 M0 K0 k3
      simp only [List.append_eq, List.cons_append, List.nil_append]
      refine wp_region_noPanic ?_
      refine wp_region_held_drew (S := (fun W => (Instr.lookup 43 (.map (some w.heap.size)) (.string ⟨#[97, 108, 112, 104, 97]⟩) false).run Try.prog W = .ok (sv cAlpha) W ∧ (Instr.lookup 43 (.map (some w.heap.size)) (.string ⟨#[117, 112, 112, 101, 114]⟩) false).run Try.prog W = .ok (sv cUpper) W ∧ (Instr.lookup 43 (.map (some w.heap.size)) (.string ⟨#[108, 111, 119, 101, 114]⟩) false).run Try.prog W = .ok (sv cLower) W ∧ (Instr.lookup 43 (.map (some w.heap.size)) (.string ⟨#[97, 108, 110, 117, 109]⟩) false).run Try.prog W = .ok (sv cAlnum) W ∧ (Instr.lookup 43 (.map (some w.heap.size)) (.string ⟨#[100, 105, 103, 105, 116]⟩) false).run Try.prog W = .ok (sv cDigit) W ∧ (Instr.lookup 43 (.map (some w.heap.size)) (.string ⟨#[103, 114, 97, 112, 104]⟩) false).run Try.prog W = .ok (sv cGraph) W ∧ (Instr.lookup 43 (.map (some w.heap.size)) (.string ⟨#[112, 117, 110, 99, 116]⟩) false).run Try.prog W = .ok (sv cPunct) W ∧ (Instr.lookup 43 (.map (some w.heap.size)) (.string ⟨#[112, 114, 105, 110, 116]⟩) false).run Try.prog W = .ok (sv cPrint) W ∧ (Instr.lookup 43 (.map (some w.heap.size)) (.string ⟨#[99, 110, 116, 114, 108]⟩) false).run Try.prog W = .ok (sv cCntrl) W ∧ (Instr.lookup 43 (.map (some w.heap.size)) (.string ⟨#[115, 112, 97, 99, 101]⟩) false).run Try.prog W = .ok (sv cSpace) W ∧ (Instr.lookup 43 (.map (some w.heap.size)) (.string ⟨#[98, 108, 97, 110, 107]⟩) false).run Try.prog W = .ok (sv cBlank) W ∧ Hid (MapKeep w W))) (by kernel_rfl) ?_ (fun hH => ?_)
      · exact MapKeep.mk Q0
      refine wpAnyH_take (i := 0) (oi := { dst := some 41, op := Op.move (Operand.tmp 11), type := 4, pos := "law.go:68", after := #[], guard := none }) (v := ?v0) rfl (by kernel_rfl) (by kernel_rfl) (by kernel_rfl) (fun _ _ _ h => h) (Or.inl ⟨by rfl, ?hy0⟩) hH ?r0
      case hy0 => (intro W hSw; (try dsimp only at hSw); go_simp; try (with_reducible rfl))
      try simp only [Act.put, List.setIfInBounds_toArray, List.set_cons_zero, List.set_cons_succ]
      refine wpAnyH_take (i := 1) (oi := { dst := some 42, op := Op.move (Operand.tmp 9), type := 4, pos := "law.go:68", after := #[], guard := none }) (v := ?v1) rfl (by kernel_rfl) (by kernel_rfl) (by kernel_rfl) (fun _ _ _ h => h) (Or.inl ⟨by rfl, ?hy1⟩) hH ?r1
      case hy1 => (intro W hSw; (try dsimp only at hSw); go_simp; try (with_reducible rfl))
      try simp only [Act.put, List.setIfInBounds_toArray, List.set_cons_zero, List.set_cons_succ]
      refine wpAnyH_take (i := 2) (oi := { dst := some 43, op := Op.binOp BinOp.eql 4 (Operand.tmp 41) (Operand.tmp 42) 4, type := 4, pos := "law.go:68", after := #[{ on := 0, ground := Ground.data }, { on := 1, ground := Ground.data }], guard := none }) (v := ?v2) rfl (by kernel_rfl) (by kernel_rfl) (by kernel_rfl) (fun _ _ _ h => h) (Or.inl ⟨by rfl, ?hy2⟩) hH ?r2
      case hy2 => (intro W hSw; (try dsimp only at hSw); go_simp; try (with_reducible rfl))
      try simp only [Act.put, List.setIfInBounds_toArray, List.set_cons_zero, List.set_cons_succ]
      refine wpAnyH_take (i := 3) (oi := { dst := some 44, op := Op.move (Operand.tmp 43), type := 4, pos := "law.go:68", after := #[{ on := 2, ground := Ground.data }], guard := none }) (v := ?v3) rfl (by kernel_rfl) (by kernel_rfl) (by kernel_rfl) (fun _ _ _ h => h) (Or.inl ⟨by rfl, ?hy3⟩) hH ?r3
      case hy3 => (intro W hSw; (try dsimp only at hSw); go_simp; try (with_reducible rfl))
      try simp only [Act.put, List.setIfInBounds_toArray, List.set_cons_zero, List.set_cons_succ]
      refine wpAnyH_take (i := 4) (oi := { dst := some 45, op := Op.move (Operand.tmp 3), type := 43, pos := "law.go:68", after := #[{ on := 3, ground := Ground.guard }], guard := some (3, true) }) (v := ?v4) rfl (by kernel_rfl) (by kernel_rfl) (by kernel_rfl) (fun _ _ _ h => h) (Or.inl ⟨by rfl, ?hy4⟩) hH ?r4
      case hy4 => (intro W hSw; (try dsimp only at hSw); go_simp; try (with_reducible rfl))
      try simp only [Act.put, List.setIfInBounds_toArray, List.set_cons_zero, List.set_cons_succ]
      refine wpAnyH_take (i := 5) (oi := { dst := some 46, op := Op.lookup 43 (Operand.tmp 45) (Operand.const (Value.string { data := #[97, 108, 112, 104, 97] })) false, type := 24, pos := "law.go:68", after := #[{ on := 4, ground := Ground.data }, { on := 3, ground := Ground.guard }], guard := some (3, true) }) (v := ?v5) rfl (by kernel_rfl) (by kernel_rfl) (by kernel_rfl) (fun _ _ _ h => h) (Or.inl ⟨by rfl, ?hy5⟩) hH ?r5
      case hy5 => (intro W hSw; (try dsimp only at hSw); go_simp; try (with_reducible rfl))
      try simp only [Act.put, List.setIfInBounds_toArray, List.set_cons_zero, List.set_cons_succ]
      refine wpAnyH_take (i := 6) (oi := { dst := some 47, op := Op.move (Operand.tmp 3), type := 43, pos := "law.go:68", after := #[{ on := 3, ground := Ground.guard }], guard := some (3, true) }) (v := ?v6) rfl (by kernel_rfl) (by kernel_rfl) (by kernel_rfl) (fun _ _ _ h => h) (Or.inl ⟨by rfl, ?hy6⟩) hH ?r6
      case hy6 => (intro W hSw; (try dsimp only at hSw); go_simp; try (with_reducible rfl))
      try simp only [Act.put, List.setIfInBounds_toArray, List.set_cons_zero, List.set_cons_succ]
      refine wpAnyH_take (i := 7) (oi := { dst := some 48, op := Op.lookup 43 (Operand.tmp 47) (Operand.const (Value.string { data := #[117, 112, 112, 101, 114] })) false, type := 24, pos := "law.go:68", after := #[{ on := 6, ground := Ground.data }, { on := 3, ground := Ground.guard }], guard := some (3, true) }) (v := ?v7) rfl (by kernel_rfl) (by kernel_rfl) (by kernel_rfl) (fun _ _ _ h => h) (Or.inl ⟨by rfl, ?hy7⟩) hH ?r7
      case hy7 => (intro W hSw; (try dsimp only at hSw); go_simp; try (with_reducible rfl))
      try simp only [Act.put, List.setIfInBounds_toArray, List.set_cons_zero, List.set_cons_succ]
      refine wpAnyH_take (i := 8) (oi := { dst := some 49, op := Op.move (Operand.tmp 3), type := 43, pos := "law.go:68", after := #[{ on := 3, ground := Ground.guard }], guard := some (3, true) }) (v := ?v8) rfl (by kernel_rfl) (by kernel_rfl) (by kernel_rfl) (fun _ _ _ h => h) (Or.inl ⟨by rfl, ?hy8⟩) hH ?r8
      case hy8 => (intro W hSw; (try dsimp only at hSw); go_simp; try (with_reducible rfl))
      try simp only [Act.put, List.setIfInBounds_toArray, List.set_cons_zero, List.set_cons_succ]
      refine wpAnyH_take (i := 9) (oi := { dst := some 50, op := Op.lookup 43 (Operand.tmp 49) (Operand.const (Value.string { data := #[108, 111, 119, 101, 114] })) false, type := 24, pos := "law.go:68", after := #[{ on := 8, ground := Ground.data }, { on := 3, ground := Ground.guard }], guard := some (3, true) }) (v := ?v9) rfl (by kernel_rfl) (by kernel_rfl) (by kernel_rfl) (fun _ _ _ h => h) (Or.inl ⟨by rfl, ?hy9⟩) hH ?r9
      case hy9 => (intro W hSw; (try dsimp only at hSw); go_simp; try (with_reducible rfl))
      try simp only [Act.put, List.setIfInBounds_toArray, List.set_cons_zero, List.set_cons_succ]
      refine wpAnyH_ready (rs := [10]) (by kernel_rfl) (by simp) ?_
      refine AllReadyH.cons (o := { dst := some 51, op := Op.buildSlice 50 2 #[(0, Operand.tmp 48), (1, Operand.tmp 50)], type := 50, pos := "law.go:68", after := #[{ on := 7, ground := Ground.data }, { on := 9, ground := Ground.data }, { on := 3, ground := Ground.guard }], guard := some (3, true) }) rfl (fun K hK => ?_) AllReadyH.nil
      go_simp
      refine hK.out _ _ (MapKeep.mk (Q0.alloc _)) (fun hN => ?_)
      clear hK K hH
      have hH := hN
      clear hN
      try simp only [Act.put, List.setIfInBounds_toArray, List.set_cons_zero, List.set_cons_succ]
      refine wpAnyH_ready (rs := [11]) (by kernel_rfl) (by simp) ?_
      refine AllReadyH.cons (o := { dst := some 52, op := Op.call { callee := Callee.value (Operand.func 10), args := #[Operand.tmp 51], argTypes := #[50] }, type := 24, pos := "law.go:68", after := #[{ on := 10, ground := Ground.data }, { on := 3, ground := Ground.chain }, { on := 3, ground := Ground.guard }], guard := some (3, true) }) rfl (fun K hK => ?_) AllReadyH.nil
      go_simp
      refine (join2 cUpper cLower _ _ ?hs1 ?hX1).mono ?_
      case hs1 => simp
      case hX1 => exact last_of _ _
      rintro e v1 ⟨rfl, k⟩
      have Q1 := (Q0.alloc _).kp k
      clear k Q0
      refine hK.out _ _ (MapKeep.mk Q1) (fun hN => ?_)
      clear hK K hH
      have hH := hN
      clear hN
      try simp only [Act.put, List.setIfInBounds_toArray, List.set_cons_zero, List.set_cons_succ]
      refine wpAnyH_take (i := 12) (oi := { dst := some 53, op := Op.binOp BinOp.eql 24 (Operand.tmp 46) (Operand.tmp 52) 24, type := 4, pos := "law.go:68", after := #[{ on := 5, ground := Ground.data }, { on := 11, ground := Ground.data }, { on := 3, ground := Ground.guard }], guard := some (3, true) }) (v := ?v12) rfl (by kernel_rfl) (by kernel_rfl) (by kernel_rfl) (fun _ _ _ h => h) (Or.inl ⟨by rfl, ?hy12⟩) hH ?r12
      case hy12 => (intro W hSw; (try dsimp only at hSw); go_simp; try (with_reducible rfl))
      try simp only [Act.put, List.setIfInBounds_toArray, List.set_cons_zero, List.set_cons_succ]
      refine wpAnyH_take (i := 13) (oi := { dst := some 54, op := Op.pick (Operand.tmp 44) (Operand.tmp 53) (Operand.const (Value.bool false)), type := 4, pos := "law.go:68", after := #[{ on := 3, ground := Ground.data }, { on := 12, ground := Ground.data }], guard := none }) (v := ?v13) rfl (by kernel_rfl) (by kernel_rfl) (by kernel_rfl) (fun _ _ _ h => h) (Or.inl ⟨by rfl, ?hy13⟩) hH ?r13
      case hy13 => (intro W hSw; (try dsimp only at hSw); go_simp; try (with_reducible rfl))
      try simp only [Act.put, List.setIfInBounds_toArray, List.set_cons_zero, List.set_cons_succ]
      refine wpAnyH_take (i := 14) (oi := { dst := some 55, op := Op.move (Operand.tmp 54), type := 4, pos := "law.go:68", after := #[{ on := 13, ground := Ground.data }, { on := 11, ground := Ground.chain }], guard := none }) (v := ?v14) rfl (by kernel_rfl) (by kernel_rfl) (by kernel_rfl) (fun _ _ _ h => h) (Or.inl ⟨by rfl, ?hy14⟩) hH ?r14
      case hy14 => (intro W hSw; (try dsimp only at hSw); go_simp; try (with_reducible rfl))
      try simp only [Act.put, List.setIfInBounds_toArray, List.set_cons_zero, List.set_cons_succ]
      refine wpAnyH_take (i := 15) (oi := { dst := some 56, op := Op.move (Operand.tmp 3), type := 43, pos := "law.go:68", after := #[{ on := 14, ground := Ground.guard }], guard := some (14, true) }) (v := ?v15) rfl (by kernel_rfl) (by kernel_rfl) (by kernel_rfl) (fun _ _ _ h => h) (Or.inl ⟨by rfl, ?hy15⟩) hH ?r15
      case hy15 => (intro W hSw; (try dsimp only at hSw); go_simp; try (with_reducible rfl))
      try simp only [Act.put, List.setIfInBounds_toArray, List.set_cons_zero, List.set_cons_succ]
      refine wpAnyH_take (i := 16) (oi := { dst := some 57, op := Op.lookup 43 (Operand.tmp 56) (Operand.const (Value.string { data := #[97, 108, 110, 117, 109] })) false, type := 24, pos := "law.go:68", after := #[{ on := 15, ground := Ground.data }, { on := 14, ground := Ground.guard }], guard := some (14, true) }) (v := ?v16) rfl (by kernel_rfl) (by kernel_rfl) (by kernel_rfl) (fun _ _ _ h => h) (Or.inl ⟨by rfl, ?hy16⟩) hH ?r16
      case hy16 => (intro W hSw; (try dsimp only at hSw); go_simp; try (with_reducible rfl))
      try simp only [Act.put, List.setIfInBounds_toArray, List.set_cons_zero, List.set_cons_succ]
      refine wpAnyH_take (i := 17) (oi := { dst := some 58, op := Op.move (Operand.tmp 3), type := 43, pos := "law.go:68", after := #[{ on := 14, ground := Ground.guard }], guard := some (14, true) }) (v := ?v17) rfl (by kernel_rfl) (by kernel_rfl) (by kernel_rfl) (fun _ _ _ h => h) (Or.inl ⟨by rfl, ?hy17⟩) hH ?r17
      case hy17 => (intro W hSw; (try dsimp only at hSw); go_simp; try (with_reducible rfl))
      try simp only [Act.put, List.setIfInBounds_toArray, List.set_cons_zero, List.set_cons_succ]
      refine wpAnyH_take (i := 18) (oi := { dst := some 59, op := Op.lookup 43 (Operand.tmp 58) (Operand.const (Value.string { data := #[97, 108, 112, 104, 97] })) false, type := 24, pos := "law.go:68", after := #[{ on := 17, ground := Ground.data }, { on := 14, ground := Ground.guard }], guard := some (14, true) }) (v := ?v18) rfl (by kernel_rfl) (by kernel_rfl) (by kernel_rfl) (fun _ _ _ h => h) (Or.inl ⟨by rfl, ?hy18⟩) hH ?r18
      case hy18 => (intro W hSw; (try dsimp only at hSw); go_simp; try (with_reducible rfl))
      try simp only [Act.put, List.setIfInBounds_toArray, List.set_cons_zero, List.set_cons_succ]
      refine wpAnyH_take (i := 19) (oi := { dst := some 60, op := Op.move (Operand.tmp 3), type := 43, pos := "law.go:68", after := #[{ on := 14, ground := Ground.guard }], guard := some (14, true) }) (v := ?v19) rfl (by kernel_rfl) (by kernel_rfl) (by kernel_rfl) (fun _ _ _ h => h) (Or.inl ⟨by rfl, ?hy19⟩) hH ?r19
      case hy19 => (intro W hSw; (try dsimp only at hSw); go_simp; try (with_reducible rfl))
      try simp only [Act.put, List.setIfInBounds_toArray, List.set_cons_zero, List.set_cons_succ]
      refine wpAnyH_take (i := 20) (oi := { dst := some 61, op := Op.lookup 43 (Operand.tmp 60) (Operand.const (Value.string { data := #[100, 105, 103, 105, 116] })) false, type := 24, pos := "law.go:68", after := #[{ on := 19, ground := Ground.data }, { on := 14, ground := Ground.guard }], guard := some (14, true) }) (v := ?v20) rfl (by kernel_rfl) (by kernel_rfl) (by kernel_rfl) (fun _ _ _ h => h) (Or.inl ⟨by rfl, ?hy20⟩) hH ?r20
      case hy20 => (intro W hSw; (try dsimp only at hSw); go_simp; try (with_reducible rfl))
      try simp only [Act.put, List.setIfInBounds_toArray, List.set_cons_zero, List.set_cons_succ]
      refine wpAnyH_ready (rs := [21]) (by kernel_rfl) (by simp) ?_
      refine AllReadyH.cons (o := { dst := some 62, op := Op.buildSlice 50 2 #[(0, Operand.tmp 59), (1, Operand.tmp 61)], type := 50, pos := "law.go:68", after := #[{ on := 18, ground := Ground.data }, { on := 20, ground := Ground.data }, { on := 14, ground := Ground.guard }], guard := some (14, true) }) rfl (fun K hK => ?_) AllReadyH.nil
      go_simp
      refine hK.out _ _ (MapKeep.mk (Q1.alloc _)) (fun hN => ?_)
      clear hK K hH
      have hH := hN
      clear hN
      try simp only [Act.put, List.setIfInBounds_toArray, List.set_cons_zero, List.set_cons_succ]
      refine wpAnyH_ready (rs := [22]) (by kernel_rfl) (by simp) ?_
      refine AllReadyH.cons (o := { dst := some 63, op := Op.call { callee := Callee.value (Operand.func 10), args := #[Operand.tmp 62], argTypes := #[50] }, type := 24, pos := "law.go:68", after := #[{ on := 21, ground := Ground.data }, { on := 14, ground := Ground.chain }, { on := 14, ground := Ground.guard }], guard := some (14, true) }) rfl (fun K hK => ?_) AllReadyH.nil
      go_simp
      refine (join2 cAlpha cDigit _ _ ?hs2 ?hX2).mono ?_
      case hs2 => simp
      case hX2 => exact last_of _ _
      rintro e v2 ⟨rfl, k⟩
      have Q2 := (Q1.alloc _).kp k
      clear k Q1
      refine hK.out _ _ (MapKeep.mk Q2) (fun hN => ?_)
      clear hK K hH
      have hH := hN
      clear hN
      try simp only [Act.put, List.setIfInBounds_toArray, List.set_cons_zero, List.set_cons_succ]
      refine wpAnyH_take (i := 23) (oi := { dst := some 64, op := Op.binOp BinOp.eql 24 (Operand.tmp 57) (Operand.tmp 63) 24, type := 4, pos := "law.go:68", after := #[{ on := 16, ground := Ground.data }, { on := 22, ground := Ground.data }, { on := 14, ground := Ground.guard }], guard := some (14, true) }) (v := ?v23) rfl (by kernel_rfl) (by kernel_rfl) (by kernel_rfl) (fun _ _ _ h => h) (Or.inl ⟨by rfl, ?hy23⟩) hH ?r23
      case hy23 => (intro W hSw; (try dsimp only at hSw); go_simp; try (with_reducible rfl))
      try simp only [Act.put, List.setIfInBounds_toArray, List.set_cons_zero, List.set_cons_succ]
      refine wpAnyH_take (i := 24) (oi := { dst := some 65, op := Op.pick (Operand.tmp 55) (Operand.tmp 64) (Operand.const (Value.bool false)), type := 4, pos := "law.go:68", after := #[{ on := 14, ground := Ground.data }, { on := 23, ground := Ground.data }], guard := none }) (v := ?v24) rfl (by kernel_rfl) (by kernel_rfl) (by kernel_rfl) (fun _ _ _ h => h) (Or.inl ⟨by rfl, ?hy24⟩) hH ?r24
      case hy24 => (intro W hSw; (try dsimp only at hSw); go_simp; try (with_reducible rfl))
      try simp only [Act.put, List.setIfInBounds_toArray, List.set_cons_zero, List.set_cons_succ]
      refine wpAnyH_take (i := 25) (oi := { dst := some 66, op := Op.move (Operand.tmp 65), type := 4, pos := "law.go:68", after := #[{ on := 24, ground := Ground.data }, { on := 22, ground := Ground.chain }], guard := none }) (v := ?v25) rfl (by kernel_rfl) (by kernel_rfl) (by kernel_rfl) (fun _ _ _ h => h) (Or.inl ⟨by rfl, ?hy25⟩) hH ?r25
      case hy25 => (intro W hSw; (try dsimp only at hSw); go_simp; try (with_reducible rfl))
      try simp only [Act.put, List.setIfInBounds_toArray, List.set_cons_zero, List.set_cons_succ]
      refine wpAnyH_take (i := 26) (oi := { dst := some 67, op := Op.move (Operand.tmp 3), type := 43, pos := "law.go:68", after := #[{ on := 25, ground := Ground.guard }], guard := some (25, true) }) (v := ?v26) rfl (by kernel_rfl) (by kernel_rfl) (by kernel_rfl) (fun _ _ _ h => h) (Or.inl ⟨by rfl, ?hy26⟩) hH ?r26
      case hy26 => (intro W hSw; (try dsimp only at hSw); go_simp; try (with_reducible rfl))
      try simp only [Act.put, List.setIfInBounds_toArray, List.set_cons_zero, List.set_cons_succ]
      refine wpAnyH_take (i := 27) (oi := { dst := some 68, op := Op.lookup 43 (Operand.tmp 67) (Operand.const (Value.string { data := #[103, 114, 97, 112, 104] })) false, type := 24, pos := "law.go:68", after := #[{ on := 26, ground := Ground.data }, { on := 25, ground := Ground.guard }], guard := some (25, true) }) (v := ?v27) rfl (by kernel_rfl) (by kernel_rfl) (by kernel_rfl) (fun _ _ _ h => h) (Or.inl ⟨by rfl, ?hy27⟩) hH ?r27
      case hy27 => (intro W hSw; (try dsimp only at hSw); go_simp; try (with_reducible rfl))
      try simp only [Act.put, List.setIfInBounds_toArray, List.set_cons_zero, List.set_cons_succ]
      refine wpAnyH_take (i := 28) (oi := { dst := some 69, op := Op.move (Operand.tmp 3), type := 43, pos := "law.go:68", after := #[{ on := 25, ground := Ground.guard }], guard := some (25, true) }) (v := ?v28) rfl (by kernel_rfl) (by kernel_rfl) (by kernel_rfl) (fun _ _ _ h => h) (Or.inl ⟨by rfl, ?hy28⟩) hH ?r28
      case hy28 => (intro W hSw; (try dsimp only at hSw); go_simp; try (with_reducible rfl))
      try simp only [Act.put, List.setIfInBounds_toArray, List.set_cons_zero, List.set_cons_succ]
      refine wpAnyH_take (i := 29) (oi := { dst := some 70, op := Op.lookup 43 (Operand.tmp 69) (Operand.const (Value.string { data := #[97, 108, 110, 117, 109] })) false, type := 24, pos := "law.go:68", after := #[{ on := 28, ground := Ground.data }, { on := 25, ground := Ground.guard }], guard := some (25, true) }) (v := ?v29) rfl (by kernel_rfl) (by kernel_rfl) (by kernel_rfl) (fun _ _ _ h => h) (Or.inl ⟨by rfl, ?hy29⟩) hH ?r29
      case hy29 => (intro W hSw; (try dsimp only at hSw); go_simp; try (with_reducible rfl))
      try simp only [Act.put, List.setIfInBounds_toArray, List.set_cons_zero, List.set_cons_succ]
      refine wpAnyH_take (i := 30) (oi := { dst := some 71, op := Op.move (Operand.tmp 3), type := 43, pos := "law.go:68", after := #[{ on := 25, ground := Ground.guard }], guard := some (25, true) }) (v := ?v30) rfl (by kernel_rfl) (by kernel_rfl) (by kernel_rfl) (fun _ _ _ h => h) (Or.inl ⟨by rfl, ?hy30⟩) hH ?r30
      case hy30 => (intro W hSw; (try dsimp only at hSw); go_simp; try (with_reducible rfl))
      try simp only [Act.put, List.setIfInBounds_toArray, List.set_cons_zero, List.set_cons_succ]
      refine wpAnyH_take (i := 31) (oi := { dst := some 72, op := Op.lookup 43 (Operand.tmp 71) (Operand.const (Value.string { data := #[112, 117, 110, 99, 116] })) false, type := 24, pos := "law.go:68", after := #[{ on := 30, ground := Ground.data }, { on := 25, ground := Ground.guard }], guard := some (25, true) }) (v := ?v31) rfl (by kernel_rfl) (by kernel_rfl) (by kernel_rfl) (fun _ _ _ h => h) (Or.inl ⟨by rfl, ?hy31⟩) hH ?r31
      case hy31 => (intro W hSw; (try dsimp only at hSw); go_simp; try (with_reducible rfl))
      try simp only [Act.put, List.setIfInBounds_toArray, List.set_cons_zero, List.set_cons_succ]
      refine wpAnyH_ready (rs := [32]) (by kernel_rfl) (by simp) ?_
      refine AllReadyH.cons (o := { dst := some 73, op := Op.buildSlice 50 2 #[(0, Operand.tmp 70), (1, Operand.tmp 72)], type := 50, pos := "law.go:68", after := #[{ on := 29, ground := Ground.data }, { on := 31, ground := Ground.data }, { on := 25, ground := Ground.guard }], guard := some (25, true) }) rfl (fun K hK => ?_) AllReadyH.nil
      go_simp
      refine hK.out _ _ (MapKeep.mk (Q2.alloc _)) (fun hN => ?_)
      clear hK K hH
      have hH := hN
      clear hN
      try simp only [Act.put, List.setIfInBounds_toArray, List.set_cons_zero, List.set_cons_succ]
      refine wpAnyH_ready (rs := [33]) (by kernel_rfl) (by simp) ?_
      refine AllReadyH.cons (o := { dst := some 74, op := Op.call { callee := Callee.value (Operand.func 10), args := #[Operand.tmp 73], argTypes := #[50] }, type := 24, pos := "law.go:68", after := #[{ on := 32, ground := Ground.data }, { on := 25, ground := Ground.chain }, { on := 25, ground := Ground.guard }], guard := some (25, true) }) rfl (fun K hK => ?_) AllReadyH.nil
      go_simp
      refine (join2 cAlnum cPunct _ _ ?hs3 ?hX3).mono ?_
      case hs3 => simp
      case hX3 => exact last_of _ _
      rintro e v3 ⟨rfl, k⟩
      have Q3 := (Q2.alloc _).kp k
      clear k Q2
      refine hK.out _ _ (MapKeep.mk Q3) (fun hN => ?_)
      clear hK K hH
      have hH := hN
      clear hN
      try simp only [Act.put, List.setIfInBounds_toArray, List.set_cons_zero, List.set_cons_succ]
      refine wpAnyH_take (i := 34) (oi := { dst := some 75, op := Op.binOp BinOp.eql 24 (Operand.tmp 68) (Operand.tmp 74) 24, type := 4, pos := "law.go:68", after := #[{ on := 27, ground := Ground.data }, { on := 33, ground := Ground.data }, { on := 25, ground := Ground.guard }], guard := some (25, true) }) (v := ?v34) rfl (by kernel_rfl) (by kernel_rfl) (by kernel_rfl) (fun _ _ _ h => h) (Or.inl ⟨by rfl, ?hy34⟩) hH ?r34
      case hy34 => (intro W hSw; (try dsimp only at hSw); go_simp; try (with_reducible rfl))
      try simp only [Act.put, List.setIfInBounds_toArray, List.set_cons_zero, List.set_cons_succ]
      refine wpAnyH_take (i := 35) (oi := { dst := some 76, op := Op.pick (Operand.tmp 66) (Operand.tmp 75) (Operand.const (Value.bool false)), type := 4, pos := "law.go:68", after := #[{ on := 25, ground := Ground.data }, { on := 34, ground := Ground.data }], guard := none }) (v := ?v35) rfl (by kernel_rfl) (by kernel_rfl) (by kernel_rfl) (fun _ _ _ h => h) (Or.inl ⟨by rfl, ?hy35⟩) hH ?r35
      case hy35 => (intro W hSw; (try dsimp only at hSw); go_simp; try (with_reducible rfl))
      try simp only [Act.put, List.setIfInBounds_toArray, List.set_cons_zero, List.set_cons_succ]
      refine wpAnyH_take (i := 36) (oi := { dst := some 77, op := Op.move (Operand.tmp 76), type := 4, pos := "law.go:68", after := #[{ on := 35, ground := Ground.data }, { on := 33, ground := Ground.chain }], guard := none }) (v := ?v36) rfl (by kernel_rfl) (by kernel_rfl) (by kernel_rfl) (fun _ _ _ h => h) (Or.inl ⟨by rfl, ?hy36⟩) hH ?r36
      case hy36 => (intro W hSw; (try dsimp only at hSw); go_simp; try (with_reducible rfl))
      try simp only [Act.put, List.setIfInBounds_toArray, List.set_cons_zero, List.set_cons_succ]
      refine wpAnyH_take (i := 37) (oi := { dst := some 78, op := Op.move (Operand.tmp 3), type := 43, pos := "law.go:68", after := #[{ on := 36, ground := Ground.guard }], guard := some (36, true) }) (v := ?v37) rfl (by kernel_rfl) (by kernel_rfl) (by kernel_rfl) (fun _ _ _ h => h) (Or.inl ⟨by rfl, ?hy37⟩) hH ?r37
      case hy37 => (intro W hSw; (try dsimp only at hSw); go_simp; try (with_reducible rfl))
      try simp only [Act.put, List.setIfInBounds_toArray, List.set_cons_zero, List.set_cons_succ]
      refine wpAnyH_take (i := 38) (oi := { dst := some 79, op := Op.lookup 43 (Operand.tmp 78) (Operand.const (Value.string { data := #[112, 114, 105, 110, 116] })) false, type := 24, pos := "law.go:68", after := #[{ on := 37, ground := Ground.data }, { on := 36, ground := Ground.guard }], guard := some (36, true) }) (v := ?v38) rfl (by kernel_rfl) (by kernel_rfl) (by kernel_rfl) (fun _ _ _ h => h) (Or.inl ⟨by rfl, ?hy38⟩) hH ?r38
      case hy38 => (intro W hSw; (try dsimp only at hSw); go_simp; try (with_reducible rfl))
      try simp only [Act.put, List.setIfInBounds_toArray, List.set_cons_zero, List.set_cons_succ]
      refine wpAnyH_take (i := 39) (oi := { dst := some 80, op := Op.move (Operand.tmp 3), type := 43, pos := "law.go:68", after := #[{ on := 36, ground := Ground.guard }], guard := some (36, true) }) (v := ?v39) rfl (by kernel_rfl) (by kernel_rfl) (by kernel_rfl) (fun _ _ _ h => h) (Or.inl ⟨by rfl, ?hy39⟩) hH ?r39
      case hy39 => (intro W hSw; (try dsimp only at hSw); go_simp; try (with_reducible rfl))
      try simp only [Act.put, List.setIfInBounds_toArray, List.set_cons_zero, List.set_cons_succ]
      refine wpAnyH_take (i := 40) (oi := { dst := some 81, op := Op.lookup 43 (Operand.tmp 80) (Operand.const (Value.string { data := #[103, 114, 97, 112, 104] })) false, type := 24, pos := "law.go:68", after := #[{ on := 39, ground := Ground.data }, { on := 36, ground := Ground.guard }], guard := some (36, true) }) (v := ?v40) rfl (by kernel_rfl) (by kernel_rfl) (by kernel_rfl) (fun _ _ _ h => h) (Or.inl ⟨by rfl, ?hy40⟩) hH ?r40
      case hy40 => (intro W hSw; (try dsimp only at hSw); go_simp; try (with_reducible rfl))
      try simp only [Act.put, List.setIfInBounds_toArray, List.set_cons_zero, List.set_cons_succ]
      refine wpAnyH_ready (rs := [41]) (by kernel_rfl) (by simp) ?_
      refine AllReadyH.cons (o := { dst := some 82, op := Op.buildSlice 33 1 #[(0, Operand.const (Value.int IntKind.u8 32))], type := 33, pos := "law.go:68", after := #[{ on := 36, ground := Ground.guard }], guard := some (36, true) }) rfl (fun K hK => ?_) AllReadyH.nil
      go_simp
      refine hK.out _ _ (MapKeep.mk (Q3.alloc _)) (fun hN => ?_)
      clear hK K hH
      have hH := hN
      clear hN
      try simp only [Act.put, List.setIfInBounds_toArray, List.set_cons_zero, List.set_cons_succ]
      refine wpAnyH_ready (rs := [42]) (by kernel_rfl) (by simp) ?_
      refine AllReadyH.cons (o := { dst := some 83, op := Op.call { callee := Callee.value (Operand.func 12), args := #[Operand.tmp 82], argTypes := #[33] }, type := 24, pos := "law.go:68", after := #[{ on := 41, ground := Ground.data }, { on := 36, ground := Ground.chain }, { on := 36, ground := Ground.guard }], guard := some (36, true) }) rfl (fun K hK => ?_) AllReadyH.nil
      go_simp
      refine (of1 32 _ _ ?hb0 ?hc0 (by omega)).mono ?_
      case hb0 => simp
      case hc0 => exact World.cell?_alloc_new _ _ _ 0
      rintro e v4 ⟨rfl, k⟩
      have Q4 := (Q3.alloc _).kp k
      clear k Q3
      refine hK.out _ _ (MapKeep.mk Q4) (fun hN => ?_)
      clear hK K hH
      have hH := hN
      clear hN
      try simp only [Act.put, List.setIfInBounds_toArray, List.set_cons_zero, List.set_cons_succ]
      refine wpAnyH_ready (rs := [43]) (by kernel_rfl) (by simp) ?_
      refine AllReadyH.cons (o := { dst := some 84, op := Op.buildSlice 50 2 #[(0, Operand.tmp 81), (1, Operand.tmp 83)], type := 50, pos := "law.go:68", after := #[{ on := 40, ground := Ground.data }, { on := 42, ground := Ground.data }, { on := 36, ground := Ground.guard }], guard := some (36, true) }) rfl (fun K hK => ?_) AllReadyH.nil
      go_simp
      refine hK.out _ _ (MapKeep.mk (Q4.alloc _)) (fun hN => ?_)
      clear hK K hH
      have hH := hN
      clear hN
      try simp only [Act.put, List.setIfInBounds_toArray, List.set_cons_zero, List.set_cons_succ]
      refine wpAnyH_ready (rs := [44]) (by kernel_rfl) (by simp) ?_
      refine AllReadyH.cons (o := { dst := some 85, op := Op.call { callee := Callee.value (Operand.func 10), args := #[Operand.tmp 84], argTypes := #[50] }, type := 24, pos := "law.go:68", after := #[{ on := 43, ground := Ground.data }, { on := 42, ground := Ground.chain }, { on := 36, ground := Ground.guard }], guard := some (36, true) }) rfl (fun K hK => ?_) AllReadyH.nil
      go_simp
      refine (join2 cGraph (addB (fun _ => false) 32) _ _ ?hs4 ?hX4).mono ?_
      case hs4 => simp
      case hX4 => exact last_of _ _
      rintro e v5 ⟨rfl, k⟩
      have Q5 := (Q4.alloc _).kp k
      clear k Q4
      refine hK.out _ _ (MapKeep.mk Q5) (fun hN => ?_)
      clear hK K hH
      have hH := hN
      clear hN
      try simp only [Act.put, List.setIfInBounds_toArray, List.set_cons_zero, List.set_cons_succ]
      refine wpAnyH_take (i := 45) (oi := { dst := some 86, op := Op.binOp BinOp.eql 24 (Operand.tmp 79) (Operand.tmp 85) 24, type := 4, pos := "law.go:68", after := #[{ on := 38, ground := Ground.data }, { on := 44, ground := Ground.data }, { on := 36, ground := Ground.guard }], guard := some (36, true) }) (v := ?v45) rfl (by kernel_rfl) (by kernel_rfl) (by kernel_rfl) (fun _ _ _ h => h) (Or.inl ⟨by rfl, ?hy45⟩) hH ?r45
      case hy45 => (intro W hSw; (try dsimp only at hSw); go_simp; try (with_reducible rfl))
      try simp only [Act.put, List.setIfInBounds_toArray, List.set_cons_zero, List.set_cons_succ]
      refine wpAnyH_take (i := 46) (oi := { dst := some 87, op := Op.pick (Operand.tmp 77) (Operand.tmp 86) (Operand.const (Value.bool false)), type := 4, pos := "law.go:68", after := #[{ on := 36, ground := Ground.data }, { on := 45, ground := Ground.data }], guard := none }) (v := ?v46) rfl (by kernel_rfl) (by kernel_rfl) (by kernel_rfl) (fun _ _ _ h => h) (Or.inl ⟨by rfl, ?hy46⟩) hH ?r46
      case hy46 => (intro W hSw; (try dsimp only at hSw); go_simp; try (with_reducible rfl))
      try simp only [Act.put, List.setIfInBounds_toArray, List.set_cons_zero, List.set_cons_succ]
      refine wpAnyH_take (i := 47) (oi := { dst := some 88, op := Op.move (Operand.tmp 87), type := 4, pos := "law.go:68", after := #[{ on := 46, ground := Ground.data }, { on := 44, ground := Ground.chain }], guard := none }) (v := ?v47) rfl (by kernel_rfl) (by kernel_rfl) (by kernel_rfl) (fun _ _ _ h => h) (Or.inl ⟨by rfl, ?hy47⟩) hH ?r47
      case hy47 => (intro W hSw; (try dsimp only at hSw); go_simp; try (with_reducible rfl))
      try simp only [Act.put, List.setIfInBounds_toArray, List.set_cons_zero, List.set_cons_succ]
      refine wpAnyH_take (i := 48) (oi := { dst := some 89, op := Op.move (Operand.tmp 3), type := 43, pos := "law.go:68", after := #[{ on := 47, ground := Ground.guard }], guard := some (47, true) }) (v := ?v48) rfl (by kernel_rfl) (by kernel_rfl) (by kernel_rfl) (fun _ _ _ h => h) (Or.inl ⟨by rfl, ?hy48⟩) hH ?r48
      case hy48 => (intro W hSw; (try dsimp only at hSw); go_simp; try (with_reducible rfl))
      try simp only [Act.put, List.setIfInBounds_toArray, List.set_cons_zero, List.set_cons_succ]
      refine wpAnyH_take (i := 49) (oi := { dst := some 90, op := Op.lookup 43 (Operand.tmp 89) (Operand.const (Value.string { data := #[112, 114, 105, 110, 116] })) false, type := 24, pos := "law.go:68", after := #[{ on := 48, ground := Ground.data }, { on := 47, ground := Ground.guard }], guard := some (47, true) }) (v := ?v49) rfl (by kernel_rfl) (by kernel_rfl) (by kernel_rfl) (fun _ _ _ h => h) (Or.inl ⟨by rfl, ?hy49⟩) hH ?r49
      case hy49 => (intro W hSw; (try dsimp only at hSw); go_simp; try (with_reducible rfl))
      try simp only [Act.put, List.setIfInBounds_toArray, List.set_cons_zero, List.set_cons_succ]
      refine wpAnyH_take (i := 50) (oi := { dst := some 91, op := Op.move (Operand.tmp 3), type := 43, pos := "law.go:68", after := #[{ on := 47, ground := Ground.guard }], guard := some (47, true) }) (v := ?v50) rfl (by kernel_rfl) (by kernel_rfl) (by kernel_rfl) (fun _ _ _ h => h) (Or.inl ⟨by rfl, ?hy50⟩) hH ?r50
      case hy50 => (intro W hSw; (try dsimp only at hSw); go_simp; try (with_reducible rfl))
      try simp only [Act.put, List.setIfInBounds_toArray, List.set_cons_zero, List.set_cons_succ]
      refine wpAnyH_take (i := 51) (oi := { dst := some 92, op := Op.lookup 43 (Operand.tmp 91) (Operand.const (Value.string { data := #[99, 110, 116, 114, 108] })) false, type := 24, pos := "law.go:68", after := #[{ on := 50, ground := Ground.data }, { on := 47, ground := Ground.guard }], guard := some (47, true) }) (v := ?v51) rfl (by kernel_rfl) (by kernel_rfl) (by kernel_rfl) (fun _ _ _ h => h) (Or.inl ⟨by rfl, ?hy51⟩) hH ?r51
      case hy51 => (intro W hSw; (try dsimp only at hSw); go_simp; try (with_reducible rfl))
      try simp only [Act.put, List.setIfInBounds_toArray, List.set_cons_zero, List.set_cons_succ]
      refine wpAnyH_ready (rs := [52]) (by kernel_rfl) (by simp) ?_
      refine AllReadyH.cons (o := { dst := some 93, op := Op.buildSlice 50 2 #[(0, Operand.tmp 90), (1, Operand.tmp 92)], type := 50, pos := "law.go:68", after := #[{ on := 49, ground := Ground.data }, { on := 51, ground := Ground.data }, { on := 47, ground := Ground.guard }], guard := some (47, true) }) rfl (fun K hK => ?_) AllReadyH.nil
      go_simp
      refine hK.out _ _ (MapKeep.mk (Q5.alloc _)) (fun hN => ?_)
      clear hK K hH
      have hH := hN
      clear hN
      try simp only [Act.put, List.setIfInBounds_toArray, List.set_cons_zero, List.set_cons_succ]
      refine wpAnyH_ready (rs := [53]) (by kernel_rfl) (by simp) ?_
      refine AllReadyH.cons (o := { dst := some 94, op := Op.call { callee := Callee.value (Operand.func 10), args := #[Operand.tmp 93], argTypes := #[50] }, type := 24, pos := "law.go:68", after := #[{ on := 52, ground := Ground.data }, { on := 47, ground := Ground.chain }, { on := 47, ground := Ground.guard }], guard := some (47, true) }) rfl (fun K hK => ?_) AllReadyH.nil
      go_simp
      refine (join2 cPrint cCntrl _ _ ?hs5 ?hX5).mono ?_
      case hs5 => simp
      case hX5 => exact last_of _ _
      rintro e v6 ⟨rfl, k⟩
      have Q6 := (Q5.alloc _).kp k
      clear k Q5
      refine hK.out _ _ (MapKeep.mk Q6) (fun hN => ?_)
      clear hK K hH
      have hH := hN
      clear hN
      try simp only [Act.put, List.setIfInBounds_toArray, List.set_cons_zero, List.set_cons_succ]
      refine wpAnyH_ready (rs := [54]) (by kernel_rfl) (by simp) ?_
      refine AllReadyH.cons (o := { dst := some 95, op := Op.call { callee := Callee.value (Operand.func 11), args := #[Operand.const (Value.int IntKind.u8 0), Operand.const (Value.int IntKind.u8 127)], argTypes := #[5, 5] }, type := 24, pos := "law.go:68", after := #[{ on := 53, ground := Ground.chain }, { on := 47, ground := Ground.guard }], guard := some (47, true) }) rfl (fun K hK => ?_) AllReadyH.nil
      go_simp
      refine (range_any 0 127 _ (by omega) (by omega)).mono ?_
      rintro e v7 ⟨rfl, k⟩
      have Q7 := Q6.kp k
      clear k Q6
      refine hK.out _ _ (MapKeep.mk Q7) (fun hN => ?_)
      clear hK K hH
      have hH := hN
      clear hN
      try simp only [Act.put, List.setIfInBounds_toArray, List.set_cons_zero, List.set_cons_succ]
      refine wpAnyH_take (i := 55) (oi := { dst := some 96, op := Op.binOp BinOp.eql 24 (Operand.tmp 94) (Operand.tmp 95) 24, type := 4, pos := "law.go:68", after := #[{ on := 53, ground := Ground.data }, { on := 54, ground := Ground.data }, { on := 47, ground := Ground.guard }], guard := some (47, true) }) (v := ?v55) rfl (by kernel_rfl) (by kernel_rfl) (by kernel_rfl) (fun _ _ _ h => h) (Or.inl ⟨by rfl, ?hy55⟩) hH ?r55
      case hy55 => (intro W hSw; (try dsimp only at hSw); go_simp; try (with_reducible rfl))
      try simp only [Act.put, List.setIfInBounds_toArray, List.set_cons_zero, List.set_cons_succ]
      refine wpAnyH_take (i := 56) (oi := { dst := some 97, op := Op.pick (Operand.tmp 88) (Operand.tmp 96) (Operand.const (Value.bool false)), type := 4, pos := "law.go:68", after := #[{ on := 47, ground := Ground.data }, { on := 55, ground := Ground.data }], guard := none }) (v := ?v56) rfl (by kernel_rfl) (by kernel_rfl) (by kernel_rfl) (fun _ _ _ h => h) (Or.inl ⟨by rfl, ?hy56⟩) hH ?r56
      case hy56 => (intro W hSw; (try dsimp only at hSw); go_simp; try (with_reducible rfl))
      try simp only [Act.put, List.setIfInBounds_toArray, List.set_cons_zero, List.set_cons_succ]
      refine wpAnyH_take (i := 57) (oi := { dst := some 98, op := Op.move (Operand.tmp 97), type := 4, pos := "law.go:68", after := #[{ on := 56, ground := Ground.data }, { on := 54, ground := Ground.chain }], guard := none }) (v := ?v57) rfl (by kernel_rfl) (by kernel_rfl) (by kernel_rfl) (fun _ _ _ h => h) (Or.inl ⟨by rfl, ?hy57⟩) hH ?r57
      case hy57 => (intro W hSw; (try dsimp only at hSw); go_simp; try (with_reducible rfl))
      try simp only [Act.put, List.setIfInBounds_toArray, List.set_cons_zero, List.set_cons_succ]
      refine wpAnyH_take (i := 58) (oi := { dst := some 99, op := Op.move (Operand.tmp 3), type := 43, pos := "law.go:68", after := #[{ on := 57, ground := Ground.guard }], guard := some (57, true) }) (v := ?v58) rfl (by kernel_rfl) (by kernel_rfl) (by kernel_rfl) (fun _ _ _ h => h) (Or.inl ⟨by rfl, ?hy58⟩) hH ?r58
      case hy58 => (intro W hSw; (try dsimp only at hSw); go_simp; try (with_reducible rfl))
      try simp only [Act.put, List.setIfInBounds_toArray, List.set_cons_zero, List.set_cons_succ]
      refine wpAnyH_take (i := 59) (oi := { dst := some 100, op := Op.lookup 43 (Operand.tmp 99) (Operand.const (Value.string { data := #[115, 112, 97, 99, 101] })) false, type := 24, pos := "law.go:68", after := #[{ on := 58, ground := Ground.data }, { on := 57, ground := Ground.guard }], guard := some (57, true) }) (v := ?v59) rfl (by kernel_rfl) (by kernel_rfl) (by kernel_rfl) (fun _ _ _ h => h) (Or.inl ⟨by rfl, ?hy59⟩) hH ?r59
      case hy59 => (intro W hSw; (try dsimp only at hSw); go_simp; try (with_reducible rfl))
      try simp only [Act.put, List.setIfInBounds_toArray, List.set_cons_zero, List.set_cons_succ]
      refine wpAnyH_take (i := 60) (oi := { dst := some 101, op := Op.move (Operand.tmp 3), type := 43, pos := "law.go:68", after := #[{ on := 57, ground := Ground.guard }], guard := some (57, true) }) (v := ?v60) rfl (by kernel_rfl) (by kernel_rfl) (by kernel_rfl) (fun _ _ _ h => h) (Or.inl ⟨by rfl, ?hy60⟩) hH ?r60
      case hy60 => (intro W hSw; (try dsimp only at hSw); go_simp; try (with_reducible rfl))
      try simp only [Act.put, List.setIfInBounds_toArray, List.set_cons_zero, List.set_cons_succ]
      refine wpAnyH_take (i := 61) (oi := { dst := some 102, op := Op.lookup 43 (Operand.tmp 101) (Operand.const (Value.string { data := #[98, 108, 97, 110, 107] })) false, type := 24, pos := "law.go:68", after := #[{ on := 60, ground := Ground.data }, { on := 57, ground := Ground.guard }], guard := some (57, true) }) (v := ?v61) rfl (by kernel_rfl) (by kernel_rfl) (by kernel_rfl) (fun _ _ _ h => h) (Or.inl ⟨by rfl, ?hy61⟩) hH ?r61
      case hy61 => (intro W hSw; (try dsimp only at hSw); go_simp; try (with_reducible rfl))
      try simp only [Act.put, List.setIfInBounds_toArray, List.set_cons_zero, List.set_cons_succ]
      refine wpAnyH_take (i := 64) (oi := { dst := some 105, op := Op.move (Operand.tmp 3), type := 43, pos := "law.go:68", after := #[{ on := 57, ground := Ground.guard }], guard := some (57, true) }) (v := ?v64) rfl (by kernel_rfl) (by kernel_rfl) (by kernel_rfl) (fun _ _ _ h => h) (Or.inl ⟨by rfl, ?hy64⟩) hH ?r64
      case hy64 => (intro W hSw; (try dsimp only at hSw); go_simp; try (with_reducible rfl))
      try simp only [Act.put, List.setIfInBounds_toArray, List.set_cons_zero, List.set_cons_succ]
      refine wpAnyH_take (i := 65) (oi := { dst := some 106, op := Op.lookup 43 (Operand.tmp 105) (Operand.const (Value.string { data := #[115, 112, 97, 99, 101] })) false, type := 24, pos := "law.go:68", after := #[{ on := 64, ground := Ground.data }, { on := 57, ground := Ground.guard }], guard := some (57, true) }) (v := ?v65) rfl (by kernel_rfl) (by kernel_rfl) (by kernel_rfl) (fun _ _ _ h => h) (Or.inl ⟨by rfl, ?hy65⟩) hH ?r65
      case hy65 => (intro W hSw; (try dsimp only at hSw); go_simp; try (with_reducible rfl))
      try simp only [Act.put, List.setIfInBounds_toArray, List.set_cons_zero, List.set_cons_succ]
      refine wpAnyH_ready (rs := [62]) (by kernel_rfl) (by simp) ?_
      refine AllReadyH.cons (o := { dst := some 103, op := Op.buildSlice 50 2 #[(0, Operand.tmp 100), (1, Operand.tmp 102)], type := 50, pos := "law.go:68", after := #[{ on := 59, ground := Ground.data }, { on := 61, ground := Ground.data }, { on := 57, ground := Ground.guard }], guard := some (57, true) }) rfl (fun K hK => ?_) AllReadyH.nil
      go_simp
      refine hK.out _ _ (MapKeep.mk (Q7.alloc _)) (fun hN => ?_)
      clear hK K hH
      have hH := hN
      clear hN
      try simp only [Act.put, List.setIfInBounds_toArray, List.set_cons_zero, List.set_cons_succ]
      refine wpAnyH_ready (rs := [63]) (by kernel_rfl) (by simp) ?_
      refine AllReadyH.cons (o := { dst := some 104, op := Op.call { callee := Callee.value (Operand.func 10), args := #[Operand.tmp 103], argTypes := #[50] }, type := 24, pos := "law.go:68", after := #[{ on := 62, ground := Ground.data }, { on := 57, ground := Ground.chain }, { on := 57, ground := Ground.guard }], guard := some (57, true) }) rfl (fun K hK => ?_) AllReadyH.nil
      go_simp
      refine (join2 cSpace cBlank _ _ ?hs6 ?hX6).mono ?_
      case hs6 => simp
      case hX6 => exact last_of _ _
      rintro e v8 ⟨rfl, k⟩
      have Q8 := (Q7.alloc _).kp k
      clear k Q7
      refine hK.out _ _ (MapKeep.mk Q8) (fun hN => ?_)
      clear hK K hH
      have hH := hN
      clear hN
      try simp only [Act.put, List.setIfInBounds_toArray, List.set_cons_zero, List.set_cons_succ]
      refine wpAnyH_take (i := 66) (oi := { dst := some 107, op := Op.binOp BinOp.eql 24 (Operand.tmp 104) (Operand.tmp 106) 24, type := 4, pos := "law.go:68", after := #[{ on := 63, ground := Ground.data }, { on := 65, ground := Ground.data }, { on := 57, ground := Ground.guard }], guard := some (57, true) }) (v := ?v66) rfl (by kernel_rfl) (by kernel_rfl) (by kernel_rfl) (fun _ _ _ h => h) (Or.inl ⟨by rfl, ?hy66⟩) hH ?r66
      case hy66 => (intro W hSw; (try dsimp only at hSw); go_simp; try (with_reducible rfl))
      try simp only [Act.put, List.setIfInBounds_toArray, List.set_cons_zero, List.set_cons_succ]
      refine wpAnyH_take (i := 67) (oi := { dst := some 108, op := Op.pick (Operand.tmp 98) (Operand.tmp 107) (Operand.const (Value.bool false)), type := 4, pos := "law.go:68", after := #[{ on := 57, ground := Ground.data }, { on := 66, ground := Ground.data }], guard := none }) (v := ?v67) rfl (by kernel_rfl) (by kernel_rfl) (by kernel_rfl) (fun _ _ _ h => h) (Or.inl ⟨by rfl, ?hy67⟩) hH ?r67
      case hy67 => (intro W hSw; (try dsimp only at hSw); go_simp; try (with_reducible rfl))
      try simp only [Act.put, List.setIfInBounds_toArray, List.set_cons_zero, List.set_cons_succ]
      refine wpAnyH_take (i := 68) (oi := { dst := some 109, op := Op.move (Operand.tmp 108), type := 4, pos := "law.go:68", after := #[{ on := 67, ground := Ground.data }, { on := 63, ground := Ground.chain }], guard := none }) (v := ?v68) rfl (by kernel_rfl) (by kernel_rfl) (by kernel_rfl) (fun _ _ _ h => h) (Or.inl ⟨by rfl, ?hy68⟩) hH ?r68
      case hy68 => (intro W hSw; (try dsimp only at hSw); go_simp; try (with_reducible rfl))
      try simp only [Act.put, List.setIfInBounds_toArray, List.set_cons_zero, List.set_cons_succ]
      refine wpAnyH_take (i := 69) (oi := { dst := some 110, op := Op.move (Operand.tmp 3), type := 43, pos := "law.go:68", after := #[{ on := 68, ground := Ground.guard }], guard := some (68, true) }) (v := ?v69) rfl (by kernel_rfl) (by kernel_rfl) (by kernel_rfl) (fun _ _ _ h => h) (Or.inl ⟨by rfl, ?hy69⟩) hH ?r69
      case hy69 => (intro W hSw; (try dsimp only at hSw); go_simp; try (with_reducible rfl))
      try simp only [Act.put, List.setIfInBounds_toArray, List.set_cons_zero, List.set_cons_succ]
      refine wpAnyH_take (i := 70) (oi := { dst := some 111, op := Op.lookup 43 (Operand.tmp 110) (Operand.const (Value.string { data := #[117, 112, 112, 101, 114] })) false, type := 24, pos := "law.go:68", after := #[{ on := 69, ground := Ground.data }, { on := 68, ground := Ground.guard }], guard := some (68, true) }) (v := ?v70) rfl (by kernel_rfl) (by kernel_rfl) (by kernel_rfl) (fun _ _ _ h => h) (Or.inl ⟨by rfl, ?hy70⟩) hH ?r70
      case hy70 => (intro W hSw; (try dsimp only at hSw); go_simp; try (with_reducible rfl))
      try simp only [Act.put, List.setIfInBounds_toArray, List.set_cons_zero, List.set_cons_succ]
      refine wpAnyH_ready (rs := [71]) (by kernel_rfl) (by simp) ?_
      refine AllReadyH.cons (o := { dst := some 112, op := Op.call { callee := Callee.value (Operand.func 11), args := #[Operand.const (Value.int IntKind.u8 65), Operand.const (Value.int IntKind.u8 90)], argTypes := #[5, 5] }, type := 24, pos := "law.go:68", after := #[{ on := 68, ground := Ground.chain }, { on := 68, ground := Ground.guard }], guard := some (68, true) }) rfl (fun K hK => ?_) AllReadyH.nil
      go_simp
      refine (range_any 65 90 _ (by omega) (by omega)).mono ?_
      rintro e v9 ⟨rfl, k⟩
      have Q9 := Q8.kp k
      clear k Q8
      refine hK.out _ _ (MapKeep.mk Q9) (fun hN => ?_)
      clear hK K hH
      have hH := hN
      clear hN
      try simp only [Act.put, List.setIfInBounds_toArray, List.set_cons_zero, List.set_cons_succ]
      refine wpAnyH_take (i := 72) (oi := { dst := some 113, op := Op.binOp BinOp.eql 24 (Operand.tmp 111) (Operand.tmp 112) 24, type := 4, pos := "law.go:68", after := #[{ on := 70, ground := Ground.data }, { on := 71, ground := Ground.data }, { on := 68, ground := Ground.guard }], guard := some (68, true) }) (v := ?v72) rfl (by kernel_rfl) (by kernel_rfl) (by kernel_rfl) (fun _ _ _ h => h) (Or.inl ⟨by rfl, ?hy72⟩) hH ?r72
      case hy72 => (intro W hSw; (try dsimp only at hSw); go_simp; try (with_reducible rfl))
      try simp only [Act.put, List.setIfInBounds_toArray, List.set_cons_zero, List.set_cons_succ]
      refine wpAnyH_take (i := 73) (oi := { dst := some 114, op := Op.pick (Operand.tmp 109) (Operand.tmp 113) (Operand.const (Value.bool false)), type := 4, pos := "law.go:68", after := #[{ on := 68, ground := Ground.data }, { on := 72, ground := Ground.data }], guard := none }) (v := ?v73) rfl (by kernel_rfl) (by kernel_rfl) (by kernel_rfl) (fun _ _ _ h => h) (Or.inl ⟨by rfl, ?hy73⟩) hH ?r73
      case hy73 => (intro W hSw; (try dsimp only at hSw); go_simp; try (with_reducible rfl))
      try simp only [Act.put, List.setIfInBounds_toArray, List.set_cons_zero, List.set_cons_succ]
      refine wpAnyH_take (i := 74) (oi := { dst := some 115, op := Op.move (Operand.tmp 114), type := 4, pos := "law.go:68", after := #[{ on := 73, ground := Ground.data }, { on := 71, ground := Ground.chain }], guard := none }) (v := ?v74) rfl (by kernel_rfl) (by kernel_rfl) (by kernel_rfl) (fun _ _ _ h => h) (Or.inl ⟨by rfl, ?hy74⟩) hH ?r74
      case hy74 => (intro W hSw; (try dsimp only at hSw); go_simp; try (with_reducible rfl))
      try simp only [Act.put, List.setIfInBounds_toArray, List.set_cons_zero, List.set_cons_succ]
      refine wpAnyH_ready (rs := [75]) (by kernel_rfl) (by simp) ?_
      refine AllReadyH.cons (o := { dst := some 116, op := Op.call { callee := Callee.value (Operand.func 3), args := #[], argTypes := #[] }, type := 4, pos := "law.go:68", after := #[{ on := 74, ground := Ground.chain }, { on := 74, ground := Ground.guard }], guard := some (74, true) }) rfl (fun K hK => ?_) AllReadyH.nil
      go_simp
      refine (runs_any _).mono ?_
      rintro e v10 ⟨rfl, k⟩
      have Q10 := Q9.kp k
      clear k Q9
      refine hK.out _ _ (MapKeep.mk Q10) (fun hN => ?_)
      clear hK K hH
      have hH := hN
      clear hN
      try simp only [Act.put, List.setIfInBounds_toArray, List.set_cons_zero, List.set_cons_succ]
      refine wpAnyH_take (i := 76) (oi := { dst := some 117, op := Op.pick (Operand.tmp 115) (Operand.tmp 116) (Operand.const (Value.bool false)), type := 4, pos := "law.go:68", after := #[{ on := 74, ground := Ground.data }, { on := 75, ground := Ground.data }], guard := none }) (v := ?v76) rfl (by kernel_rfl) (by kernel_rfl) (by kernel_rfl) (fun _ _ _ h => h) (Or.inl ⟨by rfl, ?hy76⟩) hH ?r76
      case hy76 => (intro W hSw; (try dsimp only at hSw); go_simp; try (with_reducible rfl))
      try simp only [Act.put, List.setIfInBounds_toArray, List.set_cons_zero, List.set_cons_succ]
      refine wpAnyH_take (i := 77) (oi := { dst := some 2, op := Op.assign (Operand.tmp 117), type := 4, pos := "law.go:68", after := ([{ on := 76, ground := Ground.data }, { on := 75, ground := Ground.chain }, { on := 0, ground := Ground.phase }, { on := 1, ground := Ground.phase }, { on := 2, ground := Ground.phase }, { on := 3, ground := Ground.phase }, { on := 4, ground := Ground.phase }, { on := 5, ground := Ground.phase }, { on := 6, ground := Ground.phase }, { on := 7, ground := Ground.phase }, { on := 8, ground := Ground.phase }, { on := 9, ground := Ground.phase }, { on := 10, ground := Ground.phase }, { on := 11, ground := Ground.phase }, { on := 12, ground := Ground.phase }, { on := 13, ground := Ground.phase }, { on := 14, ground := Ground.phase }, { on := 15, ground := Ground.phase }, { on := 16, ground := Ground.phase }, { on := 17, ground := Ground.phase }, { on := 18, ground := Ground.phase }, { on := 19, ground := Ground.phase }, { on := 20, ground := Ground.phase }, { on := 21, ground := Ground.phase }, { on := 22, ground := Ground.phase }, { on := 23, ground := Ground.phase }, { on := 24, ground := Ground.phase }, { on := 25, ground := Ground.phase }, { on := 26, ground := Ground.phase }, { on := 27, ground := Ground.phase }, { on := 28, ground := Ground.phase }, { on := 29, ground := Ground.phase }, { on := 30, ground := Ground.phase }, { on := 31, ground := Ground.phase }, { on := 32, ground := Ground.phase }, { on := 33, ground := Ground.phase }, { on := 34, ground := Ground.phase }, { on := 35, ground := Ground.phase }, { on := 36, ground := Ground.phase }].append [{ on := 37, ground := Ground.phase }, { on := 38, ground := Ground.phase }, { on := 39, ground := Ground.phase }, { on := 40, ground := Ground.phase }, { on := 41, ground := Ground.phase }, { on := 42, ground := Ground.phase }, { on := 43, ground := Ground.phase }, { on := 44, ground := Ground.phase }, { on := 45, ground := Ground.phase }, { on := 46, ground := Ground.phase }, { on := 47, ground := Ground.phase }, { on := 48, ground := Ground.phase }, { on := 49, ground := Ground.phase }, { on := 50, ground := Ground.phase }, { on := 51, ground := Ground.phase }, { on := 52, ground := Ground.phase }, { on := 53, ground := Ground.phase }, { on := 54, ground := Ground.phase }, { on := 55, ground := Ground.phase }, { on := 56, ground := Ground.phase }, { on := 57, ground := Ground.phase }, { on := 58, ground := Ground.phase }, { on := 59, ground := Ground.phase }, { on := 60, ground := Ground.phase }, { on := 61, ground := Ground.phase }, { on := 62, ground := Ground.phase }, { on := 63, ground := Ground.phase }, { on := 64, ground := Ground.phase }, { on := 65, ground := Ground.phase }, { on := 66, ground := Ground.phase }, { on := 67, ground := Ground.phase }, { on := 68, ground := Ground.phase }, { on := 69, ground := Ground.phase }, { on := 70, ground := Ground.phase }, { on := 71, ground := Ground.phase }, { on := 72, ground := Ground.phase }, { on := 73, ground := Ground.phase }, { on := 74, ground := Ground.phase }, { on := 75, ground := Ground.phase }, { on := 76, ground := Ground.phase }]).toArray, guard := none }) (v := ?v77) rfl (by kernel_rfl) (by kernel_rfl) (by kernel_rfl) (fun _ _ _ h => h) (Or.inl ⟨by rfl, ?hy77⟩) hH ?r77
      case hy77 => (intro W hSw; (try dsimp only at hSw); go_simp; try (with_reducible rfl))
      try simp only [Act.put, List.setIfInBounds_toArray, List.set_cons_zero, List.set_cons_succ]
      refine wpAnyH_done (by kernel_rfl) ?_ _
      refine NoPanic.normal ?_
      go_wp2
      go_ret
      exact ⟨rfl, Q10.2⟩
end Go.Proofs.Ytfijmepkbflahaa
