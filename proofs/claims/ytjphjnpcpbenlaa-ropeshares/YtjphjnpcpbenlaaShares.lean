/-
  The law RopeShares.
-/
import Derived.Test.YtjphjnpcpbenlaaAppend
import Derived.Test.YtjphjnpcpbenlaaParts
namespace Go.Proofs.Ytjphjnpcpbenlaa
open Go.RowKit
attribute [local go_sem] run_store_complex

def sit (k : Nat) : It := ⟨(k : Int), k % 2, k⟩
def sits (k : Nat) : List It := (List.range k).map sit
theorem sits_succ (k : Nat) : sits (k + 1) = sits k ++ [sit k] := by simp [sits, List.range_succ]
theorem sits_len (k : Nat) : (sits k).length = k := by simp [sits]
theorem sits_sm (k : Nat) (h : k ≤ 81) : Sm (sits k) := by
  intro x hx
  simp only [sits, List.mem_map, List.mem_range] at hx
  obtain ⟨i, hi, rfl⟩ := hx
  exact ⟨by show i % 2 ≤ 100; omega, by show i ≤ 100; omega⟩
theorem sl_form {w : World} {v : Value} {xs : List It} (h : Sl w v xs) : ∃ ad cp, v = .slice ad xs.length cp := by
  rcases h with ⟨B, o, cap, rfl, _⟩ | ⟨rfl, rfl⟩
  · exact ⟨_, _, rfl⟩
  · exact ⟨_, _, rfl⟩

/-- Two variables of ropes, written one behind the other. -/
theorem fin2 {W X : World} {S1 S2 : Nat} {a b : Option T} {xs ys : List It} (hk : Kp W X) (g1 : X.heap[S1]? = some (.cells #[.pointer none] 24)) (g2 : X.heap[S2]? = some (.cells #[.pointer none] 24)) (h1 : W.heap.size ≤ S1) (h2 : W.heap.size ≤ S2) (hne : S1 ≠ S2) (oa : Ok X a xs) (ob : Ok X b ys) :
    Vr ((X.setCell ⟨S1, 0, none⟩ (.pointer (pO a))).setCell ⟨S2, 0, none⟩ (.pointer (pO b))) S1 a ∧ Vr ((X.setCell ⟨S1, 0, none⟩ (.pointer (pO a))).setCell ⟨S2, 0, none⟩ (.pointer (pO b))) S2 b ∧ Ok ((X.setCell ⟨S1, 0, none⟩ (.pointer (pO a))).setCell ⟨S2, 0, none⟩ (.pointer (pO b))) a xs ∧ Ok ((X.setCell ⟨S1, 0, none⟩ (.pointer (pO a))).setCell ⟨S2, 0, none⟩ (.pointer (pO b))) b ys ∧ Kp W ((X.setCell ⟨S1, 0, none⟩ (.pointer (pO a))).setCell ⟨S2, 0, none⟩ (.pointer (pO b))) := by
  have v1 : Vr X S1 none := g1
  have v2 : Vr X S2 none := g2
  have v2' := v2.set (Ne.symm hne) (.pointer (pO a))
  exact ⟨(v1.put a).set hne _, v2'.put b, (oa.set v1 _).set v2' _, (ob.set v1 _).set v2' _, (hk.setCell h1 _).setCell h2 _⟩

theorem fin1 {W X : World} {S : Nat} {z : Option T} {xs : List It} (hk : Kp W X) (g : X.heap[S]? = some (.cells #[.pointer none] 24)) (h1 : W.heap.size ≤ S) (oz : Ok X z xs) :
    Vr (X.setCell ⟨S, 0, none⟩ (.pointer (pO z))) S z ∧ Ok (X.setCell ⟨S, 0, none⟩ (.pointer (pO z))) z xs ∧ Kp W (X.setCell ⟨S, 0, none⟩ (.pointer (pO z))) := by
  have v : Vr X S none := g
  exact ⟨v.put z, oz.set v _, hk.setCell h1 _⟩

set_option maxRecDepth 100000 in
set_option maxHeartbeats 8000000 in
theorem shares_walk (n i j : Int) (w : World) :
    Calls Try.prog 7 #[.int .i64 n, .int .i64 i, .int .i64 j] w fun e w' => e = .returned (.bool true) ∧ Kp w w' := by
  have mb := wit_le n 1 80 (by omega)
  obtain ⟨m, hm⟩ := Int.eq_ofNat_of_zero_le (show 0 ≤ wit n 1 80 by omega)
  have HM : Hid (wit n 1 80 = (m : Int)) := hm
  have m80 : m ≤ 80 := by omega
  clear mb hm
  go_enter Try.func7, Try.ntmps7
  go_wp2_with (go_at_call 15; refine (within_any n 1 80 _ (by omega) (by omega) (by omega)).mono ?_; rintro e w ⟨rfl, rfl⟩; rw [HM.out])
  go_loopw [8, 26] (fun v x wr => ∃ k : Nat, k ≤ m ∧ x = .int .i64 (k : Int) ∧ Own w.heap.size wr v (sits k) ∧ Kp w wr) (fun _ x _ => m - (intOf x).toNat)
  case atStart => exact ⟨0, Nat.zero_le _, rfl, Own.nil _ _, Kp.refl _⟩
  case round =>
    obtain ⟨k, hk, rfl, ho, kr⟩ := hrel
    rename World => wr
    have HO : Hid (Own w.heap.size wr u8 (sits k)) := ho
    have KR : Hid (Kp w wr) := kr
    have hsz : w.heap.size ≤ wr.heap.size := kr.size
    clear ho kr
    by_cases hlt : k < m
    · have hlt' : (k : Int) < (m : Int) := by omega
      obtain ⟨h2, e2⟩ : ∃ h2, k % 2 = h2 := ⟨_, rfl⟩
      have hm2 : (k : Int) % 2 = (h2 : Int) := by omega
      have SK : Hid (sit k = ⟨(k : Int), h2, k⟩) := by show _ = _; unfold sit; rw [e2]
      clear e2
      go_wp2_with (first | (go_at_call 9; refine (of_any _ _ _).mono ?_; rintro e wr ⟨rfl, rfl⟩) | (at_builtin; go_must (refine wpList_append_item _ (by rfl) _ _ (by rfl) w.heap.size u8 ⟨(k : Int), h2, k⟩ (sits k) (by rfl) HO _ (by rfl) (by rfl) ?h1 ?h2 ?_)))
      case h1 => rw [sits_len]; omega
      case h2 => omega
      intro v' w2 hown' hgrow
      have HO2 : Hid (Own w.heap.size w2 v' (sits (k + 1))) := by rw [sits_succ, SK.out]; exact hown'
      have K2 : Hid (Kp w w2) := Below.grown (KR.out.alloc _) hgrow (by simp; omega) (fun b hb => (HO.out.lt b hb).1)
      clear hown' hgrow
      go_wp2_with fail
      go_roundw
      case rel => exact ⟨k + 1, hlt, by go_num, HO2.out, K2.out⟩
      case measure => simp [intOf]; omega
    · obtain rfl : k = m := by omega
      have L := sits_len k
      have sx := sits_sm k (by omega)
      obtain ⟨xs, eX⟩ : ∃ xs, sits k = xs := ⟨_, rfl⟩
      rw [eX] at HO L sx
      have hsl := HO.out.sl
      obtain ⟨ad, cp, hu⟩ := sl_form hsl
      rw [L] at hu
      subst hu
      have SL : Hid (Sl wr (.slice ad k cp) xs) := hsl
      have LX : Hid (xs.length = k ∧ Sm xs) := ⟨L, sx⟩
      clear eX HO hsl L sx
      go_wp2_with fail
      refine (of_ok _ xs _ SL.out (by have := LX.out.1; omega) LX.out.2).mono ?_
      rintro e w1 ⟨r, rfl, o1, k1⟩
      obtain ⟨W1, hW1⟩ : ∃ W, w1.alloc (.cells #[.pointer (pO r)] 24) = W := ⟨_, rfl⟩
      have kw1 : Kp w1 W1 := by subst hW1; exact (Kp.refl _).alloc _
      have v1 : Vr W1 w1.heap.size r := by subst hW1; exact last_of _ _
      have HW1 : Hid (w1.alloc (.cells #[.pointer (pO r)] 24) = W1) := hW1
      have F1 : Hid (Ok W1 r xs ∧ Vr W1 w1.heap.size r ∧ Sl W1 (.slice ad k cp) xs ∧ Kp w W1) := ⟨o1.kp kw1, v1, (SL.out.kp k1).kp kw1, (KR.out.trans k1).trans kw1⟩
      clear o1 k1 kw1 hW1 SL KR hsz
      have ib := wit_le i 0 k (by omega)
      obtain ⟨p1, hp1⟩ := Int.eq_ofNat_of_zero_le ib.1
      have HP1 : Hid (wit i 0 k = (p1 : Int)) := hp1
      have hp1k : p1 ≤ k := by omega
      have jb := wit_le j 0 k (by omega)
      obtain ⟨p2, hp2⟩ := Int.eq_ofNat_of_zero_le jb.1
      have HP2 : Hid (wit j 0 k = (p2 : Int)) := hp2
      have hp2k : p2 ≤ k := by omega
      clear ib jb hp1 hp2
      go_wp2_with fail
      rw [HW1.out]
      clear HW1
      have MK : Hid (∀ W, Kp W1 W → W.cell? ⟨w1.heap.size, 0, none⟩ = some (.pointer (pO r)) ∧ Hid (Kp W1 W)) := fun W k => ⟨(v1.kp k).cell, k⟩
      obtain ⟨c1, _⟩ := MK.out _ (Kp.refl W1)
      have Q0 : Kp W1 W1.drew := (Kp.refl _).drew
      go_cut [11, 12] (fun p q wc => ∃ S1 S2 a b, p = .pointer (some ⟨S1, 0, none⟩) ∧ q = .pointer (some ⟨S2, 0, none⟩) ∧ Vr wc S1 a ∧ Vr wc S2 b ∧ Ok wc a (xs.take p1) ∧ Ok wc b (xs.drop p1) ∧ Kp W1 wc)
      case first =>
        refine wp_region_noPanic ?_
        refine wp_region_held_drew (S := (fun W => W.cell? ⟨w1.heap.size, 0, none⟩ = some (.pointer (pO r)) ∧ Hid (Kp W1 W))) (by kernel_rfl) ?_ (fun hH => ?_)
        · exact MK.out _ Q0
        have KQ := Q0
        refine wpAnyH_take (i := 0) (oi := { dst := some 42, op := Op.load 24 (Operand.tmp 10), type := 24, pos := "law.go:144", after := #[], guard := none }) (v := ?v0s1) rfl (by kernel_rfl) (by kernel_rfl) (by kernel_rfl) (fun _ _ _ h => h) (Or.inl ⟨by rfl, ?hy0s1⟩) hH ?r0s1
        case hy0s1 => (intro W hSw; (try dsimp only at hSw); go_simp; try (with_reducible rfl))
        try simp only [Act.put, List.setIfInBounds_toArray, List.set_cons_zero, List.set_cons_succ]
        refine wpAnyH_take (i := 1) (oi := { dst := some 43, op := Op.move (Operand.tmp 1), type := 3, pos := "law.go:144", after := #[], guard := none }) (v := ?v1s2) rfl (by kernel_rfl) (by kernel_rfl) (by kernel_rfl) (fun _ _ _ h => h) (Or.inl ⟨by rfl, ?hy1s2⟩) hH ?r1s2
        case hy1s2 => (intro W hSw; (try dsimp only at hSw); go_simp; try (with_reducible rfl))
        try simp only [Act.put, List.setIfInBounds_toArray, List.set_cons_zero, List.set_cons_succ]
        refine wpAnyH_take (i := 2) (oi := { dst := some 44, op := Op.move (Operand.tmp 7), type := 3, pos := "law.go:144", after := #[], guard := none }) (v := ?v2s3) rfl (by kernel_rfl) (by kernel_rfl) (by kernel_rfl) (fun _ _ _ h => h) (Or.inl ⟨by rfl, ?hy2s3⟩) hH ?r2s3
        case hy2s3 => (intro W hSw; (try dsimp only at hSw); go_simp; try (with_reducible rfl))
        try simp only [Act.put, List.setIfInBounds_toArray, List.set_cons_zero, List.set_cons_succ]
        refine wpAnyH_ready (rs := [3, 8, 9]) (by kernel_rfl) (by simp) ?_
        refine AllReadyH.cons (o := { dst := some 45, op := Op.call { callee := Callee.value (Operand.func 15), args := #[Operand.tmp 43, Operand.const (Value.int IntKind.i64 0), Operand.tmp 44], argTypes := #[3, 3, 3] }, type := 3, pos := "law.go:144", after := #[{ on := 1, ground := Ground.data }, { on := 2, ground := Ground.data }], guard := none }) rfl (fun K hKq => ?_) ?_
        ·
          go_simp
          refine (within_any i 0 (k : Int) _ (by omega) (by omega) (by omega)).mono ?_
          rintro e yy ⟨rfl, rfl⟩
          rw [HP1.out]
          refine hKq.out _ _ (MK.out _ KQ) (fun hN => ?_)
          clear hKq K hH KQ
          have hH := hN
          clear hN
          have KQ := hH.2.out
          try simp only [Act.put, List.setIfInBounds_toArray, List.set_cons_zero, List.set_cons_succ]
          refine wpAnyH_ready (rs := [4, 8, 9]) (by kernel_rfl) (by simp) ?_
          refine AllReadyH.cons (o := { dst := some 46, op := Op.call { callee := Callee.value (Operand.func 10), args := #[Operand.tmp 42, Operand.tmp 45], argTypes := #[24, 3] }, type := 30, pos := "law.go:144", after := #[{ on := 0, ground := Ground.data }, { on := 3, ground := Ground.data }, { on := 3, ground := Ground.chain }], guard := none }) rfl (fun K hKq => ?_) ?_
          ·
            go_simp
            refine (split_ok r xs (p1 : Int) _ (Ok.kp F1.out.1 KQ) (by have := LX.out.1; omega) LX.out.2).mono ?_
            rintro e y ⟨a, b, rfl, oa, ob, kq⟩
            rw [Int.toNat_natCast] at oa ob
            have KY : Kp W1 y := KQ.trans kq
            refine hKq.out _ _ (MK.out _ KY) (fun hN => ?_)
            clear kq
            clear hKq K hH KQ
            have hH := hN
            clear hN
            have KQ := hH.2.out
            try simp only [Act.put, List.setIfInBounds_toArray, List.set_cons_zero, List.set_cons_succ]
            refine wpAnyH_take (i := 5) (oi := { dst := some 41, op := Op.move (Operand.tmp 46), type := 30, pos := "law.go:144", after := #[{ on := 4, ground := Ground.data }], guard := none }) (v := ?v5s4) rfl (by kernel_rfl) (by kernel_rfl) (by kernel_rfl) (fun _ _ _ h => h) (Or.inl ⟨by rfl, ?hy5s4⟩) hH ?r5s4
            case hy5s4 => (intro W hSw; (try dsimp only at hSw); go_simp; try (with_reducible rfl))
            try simp only [Act.put, List.setIfInBounds_toArray, List.set_cons_zero, List.set_cons_succ]
            refine wpAnyH_take (i := 6) (oi := { dst := some 47, op := Op.extract (Operand.tmp 41) 0, type := 24, pos := "law.go:144", after := #[{ on := 5, ground := Ground.data }], guard := none }) (v := ?v6s5) rfl (by kernel_rfl) (by kernel_rfl) (by kernel_rfl) (fun _ _ _ h => h) (Or.inl ⟨by rfl, ?hy6s5⟩) hH ?r6s5
            case hy6s5 => (intro W hSw; (try dsimp only at hSw); go_simp; try (with_reducible rfl))
            try simp only [Act.put, List.setIfInBounds_toArray, List.set_cons_zero, List.set_cons_succ]
            refine wpAnyH_take (i := 7) (oi := { dst := some 48, op := Op.extract (Operand.tmp 41) 1, type := 24, pos := "law.go:144", after := #[{ on := 5, ground := Ground.data }, { on := 10, ground := Ground.gcOnly Departure.lateStores }], guard := none }) (v := ?v7s6) rfl (by kernel_rfl) (by kernel_rfl) (by kernel_rfl) (fun _ _ _ h => h) (Or.inl ⟨by rfl, ?hy7s6⟩) hH ?r7s6
            case hy7s6 => (intro W hSw; (try dsimp only at hSw); go_simp; try (with_reducible rfl))
            try simp only [Act.put, List.setIfInBounds_toArray, List.set_cons_zero, List.set_cons_succ]
            refine wpAnyH_ready (rs := [8, 9]) (by kernel_rfl) (by simp) ?_
            refine AllReadyH.cons (o := { dst := some 11, op := Op.alloc 24, type := 0, pos := "law.go:144", after := #[], guard := none }) rfl (fun K hKq => ?_) ?_
            ·
              go_simp
              refine hKq.out _ _ (MK.out _ (by first | exact KQ.alloc _ | exact (Kp.alloc (Kp.refl _) _).drew | exact (Kp.alloc (Kp.alloc (Kp.refl _) _) _).drew)) (fun hN => ?_)
              clear hKq K hH KQ
              have hH := hN
              clear hN
              have KQ := hH.2.out
              try simp only [Act.put, List.setIfInBounds_toArray, List.set_cons_zero, List.set_cons_succ]
              refine wpAnyH_ready (rs := [9]) (by kernel_rfl) (by simp) ?_
              refine AllReadyH.cons (o := { dst := some 12, op := Op.alloc 24, type := 0, pos := "law.go:144", after := #[], guard := none }) rfl (fun K hKq => ?_) AllReadyH.nil
              go_simp
              refine hKq.out _ _ (MK.out _ (by first | exact KQ.alloc _ | exact (Kp.alloc (Kp.refl _) _).drew | exact (Kp.alloc (Kp.alloc (Kp.refl _) _) _).drew)) (fun hN => ?_)
              clear hKq K hH KQ
              have hH := hN
              clear hN
              have KQ := hH.2.out
              try simp only [Act.put, List.setIfInBounds_toArray, List.set_cons_zero, List.set_cons_succ]
              refine wpAnyH_ready (rs := [10]) (by kernel_rfl) (by simp) ?_
              refine AllReadyH.cons (o := { dst := none, op := Op.store 24 (Operand.tmp 11) (Operand.tmp 47), type := 0, pos := "law.go:144", after := #[{ on := 8, ground := Ground.data }, { on := 6, ground := Ground.data }, { on := 4, ground := Ground.chain }, { on := 0, ground := Ground.phase }, { on := 1, ground := Ground.phase }, { on := 2, ground := Ground.phase }, { on := 3, ground := Ground.phase }, { on := 4, ground := Ground.phase }, { on := 5, ground := Ground.phase }, { on := 6, ground := Ground.phase }, { on := 7, ground := Ground.textOnly Departure.lateStores }, { on := 8, ground := Ground.phase }, { on := 9, ground := Ground.phase }], guard := none }) rfl (fun K hKq => ?_) AllReadyH.nil
              obtain ⟨X, hX⟩ : ∃ X, (y.alloc (.cells #[.pointer none] 24)).alloc (.cells #[.pointer none] 24) = X := ⟨_, rfl⟩
              have g1 : X.heap[y.heap.size]? = some (.cells #[.pointer none] 24) := by subst hX; exact bl_alloc (last_of _ _) _
              have g2 : X.heap[(y.heap.size + 1)]? = some (.cells #[.pointer none] 24) := by subst hX; exact last_at _ _ _ (by simp)
              have kyx : Kp y X := by subst hX; exact ((Kp.refl y).alloc _).alloc _
              have hy := KY.size
              have h1 : W1.heap.size ≤ y.heap.size := by omega
              have h2 : W1.heap.size ≤ (y.heap.size + 1) := by omega
              have n12 : y.heap.size ≠ (y.heap.size + 1) := by omega
              have n21 : (y.heap.size + 1) ≠ y.heap.size := by omega
              rw [hX] at hH ⊢
              have oX := oa.kp kyx
              have obX := ob.kp kyx
              have KX : Kp W1 X := KY.trans kyx
              have e1 := bl_cell g1 0 (.pointer none) rfl
              have e2 := bl_cell g2 0 (.pointer none) rfl
              have f1 := bl_frozen g1 0
              have f2 := bl_frozen g2 0
              have FIN : Hid (_ ∧ _ ∧ _ ∧ _ ∧ _) := fin2 KX g1 g2 h1 h2 n12 oX obX
              clear hX kyx hy oa ob KY oX obX g1 g2
              go_simp
              refine hKq.out _ _ (MK.out _ (KX.setCell h1 _)) (fun hN => ?_)
              clear hKq K hH KQ
              have hH := hN
              clear hN
              have KQ := hH.2.out
              try simp only [Act.put, List.setIfInBounds_toArray, List.set_cons_zero, List.set_cons_succ]
              refine wpAnyH_ready (rs := [11]) (by kernel_rfl) (by simp) ?_
              refine AllReadyH.cons (o := { dst := none, op := Op.store 24 (Operand.tmp 12) (Operand.tmp 48), type := 0, pos := "law.go:144", after := #[{ on := 9, ground := Ground.data }, { on := 7, ground := Ground.data }, { on := 10, ground := Ground.chain }, { on := 0, ground := Ground.phase }, { on := 1, ground := Ground.phase }, { on := 2, ground := Ground.phase }, { on := 3, ground := Ground.phase }, { on := 4, ground := Ground.phase }, { on := 5, ground := Ground.phase }, { on := 6, ground := Ground.phase }, { on := 7, ground := Ground.phase }, { on := 8, ground := Ground.phase }, { on := 9, ground := Ground.phase }, { on := 10, ground := Ground.phase }], guard := none }) rfl (fun K hKq => ?_) AllReadyH.nil
              go_simp
              refine hKq.out _ _ (MK.out _ ((KX.setCell h1 _).setCell h2 _)) (fun hN => ?_)
              clear hKq K hH KQ
              have hH := hN
              clear hN
              have KQ := hH.2.out
              try simp only [Act.put, List.setIfInBounds_toArray, List.set_cons_zero, List.set_cons_succ]
              refine wpAnyH_done (by kernel_rfl) ?_ _
              refine NoPanic.normal ?_
              go_wp2_with fail
              go_meet
              case rel => exact ⟨_, _, a, b, rfl, rfl, FIN.out⟩
            refine AllReadyH.cons (o := { dst := some 12, op := Op.alloc 24, type := 0, pos := "law.go:144", after := #[], guard := none }) rfl (fun K hKq => ?_) ?_
            ·
              go_simp
              refine hKq.out _ _ (MK.out _ (by first | exact KQ.alloc _ | exact (Kp.alloc (Kp.refl _) _).drew | exact (Kp.alloc (Kp.alloc (Kp.refl _) _) _).drew)) (fun hN => ?_)
              clear hKq K hH KQ
              have hH := hN
              clear hN
              have KQ := hH.2.out
              try simp only [Act.put, List.setIfInBounds_toArray, List.set_cons_zero, List.set_cons_succ]
              refine wpAnyH_ready (rs := [8]) (by kernel_rfl) (by simp) ?_
              refine AllReadyH.cons (o := { dst := some 11, op := Op.alloc 24, type := 0, pos := "law.go:144", after := #[], guard := none }) rfl (fun K hKq => ?_) AllReadyH.nil
              go_simp
              refine hKq.out _ _ (MK.out _ (by first | exact KQ.alloc _ | exact (Kp.alloc (Kp.refl _) _).drew | exact (Kp.alloc (Kp.alloc (Kp.refl _) _) _).drew)) (fun hN => ?_)
              clear hKq K hH KQ
              have hH := hN
              clear hN
              have KQ := hH.2.out
              try simp only [Act.put, List.setIfInBounds_toArray, List.set_cons_zero, List.set_cons_succ]
              refine wpAnyH_ready (rs := [10]) (by kernel_rfl) (by simp) ?_
              refine AllReadyH.cons (o := { dst := none, op := Op.store 24 (Operand.tmp 11) (Operand.tmp 47), type := 0, pos := "law.go:144", after := #[{ on := 8, ground := Ground.data }, { on := 6, ground := Ground.data }, { on := 4, ground := Ground.chain }, { on := 0, ground := Ground.phase }, { on := 1, ground := Ground.phase }, { on := 2, ground := Ground.phase }, { on := 3, ground := Ground.phase }, { on := 4, ground := Ground.phase }, { on := 5, ground := Ground.phase }, { on := 6, ground := Ground.phase }, { on := 7, ground := Ground.textOnly Departure.lateStores }, { on := 8, ground := Ground.phase }, { on := 9, ground := Ground.phase }], guard := none }) rfl (fun K hKq => ?_) AllReadyH.nil
              obtain ⟨X, hX⟩ : ∃ X, (y.alloc (.cells #[.pointer none] 24)).alloc (.cells #[.pointer none] 24) = X := ⟨_, rfl⟩
              have g1 : X.heap[(y.heap.size + 1)]? = some (.cells #[.pointer none] 24) := by subst hX; exact last_at _ _ _ (by simp)
              have g2 : X.heap[y.heap.size]? = some (.cells #[.pointer none] 24) := by subst hX; exact bl_alloc (last_of _ _) _
              have kyx : Kp y X := by subst hX; exact ((Kp.refl y).alloc _).alloc _
              have hy := KY.size
              have h1 : W1.heap.size ≤ (y.heap.size + 1) := by omega
              have h2 : W1.heap.size ≤ y.heap.size := by omega
              have n12 : (y.heap.size + 1) ≠ y.heap.size := by omega
              have n21 : y.heap.size ≠ (y.heap.size + 1) := by omega
              rw [hX] at hH ⊢
              have oX := oa.kp kyx
              have obX := ob.kp kyx
              have KX : Kp W1 X := KY.trans kyx
              have e1 := bl_cell g1 0 (.pointer none) rfl
              have e2 := bl_cell g2 0 (.pointer none) rfl
              have f1 := bl_frozen g1 0
              have f2 := bl_frozen g2 0
              have FIN : Hid (_ ∧ _ ∧ _ ∧ _ ∧ _) := fin2 KX g1 g2 h1 h2 n12 oX obX
              clear hX kyx hy oa ob KY oX obX g1 g2
              go_simp
              refine hKq.out _ _ (MK.out _ (KX.setCell h1 _)) (fun hN => ?_)
              clear hKq K hH KQ
              have hH := hN
              clear hN
              have KQ := hH.2.out
              try simp only [Act.put, List.setIfInBounds_toArray, List.set_cons_zero, List.set_cons_succ]
              refine wpAnyH_ready (rs := [11]) (by kernel_rfl) (by simp) ?_
              refine AllReadyH.cons (o := { dst := none, op := Op.store 24 (Operand.tmp 12) (Operand.tmp 48), type := 0, pos := "law.go:144", after := #[{ on := 9, ground := Ground.data }, { on := 7, ground := Ground.data }, { on := 10, ground := Ground.chain }, { on := 0, ground := Ground.phase }, { on := 1, ground := Ground.phase }, { on := 2, ground := Ground.phase }, { on := 3, ground := Ground.phase }, { on := 4, ground := Ground.phase }, { on := 5, ground := Ground.phase }, { on := 6, ground := Ground.phase }, { on := 7, ground := Ground.phase }, { on := 8, ground := Ground.phase }, { on := 9, ground := Ground.phase }, { on := 10, ground := Ground.phase }], guard := none }) rfl (fun K hKq => ?_) AllReadyH.nil
              go_simp
              refine hKq.out _ _ (MK.out _ ((KX.setCell h1 _).setCell h2 _)) (fun hN => ?_)
              clear hKq K hH KQ
              have hH := hN
              clear hN
              have KQ := hH.2.out
              try simp only [Act.put, List.setIfInBounds_toArray, List.set_cons_zero, List.set_cons_succ]
              refine wpAnyH_done (by kernel_rfl) ?_ _
              refine NoPanic.normal ?_
              go_wp2_with fail
              go_meet
              case rel => exact ⟨_, _, a, b, rfl, rfl, FIN.out⟩
            exact AllReadyH.nil
          refine AllReadyH.cons (o := { dst := some 11, op := Op.alloc 24, type := 0, pos := "law.go:144", after := #[], guard := none }) rfl (fun K hKq => ?_) ?_
          ·
            go_simp
            refine hKq.out _ _ (MK.out _ (by first | exact KQ.alloc _ | exact (Kp.alloc (Kp.refl _) _).drew | exact (Kp.alloc (Kp.alloc (Kp.refl _) _) _).drew)) (fun hN => ?_)
            clear hKq K hH KQ
            have hH := hN
            clear hN
            have KQ := hH.2.out
            try simp only [Act.put, List.setIfInBounds_toArray, List.set_cons_zero, List.set_cons_succ]
            refine wpAnyH_ready (rs := [4, 9]) (by kernel_rfl) (by simp) ?_
            refine AllReadyH.cons (o := { dst := some 46, op := Op.call { callee := Callee.value (Operand.func 10), args := #[Operand.tmp 42, Operand.tmp 45], argTypes := #[24, 3] }, type := 30, pos := "law.go:144", after := #[{ on := 0, ground := Ground.data }, { on := 3, ground := Ground.data }, { on := 3, ground := Ground.chain }], guard := none }) rfl (fun K hKq => ?_) ?_
            ·
              go_simp
              refine (split_ok r xs (p1 : Int) _ (Ok.kp F1.out.1 KQ) (by have := LX.out.1; omega) LX.out.2).mono ?_
              rintro e y ⟨a, b, rfl, oa, ob, kq⟩
              rw [Int.toNat_natCast] at oa ob
              have X1 := bl_kp (last_drew W1 _) kq
              have KY : Kp W1 y := KQ.trans kq
              refine hKq.out _ _ (MK.out _ KY) (fun hN => ?_)
              clear kq
              clear hKq K hH KQ
              have hH := hN
              clear hN
              have KQ := hH.2.out
              try simp only [Act.put, List.setIfInBounds_toArray, List.set_cons_zero, List.set_cons_succ]
              refine wpAnyH_take (i := 5) (oi := { dst := some 41, op := Op.move (Operand.tmp 46), type := 30, pos := "law.go:144", after := #[{ on := 4, ground := Ground.data }], guard := none }) (v := ?v5s7) rfl (by kernel_rfl) (by kernel_rfl) (by kernel_rfl) (fun _ _ _ h => h) (Or.inl ⟨by rfl, ?hy5s7⟩) hH ?r5s7
              case hy5s7 => (intro W hSw; (try dsimp only at hSw); go_simp; try (with_reducible rfl))
              try simp only [Act.put, List.setIfInBounds_toArray, List.set_cons_zero, List.set_cons_succ]
              refine wpAnyH_take (i := 6) (oi := { dst := some 47, op := Op.extract (Operand.tmp 41) 0, type := 24, pos := "law.go:144", after := #[{ on := 5, ground := Ground.data }], guard := none }) (v := ?v6s8) rfl (by kernel_rfl) (by kernel_rfl) (by kernel_rfl) (fun _ _ _ h => h) (Or.inl ⟨by rfl, ?hy6s8⟩) hH ?r6s8
              case hy6s8 => (intro W hSw; (try dsimp only at hSw); go_simp; try (with_reducible rfl))
              try simp only [Act.put, List.setIfInBounds_toArray, List.set_cons_zero, List.set_cons_succ]
              refine wpAnyH_take (i := 7) (oi := { dst := some 48, op := Op.extract (Operand.tmp 41) 1, type := 24, pos := "law.go:144", after := #[{ on := 5, ground := Ground.data }, { on := 10, ground := Ground.gcOnly Departure.lateStores }], guard := none }) (v := ?v7s9) rfl (by kernel_rfl) (by kernel_rfl) (by kernel_rfl) (fun _ _ _ h => h) (Or.inl ⟨by rfl, ?hy7s9⟩) hH ?r7s9
              case hy7s9 => (intro W hSw; (try dsimp only at hSw); go_simp; try (with_reducible rfl))
              try simp only [Act.put, List.setIfInBounds_toArray, List.set_cons_zero, List.set_cons_succ]
              refine wpAnyH_ready (rs := [9]) (by kernel_rfl) (by simp) ?_
              refine AllReadyH.cons (o := { dst := some 12, op := Op.alloc 24, type := 0, pos := "law.go:144", after := #[], guard := none }) rfl (fun K hKq => ?_) AllReadyH.nil
              go_simp
              refine hKq.out _ _ (MK.out _ (by first | exact KQ.alloc _ | exact (Kp.alloc (Kp.refl _) _).drew | exact (Kp.alloc (Kp.alloc (Kp.refl _) _) _).drew)) (fun hN => ?_)
              clear hKq K hH KQ
              have hH := hN
              clear hN
              have KQ := hH.2.out
              try simp only [Act.put, List.setIfInBounds_toArray, List.set_cons_zero, List.set_cons_succ]
              refine wpAnyH_ready (rs := [10]) (by kernel_rfl) (by simp) ?_
              refine AllReadyH.cons (o := { dst := none, op := Op.store 24 (Operand.tmp 11) (Operand.tmp 47), type := 0, pos := "law.go:144", after := #[{ on := 8, ground := Ground.data }, { on := 6, ground := Ground.data }, { on := 4, ground := Ground.chain }, { on := 0, ground := Ground.phase }, { on := 1, ground := Ground.phase }, { on := 2, ground := Ground.phase }, { on := 3, ground := Ground.phase }, { on := 4, ground := Ground.phase }, { on := 5, ground := Ground.phase }, { on := 6, ground := Ground.phase }, { on := 7, ground := Ground.textOnly Departure.lateStores }, { on := 8, ground := Ground.phase }, { on := 9, ground := Ground.phase }], guard := none }) rfl (fun K hKq => ?_) AllReadyH.nil
              obtain ⟨X, hX⟩ : ∃ X, y.alloc (.cells #[.pointer none] 24) = X := ⟨_, rfl⟩
              have g1 : X.heap[W1.heap.size]? = some (.cells #[.pointer none] 24) := by subst hX; exact (bl_alloc X1 _)
              have g2 : X.heap[y.heap.size]? = some (.cells #[.pointer none] 24) := by subst hX; exact last_of _ _
              have kyx : Kp y X := by subst hX; exact (Kp.refl y).alloc _
              have hy := KY.size
              have hx1 := bl_lt X1
              have h1 : W1.heap.size ≤ W1.heap.size := by omega
              have h2 : W1.heap.size ≤ y.heap.size := by omega
              have n12 : W1.heap.size ≠ y.heap.size := by omega
              have n21 : y.heap.size ≠ W1.heap.size := by omega
              rw [hX] at hH ⊢
              have oX := oa.kp kyx
              have obX := ob.kp kyx
              have KX : Kp W1 X := KY.trans kyx
              have e1 := bl_cell g1 0 (.pointer none) rfl
              have e2 := bl_cell g2 0 (.pointer none) rfl
              have f1 := bl_frozen g1 0
              have f2 := bl_frozen g2 0
              have FIN : Hid (_ ∧ _ ∧ _ ∧ _ ∧ _) := fin2 KX g1 g2 h1 h2 n12 oX obX
              clear hX kyx hy oa ob KY oX obX g1 g2 hx1 X1
              go_simp
              refine hKq.out _ _ (MK.out _ (KX.setCell h1 _)) (fun hN => ?_)
              clear hKq K hH KQ
              have hH := hN
              clear hN
              have KQ := hH.2.out
              try simp only [Act.put, List.setIfInBounds_toArray, List.set_cons_zero, List.set_cons_succ]
              refine wpAnyH_ready (rs := [11]) (by kernel_rfl) (by simp) ?_
              refine AllReadyH.cons (o := { dst := none, op := Op.store 24 (Operand.tmp 12) (Operand.tmp 48), type := 0, pos := "law.go:144", after := #[{ on := 9, ground := Ground.data }, { on := 7, ground := Ground.data }, { on := 10, ground := Ground.chain }, { on := 0, ground := Ground.phase }, { on := 1, ground := Ground.phase }, { on := 2, ground := Ground.phase }, { on := 3, ground := Ground.phase }, { on := 4, ground := Ground.phase }, { on := 5, ground := Ground.phase }, { on := 6, ground := Ground.phase }, { on := 7, ground := Ground.phase }, { on := 8, ground := Ground.phase }, { on := 9, ground := Ground.phase }, { on := 10, ground := Ground.phase }], guard := none }) rfl (fun K hKq => ?_) AllReadyH.nil
              go_simp
              refine hKq.out _ _ (MK.out _ ((KX.setCell h1 _).setCell h2 _)) (fun hN => ?_)
              clear hKq K hH KQ
              have hH := hN
              clear hN
              have KQ := hH.2.out
              try simp only [Act.put, List.setIfInBounds_toArray, List.set_cons_zero, List.set_cons_succ]
              refine wpAnyH_done (by kernel_rfl) ?_ _
              refine NoPanic.normal ?_
              go_wp2_with fail
              go_meet
              case rel => exact ⟨_, _, a, b, rfl, rfl, FIN.out⟩
            refine AllReadyH.cons (o := { dst := some 12, op := Op.alloc 24, type := 0, pos := "law.go:144", after := #[], guard := none }) rfl (fun K hKq => ?_) ?_
            ·
              go_simp
              refine hKq.out _ _ (MK.out _ (by first | exact KQ.alloc _ | exact (Kp.alloc (Kp.refl _) _).drew | exact (Kp.alloc (Kp.alloc (Kp.refl _) _) _).drew)) (fun hN => ?_)
              clear hKq K hH KQ
              have hH := hN
              clear hN
              have KQ := hH.2.out
              try simp only [Act.put, List.setIfInBounds_toArray, List.set_cons_zero, List.set_cons_succ]
              refine wpAnyH_ready (rs := [4]) (by kernel_rfl) (by simp) ?_
              refine AllReadyH.cons (o := { dst := some 46, op := Op.call { callee := Callee.value (Operand.func 10), args := #[Operand.tmp 42, Operand.tmp 45], argTypes := #[24, 3] }, type := 30, pos := "law.go:144", after := #[{ on := 0, ground := Ground.data }, { on := 3, ground := Ground.data }, { on := 3, ground := Ground.chain }], guard := none }) rfl (fun K hKq => ?_) AllReadyH.nil
              go_simp
              refine (split_ok r xs (p1 : Int) _ (Ok.kp F1.out.1 KQ) (by have := LX.out.1; omega) LX.out.2).mono ?_
              rintro e y ⟨a, b, rfl, oa, ob, kq⟩
              rw [Int.toNat_natCast] at oa ob
              have X1 := bl_kp (show (((W1.alloc (.cells #[.pointer none] 24)).alloc (.cells #[.pointer none] 24)).drew).heap[W1.heap.size]? = _ from bl_alloc (last_of _ _) _) kq
              have X2 := bl_kp (show (((W1.alloc (.cells #[.pointer none] 24)).alloc (.cells #[.pointer none] 24)).drew).heap[W1.heap.size + 1]? = _ from last_at _ _ _ (by simp)) kq
              have KY : Kp W1 y := KQ.trans kq
              refine hKq.out _ _ (MK.out _ KY) (fun hN => ?_)
              clear kq
              clear hKq K hH KQ
              have hH := hN
              clear hN
              have KQ := hH.2.out
              try simp only [Act.put, List.setIfInBounds_toArray, List.set_cons_zero, List.set_cons_succ]
              refine wpAnyH_take (i := 5) (oi := { dst := some 41, op := Op.move (Operand.tmp 46), type := 30, pos := "law.go:144", after := #[{ on := 4, ground := Ground.data }], guard := none }) (v := ?v5s10) rfl (by kernel_rfl) (by kernel_rfl) (by kernel_rfl) (fun _ _ _ h => h) (Or.inl ⟨by rfl, ?hy5s10⟩) hH ?r5s10
              case hy5s10 => (intro W hSw; (try dsimp only at hSw); go_simp; try (with_reducible rfl))
              try simp only [Act.put, List.setIfInBounds_toArray, List.set_cons_zero, List.set_cons_succ]
              refine wpAnyH_take (i := 6) (oi := { dst := some 47, op := Op.extract (Operand.tmp 41) 0, type := 24, pos := "law.go:144", after := #[{ on := 5, ground := Ground.data }], guard := none }) (v := ?v6s11) rfl (by kernel_rfl) (by kernel_rfl) (by kernel_rfl) (fun _ _ _ h => h) (Or.inl ⟨by rfl, ?hy6s11⟩) hH ?r6s11
              case hy6s11 => (intro W hSw; (try dsimp only at hSw); go_simp; try (with_reducible rfl))
              try simp only [Act.put, List.setIfInBounds_toArray, List.set_cons_zero, List.set_cons_succ]
              refine wpAnyH_take (i := 7) (oi := { dst := some 48, op := Op.extract (Operand.tmp 41) 1, type := 24, pos := "law.go:144", after := #[{ on := 5, ground := Ground.data }, { on := 10, ground := Ground.gcOnly Departure.lateStores }], guard := none }) (v := ?v7s12) rfl (by kernel_rfl) (by kernel_rfl) (by kernel_rfl) (fun _ _ _ h => h) (Or.inl ⟨by rfl, ?hy7s12⟩) hH ?r7s12
              case hy7s12 => (intro W hSw; (try dsimp only at hSw); go_simp; try (with_reducible rfl))
              try simp only [Act.put, List.setIfInBounds_toArray, List.set_cons_zero, List.set_cons_succ]
              refine wpAnyH_ready (rs := [10]) (by kernel_rfl) (by simp) ?_
              refine AllReadyH.cons (o := { dst := none, op := Op.store 24 (Operand.tmp 11) (Operand.tmp 47), type := 0, pos := "law.go:144", after := #[{ on := 8, ground := Ground.data }, { on := 6, ground := Ground.data }, { on := 4, ground := Ground.chain }, { on := 0, ground := Ground.phase }, { on := 1, ground := Ground.phase }, { on := 2, ground := Ground.phase }, { on := 3, ground := Ground.phase }, { on := 4, ground := Ground.phase }, { on := 5, ground := Ground.phase }, { on := 6, ground := Ground.phase }, { on := 7, ground := Ground.textOnly Departure.lateStores }, { on := 8, ground := Ground.phase }, { on := 9, ground := Ground.phase }], guard := none }) rfl (fun K hKq => ?_) AllReadyH.nil
              obtain ⟨X, hX⟩ : ∃ X, y = X := ⟨_, rfl⟩
              have g1 : X.heap[W1.heap.size]? = some (.cells #[.pointer none] 24) := by subst hX; exact X1
              have g2 : X.heap[(W1.heap.size + 1)]? = some (.cells #[.pointer none] 24) := by subst hX; exact X2
              have kyx : Kp y X := by subst hX; exact Kp.refl y
              have hy := KY.size
              have hx1 := bl_lt X1
              have h1 : W1.heap.size ≤ W1.heap.size := by omega
              have h2 : W1.heap.size ≤ (W1.heap.size + 1) := by omega
              have n12 : W1.heap.size ≠ (W1.heap.size + 1) := by omega
              have n21 : (W1.heap.size + 1) ≠ W1.heap.size := by omega
              rw [hX] at hH ⊢
              have oX := oa.kp kyx
              have obX := ob.kp kyx
              have KX : Kp W1 X := KY.trans kyx
              have e1 := bl_cell g1 0 (.pointer none) rfl
              have e2 := bl_cell g2 0 (.pointer none) rfl
              have f1 := bl_frozen g1 0
              have f2 := bl_frozen g2 0
              have FIN : Hid (_ ∧ _ ∧ _ ∧ _ ∧ _) := fin2 KX g1 g2 h1 h2 n12 oX obX
              clear hX kyx hy oa ob KY oX obX g1 g2 hx1 X1 X2
              go_simp
              refine hKq.out _ _ (MK.out _ (KX.setCell h1 _)) (fun hN => ?_)
              clear hKq K hH KQ
              have hH := hN
              clear hN
              have KQ := hH.2.out
              try simp only [Act.put, List.setIfInBounds_toArray, List.set_cons_zero, List.set_cons_succ]
              refine wpAnyH_ready (rs := [11]) (by kernel_rfl) (by simp) ?_
              refine AllReadyH.cons (o := { dst := none, op := Op.store 24 (Operand.tmp 12) (Operand.tmp 48), type := 0, pos := "law.go:144", after := #[{ on := 9, ground := Ground.data }, { on := 7, ground := Ground.data }, { on := 10, ground := Ground.chain }, { on := 0, ground := Ground.phase }, { on := 1, ground := Ground.phase }, { on := 2, ground := Ground.phase }, { on := 3, ground := Ground.phase }, { on := 4, ground := Ground.phase }, { on := 5, ground := Ground.phase }, { on := 6, ground := Ground.phase }, { on := 7, ground := Ground.phase }, { on := 8, ground := Ground.phase }, { on := 9, ground := Ground.phase }, { on := 10, ground := Ground.phase }], guard := none }) rfl (fun K hKq => ?_) AllReadyH.nil
              go_simp
              refine hKq.out _ _ (MK.out _ ((KX.setCell h1 _).setCell h2 _)) (fun hN => ?_)
              clear hKq K hH KQ
              have hH := hN
              clear hN
              have KQ := hH.2.out
              try simp only [Act.put, List.setIfInBounds_toArray, List.set_cons_zero, List.set_cons_succ]
              refine wpAnyH_done (by kernel_rfl) ?_ _
              refine NoPanic.normal ?_
              go_wp2_with fail
              go_meet
              case rel => exact ⟨_, _, a, b, rfl, rfl, FIN.out⟩
            exact AllReadyH.nil
          refine AllReadyH.cons (o := { dst := some 12, op := Op.alloc 24, type := 0, pos := "law.go:144", after := #[], guard := none }) rfl (fun K hKq => ?_) ?_
          ·
            go_simp
            refine hKq.out _ _ (MK.out _ (by first | exact KQ.alloc _ | exact (Kp.alloc (Kp.refl _) _).drew | exact (Kp.alloc (Kp.alloc (Kp.refl _) _) _).drew)) (fun hN => ?_)
            clear hKq K hH KQ
            have hH := hN
            clear hN
            have KQ := hH.2.out
            try simp only [Act.put, List.setIfInBounds_toArray, List.set_cons_zero, List.set_cons_succ]
            refine wpAnyH_ready (rs := [4, 8]) (by kernel_rfl) (by simp) ?_
            refine AllReadyH.cons (o := { dst := some 46, op := Op.call { callee := Callee.value (Operand.func 10), args := #[Operand.tmp 42, Operand.tmp 45], argTypes := #[24, 3] }, type := 30, pos := "law.go:144", after := #[{ on := 0, ground := Ground.data }, { on := 3, ground := Ground.data }, { on := 3, ground := Ground.chain }], guard := none }) rfl (fun K hKq => ?_) ?_
            ·
              go_simp
              refine (split_ok r xs (p1 : Int) _ (Ok.kp F1.out.1 KQ) (by have := LX.out.1; omega) LX.out.2).mono ?_
              rintro e y ⟨a, b, rfl, oa, ob, kq⟩
              rw [Int.toNat_natCast] at oa ob
              have X1 := bl_kp (last_drew W1 _) kq
              have KY : Kp W1 y := KQ.trans kq
              refine hKq.out _ _ (MK.out _ KY) (fun hN => ?_)
              clear kq
              clear hKq K hH KQ
              have hH := hN
              clear hN
              have KQ := hH.2.out
              try simp only [Act.put, List.setIfInBounds_toArray, List.set_cons_zero, List.set_cons_succ]
              refine wpAnyH_take (i := 5) (oi := { dst := some 41, op := Op.move (Operand.tmp 46), type := 30, pos := "law.go:144", after := #[{ on := 4, ground := Ground.data }], guard := none }) (v := ?v5s13) rfl (by kernel_rfl) (by kernel_rfl) (by kernel_rfl) (fun _ _ _ h => h) (Or.inl ⟨by rfl, ?hy5s13⟩) hH ?r5s13
              case hy5s13 => (intro W hSw; (try dsimp only at hSw); go_simp; try (with_reducible rfl))
              try simp only [Act.put, List.setIfInBounds_toArray, List.set_cons_zero, List.set_cons_succ]
              refine wpAnyH_take (i := 6) (oi := { dst := some 47, op := Op.extract (Operand.tmp 41) 0, type := 24, pos := "law.go:144", after := #[{ on := 5, ground := Ground.data }], guard := none }) (v := ?v6s14) rfl (by kernel_rfl) (by kernel_rfl) (by kernel_rfl) (fun _ _ _ h => h) (Or.inl ⟨by rfl, ?hy6s14⟩) hH ?r6s14
              case hy6s14 => (intro W hSw; (try dsimp only at hSw); go_simp; try (with_reducible rfl))
              try simp only [Act.put, List.setIfInBounds_toArray, List.set_cons_zero, List.set_cons_succ]
              refine wpAnyH_take (i := 7) (oi := { dst := some 48, op := Op.extract (Operand.tmp 41) 1, type := 24, pos := "law.go:144", after := #[{ on := 5, ground := Ground.data }, { on := 10, ground := Ground.gcOnly Departure.lateStores }], guard := none }) (v := ?v7s15) rfl (by kernel_rfl) (by kernel_rfl) (by kernel_rfl) (fun _ _ _ h => h) (Or.inl ⟨by rfl, ?hy7s15⟩) hH ?r7s15
              case hy7s15 => (intro W hSw; (try dsimp only at hSw); go_simp; try (with_reducible rfl))
              try simp only [Act.put, List.setIfInBounds_toArray, List.set_cons_zero, List.set_cons_succ]
              refine wpAnyH_ready (rs := [8]) (by kernel_rfl) (by simp) ?_
              refine AllReadyH.cons (o := { dst := some 11, op := Op.alloc 24, type := 0, pos := "law.go:144", after := #[], guard := none }) rfl (fun K hKq => ?_) AllReadyH.nil
              go_simp
              refine hKq.out _ _ (MK.out _ (by first | exact KQ.alloc _ | exact (Kp.alloc (Kp.refl _) _).drew | exact (Kp.alloc (Kp.alloc (Kp.refl _) _) _).drew)) (fun hN => ?_)
              clear hKq K hH KQ
              have hH := hN
              clear hN
              have KQ := hH.2.out
              try simp only [Act.put, List.setIfInBounds_toArray, List.set_cons_zero, List.set_cons_succ]
              refine wpAnyH_ready (rs := [10]) (by kernel_rfl) (by simp) ?_
              refine AllReadyH.cons (o := { dst := none, op := Op.store 24 (Operand.tmp 11) (Operand.tmp 47), type := 0, pos := "law.go:144", after := #[{ on := 8, ground := Ground.data }, { on := 6, ground := Ground.data }, { on := 4, ground := Ground.chain }, { on := 0, ground := Ground.phase }, { on := 1, ground := Ground.phase }, { on := 2, ground := Ground.phase }, { on := 3, ground := Ground.phase }, { on := 4, ground := Ground.phase }, { on := 5, ground := Ground.phase }, { on := 6, ground := Ground.phase }, { on := 7, ground := Ground.textOnly Departure.lateStores }, { on := 8, ground := Ground.phase }, { on := 9, ground := Ground.phase }], guard := none }) rfl (fun K hKq => ?_) AllReadyH.nil
              obtain ⟨X, hX⟩ : ∃ X, y.alloc (.cells #[.pointer none] 24) = X := ⟨_, rfl⟩
              have g1 : X.heap[y.heap.size]? = some (.cells #[.pointer none] 24) := by subst hX; exact last_of _ _
              have g2 : X.heap[W1.heap.size]? = some (.cells #[.pointer none] 24) := by subst hX; exact (bl_alloc X1 _)
              have kyx : Kp y X := by subst hX; exact (Kp.refl y).alloc _
              have hy := KY.size
              have hx1 := bl_lt X1
              have h1 : W1.heap.size ≤ y.heap.size := by omega
              have h2 : W1.heap.size ≤ W1.heap.size := by omega
              have n12 : y.heap.size ≠ W1.heap.size := by omega
              have n21 : W1.heap.size ≠ y.heap.size := by omega
              rw [hX] at hH ⊢
              have oX := oa.kp kyx
              have obX := ob.kp kyx
              have KX : Kp W1 X := KY.trans kyx
              have e1 := bl_cell g1 0 (.pointer none) rfl
              have e2 := bl_cell g2 0 (.pointer none) rfl
              have f1 := bl_frozen g1 0
              have f2 := bl_frozen g2 0
              have FIN : Hid (_ ∧ _ ∧ _ ∧ _ ∧ _) := fin2 KX g1 g2 h1 h2 n12 oX obX
              clear hX kyx hy oa ob KY oX obX g1 g2 hx1 X1
              go_simp
              refine hKq.out _ _ (MK.out _ (KX.setCell h1 _)) (fun hN => ?_)
              clear hKq K hH KQ
              have hH := hN
              clear hN
              have KQ := hH.2.out
              try simp only [Act.put, List.setIfInBounds_toArray, List.set_cons_zero, List.set_cons_succ]
              refine wpAnyH_ready (rs := [11]) (by kernel_rfl) (by simp) ?_
              refine AllReadyH.cons (o := { dst := none, op := Op.store 24 (Operand.tmp 12) (Operand.tmp 48), type := 0, pos := "law.go:144", after := #[{ on := 9, ground := Ground.data }, { on := 7, ground := Ground.data }, { on := 10, ground := Ground.chain }, { on := 0, ground := Ground.phase }, { on := 1, ground := Ground.phase }, { on := 2, ground := Ground.phase }, { on := 3, ground := Ground.phase }, { on := 4, ground := Ground.phase }, { on := 5, ground := Ground.phase }, { on := 6, ground := Ground.phase }, { on := 7, ground := Ground.phase }, { on := 8, ground := Ground.phase }, { on := 9, ground := Ground.phase }, { on := 10, ground := Ground.phase }], guard := none }) rfl (fun K hKq => ?_) AllReadyH.nil
              go_simp
              refine hKq.out _ _ (MK.out _ ((KX.setCell h1 _).setCell h2 _)) (fun hN => ?_)
              clear hKq K hH KQ
              have hH := hN
              clear hN
              have KQ := hH.2.out
              try simp only [Act.put, List.setIfInBounds_toArray, List.set_cons_zero, List.set_cons_succ]
              refine wpAnyH_done (by kernel_rfl) ?_ _
              refine NoPanic.normal ?_
              go_wp2_with fail
              go_meet
              case rel => exact ⟨_, _, a, b, rfl, rfl, FIN.out⟩
            refine AllReadyH.cons (o := { dst := some 11, op := Op.alloc 24, type := 0, pos := "law.go:144", after := #[], guard := none }) rfl (fun K hKq => ?_) ?_
            ·
              go_simp
              refine hKq.out _ _ (MK.out _ (by first | exact KQ.alloc _ | exact (Kp.alloc (Kp.refl _) _).drew | exact (Kp.alloc (Kp.alloc (Kp.refl _) _) _).drew)) (fun hN => ?_)
              clear hKq K hH KQ
              have hH := hN
              clear hN
              have KQ := hH.2.out
              try simp only [Act.put, List.setIfInBounds_toArray, List.set_cons_zero, List.set_cons_succ]
              refine wpAnyH_ready (rs := [4]) (by kernel_rfl) (by simp) ?_
              refine AllReadyH.cons (o := { dst := some 46, op := Op.call { callee := Callee.value (Operand.func 10), args := #[Operand.tmp 42, Operand.tmp 45], argTypes := #[24, 3] }, type := 30, pos := "law.go:144", after := #[{ on := 0, ground := Ground.data }, { on := 3, ground := Ground.data }, { on := 3, ground := Ground.chain }], guard := none }) rfl (fun K hKq => ?_) AllReadyH.nil
              go_simp
              refine (split_ok r xs (p1 : Int) _ (Ok.kp F1.out.1 KQ) (by have := LX.out.1; omega) LX.out.2).mono ?_
              rintro e y ⟨a, b, rfl, oa, ob, kq⟩
              rw [Int.toNat_natCast] at oa ob
              have X1 := bl_kp (show (((W1.alloc (.cells #[.pointer none] 24)).alloc (.cells #[.pointer none] 24)).drew).heap[W1.heap.size]? = _ from bl_alloc (last_of _ _) _) kq
              have X2 := bl_kp (show (((W1.alloc (.cells #[.pointer none] 24)).alloc (.cells #[.pointer none] 24)).drew).heap[W1.heap.size + 1]? = _ from last_at _ _ _ (by simp)) kq
              have KY : Kp W1 y := KQ.trans kq
              refine hKq.out _ _ (MK.out _ KY) (fun hN => ?_)
              clear kq
              clear hKq K hH KQ
              have hH := hN
              clear hN
              have KQ := hH.2.out
              try simp only [Act.put, List.setIfInBounds_toArray, List.set_cons_zero, List.set_cons_succ]
              refine wpAnyH_take (i := 5) (oi := { dst := some 41, op := Op.move (Operand.tmp 46), type := 30, pos := "law.go:144", after := #[{ on := 4, ground := Ground.data }], guard := none }) (v := ?v5s16) rfl (by kernel_rfl) (by kernel_rfl) (by kernel_rfl) (fun _ _ _ h => h) (Or.inl ⟨by rfl, ?hy5s16⟩) hH ?r5s16
              case hy5s16 => (intro W hSw; (try dsimp only at hSw); go_simp; try (with_reducible rfl))
              try simp only [Act.put, List.setIfInBounds_toArray, List.set_cons_zero, List.set_cons_succ]
              refine wpAnyH_take (i := 6) (oi := { dst := some 47, op := Op.extract (Operand.tmp 41) 0, type := 24, pos := "law.go:144", after := #[{ on := 5, ground := Ground.data }], guard := none }) (v := ?v6s17) rfl (by kernel_rfl) (by kernel_rfl) (by kernel_rfl) (fun _ _ _ h => h) (Or.inl ⟨by rfl, ?hy6s17⟩) hH ?r6s17
              case hy6s17 => (intro W hSw; (try dsimp only at hSw); go_simp; try (with_reducible rfl))
              try simp only [Act.put, List.setIfInBounds_toArray, List.set_cons_zero, List.set_cons_succ]
              refine wpAnyH_take (i := 7) (oi := { dst := some 48, op := Op.extract (Operand.tmp 41) 1, type := 24, pos := "law.go:144", after := #[{ on := 5, ground := Ground.data }, { on := 10, ground := Ground.gcOnly Departure.lateStores }], guard := none }) (v := ?v7s18) rfl (by kernel_rfl) (by kernel_rfl) (by kernel_rfl) (fun _ _ _ h => h) (Or.inl ⟨by rfl, ?hy7s18⟩) hH ?r7s18
              case hy7s18 => (intro W hSw; (try dsimp only at hSw); go_simp; try (with_reducible rfl))
              try simp only [Act.put, List.setIfInBounds_toArray, List.set_cons_zero, List.set_cons_succ]
              refine wpAnyH_ready (rs := [10]) (by kernel_rfl) (by simp) ?_
              refine AllReadyH.cons (o := { dst := none, op := Op.store 24 (Operand.tmp 11) (Operand.tmp 47), type := 0, pos := "law.go:144", after := #[{ on := 8, ground := Ground.data }, { on := 6, ground := Ground.data }, { on := 4, ground := Ground.chain }, { on := 0, ground := Ground.phase }, { on := 1, ground := Ground.phase }, { on := 2, ground := Ground.phase }, { on := 3, ground := Ground.phase }, { on := 4, ground := Ground.phase }, { on := 5, ground := Ground.phase }, { on := 6, ground := Ground.phase }, { on := 7, ground := Ground.textOnly Departure.lateStores }, { on := 8, ground := Ground.phase }, { on := 9, ground := Ground.phase }], guard := none }) rfl (fun K hKq => ?_) AllReadyH.nil
              obtain ⟨X, hX⟩ : ∃ X, y = X := ⟨_, rfl⟩
              have g1 : X.heap[(W1.heap.size + 1)]? = some (.cells #[.pointer none] 24) := by subst hX; exact X2
              have g2 : X.heap[W1.heap.size]? = some (.cells #[.pointer none] 24) := by subst hX; exact X1
              have kyx : Kp y X := by subst hX; exact Kp.refl y
              have hy := KY.size
              have hx1 := bl_lt X1
              have h1 : W1.heap.size ≤ (W1.heap.size + 1) := by omega
              have h2 : W1.heap.size ≤ W1.heap.size := by omega
              have n12 : (W1.heap.size + 1) ≠ W1.heap.size := by omega
              have n21 : W1.heap.size ≠ (W1.heap.size + 1) := by omega
              rw [hX] at hH ⊢
              have oX := oa.kp kyx
              have obX := ob.kp kyx
              have KX : Kp W1 X := KY.trans kyx
              have e1 := bl_cell g1 0 (.pointer none) rfl
              have e2 := bl_cell g2 0 (.pointer none) rfl
              have f1 := bl_frozen g1 0
              have f2 := bl_frozen g2 0
              have FIN : Hid (_ ∧ _ ∧ _ ∧ _ ∧ _) := fin2 KX g1 g2 h1 h2 n12 oX obX
              clear hX kyx hy oa ob KY oX obX g1 g2 hx1 X1 X2
              go_simp
              refine hKq.out _ _ (MK.out _ (KX.setCell h1 _)) (fun hN => ?_)
              clear hKq K hH KQ
              have hH := hN
              clear hN
              have KQ := hH.2.out
              try simp only [Act.put, List.setIfInBounds_toArray, List.set_cons_zero, List.set_cons_succ]
              refine wpAnyH_ready (rs := [11]) (by kernel_rfl) (by simp) ?_
              refine AllReadyH.cons (o := { dst := none, op := Op.store 24 (Operand.tmp 12) (Operand.tmp 48), type := 0, pos := "law.go:144", after := #[{ on := 9, ground := Ground.data }, { on := 7, ground := Ground.data }, { on := 10, ground := Ground.chain }, { on := 0, ground := Ground.phase }, { on := 1, ground := Ground.phase }, { on := 2, ground := Ground.phase }, { on := 3, ground := Ground.phase }, { on := 4, ground := Ground.phase }, { on := 5, ground := Ground.phase }, { on := 6, ground := Ground.phase }, { on := 7, ground := Ground.phase }, { on := 8, ground := Ground.phase }, { on := 9, ground := Ground.phase }, { on := 10, ground := Ground.phase }], guard := none }) rfl (fun K hKq => ?_) AllReadyH.nil
              go_simp
              refine hKq.out _ _ (MK.out _ ((KX.setCell h1 _).setCell h2 _)) (fun hN => ?_)
              clear hKq K hH KQ
              have hH := hN
              clear hN
              have KQ := hH.2.out
              try simp only [Act.put, List.setIfInBounds_toArray, List.set_cons_zero, List.set_cons_succ]
              refine wpAnyH_done (by kernel_rfl) ?_ _
              refine NoPanic.normal ?_
              go_wp2_with fail
              go_meet
              case rel => exact ⟨_, _, a, b, rfl, rfl, FIN.out⟩
            exact AllReadyH.nil
          exact AllReadyH.nil
        refine AllReadyH.cons (o := { dst := some 11, op := Op.alloc 24, type := 0, pos := "law.go:144", after := #[], guard := none }) rfl (fun K hKq => ?_) ?_
        ·
          go_simp
          refine hKq.out _ _ (MK.out _ (by first | exact KQ.alloc _ | exact (Kp.alloc (Kp.refl _) _).drew | exact (Kp.alloc (Kp.alloc (Kp.refl _) _) _).drew)) (fun hN => ?_)
          clear hKq K hH KQ
          have hH := hN
          clear hN
          have KQ := hH.2.out
          try simp only [Act.put, List.setIfInBounds_toArray, List.set_cons_zero, List.set_cons_succ]
          refine wpAnyH_ready (rs := [3, 9]) (by kernel_rfl) (by simp) ?_
          refine AllReadyH.cons (o := { dst := some 45, op := Op.call { callee := Callee.value (Operand.func 15), args := #[Operand.tmp 43, Operand.const (Value.int IntKind.i64 0), Operand.tmp 44], argTypes := #[3, 3, 3] }, type := 3, pos := "law.go:144", after := #[{ on := 1, ground := Ground.data }, { on := 2, ground := Ground.data }], guard := none }) rfl (fun K hKq => ?_) ?_
          ·
            go_simp
            refine (within_any i 0 (k : Int) _ (by omega) (by omega) (by omega)).mono ?_
            rintro e yy ⟨rfl, rfl⟩
            rw [HP1.out]
            refine hKq.out _ _ (MK.out _ KQ) (fun hN => ?_)
            clear hKq K hH KQ
            have hH := hN
            clear hN
            have KQ := hH.2.out
            try simp only [Act.put, List.setIfInBounds_toArray, List.set_cons_zero, List.set_cons_succ]
            refine wpAnyH_ready (rs := [4, 9]) (by kernel_rfl) (by simp) ?_
            refine AllReadyH.cons (o := { dst := some 46, op := Op.call { callee := Callee.value (Operand.func 10), args := #[Operand.tmp 42, Operand.tmp 45], argTypes := #[24, 3] }, type := 30, pos := "law.go:144", after := #[{ on := 0, ground := Ground.data }, { on := 3, ground := Ground.data }, { on := 3, ground := Ground.chain }], guard := none }) rfl (fun K hKq => ?_) ?_
            ·
              go_simp
              refine (split_ok r xs (p1 : Int) _ (Ok.kp F1.out.1 KQ) (by have := LX.out.1; omega) LX.out.2).mono ?_
              rintro e y ⟨a, b, rfl, oa, ob, kq⟩
              rw [Int.toNat_natCast] at oa ob
              have X1 := bl_kp (last_drew W1 _) kq
              have KY : Kp W1 y := KQ.trans kq
              refine hKq.out _ _ (MK.out _ KY) (fun hN => ?_)
              clear kq
              clear hKq K hH KQ
              have hH := hN
              clear hN
              have KQ := hH.2.out
              try simp only [Act.put, List.setIfInBounds_toArray, List.set_cons_zero, List.set_cons_succ]
              refine wpAnyH_take (i := 5) (oi := { dst := some 41, op := Op.move (Operand.tmp 46), type := 30, pos := "law.go:144", after := #[{ on := 4, ground := Ground.data }], guard := none }) (v := ?v5s19) rfl (by kernel_rfl) (by kernel_rfl) (by kernel_rfl) (fun _ _ _ h => h) (Or.inl ⟨by rfl, ?hy5s19⟩) hH ?r5s19
              case hy5s19 => (intro W hSw; (try dsimp only at hSw); go_simp; try (with_reducible rfl))
              try simp only [Act.put, List.setIfInBounds_toArray, List.set_cons_zero, List.set_cons_succ]
              refine wpAnyH_take (i := 6) (oi := { dst := some 47, op := Op.extract (Operand.tmp 41) 0, type := 24, pos := "law.go:144", after := #[{ on := 5, ground := Ground.data }], guard := none }) (v := ?v6s20) rfl (by kernel_rfl) (by kernel_rfl) (by kernel_rfl) (fun _ _ _ h => h) (Or.inl ⟨by rfl, ?hy6s20⟩) hH ?r6s20
              case hy6s20 => (intro W hSw; (try dsimp only at hSw); go_simp; try (with_reducible rfl))
              try simp only [Act.put, List.setIfInBounds_toArray, List.set_cons_zero, List.set_cons_succ]
              refine wpAnyH_take (i := 7) (oi := { dst := some 48, op := Op.extract (Operand.tmp 41) 1, type := 24, pos := "law.go:144", after := #[{ on := 5, ground := Ground.data }, { on := 10, ground := Ground.gcOnly Departure.lateStores }], guard := none }) (v := ?v7s21) rfl (by kernel_rfl) (by kernel_rfl) (by kernel_rfl) (fun _ _ _ h => h) (Or.inl ⟨by rfl, ?hy7s21⟩) hH ?r7s21
              case hy7s21 => (intro W hSw; (try dsimp only at hSw); go_simp; try (with_reducible rfl))
              try simp only [Act.put, List.setIfInBounds_toArray, List.set_cons_zero, List.set_cons_succ]
              refine wpAnyH_ready (rs := [9]) (by kernel_rfl) (by simp) ?_
              refine AllReadyH.cons (o := { dst := some 12, op := Op.alloc 24, type := 0, pos := "law.go:144", after := #[], guard := none }) rfl (fun K hKq => ?_) AllReadyH.nil
              go_simp
              refine hKq.out _ _ (MK.out _ (by first | exact KQ.alloc _ | exact (Kp.alloc (Kp.refl _) _).drew | exact (Kp.alloc (Kp.alloc (Kp.refl _) _) _).drew)) (fun hN => ?_)
              clear hKq K hH KQ
              have hH := hN
              clear hN
              have KQ := hH.2.out
              try simp only [Act.put, List.setIfInBounds_toArray, List.set_cons_zero, List.set_cons_succ]
              refine wpAnyH_ready (rs := [10]) (by kernel_rfl) (by simp) ?_
              refine AllReadyH.cons (o := { dst := none, op := Op.store 24 (Operand.tmp 11) (Operand.tmp 47), type := 0, pos := "law.go:144", after := #[{ on := 8, ground := Ground.data }, { on := 6, ground := Ground.data }, { on := 4, ground := Ground.chain }, { on := 0, ground := Ground.phase }, { on := 1, ground := Ground.phase }, { on := 2, ground := Ground.phase }, { on := 3, ground := Ground.phase }, { on := 4, ground := Ground.phase }, { on := 5, ground := Ground.phase }, { on := 6, ground := Ground.phase }, { on := 7, ground := Ground.textOnly Departure.lateStores }, { on := 8, ground := Ground.phase }, { on := 9, ground := Ground.phase }], guard := none }) rfl (fun K hKq => ?_) AllReadyH.nil
              obtain ⟨X, hX⟩ : ∃ X, y.alloc (.cells #[.pointer none] 24) = X := ⟨_, rfl⟩
              have g1 : X.heap[W1.heap.size]? = some (.cells #[.pointer none] 24) := by subst hX; exact (bl_alloc X1 _)
              have g2 : X.heap[y.heap.size]? = some (.cells #[.pointer none] 24) := by subst hX; exact last_of _ _
              have kyx : Kp y X := by subst hX; exact (Kp.refl y).alloc _
              have hy := KY.size
              have hx1 := bl_lt X1
              have h1 : W1.heap.size ≤ W1.heap.size := by omega
              have h2 : W1.heap.size ≤ y.heap.size := by omega
              have n12 : W1.heap.size ≠ y.heap.size := by omega
              have n21 : y.heap.size ≠ W1.heap.size := by omega
              rw [hX] at hH ⊢
              have oX := oa.kp kyx
              have obX := ob.kp kyx
              have KX : Kp W1 X := KY.trans kyx
              have e1 := bl_cell g1 0 (.pointer none) rfl
              have e2 := bl_cell g2 0 (.pointer none) rfl
              have f1 := bl_frozen g1 0
              have f2 := bl_frozen g2 0
              have FIN : Hid (_ ∧ _ ∧ _ ∧ _ ∧ _) := fin2 KX g1 g2 h1 h2 n12 oX obX
              clear hX kyx hy oa ob KY oX obX g1 g2 hx1 X1
              go_simp
              refine hKq.out _ _ (MK.out _ (KX.setCell h1 _)) (fun hN => ?_)
              clear hKq K hH KQ
              have hH := hN
              clear hN
              have KQ := hH.2.out
              try simp only [Act.put, List.setIfInBounds_toArray, List.set_cons_zero, List.set_cons_succ]
              refine wpAnyH_ready (rs := [11]) (by kernel_rfl) (by simp) ?_
              refine AllReadyH.cons (o := { dst := none, op := Op.store 24 (Operand.tmp 12) (Operand.tmp 48), type := 0, pos := "law.go:144", after := #[{ on := 9, ground := Ground.data }, { on := 7, ground := Ground.data }, { on := 10, ground := Ground.chain }, { on := 0, ground := Ground.phase }, { on := 1, ground := Ground.phase }, { on := 2, ground := Ground.phase }, { on := 3, ground := Ground.phase }, { on := 4, ground := Ground.phase }, { on := 5, ground := Ground.phase }, { on := 6, ground := Ground.phase }, { on := 7, ground := Ground.phase }, { on := 8, ground := Ground.phase }, { on := 9, ground := Ground.phase }, { on := 10, ground := Ground.phase }], guard := none }) rfl (fun K hKq => ?_) AllReadyH.nil
              go_simp
              refine hKq.out _ _ (MK.out _ ((KX.setCell h1 _).setCell h2 _)) (fun hN => ?_)
              clear hKq K hH KQ
              have hH := hN
              clear hN
              have KQ := hH.2.out
              try simp only [Act.put, List.setIfInBounds_toArray, List.set_cons_zero, List.set_cons_succ]
              refine wpAnyH_done (by kernel_rfl) ?_ _
              refine NoPanic.normal ?_
              go_wp2_with fail
              go_meet
              case rel => exact ⟨_, _, a, b, rfl, rfl, FIN.out⟩
            refine AllReadyH.cons (o := { dst := some 12, op := Op.alloc 24, type := 0, pos := "law.go:144", after := #[], guard := none }) rfl (fun K hKq => ?_) ?_
            ·
              go_simp
              refine hKq.out _ _ (MK.out _ (by first | exact KQ.alloc _ | exact (Kp.alloc (Kp.refl _) _).drew | exact (Kp.alloc (Kp.alloc (Kp.refl _) _) _).drew)) (fun hN => ?_)
              clear hKq K hH KQ
              have hH := hN
              clear hN
              have KQ := hH.2.out
              try simp only [Act.put, List.setIfInBounds_toArray, List.set_cons_zero, List.set_cons_succ]
              refine wpAnyH_ready (rs := [4]) (by kernel_rfl) (by simp) ?_
              refine AllReadyH.cons (o := { dst := some 46, op := Op.call { callee := Callee.value (Operand.func 10), args := #[Operand.tmp 42, Operand.tmp 45], argTypes := #[24, 3] }, type := 30, pos := "law.go:144", after := #[{ on := 0, ground := Ground.data }, { on := 3, ground := Ground.data }, { on := 3, ground := Ground.chain }], guard := none }) rfl (fun K hKq => ?_) AllReadyH.nil
              go_simp
              refine (split_ok r xs (p1 : Int) _ (Ok.kp F1.out.1 KQ) (by have := LX.out.1; omega) LX.out.2).mono ?_
              rintro e y ⟨a, b, rfl, oa, ob, kq⟩
              rw [Int.toNat_natCast] at oa ob
              have X1 := bl_kp (show (((W1.alloc (.cells #[.pointer none] 24)).alloc (.cells #[.pointer none] 24)).drew).heap[W1.heap.size]? = _ from bl_alloc (last_of _ _) _) kq
              have X2 := bl_kp (show (((W1.alloc (.cells #[.pointer none] 24)).alloc (.cells #[.pointer none] 24)).drew).heap[W1.heap.size + 1]? = _ from last_at _ _ _ (by simp)) kq
              have KY : Kp W1 y := KQ.trans kq
              refine hKq.out _ _ (MK.out _ KY) (fun hN => ?_)
              clear kq
              clear hKq K hH KQ
              have hH := hN
              clear hN
              have KQ := hH.2.out
              try simp only [Act.put, List.setIfInBounds_toArray, List.set_cons_zero, List.set_cons_succ]
              refine wpAnyH_take (i := 5) (oi := { dst := some 41, op := Op.move (Operand.tmp 46), type := 30, pos := "law.go:144", after := #[{ on := 4, ground := Ground.data }], guard := none }) (v := ?v5s22) rfl (by kernel_rfl) (by kernel_rfl) (by kernel_rfl) (fun _ _ _ h => h) (Or.inl ⟨by rfl, ?hy5s22⟩) hH ?r5s22
              case hy5s22 => (intro W hSw; (try dsimp only at hSw); go_simp; try (with_reducible rfl))
              try simp only [Act.put, List.setIfInBounds_toArray, List.set_cons_zero, List.set_cons_succ]
              refine wpAnyH_take (i := 6) (oi := { dst := some 47, op := Op.extract (Operand.tmp 41) 0, type := 24, pos := "law.go:144", after := #[{ on := 5, ground := Ground.data }], guard := none }) (v := ?v6s23) rfl (by kernel_rfl) (by kernel_rfl) (by kernel_rfl) (fun _ _ _ h => h) (Or.inl ⟨by rfl, ?hy6s23⟩) hH ?r6s23
              case hy6s23 => (intro W hSw; (try dsimp only at hSw); go_simp; try (with_reducible rfl))
              try simp only [Act.put, List.setIfInBounds_toArray, List.set_cons_zero, List.set_cons_succ]
              refine wpAnyH_take (i := 7) (oi := { dst := some 48, op := Op.extract (Operand.tmp 41) 1, type := 24, pos := "law.go:144", after := #[{ on := 5, ground := Ground.data }, { on := 10, ground := Ground.gcOnly Departure.lateStores }], guard := none }) (v := ?v7s24) rfl (by kernel_rfl) (by kernel_rfl) (by kernel_rfl) (fun _ _ _ h => h) (Or.inl ⟨by rfl, ?hy7s24⟩) hH ?r7s24
              case hy7s24 => (intro W hSw; (try dsimp only at hSw); go_simp; try (with_reducible rfl))
              try simp only [Act.put, List.setIfInBounds_toArray, List.set_cons_zero, List.set_cons_succ]
              refine wpAnyH_ready (rs := [10]) (by kernel_rfl) (by simp) ?_
              refine AllReadyH.cons (o := { dst := none, op := Op.store 24 (Operand.tmp 11) (Operand.tmp 47), type := 0, pos := "law.go:144", after := #[{ on := 8, ground := Ground.data }, { on := 6, ground := Ground.data }, { on := 4, ground := Ground.chain }, { on := 0, ground := Ground.phase }, { on := 1, ground := Ground.phase }, { on := 2, ground := Ground.phase }, { on := 3, ground := Ground.phase }, { on := 4, ground := Ground.phase }, { on := 5, ground := Ground.phase }, { on := 6, ground := Ground.phase }, { on := 7, ground := Ground.textOnly Departure.lateStores }, { on := 8, ground := Ground.phase }, { on := 9, ground := Ground.phase }], guard := none }) rfl (fun K hKq => ?_) AllReadyH.nil
              obtain ⟨X, hX⟩ : ∃ X, y = X := ⟨_, rfl⟩
              have g1 : X.heap[W1.heap.size]? = some (.cells #[.pointer none] 24) := by subst hX; exact X1
              have g2 : X.heap[(W1.heap.size + 1)]? = some (.cells #[.pointer none] 24) := by subst hX; exact X2
              have kyx : Kp y X := by subst hX; exact Kp.refl y
              have hy := KY.size
              have hx1 := bl_lt X1
              have h1 : W1.heap.size ≤ W1.heap.size := by omega
              have h2 : W1.heap.size ≤ (W1.heap.size + 1) := by omega
              have n12 : W1.heap.size ≠ (W1.heap.size + 1) := by omega
              have n21 : (W1.heap.size + 1) ≠ W1.heap.size := by omega
              rw [hX] at hH ⊢
              have oX := oa.kp kyx
              have obX := ob.kp kyx
              have KX : Kp W1 X := KY.trans kyx
              have e1 := bl_cell g1 0 (.pointer none) rfl
              have e2 := bl_cell g2 0 (.pointer none) rfl
              have f1 := bl_frozen g1 0
              have f2 := bl_frozen g2 0
              have FIN : Hid (_ ∧ _ ∧ _ ∧ _ ∧ _) := fin2 KX g1 g2 h1 h2 n12 oX obX
              clear hX kyx hy oa ob KY oX obX g1 g2 hx1 X1 X2
              go_simp
              refine hKq.out _ _ (MK.out _ (KX.setCell h1 _)) (fun hN => ?_)
              clear hKq K hH KQ
              have hH := hN
              clear hN
              have KQ := hH.2.out
              try simp only [Act.put, List.setIfInBounds_toArray, List.set_cons_zero, List.set_cons_succ]
              refine wpAnyH_ready (rs := [11]) (by kernel_rfl) (by simp) ?_
              refine AllReadyH.cons (o := { dst := none, op := Op.store 24 (Operand.tmp 12) (Operand.tmp 48), type := 0, pos := "law.go:144", after := #[{ on := 9, ground := Ground.data }, { on := 7, ground := Ground.data }, { on := 10, ground := Ground.chain }, { on := 0, ground := Ground.phase }, { on := 1, ground := Ground.phase }, { on := 2, ground := Ground.phase }, { on := 3, ground := Ground.phase }, { on := 4, ground := Ground.phase }, { on := 5, ground := Ground.phase }, { on := 6, ground := Ground.phase }, { on := 7, ground := Ground.phase }, { on := 8, ground := Ground.phase }, { on := 9, ground := Ground.phase }, { on := 10, ground := Ground.phase }], guard := none }) rfl (fun K hKq => ?_) AllReadyH.nil
              go_simp
              refine hKq.out _ _ (MK.out _ ((KX.setCell h1 _).setCell h2 _)) (fun hN => ?_)
              clear hKq K hH KQ
              have hH := hN
              clear hN
              have KQ := hH.2.out
              try simp only [Act.put, List.setIfInBounds_toArray, List.set_cons_zero, List.set_cons_succ]
              refine wpAnyH_done (by kernel_rfl) ?_ _
              refine NoPanic.normal ?_
              go_wp2_with fail
              go_meet
              case rel => exact ⟨_, _, a, b, rfl, rfl, FIN.out⟩
            exact AllReadyH.nil
          refine AllReadyH.cons (o := { dst := some 12, op := Op.alloc 24, type := 0, pos := "law.go:144", after := #[], guard := none }) rfl (fun K hKq => ?_) ?_
          ·
            go_simp
            refine hKq.out _ _ (MK.out _ (by first | exact KQ.alloc _ | exact (Kp.alloc (Kp.refl _) _).drew | exact (Kp.alloc (Kp.alloc (Kp.refl _) _) _).drew)) (fun hN => ?_)
            clear hKq K hH KQ
            have hH := hN
            clear hN
            have KQ := hH.2.out
            try simp only [Act.put, List.setIfInBounds_toArray, List.set_cons_zero, List.set_cons_succ]
            refine wpAnyH_ready (rs := [3]) (by kernel_rfl) (by simp) ?_
            refine AllReadyH.cons (o := { dst := some 45, op := Op.call { callee := Callee.value (Operand.func 15), args := #[Operand.tmp 43, Operand.const (Value.int IntKind.i64 0), Operand.tmp 44], argTypes := #[3, 3, 3] }, type := 3, pos := "law.go:144", after := #[{ on := 1, ground := Ground.data }, { on := 2, ground := Ground.data }], guard := none }) rfl (fun K hKq => ?_) AllReadyH.nil
            go_simp
            refine (within_any i 0 (k : Int) _ (by omega) (by omega) (by omega)).mono ?_
            rintro e yy ⟨rfl, rfl⟩
            rw [HP1.out]
            refine hKq.out _ _ (MK.out _ KQ) (fun hN => ?_)
            clear hKq K hH KQ
            have hH := hN
            clear hN
            have KQ := hH.2.out
            try simp only [Act.put, List.setIfInBounds_toArray, List.set_cons_zero, List.set_cons_succ]
            refine wpAnyH_ready (rs := [4]) (by kernel_rfl) (by simp) ?_
            refine AllReadyH.cons (o := { dst := some 46, op := Op.call { callee := Callee.value (Operand.func 10), args := #[Operand.tmp 42, Operand.tmp 45], argTypes := #[24, 3] }, type := 30, pos := "law.go:144", after := #[{ on := 0, ground := Ground.data }, { on := 3, ground := Ground.data }, { on := 3, ground := Ground.chain }], guard := none }) rfl (fun K hKq => ?_) AllReadyH.nil
            go_simp
            refine (split_ok r xs (p1 : Int) _ (Ok.kp F1.out.1 KQ) (by have := LX.out.1; omega) LX.out.2).mono ?_
            rintro e y ⟨a, b, rfl, oa, ob, kq⟩
            rw [Int.toNat_natCast] at oa ob
            have X1 := bl_kp (show (((W1.alloc (.cells #[.pointer none] 24)).alloc (.cells #[.pointer none] 24)).drew).heap[W1.heap.size]? = _ from bl_alloc (last_of _ _) _) kq
            have X2 := bl_kp (show (((W1.alloc (.cells #[.pointer none] 24)).alloc (.cells #[.pointer none] 24)).drew).heap[W1.heap.size + 1]? = _ from last_at _ _ _ (by simp)) kq
            have KY : Kp W1 y := KQ.trans kq
            refine hKq.out _ _ (MK.out _ KY) (fun hN => ?_)
            clear kq
            clear hKq K hH KQ
            have hH := hN
            clear hN
            have KQ := hH.2.out
            try simp only [Act.put, List.setIfInBounds_toArray, List.set_cons_zero, List.set_cons_succ]
            refine wpAnyH_take (i := 5) (oi := { dst := some 41, op := Op.move (Operand.tmp 46), type := 30, pos := "law.go:144", after := #[{ on := 4, ground := Ground.data }], guard := none }) (v := ?v5s25) rfl (by kernel_rfl) (by kernel_rfl) (by kernel_rfl) (fun _ _ _ h => h) (Or.inl ⟨by rfl, ?hy5s25⟩) hH ?r5s25
            case hy5s25 => (intro W hSw; (try dsimp only at hSw); go_simp; try (with_reducible rfl))
            try simp only [Act.put, List.setIfInBounds_toArray, List.set_cons_zero, List.set_cons_succ]
            refine wpAnyH_take (i := 6) (oi := { dst := some 47, op := Op.extract (Operand.tmp 41) 0, type := 24, pos := "law.go:144", after := #[{ on := 5, ground := Ground.data }], guard := none }) (v := ?v6s26) rfl (by kernel_rfl) (by kernel_rfl) (by kernel_rfl) (fun _ _ _ h => h) (Or.inl ⟨by rfl, ?hy6s26⟩) hH ?r6s26
            case hy6s26 => (intro W hSw; (try dsimp only at hSw); go_simp; try (with_reducible rfl))
            try simp only [Act.put, List.setIfInBounds_toArray, List.set_cons_zero, List.set_cons_succ]
            refine wpAnyH_take (i := 7) (oi := { dst := some 48, op := Op.extract (Operand.tmp 41) 1, type := 24, pos := "law.go:144", after := #[{ on := 5, ground := Ground.data }, { on := 10, ground := Ground.gcOnly Departure.lateStores }], guard := none }) (v := ?v7s27) rfl (by kernel_rfl) (by kernel_rfl) (by kernel_rfl) (fun _ _ _ h => h) (Or.inl ⟨by rfl, ?hy7s27⟩) hH ?r7s27
            case hy7s27 => (intro W hSw; (try dsimp only at hSw); go_simp; try (with_reducible rfl))
            try simp only [Act.put, List.setIfInBounds_toArray, List.set_cons_zero, List.set_cons_succ]
            refine wpAnyH_ready (rs := [10]) (by kernel_rfl) (by simp) ?_
            refine AllReadyH.cons (o := { dst := none, op := Op.store 24 (Operand.tmp 11) (Operand.tmp 47), type := 0, pos := "law.go:144", after := #[{ on := 8, ground := Ground.data }, { on := 6, ground := Ground.data }, { on := 4, ground := Ground.chain }, { on := 0, ground := Ground.phase }, { on := 1, ground := Ground.phase }, { on := 2, ground := Ground.phase }, { on := 3, ground := Ground.phase }, { on := 4, ground := Ground.phase }, { on := 5, ground := Ground.phase }, { on := 6, ground := Ground.phase }, { on := 7, ground := Ground.textOnly Departure.lateStores }, { on := 8, ground := Ground.phase }, { on := 9, ground := Ground.phase }], guard := none }) rfl (fun K hKq => ?_) AllReadyH.nil
            obtain ⟨X, hX⟩ : ∃ X, y = X := ⟨_, rfl⟩
            have g1 : X.heap[W1.heap.size]? = some (.cells #[.pointer none] 24) := by subst hX; exact X1
            have g2 : X.heap[(W1.heap.size + 1)]? = some (.cells #[.pointer none] 24) := by subst hX; exact X2
            have kyx : Kp y X := by subst hX; exact Kp.refl y
            have hy := KY.size
            have hx1 := bl_lt X1
            have h1 : W1.heap.size ≤ W1.heap.size := by omega
            have h2 : W1.heap.size ≤ (W1.heap.size + 1) := by omega
            have n12 : W1.heap.size ≠ (W1.heap.size + 1) := by omega
            have n21 : (W1.heap.size + 1) ≠ W1.heap.size := by omega
            rw [hX] at hH ⊢
            have oX := oa.kp kyx
            have obX := ob.kp kyx
            have KX : Kp W1 X := KY.trans kyx
            have e1 := bl_cell g1 0 (.pointer none) rfl
            have e2 := bl_cell g2 0 (.pointer none) rfl
            have f1 := bl_frozen g1 0
            have f2 := bl_frozen g2 0
            have FIN : Hid (_ ∧ _ ∧ _ ∧ _ ∧ _) := fin2 KX g1 g2 h1 h2 n12 oX obX
            clear hX kyx hy oa ob KY oX obX g1 g2 hx1 X1 X2
            go_simp
            refine hKq.out _ _ (MK.out _ (KX.setCell h1 _)) (fun hN => ?_)
            clear hKq K hH KQ
            have hH := hN
            clear hN
            have KQ := hH.2.out
            try simp only [Act.put, List.setIfInBounds_toArray, List.set_cons_zero, List.set_cons_succ]
            refine wpAnyH_ready (rs := [11]) (by kernel_rfl) (by simp) ?_
            refine AllReadyH.cons (o := { dst := none, op := Op.store 24 (Operand.tmp 12) (Operand.tmp 48), type := 0, pos := "law.go:144", after := #[{ on := 9, ground := Ground.data }, { on := 7, ground := Ground.data }, { on := 10, ground := Ground.chain }, { on := 0, ground := Ground.phase }, { on := 1, ground := Ground.phase }, { on := 2, ground := Ground.phase }, { on := 3, ground := Ground.phase }, { on := 4, ground := Ground.phase }, { on := 5, ground := Ground.phase }, { on := 6, ground := Ground.phase }, { on := 7, ground := Ground.phase }, { on := 8, ground := Ground.phase }, { on := 9, ground := Ground.phase }, { on := 10, ground := Ground.phase }], guard := none }) rfl (fun K hKq => ?_) AllReadyH.nil
            go_simp
            refine hKq.out _ _ (MK.out _ ((KX.setCell h1 _).setCell h2 _)) (fun hN => ?_)
            clear hKq K hH KQ
            have hH := hN
            clear hN
            have KQ := hH.2.out
            try simp only [Act.put, List.setIfInBounds_toArray, List.set_cons_zero, List.set_cons_succ]
            refine wpAnyH_done (by kernel_rfl) ?_ _
            refine NoPanic.normal ?_
            go_wp2_with fail
            go_meet
            case rel => exact ⟨_, _, a, b, rfl, rfl, FIN.out⟩
          exact AllReadyH.nil
        refine AllReadyH.cons (o := { dst := some 12, op := Op.alloc 24, type := 0, pos := "law.go:144", after := #[], guard := none }) rfl (fun K hKq => ?_) ?_
        ·
          go_simp
          refine hKq.out _ _ (MK.out _ (by first | exact KQ.alloc _ | exact (Kp.alloc (Kp.refl _) _).drew | exact (Kp.alloc (Kp.alloc (Kp.refl _) _) _).drew)) (fun hN => ?_)
          clear hKq K hH KQ
          have hH := hN
          clear hN
          have KQ := hH.2.out
          try simp only [Act.put, List.setIfInBounds_toArray, List.set_cons_zero, List.set_cons_succ]
          refine wpAnyH_ready (rs := [3, 8]) (by kernel_rfl) (by simp) ?_
          refine AllReadyH.cons (o := { dst := some 45, op := Op.call { callee := Callee.value (Operand.func 15), args := #[Operand.tmp 43, Operand.const (Value.int IntKind.i64 0), Operand.tmp 44], argTypes := #[3, 3, 3] }, type := 3, pos := "law.go:144", after := #[{ on := 1, ground := Ground.data }, { on := 2, ground := Ground.data }], guard := none }) rfl (fun K hKq => ?_) ?_
          ·
            go_simp
            refine (within_any i 0 (k : Int) _ (by omega) (by omega) (by omega)).mono ?_
            rintro e yy ⟨rfl, rfl⟩
            rw [HP1.out]
            refine hKq.out _ _ (MK.out _ KQ) (fun hN => ?_)
            clear hKq K hH KQ
            have hH := hN
            clear hN
            have KQ := hH.2.out
            try simp only [Act.put, List.setIfInBounds_toArray, List.set_cons_zero, List.set_cons_succ]
            refine wpAnyH_ready (rs := [4, 8]) (by kernel_rfl) (by simp) ?_
            refine AllReadyH.cons (o := { dst := some 46, op := Op.call { callee := Callee.value (Operand.func 10), args := #[Operand.tmp 42, Operand.tmp 45], argTypes := #[24, 3] }, type := 30, pos := "law.go:144", after := #[{ on := 0, ground := Ground.data }, { on := 3, ground := Ground.data }, { on := 3, ground := Ground.chain }], guard := none }) rfl (fun K hKq => ?_) ?_
            ·
              go_simp
              refine (split_ok r xs (p1 : Int) _ (Ok.kp F1.out.1 KQ) (by have := LX.out.1; omega) LX.out.2).mono ?_
              rintro e y ⟨a, b, rfl, oa, ob, kq⟩
              rw [Int.toNat_natCast] at oa ob
              have X1 := bl_kp (last_drew W1 _) kq
              have KY : Kp W1 y := KQ.trans kq
              refine hKq.out _ _ (MK.out _ KY) (fun hN => ?_)
              clear kq
              clear hKq K hH KQ
              have hH := hN
              clear hN
              have KQ := hH.2.out
              try simp only [Act.put, List.setIfInBounds_toArray, List.set_cons_zero, List.set_cons_succ]
              refine wpAnyH_take (i := 5) (oi := { dst := some 41, op := Op.move (Operand.tmp 46), type := 30, pos := "law.go:144", after := #[{ on := 4, ground := Ground.data }], guard := none }) (v := ?v5s28) rfl (by kernel_rfl) (by kernel_rfl) (by kernel_rfl) (fun _ _ _ h => h) (Or.inl ⟨by rfl, ?hy5s28⟩) hH ?r5s28
              case hy5s28 => (intro W hSw; (try dsimp only at hSw); go_simp; try (with_reducible rfl))
              try simp only [Act.put, List.setIfInBounds_toArray, List.set_cons_zero, List.set_cons_succ]
              refine wpAnyH_take (i := 6) (oi := { dst := some 47, op := Op.extract (Operand.tmp 41) 0, type := 24, pos := "law.go:144", after := #[{ on := 5, ground := Ground.data }], guard := none }) (v := ?v6s29) rfl (by kernel_rfl) (by kernel_rfl) (by kernel_rfl) (fun _ _ _ h => h) (Or.inl ⟨by rfl, ?hy6s29⟩) hH ?r6s29
              case hy6s29 => (intro W hSw; (try dsimp only at hSw); go_simp; try (with_reducible rfl))
              try simp only [Act.put, List.setIfInBounds_toArray, List.set_cons_zero, List.set_cons_succ]
              refine wpAnyH_take (i := 7) (oi := { dst := some 48, op := Op.extract (Operand.tmp 41) 1, type := 24, pos := "law.go:144", after := #[{ on := 5, ground := Ground.data }, { on := 10, ground := Ground.gcOnly Departure.lateStores }], guard := none }) (v := ?v7s30) rfl (by kernel_rfl) (by kernel_rfl) (by kernel_rfl) (fun _ _ _ h => h) (Or.inl ⟨by rfl, ?hy7s30⟩) hH ?r7s30
              case hy7s30 => (intro W hSw; (try dsimp only at hSw); go_simp; try (with_reducible rfl))
              try simp only [Act.put, List.setIfInBounds_toArray, List.set_cons_zero, List.set_cons_succ]
              refine wpAnyH_ready (rs := [8]) (by kernel_rfl) (by simp) ?_
              refine AllReadyH.cons (o := { dst := some 11, op := Op.alloc 24, type := 0, pos := "law.go:144", after := #[], guard := none }) rfl (fun K hKq => ?_) AllReadyH.nil
              go_simp
              refine hKq.out _ _ (MK.out _ (by first | exact KQ.alloc _ | exact (Kp.alloc (Kp.refl _) _).drew | exact (Kp.alloc (Kp.alloc (Kp.refl _) _) _).drew)) (fun hN => ?_)
              clear hKq K hH KQ
              have hH := hN
              clear hN
              have KQ := hH.2.out
              try simp only [Act.put, List.setIfInBounds_toArray, List.set_cons_zero, List.set_cons_succ]
              refine wpAnyH_ready (rs := [10]) (by kernel_rfl) (by simp) ?_
              refine AllReadyH.cons (o := { dst := none, op := Op.store 24 (Operand.tmp 11) (Operand.tmp 47), type := 0, pos := "law.go:144", after := #[{ on := 8, ground := Ground.data }, { on := 6, ground := Ground.data }, { on := 4, ground := Ground.chain }, { on := 0, ground := Ground.phase }, { on := 1, ground := Ground.phase }, { on := 2, ground := Ground.phase }, { on := 3, ground := Ground.phase }, { on := 4, ground := Ground.phase }, { on := 5, ground := Ground.phase }, { on := 6, ground := Ground.phase }, { on := 7, ground := Ground.textOnly Departure.lateStores }, { on := 8, ground := Ground.phase }, { on := 9, ground := Ground.phase }], guard := none }) rfl (fun K hKq => ?_) AllReadyH.nil
              obtain ⟨X, hX⟩ : ∃ X, y.alloc (.cells #[.pointer none] 24) = X := ⟨_, rfl⟩
              have g1 : X.heap[y.heap.size]? = some (.cells #[.pointer none] 24) := by subst hX; exact last_of _ _
              have g2 : X.heap[W1.heap.size]? = some (.cells #[.pointer none] 24) := by subst hX; exact (bl_alloc X1 _)
              have kyx : Kp y X := by subst hX; exact (Kp.refl y).alloc _
              have hy := KY.size
              have hx1 := bl_lt X1
              have h1 : W1.heap.size ≤ y.heap.size := by omega
              have h2 : W1.heap.size ≤ W1.heap.size := by omega
              have n12 : y.heap.size ≠ W1.heap.size := by omega
              have n21 : W1.heap.size ≠ y.heap.size := by omega
              rw [hX] at hH ⊢
              have oX := oa.kp kyx
              have obX := ob.kp kyx
              have KX : Kp W1 X := KY.trans kyx
              have e1 := bl_cell g1 0 (.pointer none) rfl
              have e2 := bl_cell g2 0 (.pointer none) rfl
              have f1 := bl_frozen g1 0
              have f2 := bl_frozen g2 0
              have FIN : Hid (_ ∧ _ ∧ _ ∧ _ ∧ _) := fin2 KX g1 g2 h1 h2 n12 oX obX
              clear hX kyx hy oa ob KY oX obX g1 g2 hx1 X1
              go_simp
              refine hKq.out _ _ (MK.out _ (KX.setCell h1 _)) (fun hN => ?_)
              clear hKq K hH KQ
              have hH := hN
              clear hN
              have KQ := hH.2.out
              try simp only [Act.put, List.setIfInBounds_toArray, List.set_cons_zero, List.set_cons_succ]
              refine wpAnyH_ready (rs := [11]) (by kernel_rfl) (by simp) ?_
              refine AllReadyH.cons (o := { dst := none, op := Op.store 24 (Operand.tmp 12) (Operand.tmp 48), type := 0, pos := "law.go:144", after := #[{ on := 9, ground := Ground.data }, { on := 7, ground := Ground.data }, { on := 10, ground := Ground.chain }, { on := 0, ground := Ground.phase }, { on := 1, ground := Ground.phase }, { on := 2, ground := Ground.phase }, { on := 3, ground := Ground.phase }, { on := 4, ground := Ground.phase }, { on := 5, ground := Ground.phase }, { on := 6, ground := Ground.phase }, { on := 7, ground := Ground.phase }, { on := 8, ground := Ground.phase }, { on := 9, ground := Ground.phase }, { on := 10, ground := Ground.phase }], guard := none }) rfl (fun K hKq => ?_) AllReadyH.nil
              go_simp
              refine hKq.out _ _ (MK.out _ ((KX.setCell h1 _).setCell h2 _)) (fun hN => ?_)
              clear hKq K hH KQ
              have hH := hN
              clear hN
              have KQ := hH.2.out
              try simp only [Act.put, List.setIfInBounds_toArray, List.set_cons_zero, List.set_cons_succ]
              refine wpAnyH_done (by kernel_rfl) ?_ _
              refine NoPanic.normal ?_
              go_wp2_with fail
              go_meet
              case rel => exact ⟨_, _, a, b, rfl, rfl, FIN.out⟩
            refine AllReadyH.cons (o := { dst := some 11, op := Op.alloc 24, type := 0, pos := "law.go:144", after := #[], guard := none }) rfl (fun K hKq => ?_) ?_
            ·
              go_simp
              refine hKq.out _ _ (MK.out _ (by first | exact KQ.alloc _ | exact (Kp.alloc (Kp.refl _) _).drew | exact (Kp.alloc (Kp.alloc (Kp.refl _) _) _).drew)) (fun hN => ?_)
              clear hKq K hH KQ
              have hH := hN
              clear hN
              have KQ := hH.2.out
              try simp only [Act.put, List.setIfInBounds_toArray, List.set_cons_zero, List.set_cons_succ]
              refine wpAnyH_ready (rs := [4]) (by kernel_rfl) (by simp) ?_
              refine AllReadyH.cons (o := { dst := some 46, op := Op.call { callee := Callee.value (Operand.func 10), args := #[Operand.tmp 42, Operand.tmp 45], argTypes := #[24, 3] }, type := 30, pos := "law.go:144", after := #[{ on := 0, ground := Ground.data }, { on := 3, ground := Ground.data }, { on := 3, ground := Ground.chain }], guard := none }) rfl (fun K hKq => ?_) AllReadyH.nil
              go_simp
              refine (split_ok r xs (p1 : Int) _ (Ok.kp F1.out.1 KQ) (by have := LX.out.1; omega) LX.out.2).mono ?_
              rintro e y ⟨a, b, rfl, oa, ob, kq⟩
              rw [Int.toNat_natCast] at oa ob
              have X1 := bl_kp (show (((W1.alloc (.cells #[.pointer none] 24)).alloc (.cells #[.pointer none] 24)).drew).heap[W1.heap.size]? = _ from bl_alloc (last_of _ _) _) kq
              have X2 := bl_kp (show (((W1.alloc (.cells #[.pointer none] 24)).alloc (.cells #[.pointer none] 24)).drew).heap[W1.heap.size + 1]? = _ from last_at _ _ _ (by simp)) kq
              have KY : Kp W1 y := KQ.trans kq
              refine hKq.out _ _ (MK.out _ KY) (fun hN => ?_)
              clear kq
              clear hKq K hH KQ
              have hH := hN
              clear hN
              have KQ := hH.2.out
              try simp only [Act.put, List.setIfInBounds_toArray, List.set_cons_zero, List.set_cons_succ]
              refine wpAnyH_take (i := 5) (oi := { dst := some 41, op := Op.move (Operand.tmp 46), type := 30, pos := "law.go:144", after := #[{ on := 4, ground := Ground.data }], guard := none }) (v := ?v5s31) rfl (by kernel_rfl) (by kernel_rfl) (by kernel_rfl) (fun _ _ _ h => h) (Or.inl ⟨by rfl, ?hy5s31⟩) hH ?r5s31
              case hy5s31 => (intro W hSw; (try dsimp only at hSw); go_simp; try (with_reducible rfl))
              try simp only [Act.put, List.setIfInBounds_toArray, List.set_cons_zero, List.set_cons_succ]
              refine wpAnyH_take (i := 6) (oi := { dst := some 47, op := Op.extract (Operand.tmp 41) 0, type := 24, pos := "law.go:144", after := #[{ on := 5, ground := Ground.data }], guard := none }) (v := ?v6s32) rfl (by kernel_rfl) (by kernel_rfl) (by kernel_rfl) (fun _ _ _ h => h) (Or.inl ⟨by rfl, ?hy6s32⟩) hH ?r6s32
              case hy6s32 => (intro W hSw; (try dsimp only at hSw); go_simp; try (with_reducible rfl))
              try simp only [Act.put, List.setIfInBounds_toArray, List.set_cons_zero, List.set_cons_succ]
              refine wpAnyH_take (i := 7) (oi := { dst := some 48, op := Op.extract (Operand.tmp 41) 1, type := 24, pos := "law.go:144", after := #[{ on := 5, ground := Ground.data }, { on := 10, ground := Ground.gcOnly Departure.lateStores }], guard := none }) (v := ?v7s33) rfl (by kernel_rfl) (by kernel_rfl) (by kernel_rfl) (fun _ _ _ h => h) (Or.inl ⟨by rfl, ?hy7s33⟩) hH ?r7s33
              case hy7s33 => (intro W hSw; (try dsimp only at hSw); go_simp; try (with_reducible rfl))
              try simp only [Act.put, List.setIfInBounds_toArray, List.set_cons_zero, List.set_cons_succ]
              refine wpAnyH_ready (rs := [10]) (by kernel_rfl) (by simp) ?_
              refine AllReadyH.cons (o := { dst := none, op := Op.store 24 (Operand.tmp 11) (Operand.tmp 47), type := 0, pos := "law.go:144", after := #[{ on := 8, ground := Ground.data }, { on := 6, ground := Ground.data }, { on := 4, ground := Ground.chain }, { on := 0, ground := Ground.phase }, { on := 1, ground := Ground.phase }, { on := 2, ground := Ground.phase }, { on := 3, ground := Ground.phase }, { on := 4, ground := Ground.phase }, { on := 5, ground := Ground.phase }, { on := 6, ground := Ground.phase }, { on := 7, ground := Ground.textOnly Departure.lateStores }, { on := 8, ground := Ground.phase }, { on := 9, ground := Ground.phase }], guard := none }) rfl (fun K hKq => ?_) AllReadyH.nil
              obtain ⟨X, hX⟩ : ∃ X, y = X := ⟨_, rfl⟩
              have g1 : X.heap[(W1.heap.size + 1)]? = some (.cells #[.pointer none] 24) := by subst hX; exact X2
              have g2 : X.heap[W1.heap.size]? = some (.cells #[.pointer none] 24) := by subst hX; exact X1
              have kyx : Kp y X := by subst hX; exact Kp.refl y
              have hy := KY.size
              have hx1 := bl_lt X1
              have h1 : W1.heap.size ≤ (W1.heap.size + 1) := by omega
              have h2 : W1.heap.size ≤ W1.heap.size := by omega
              have n12 : (W1.heap.size + 1) ≠ W1.heap.size := by omega
              have n21 : W1.heap.size ≠ (W1.heap.size + 1) := by omega
              rw [hX] at hH ⊢
              have oX := oa.kp kyx
              have obX := ob.kp kyx
              have KX : Kp W1 X := KY.trans kyx
              have e1 := bl_cell g1 0 (.pointer none) rfl
              have e2 := bl_cell g2 0 (.pointer none) rfl
              have f1 := bl_frozen g1 0
              have f2 := bl_frozen g2 0
              have FIN : Hid (_ ∧ _ ∧ _ ∧ _ ∧ _) := fin2 KX g1 g2 h1 h2 n12 oX obX
              clear hX kyx hy oa ob KY oX obX g1 g2 hx1 X1 X2
              go_simp
              refine hKq.out _ _ (MK.out _ (KX.setCell h1 _)) (fun hN => ?_)
              clear hKq K hH KQ
              have hH := hN
              clear hN
              have KQ := hH.2.out
              try simp only [Act.put, List.setIfInBounds_toArray, List.set_cons_zero, List.set_cons_succ]
              refine wpAnyH_ready (rs := [11]) (by kernel_rfl) (by simp) ?_
              refine AllReadyH.cons (o := { dst := none, op := Op.store 24 (Operand.tmp 12) (Operand.tmp 48), type := 0, pos := "law.go:144", after := #[{ on := 9, ground := Ground.data }, { on := 7, ground := Ground.data }, { on := 10, ground := Ground.chain }, { on := 0, ground := Ground.phase }, { on := 1, ground := Ground.phase }, { on := 2, ground := Ground.phase }, { on := 3, ground := Ground.phase }, { on := 4, ground := Ground.phase }, { on := 5, ground := Ground.phase }, { on := 6, ground := Ground.phase }, { on := 7, ground := Ground.phase }, { on := 8, ground := Ground.phase }, { on := 9, ground := Ground.phase }, { on := 10, ground := Ground.phase }], guard := none }) rfl (fun K hKq => ?_) AllReadyH.nil
              go_simp
              refine hKq.out _ _ (MK.out _ ((KX.setCell h1 _).setCell h2 _)) (fun hN => ?_)
              clear hKq K hH KQ
              have hH := hN
              clear hN
              have KQ := hH.2.out
              try simp only [Act.put, List.setIfInBounds_toArray, List.set_cons_zero, List.set_cons_succ]
              refine wpAnyH_done (by kernel_rfl) ?_ _
              refine NoPanic.normal ?_
              go_wp2_with fail
              go_meet
              case rel => exact ⟨_, _, a, b, rfl, rfl, FIN.out⟩
            exact AllReadyH.nil
          refine AllReadyH.cons (o := { dst := some 11, op := Op.alloc 24, type := 0, pos := "law.go:144", after := #[], guard := none }) rfl (fun K hKq => ?_) ?_
          ·
            go_simp
            refine hKq.out _ _ (MK.out _ (by first | exact KQ.alloc _ | exact (Kp.alloc (Kp.refl _) _).drew | exact (Kp.alloc (Kp.alloc (Kp.refl _) _) _).drew)) (fun hN => ?_)
            clear hKq K hH KQ
            have hH := hN
            clear hN
            have KQ := hH.2.out
            try simp only [Act.put, List.setIfInBounds_toArray, List.set_cons_zero, List.set_cons_succ]
            refine wpAnyH_ready (rs := [3]) (by kernel_rfl) (by simp) ?_
            refine AllReadyH.cons (o := { dst := some 45, op := Op.call { callee := Callee.value (Operand.func 15), args := #[Operand.tmp 43, Operand.const (Value.int IntKind.i64 0), Operand.tmp 44], argTypes := #[3, 3, 3] }, type := 3, pos := "law.go:144", after := #[{ on := 1, ground := Ground.data }, { on := 2, ground := Ground.data }], guard := none }) rfl (fun K hKq => ?_) AllReadyH.nil
            go_simp
            refine (within_any i 0 (k : Int) _ (by omega) (by omega) (by omega)).mono ?_
            rintro e yy ⟨rfl, rfl⟩
            rw [HP1.out]
            refine hKq.out _ _ (MK.out _ KQ) (fun hN => ?_)
            clear hKq K hH KQ
            have hH := hN
            clear hN
            have KQ := hH.2.out
            try simp only [Act.put, List.setIfInBounds_toArray, List.set_cons_zero, List.set_cons_succ]
            refine wpAnyH_ready (rs := [4]) (by kernel_rfl) (by simp) ?_
            refine AllReadyH.cons (o := { dst := some 46, op := Op.call { callee := Callee.value (Operand.func 10), args := #[Operand.tmp 42, Operand.tmp 45], argTypes := #[24, 3] }, type := 30, pos := "law.go:144", after := #[{ on := 0, ground := Ground.data }, { on := 3, ground := Ground.data }, { on := 3, ground := Ground.chain }], guard := none }) rfl (fun K hKq => ?_) AllReadyH.nil
            go_simp
            refine (split_ok r xs (p1 : Int) _ (Ok.kp F1.out.1 KQ) (by have := LX.out.1; omega) LX.out.2).mono ?_
            rintro e y ⟨a, b, rfl, oa, ob, kq⟩
            rw [Int.toNat_natCast] at oa ob
            have X1 := bl_kp (show (((W1.alloc (.cells #[.pointer none] 24)).alloc (.cells #[.pointer none] 24)).drew).heap[W1.heap.size]? = _ from bl_alloc (last_of _ _) _) kq
            have X2 := bl_kp (show (((W1.alloc (.cells #[.pointer none] 24)).alloc (.cells #[.pointer none] 24)).drew).heap[W1.heap.size + 1]? = _ from last_at _ _ _ (by simp)) kq
            have KY : Kp W1 y := KQ.trans kq
            refine hKq.out _ _ (MK.out _ KY) (fun hN => ?_)
            clear kq
            clear hKq K hH KQ
            have hH := hN
            clear hN
            have KQ := hH.2.out
            try simp only [Act.put, List.setIfInBounds_toArray, List.set_cons_zero, List.set_cons_succ]
            refine wpAnyH_take (i := 5) (oi := { dst := some 41, op := Op.move (Operand.tmp 46), type := 30, pos := "law.go:144", after := #[{ on := 4, ground := Ground.data }], guard := none }) (v := ?v5s34) rfl (by kernel_rfl) (by kernel_rfl) (by kernel_rfl) (fun _ _ _ h => h) (Or.inl ⟨by rfl, ?hy5s34⟩) hH ?r5s34
            case hy5s34 => (intro W hSw; (try dsimp only at hSw); go_simp; try (with_reducible rfl))
            try simp only [Act.put, List.setIfInBounds_toArray, List.set_cons_zero, List.set_cons_succ]
            refine wpAnyH_take (i := 6) (oi := { dst := some 47, op := Op.extract (Operand.tmp 41) 0, type := 24, pos := "law.go:144", after := #[{ on := 5, ground := Ground.data }], guard := none }) (v := ?v6s35) rfl (by kernel_rfl) (by kernel_rfl) (by kernel_rfl) (fun _ _ _ h => h) (Or.inl ⟨by rfl, ?hy6s35⟩) hH ?r6s35
            case hy6s35 => (intro W hSw; (try dsimp only at hSw); go_simp; try (with_reducible rfl))
            try simp only [Act.put, List.setIfInBounds_toArray, List.set_cons_zero, List.set_cons_succ]
            refine wpAnyH_take (i := 7) (oi := { dst := some 48, op := Op.extract (Operand.tmp 41) 1, type := 24, pos := "law.go:144", after := #[{ on := 5, ground := Ground.data }, { on := 10, ground := Ground.gcOnly Departure.lateStores }], guard := none }) (v := ?v7s36) rfl (by kernel_rfl) (by kernel_rfl) (by kernel_rfl) (fun _ _ _ h => h) (Or.inl ⟨by rfl, ?hy7s36⟩) hH ?r7s36
            case hy7s36 => (intro W hSw; (try dsimp only at hSw); go_simp; try (with_reducible rfl))
            try simp only [Act.put, List.setIfInBounds_toArray, List.set_cons_zero, List.set_cons_succ]
            refine wpAnyH_ready (rs := [10]) (by kernel_rfl) (by simp) ?_
            refine AllReadyH.cons (o := { dst := none, op := Op.store 24 (Operand.tmp 11) (Operand.tmp 47), type := 0, pos := "law.go:144", after := #[{ on := 8, ground := Ground.data }, { on := 6, ground := Ground.data }, { on := 4, ground := Ground.chain }, { on := 0, ground := Ground.phase }, { on := 1, ground := Ground.phase }, { on := 2, ground := Ground.phase }, { on := 3, ground := Ground.phase }, { on := 4, ground := Ground.phase }, { on := 5, ground := Ground.phase }, { on := 6, ground := Ground.phase }, { on := 7, ground := Ground.textOnly Departure.lateStores }, { on := 8, ground := Ground.phase }, { on := 9, ground := Ground.phase }], guard := none }) rfl (fun K hKq => ?_) AllReadyH.nil
            obtain ⟨X, hX⟩ : ∃ X, y = X := ⟨_, rfl⟩
            have g1 : X.heap[(W1.heap.size + 1)]? = some (.cells #[.pointer none] 24) := by subst hX; exact X2
            have g2 : X.heap[W1.heap.size]? = some (.cells #[.pointer none] 24) := by subst hX; exact X1
            have kyx : Kp y X := by subst hX; exact Kp.refl y
            have hy := KY.size
            have hx1 := bl_lt X1
            have h1 : W1.heap.size ≤ (W1.heap.size + 1) := by omega
            have h2 : W1.heap.size ≤ W1.heap.size := by omega
            have n12 : (W1.heap.size + 1) ≠ W1.heap.size := by omega
            have n21 : W1.heap.size ≠ (W1.heap.size + 1) := by omega
            rw [hX] at hH ⊢
            have oX := oa.kp kyx
            have obX := ob.kp kyx
            have KX : Kp W1 X := KY.trans kyx
            have e1 := bl_cell g1 0 (.pointer none) rfl
            have e2 := bl_cell g2 0 (.pointer none) rfl
            have f1 := bl_frozen g1 0
            have f2 := bl_frozen g2 0
            have FIN : Hid (_ ∧ _ ∧ _ ∧ _ ∧ _) := fin2 KX g1 g2 h1 h2 n12 oX obX
            clear hX kyx hy oa ob KY oX obX g1 g2 hx1 X1 X2
            go_simp
            refine hKq.out _ _ (MK.out _ (KX.setCell h1 _)) (fun hN => ?_)
            clear hKq K hH KQ
            have hH := hN
            clear hN
            have KQ := hH.2.out
            try simp only [Act.put, List.setIfInBounds_toArray, List.set_cons_zero, List.set_cons_succ]
            refine wpAnyH_ready (rs := [11]) (by kernel_rfl) (by simp) ?_
            refine AllReadyH.cons (o := { dst := none, op := Op.store 24 (Operand.tmp 12) (Operand.tmp 48), type := 0, pos := "law.go:144", after := #[{ on := 9, ground := Ground.data }, { on := 7, ground := Ground.data }, { on := 10, ground := Ground.chain }, { on := 0, ground := Ground.phase }, { on := 1, ground := Ground.phase }, { on := 2, ground := Ground.phase }, { on := 3, ground := Ground.phase }, { on := 4, ground := Ground.phase }, { on := 5, ground := Ground.phase }, { on := 6, ground := Ground.phase }, { on := 7, ground := Ground.phase }, { on := 8, ground := Ground.phase }, { on := 9, ground := Ground.phase }, { on := 10, ground := Ground.phase }], guard := none }) rfl (fun K hKq => ?_) AllReadyH.nil
            go_simp
            refine hKq.out _ _ (MK.out _ ((KX.setCell h1 _).setCell h2 _)) (fun hN => ?_)
            clear hKq K hH KQ
            have hH := hN
            clear hN
            have KQ := hH.2.out
            try simp only [Act.put, List.setIfInBounds_toArray, List.set_cons_zero, List.set_cons_succ]
            refine wpAnyH_done (by kernel_rfl) ?_ _
            refine NoPanic.normal ?_
            go_wp2_with fail
            go_meet
            case rel => exact ⟨_, _, a, b, rfl, rfl, FIN.out⟩
          exact AllReadyH.nil
        exact AllReadyH.nil
      case rest =>
        obtain ⟨S1, S2, a, b, rfl, rfl, va, vb, oa, ob, k2⟩ := hcut
        rename World => W2
        have F2 : Hid (Ok W2 r xs ∧ Vr W2 w1.heap.size r ∧ Sl W2 (.slice ad k cp) xs ∧ Kp w W2) := ⟨F1.out.1.kp k2, F1.out.2.1.kp k2, F1.out.2.2.1.kp k2, F1.out.2.2.2.trans k2⟩
        have G2 : Hid (Vr W2 S1 a ∧ Vr W2 S2 b ∧ Ok W2 a (xs.take p1) ∧ Ok W2 b (xs.drop p1)) := ⟨va, vb, oa, ob⟩
        clear va vb oa ob k2 F1 MK Q0 c1 v1
        have v2 := F2.out.2.1
        have MK : Hid (∀ W, Kp W2 W → W.cell? ⟨w1.heap.size, 0, none⟩ = some (.pointer (pO r)) ∧ Hid (Kp W2 W)) := fun W k => ⟨(v2.kp k).cell, k⟩
        clear v2
        go_wp2_with fail
        have Q0 : Kp W2 W2.drew := (Kp.refl _).drew
        go_cut [13, 14] (fun p q wc => ∃ S3 S4 c d, p = .pointer (some ⟨S3, 0, none⟩) ∧ q = .pointer (some ⟨S4, 0, none⟩) ∧ Vr wc S3 c ∧ Vr wc S4 d ∧ Ok wc c (xs.take p2) ∧ Ok wc d (xs.drop p2) ∧ Kp W2 wc)
        case first =>
          refine wp_region_noPanic ?_
          refine wp_region_held_drew (S := (fun W => W.cell? ⟨w1.heap.size, 0, none⟩ = some (.pointer (pO r)) ∧ Hid (Kp W2 W))) (by kernel_rfl) ?_ (fun hH => ?_)
          · exact MK.out _ Q0
          have KQ := Q0
          refine wpAnyH_take (i := 0) (oi := { dst := some 50, op := Op.load 24 (Operand.tmp 10), type := 24, pos := "law.go:145", after := #[], guard := none }) (v := ?v0u1) rfl (by kernel_rfl) (by kernel_rfl) (by kernel_rfl) (fun _ _ _ h => h) (Or.inl ⟨by rfl, ?hy0u1⟩) hH ?r0u1
          case hy0u1 => (intro W hSw; (try dsimp only at hSw); go_simp; try (with_reducible rfl))
          try simp only [Act.put, List.setIfInBounds_toArray, List.set_cons_zero, List.set_cons_succ]
          refine wpAnyH_take (i := 1) (oi := { dst := some 51, op := Op.move (Operand.tmp 2), type := 3, pos := "law.go:145", after := #[], guard := none }) (v := ?v1u2) rfl (by kernel_rfl) (by kernel_rfl) (by kernel_rfl) (fun _ _ _ h => h) (Or.inl ⟨by rfl, ?hy1u2⟩) hH ?r1u2
          case hy1u2 => (intro W hSw; (try dsimp only at hSw); go_simp; try (with_reducible rfl))
          try simp only [Act.put, List.setIfInBounds_toArray, List.set_cons_zero, List.set_cons_succ]
          refine wpAnyH_take (i := 2) (oi := { dst := some 52, op := Op.move (Operand.tmp 7), type := 3, pos := "law.go:145", after := #[], guard := none }) (v := ?v2u3) rfl (by kernel_rfl) (by kernel_rfl) (by kernel_rfl) (fun _ _ _ h => h) (Or.inl ⟨by rfl, ?hy2u3⟩) hH ?r2u3
          case hy2u3 => (intro W hSw; (try dsimp only at hSw); go_simp; try (with_reducible rfl))
          try simp only [Act.put, List.setIfInBounds_toArray, List.set_cons_zero, List.set_cons_succ]
          refine wpAnyH_ready (rs := [3, 8, 9]) (by kernel_rfl) (by simp) ?_
          refine AllReadyH.cons (o := { dst := some 53, op := Op.call { callee := Callee.value (Operand.func 15), args := #[Operand.tmp 51, Operand.const (Value.int IntKind.i64 0), Operand.tmp 52], argTypes := #[3, 3, 3] }, type := 3, pos := "law.go:145", after := #[{ on := 1, ground := Ground.data }, { on := 2, ground := Ground.data }], guard := none }) rfl (fun K hKq => ?_) ?_
          ·
            go_simp
            refine (within_any j 0 (k : Int) _ (by omega) (by omega) (by omega)).mono ?_
            rintro e yy ⟨rfl, rfl⟩
            rw [HP2.out]
            refine hKq.out _ _ (MK.out _ KQ) (fun hN => ?_)
            clear hKq K hH KQ
            have hH := hN
            clear hN
            have KQ := hH.2.out
            try simp only [Act.put, List.setIfInBounds_toArray, List.set_cons_zero, List.set_cons_succ]
            refine wpAnyH_ready (rs := [4, 8, 9]) (by kernel_rfl) (by simp) ?_
            refine AllReadyH.cons (o := { dst := some 54, op := Op.call { callee := Callee.value (Operand.func 10), args := #[Operand.tmp 50, Operand.tmp 53], argTypes := #[24, 3] }, type := 30, pos := "law.go:145", after := #[{ on := 0, ground := Ground.data }, { on := 3, ground := Ground.data }, { on := 3, ground := Ground.chain }], guard := none }) rfl (fun K hKq => ?_) ?_
            ·
              go_simp
              refine (split_ok r xs (p2 : Int) _ (Ok.kp F2.out.1 KQ) (by have := LX.out.1; omega) LX.out.2).mono ?_
              rintro e y ⟨c, d, rfl, oa, ob, kq⟩
              rw [Int.toNat_natCast] at oa ob
              have KY : Kp W2 y := KQ.trans kq
              refine hKq.out _ _ (MK.out _ KY) (fun hN => ?_)
              clear kq
              clear hKq K hH KQ
              have hH := hN
              clear hN
              have KQ := hH.2.out
              try simp only [Act.put, List.setIfInBounds_toArray, List.set_cons_zero, List.set_cons_succ]
              refine wpAnyH_take (i := 5) (oi := { dst := some 49, op := Op.move (Operand.tmp 54), type := 30, pos := "law.go:145", after := #[{ on := 4, ground := Ground.data }], guard := none }) (v := ?v5u4) rfl (by kernel_rfl) (by kernel_rfl) (by kernel_rfl) (fun _ _ _ h => h) (Or.inl ⟨by rfl, ?hy5u4⟩) hH ?r5u4
              case hy5u4 => (intro W hSw; (try dsimp only at hSw); go_simp; try (with_reducible rfl))
              try simp only [Act.put, List.setIfInBounds_toArray, List.set_cons_zero, List.set_cons_succ]
              refine wpAnyH_take (i := 6) (oi := { dst := some 55, op := Op.extract (Operand.tmp 49) 0, type := 24, pos := "law.go:145", after := #[{ on := 5, ground := Ground.data }], guard := none }) (v := ?v6u5) rfl (by kernel_rfl) (by kernel_rfl) (by kernel_rfl) (fun _ _ _ h => h) (Or.inl ⟨by rfl, ?hy6u5⟩) hH ?r6u5
              case hy6u5 => (intro W hSw; (try dsimp only at hSw); go_simp; try (with_reducible rfl))
              try simp only [Act.put, List.setIfInBounds_toArray, List.set_cons_zero, List.set_cons_succ]
              refine wpAnyH_take (i := 7) (oi := { dst := some 56, op := Op.extract (Operand.tmp 49) 1, type := 24, pos := "law.go:145", after := #[{ on := 5, ground := Ground.data }, { on := 10, ground := Ground.gcOnly Departure.lateStores }], guard := none }) (v := ?v7u6) rfl (by kernel_rfl) (by kernel_rfl) (by kernel_rfl) (fun _ _ _ h => h) (Or.inl ⟨by rfl, ?hy7u6⟩) hH ?r7u6
              case hy7u6 => (intro W hSw; (try dsimp only at hSw); go_simp; try (with_reducible rfl))
              try simp only [Act.put, List.setIfInBounds_toArray, List.set_cons_zero, List.set_cons_succ]
              refine wpAnyH_ready (rs := [8, 9]) (by kernel_rfl) (by simp) ?_
              refine AllReadyH.cons (o := { dst := some 13, op := Op.alloc 24, type := 0, pos := "law.go:145", after := #[], guard := none }) rfl (fun K hKq => ?_) ?_
              ·
                go_simp
                refine hKq.out _ _ (MK.out _ (by first | exact KQ.alloc _ | exact (Kp.alloc (Kp.refl _) _).drew | exact (Kp.alloc (Kp.alloc (Kp.refl _) _) _).drew)) (fun hN => ?_)
                clear hKq K hH KQ
                have hH := hN
                clear hN
                have KQ := hH.2.out
                try simp only [Act.put, List.setIfInBounds_toArray, List.set_cons_zero, List.set_cons_succ]
                refine wpAnyH_ready (rs := [9]) (by kernel_rfl) (by simp) ?_
                refine AllReadyH.cons (o := { dst := some 14, op := Op.alloc 24, type := 0, pos := "law.go:145", after := #[], guard := none }) rfl (fun K hKq => ?_) AllReadyH.nil
                go_simp
                refine hKq.out _ _ (MK.out _ (by first | exact KQ.alloc _ | exact (Kp.alloc (Kp.refl _) _).drew | exact (Kp.alloc (Kp.alloc (Kp.refl _) _) _).drew)) (fun hN => ?_)
                clear hKq K hH KQ
                have hH := hN
                clear hN
                have KQ := hH.2.out
                try simp only [Act.put, List.setIfInBounds_toArray, List.set_cons_zero, List.set_cons_succ]
                refine wpAnyH_ready (rs := [10]) (by kernel_rfl) (by simp) ?_
                refine AllReadyH.cons (o := { dst := none, op := Op.store 24 (Operand.tmp 13) (Operand.tmp 55), type := 0, pos := "law.go:145", after := #[{ on := 8, ground := Ground.data }, { on := 6, ground := Ground.data }, { on := 4, ground := Ground.chain }, { on := 0, ground := Ground.phase }, { on := 1, ground := Ground.phase }, { on := 2, ground := Ground.phase }, { on := 3, ground := Ground.phase }, { on := 4, ground := Ground.phase }, { on := 5, ground := Ground.phase }, { on := 6, ground := Ground.phase }, { on := 7, ground := Ground.textOnly Departure.lateStores }, { on := 8, ground := Ground.phase }, { on := 9, ground := Ground.phase }], guard := none }) rfl (fun K hKq => ?_) AllReadyH.nil
                obtain ⟨X, hX⟩ : ∃ X, (y.alloc (.cells #[.pointer none] 24)).alloc (.cells #[.pointer none] 24) = X := ⟨_, rfl⟩
                have g1 : X.heap[y.heap.size]? = some (.cells #[.pointer none] 24) := by subst hX; exact bl_alloc (last_of _ _) _
                have g2 : X.heap[(y.heap.size + 1)]? = some (.cells #[.pointer none] 24) := by subst hX; exact last_at _ _ _ (by simp)
                have kyx : Kp y X := by subst hX; exact ((Kp.refl y).alloc _).alloc _
                have hy := KY.size
                have h1 : W2.heap.size ≤ y.heap.size := by omega
                have h2 : W2.heap.size ≤ (y.heap.size + 1) := by omega
                have n12 : y.heap.size ≠ (y.heap.size + 1) := by omega
                have n21 : (y.heap.size + 1) ≠ y.heap.size := by omega
                rw [hX] at hH ⊢
                have oX := oa.kp kyx
                have obX := ob.kp kyx
                have KX : Kp W2 X := KY.trans kyx
                have e1 := bl_cell g1 0 (.pointer none) rfl
                have e2 := bl_cell g2 0 (.pointer none) rfl
                have f1 := bl_frozen g1 0
                have f2 := bl_frozen g2 0
                have FIN : Hid (_ ∧ _ ∧ _ ∧ _ ∧ _) := fin2 KX g1 g2 h1 h2 n12 oX obX
                clear hX kyx hy oa ob KY oX obX g1 g2
                go_simp
                refine hKq.out _ _ (MK.out _ (KX.setCell h1 _)) (fun hN => ?_)
                clear hKq K hH KQ
                have hH := hN
                clear hN
                have KQ := hH.2.out
                try simp only [Act.put, List.setIfInBounds_toArray, List.set_cons_zero, List.set_cons_succ]
                refine wpAnyH_ready (rs := [11]) (by kernel_rfl) (by simp) ?_
                refine AllReadyH.cons (o := { dst := none, op := Op.store 24 (Operand.tmp 14) (Operand.tmp 56), type := 0, pos := "law.go:145", after := #[{ on := 9, ground := Ground.data }, { on := 7, ground := Ground.data }, { on := 10, ground := Ground.chain }, { on := 0, ground := Ground.phase }, { on := 1, ground := Ground.phase }, { on := 2, ground := Ground.phase }, { on := 3, ground := Ground.phase }, { on := 4, ground := Ground.phase }, { on := 5, ground := Ground.phase }, { on := 6, ground := Ground.phase }, { on := 7, ground := Ground.phase }, { on := 8, ground := Ground.phase }, { on := 9, ground := Ground.phase }, { on := 10, ground := Ground.phase }], guard := none }) rfl (fun K hKq => ?_) AllReadyH.nil
                go_simp
                refine hKq.out _ _ (MK.out _ ((KX.setCell h1 _).setCell h2 _)) (fun hN => ?_)
                clear hKq K hH KQ
                have hH := hN
                clear hN
                have KQ := hH.2.out
                try simp only [Act.put, List.setIfInBounds_toArray, List.set_cons_zero, List.set_cons_succ]
                refine wpAnyH_done (by kernel_rfl) ?_ _
                refine NoPanic.normal ?_
                go_wp2_with fail
                go_meet
                case rel => exact ⟨_, _, c, d, rfl, rfl, FIN.out⟩
              refine AllReadyH.cons (o := { dst := some 14, op := Op.alloc 24, type := 0, pos := "law.go:145", after := #[], guard := none }) rfl (fun K hKq => ?_) ?_
              ·
                go_simp
                refine hKq.out _ _ (MK.out _ (by first | exact KQ.alloc _ | exact (Kp.alloc (Kp.refl _) _).drew | exact (Kp.alloc (Kp.alloc (Kp.refl _) _) _).drew)) (fun hN => ?_)
                clear hKq K hH KQ
                have hH := hN
                clear hN
                have KQ := hH.2.out
                try simp only [Act.put, List.setIfInBounds_toArray, List.set_cons_zero, List.set_cons_succ]
                refine wpAnyH_ready (rs := [8]) (by kernel_rfl) (by simp) ?_
                refine AllReadyH.cons (o := { dst := some 13, op := Op.alloc 24, type := 0, pos := "law.go:145", after := #[], guard := none }) rfl (fun K hKq => ?_) AllReadyH.nil
                go_simp
                refine hKq.out _ _ (MK.out _ (by first | exact KQ.alloc _ | exact (Kp.alloc (Kp.refl _) _).drew | exact (Kp.alloc (Kp.alloc (Kp.refl _) _) _).drew)) (fun hN => ?_)
                clear hKq K hH KQ
                have hH := hN
                clear hN
                have KQ := hH.2.out
                try simp only [Act.put, List.setIfInBounds_toArray, List.set_cons_zero, List.set_cons_succ]
                refine wpAnyH_ready (rs := [10]) (by kernel_rfl) (by simp) ?_
                refine AllReadyH.cons (o := { dst := none, op := Op.store 24 (Operand.tmp 13) (Operand.tmp 55), type := 0, pos := "law.go:145", after := #[{ on := 8, ground := Ground.data }, { on := 6, ground := Ground.data }, { on := 4, ground := Ground.chain }, { on := 0, ground := Ground.phase }, { on := 1, ground := Ground.phase }, { on := 2, ground := Ground.phase }, { on := 3, ground := Ground.phase }, { on := 4, ground := Ground.phase }, { on := 5, ground := Ground.phase }, { on := 6, ground := Ground.phase }, { on := 7, ground := Ground.textOnly Departure.lateStores }, { on := 8, ground := Ground.phase }, { on := 9, ground := Ground.phase }], guard := none }) rfl (fun K hKq => ?_) AllReadyH.nil
                obtain ⟨X, hX⟩ : ∃ X, (y.alloc (.cells #[.pointer none] 24)).alloc (.cells #[.pointer none] 24) = X := ⟨_, rfl⟩
                have g1 : X.heap[(y.heap.size + 1)]? = some (.cells #[.pointer none] 24) := by subst hX; exact last_at _ _ _ (by simp)
                have g2 : X.heap[y.heap.size]? = some (.cells #[.pointer none] 24) := by subst hX; exact bl_alloc (last_of _ _) _
                have kyx : Kp y X := by subst hX; exact ((Kp.refl y).alloc _).alloc _
                have hy := KY.size
                have h1 : W2.heap.size ≤ (y.heap.size + 1) := by omega
                have h2 : W2.heap.size ≤ y.heap.size := by omega
                have n12 : (y.heap.size + 1) ≠ y.heap.size := by omega
                have n21 : y.heap.size ≠ (y.heap.size + 1) := by omega
                rw [hX] at hH ⊢
                have oX := oa.kp kyx
                have obX := ob.kp kyx
                have KX : Kp W2 X := KY.trans kyx
                have e1 := bl_cell g1 0 (.pointer none) rfl
                have e2 := bl_cell g2 0 (.pointer none) rfl
                have f1 := bl_frozen g1 0
                have f2 := bl_frozen g2 0
                have FIN : Hid (_ ∧ _ ∧ _ ∧ _ ∧ _) := fin2 KX g1 g2 h1 h2 n12 oX obX
                clear hX kyx hy oa ob KY oX obX g1 g2
                go_simp
                refine hKq.out _ _ (MK.out _ (KX.setCell h1 _)) (fun hN => ?_)
                clear hKq K hH KQ
                have hH := hN
                clear hN
                have KQ := hH.2.out
                try simp only [Act.put, List.setIfInBounds_toArray, List.set_cons_zero, List.set_cons_succ]
                refine wpAnyH_ready (rs := [11]) (by kernel_rfl) (by simp) ?_
                refine AllReadyH.cons (o := { dst := none, op := Op.store 24 (Operand.tmp 14) (Operand.tmp 56), type := 0, pos := "law.go:145", after := #[{ on := 9, ground := Ground.data }, { on := 7, ground := Ground.data }, { on := 10, ground := Ground.chain }, { on := 0, ground := Ground.phase }, { on := 1, ground := Ground.phase }, { on := 2, ground := Ground.phase }, { on := 3, ground := Ground.phase }, { on := 4, ground := Ground.phase }, { on := 5, ground := Ground.phase }, { on := 6, ground := Ground.phase }, { on := 7, ground := Ground.phase }, { on := 8, ground := Ground.phase }, { on := 9, ground := Ground.phase }, { on := 10, ground := Ground.phase }], guard := none }) rfl (fun K hKq => ?_) AllReadyH.nil
                go_simp
                refine hKq.out _ _ (MK.out _ ((KX.setCell h1 _).setCell h2 _)) (fun hN => ?_)
                clear hKq K hH KQ
                have hH := hN
                clear hN
                have KQ := hH.2.out
                try simp only [Act.put, List.setIfInBounds_toArray, List.set_cons_zero, List.set_cons_succ]
                refine wpAnyH_done (by kernel_rfl) ?_ _
                refine NoPanic.normal ?_
                go_wp2_with fail
                go_meet
                case rel => exact ⟨_, _, c, d, rfl, rfl, FIN.out⟩
              exact AllReadyH.nil
            refine AllReadyH.cons (o := { dst := some 13, op := Op.alloc 24, type := 0, pos := "law.go:145", after := #[], guard := none }) rfl (fun K hKq => ?_) ?_
            ·
              go_simp
              refine hKq.out _ _ (MK.out _ (by first | exact KQ.alloc _ | exact (Kp.alloc (Kp.refl _) _).drew | exact (Kp.alloc (Kp.alloc (Kp.refl _) _) _).drew)) (fun hN => ?_)
              clear hKq K hH KQ
              have hH := hN
              clear hN
              have KQ := hH.2.out
              try simp only [Act.put, List.setIfInBounds_toArray, List.set_cons_zero, List.set_cons_succ]
              refine wpAnyH_ready (rs := [4, 9]) (by kernel_rfl) (by simp) ?_
              refine AllReadyH.cons (o := { dst := some 54, op := Op.call { callee := Callee.value (Operand.func 10), args := #[Operand.tmp 50, Operand.tmp 53], argTypes := #[24, 3] }, type := 30, pos := "law.go:145", after := #[{ on := 0, ground := Ground.data }, { on := 3, ground := Ground.data }, { on := 3, ground := Ground.chain }], guard := none }) rfl (fun K hKq => ?_) ?_
              ·
                go_simp
                refine (split_ok r xs (p2 : Int) _ (Ok.kp F2.out.1 KQ) (by have := LX.out.1; omega) LX.out.2).mono ?_
                rintro e y ⟨c, d, rfl, oa, ob, kq⟩
                rw [Int.toNat_natCast] at oa ob
                have X1 := bl_kp (last_drew W2 _) kq
                have KY : Kp W2 y := KQ.trans kq
                refine hKq.out _ _ (MK.out _ KY) (fun hN => ?_)
                clear kq
                clear hKq K hH KQ
                have hH := hN
                clear hN
                have KQ := hH.2.out
                try simp only [Act.put, List.setIfInBounds_toArray, List.set_cons_zero, List.set_cons_succ]
                refine wpAnyH_take (i := 5) (oi := { dst := some 49, op := Op.move (Operand.tmp 54), type := 30, pos := "law.go:145", after := #[{ on := 4, ground := Ground.data }], guard := none }) (v := ?v5u7) rfl (by kernel_rfl) (by kernel_rfl) (by kernel_rfl) (fun _ _ _ h => h) (Or.inl ⟨by rfl, ?hy5u7⟩) hH ?r5u7
                case hy5u7 => (intro W hSw; (try dsimp only at hSw); go_simp; try (with_reducible rfl))
                try simp only [Act.put, List.setIfInBounds_toArray, List.set_cons_zero, List.set_cons_succ]
                refine wpAnyH_take (i := 6) (oi := { dst := some 55, op := Op.extract (Operand.tmp 49) 0, type := 24, pos := "law.go:145", after := #[{ on := 5, ground := Ground.data }], guard := none }) (v := ?v6u8) rfl (by kernel_rfl) (by kernel_rfl) (by kernel_rfl) (fun _ _ _ h => h) (Or.inl ⟨by rfl, ?hy6u8⟩) hH ?r6u8
                case hy6u8 => (intro W hSw; (try dsimp only at hSw); go_simp; try (with_reducible rfl))
                try simp only [Act.put, List.setIfInBounds_toArray, List.set_cons_zero, List.set_cons_succ]
                refine wpAnyH_take (i := 7) (oi := { dst := some 56, op := Op.extract (Operand.tmp 49) 1, type := 24, pos := "law.go:145", after := #[{ on := 5, ground := Ground.data }, { on := 10, ground := Ground.gcOnly Departure.lateStores }], guard := none }) (v := ?v7u9) rfl (by kernel_rfl) (by kernel_rfl) (by kernel_rfl) (fun _ _ _ h => h) (Or.inl ⟨by rfl, ?hy7u9⟩) hH ?r7u9
                case hy7u9 => (intro W hSw; (try dsimp only at hSw); go_simp; try (with_reducible rfl))
                try simp only [Act.put, List.setIfInBounds_toArray, List.set_cons_zero, List.set_cons_succ]
                refine wpAnyH_ready (rs := [9]) (by kernel_rfl) (by simp) ?_
                refine AllReadyH.cons (o := { dst := some 14, op := Op.alloc 24, type := 0, pos := "law.go:145", after := #[], guard := none }) rfl (fun K hKq => ?_) AllReadyH.nil
                go_simp
                refine hKq.out _ _ (MK.out _ (by first | exact KQ.alloc _ | exact (Kp.alloc (Kp.refl _) _).drew | exact (Kp.alloc (Kp.alloc (Kp.refl _) _) _).drew)) (fun hN => ?_)
                clear hKq K hH KQ
                have hH := hN
                clear hN
                have KQ := hH.2.out
                try simp only [Act.put, List.setIfInBounds_toArray, List.set_cons_zero, List.set_cons_succ]
                refine wpAnyH_ready (rs := [10]) (by kernel_rfl) (by simp) ?_
                refine AllReadyH.cons (o := { dst := none, op := Op.store 24 (Operand.tmp 13) (Operand.tmp 55), type := 0, pos := "law.go:145", after := #[{ on := 8, ground := Ground.data }, { on := 6, ground := Ground.data }, { on := 4, ground := Ground.chain }, { on := 0, ground := Ground.phase }, { on := 1, ground := Ground.phase }, { on := 2, ground := Ground.phase }, { on := 3, ground := Ground.phase }, { on := 4, ground := Ground.phase }, { on := 5, ground := Ground.phase }, { on := 6, ground := Ground.phase }, { on := 7, ground := Ground.textOnly Departure.lateStores }, { on := 8, ground := Ground.phase }, { on := 9, ground := Ground.phase }], guard := none }) rfl (fun K hKq => ?_) AllReadyH.nil
                obtain ⟨X, hX⟩ : ∃ X, y.alloc (.cells #[.pointer none] 24) = X := ⟨_, rfl⟩
                have g1 : X.heap[W2.heap.size]? = some (.cells #[.pointer none] 24) := by subst hX; exact (bl_alloc X1 _)
                have g2 : X.heap[y.heap.size]? = some (.cells #[.pointer none] 24) := by subst hX; exact last_of _ _
                have kyx : Kp y X := by subst hX; exact (Kp.refl y).alloc _
                have hy := KY.size
                have hx1 := bl_lt X1
                have h1 : W2.heap.size ≤ W2.heap.size := by omega
                have h2 : W2.heap.size ≤ y.heap.size := by omega
                have n12 : W2.heap.size ≠ y.heap.size := by omega
                have n21 : y.heap.size ≠ W2.heap.size := by omega
                rw [hX] at hH ⊢
                have oX := oa.kp kyx
                have obX := ob.kp kyx
                have KX : Kp W2 X := KY.trans kyx
                have e1 := bl_cell g1 0 (.pointer none) rfl
                have e2 := bl_cell g2 0 (.pointer none) rfl
                have f1 := bl_frozen g1 0
                have f2 := bl_frozen g2 0
                have FIN : Hid (_ ∧ _ ∧ _ ∧ _ ∧ _) := fin2 KX g1 g2 h1 h2 n12 oX obX
                clear hX kyx hy oa ob KY oX obX g1 g2 hx1 X1
                go_simp
                refine hKq.out _ _ (MK.out _ (KX.setCell h1 _)) (fun hN => ?_)
                clear hKq K hH KQ
                have hH := hN
                clear hN
                have KQ := hH.2.out
                try simp only [Act.put, List.setIfInBounds_toArray, List.set_cons_zero, List.set_cons_succ]
                refine wpAnyH_ready (rs := [11]) (by kernel_rfl) (by simp) ?_
                refine AllReadyH.cons (o := { dst := none, op := Op.store 24 (Operand.tmp 14) (Operand.tmp 56), type := 0, pos := "law.go:145", after := #[{ on := 9, ground := Ground.data }, { on := 7, ground := Ground.data }, { on := 10, ground := Ground.chain }, { on := 0, ground := Ground.phase }, { on := 1, ground := Ground.phase }, { on := 2, ground := Ground.phase }, { on := 3, ground := Ground.phase }, { on := 4, ground := Ground.phase }, { on := 5, ground := Ground.phase }, { on := 6, ground := Ground.phase }, { on := 7, ground := Ground.phase }, { on := 8, ground := Ground.phase }, { on := 9, ground := Ground.phase }, { on := 10, ground := Ground.phase }], guard := none }) rfl (fun K hKq => ?_) AllReadyH.nil
                go_simp
                refine hKq.out _ _ (MK.out _ ((KX.setCell h1 _).setCell h2 _)) (fun hN => ?_)
                clear hKq K hH KQ
                have hH := hN
                clear hN
                have KQ := hH.2.out
                try simp only [Act.put, List.setIfInBounds_toArray, List.set_cons_zero, List.set_cons_succ]
                refine wpAnyH_done (by kernel_rfl) ?_ _
                refine NoPanic.normal ?_
                go_wp2_with fail
                go_meet
                case rel => exact ⟨_, _, c, d, rfl, rfl, FIN.out⟩
              refine AllReadyH.cons (o := { dst := some 14, op := Op.alloc 24, type := 0, pos := "law.go:145", after := #[], guard := none }) rfl (fun K hKq => ?_) ?_
              ·
                go_simp
                refine hKq.out _ _ (MK.out _ (by first | exact KQ.alloc _ | exact (Kp.alloc (Kp.refl _) _).drew | exact (Kp.alloc (Kp.alloc (Kp.refl _) _) _).drew)) (fun hN => ?_)
                clear hKq K hH KQ
                have hH := hN
                clear hN
                have KQ := hH.2.out
                try simp only [Act.put, List.setIfInBounds_toArray, List.set_cons_zero, List.set_cons_succ]
                refine wpAnyH_ready (rs := [4]) (by kernel_rfl) (by simp) ?_
                refine AllReadyH.cons (o := { dst := some 54, op := Op.call { callee := Callee.value (Operand.func 10), args := #[Operand.tmp 50, Operand.tmp 53], argTypes := #[24, 3] }, type := 30, pos := "law.go:145", after := #[{ on := 0, ground := Ground.data }, { on := 3, ground := Ground.data }, { on := 3, ground := Ground.chain }], guard := none }) rfl (fun K hKq => ?_) AllReadyH.nil
                go_simp
                refine (split_ok r xs (p2 : Int) _ (Ok.kp F2.out.1 KQ) (by have := LX.out.1; omega) LX.out.2).mono ?_
                rintro e y ⟨c, d, rfl, oa, ob, kq⟩
                rw [Int.toNat_natCast] at oa ob
                have X1 := bl_kp (show (((W2.alloc (.cells #[.pointer none] 24)).alloc (.cells #[.pointer none] 24)).drew).heap[W2.heap.size]? = _ from bl_alloc (last_of _ _) _) kq
                have X2 := bl_kp (show (((W2.alloc (.cells #[.pointer none] 24)).alloc (.cells #[.pointer none] 24)).drew).heap[W2.heap.size + 1]? = _ from last_at _ _ _ (by simp)) kq
                have KY : Kp W2 y := KQ.trans kq
                refine hKq.out _ _ (MK.out _ KY) (fun hN => ?_)
                clear kq
                clear hKq K hH KQ
                have hH := hN
                clear hN
                have KQ := hH.2.out
                try simp only [Act.put, List.setIfInBounds_toArray, List.set_cons_zero, List.set_cons_succ]
                refine wpAnyH_take (i := 5) (oi := { dst := some 49, op := Op.move (Operand.tmp 54), type := 30, pos := "law.go:145", after := #[{ on := 4, ground := Ground.data }], guard := none }) (v := ?v5u10) rfl (by kernel_rfl) (by kernel_rfl) (by kernel_rfl) (fun _ _ _ h => h) (Or.inl ⟨by rfl, ?hy5u10⟩) hH ?r5u10
                case hy5u10 => (intro W hSw; (try dsimp only at hSw); go_simp; try (with_reducible rfl))
                try simp only [Act.put, List.setIfInBounds_toArray, List.set_cons_zero, List.set_cons_succ]
                refine wpAnyH_take (i := 6) (oi := { dst := some 55, op := Op.extract (Operand.tmp 49) 0, type := 24, pos := "law.go:145", after := #[{ on := 5, ground := Ground.data }], guard := none }) (v := ?v6u11) rfl (by kernel_rfl) (by kernel_rfl) (by kernel_rfl) (fun _ _ _ h => h) (Or.inl ⟨by rfl, ?hy6u11⟩) hH ?r6u11
                case hy6u11 => (intro W hSw; (try dsimp only at hSw); go_simp; try (with_reducible rfl))
                try simp only [Act.put, List.setIfInBounds_toArray, List.set_cons_zero, List.set_cons_succ]
                refine wpAnyH_take (i := 7) (oi := { dst := some 56, op := Op.extract (Operand.tmp 49) 1, type := 24, pos := "law.go:145", after := #[{ on := 5, ground := Ground.data }, { on := 10, ground := Ground.gcOnly Departure.lateStores }], guard := none }) (v := ?v7u12) rfl (by kernel_rfl) (by kernel_rfl) (by kernel_rfl) (fun _ _ _ h => h) (Or.inl ⟨by rfl, ?hy7u12⟩) hH ?r7u12
                case hy7u12 => (intro W hSw; (try dsimp only at hSw); go_simp; try (with_reducible rfl))
                try simp only [Act.put, List.setIfInBounds_toArray, List.set_cons_zero, List.set_cons_succ]
                refine wpAnyH_ready (rs := [10]) (by kernel_rfl) (by simp) ?_
                refine AllReadyH.cons (o := { dst := none, op := Op.store 24 (Operand.tmp 13) (Operand.tmp 55), type := 0, pos := "law.go:145", after := #[{ on := 8, ground := Ground.data }, { on := 6, ground := Ground.data }, { on := 4, ground := Ground.chain }, { on := 0, ground := Ground.phase }, { on := 1, ground := Ground.phase }, { on := 2, ground := Ground.phase }, { on := 3, ground := Ground.phase }, { on := 4, ground := Ground.phase }, { on := 5, ground := Ground.phase }, { on := 6, ground := Ground.phase }, { on := 7, ground := Ground.textOnly Departure.lateStores }, { on := 8, ground := Ground.phase }, { on := 9, ground := Ground.phase }], guard := none }) rfl (fun K hKq => ?_) AllReadyH.nil
                obtain ⟨X, hX⟩ : ∃ X, y = X := ⟨_, rfl⟩
                have g1 : X.heap[W2.heap.size]? = some (.cells #[.pointer none] 24) := by subst hX; exact X1
                have g2 : X.heap[(W2.heap.size + 1)]? = some (.cells #[.pointer none] 24) := by subst hX; exact X2
                have kyx : Kp y X := by subst hX; exact Kp.refl y
                have hy := KY.size
                have hx1 := bl_lt X1
                have h1 : W2.heap.size ≤ W2.heap.size := by omega
                have h2 : W2.heap.size ≤ (W2.heap.size + 1) := by omega
                have n12 : W2.heap.size ≠ (W2.heap.size + 1) := by omega
                have n21 : (W2.heap.size + 1) ≠ W2.heap.size := by omega
                rw [hX] at hH ⊢
                have oX := oa.kp kyx
                have obX := ob.kp kyx
                have KX : Kp W2 X := KY.trans kyx
                have e1 := bl_cell g1 0 (.pointer none) rfl
                have e2 := bl_cell g2 0 (.pointer none) rfl
                have f1 := bl_frozen g1 0
                have f2 := bl_frozen g2 0
                have FIN : Hid (_ ∧ _ ∧ _ ∧ _ ∧ _) := fin2 KX g1 g2 h1 h2 n12 oX obX
                clear hX kyx hy oa ob KY oX obX g1 g2 hx1 X1 X2
                go_simp
                refine hKq.out _ _ (MK.out _ (KX.setCell h1 _)) (fun hN => ?_)
                clear hKq K hH KQ
                have hH := hN
                clear hN
                have KQ := hH.2.out
                try simp only [Act.put, List.setIfInBounds_toArray, List.set_cons_zero, List.set_cons_succ]
                refine wpAnyH_ready (rs := [11]) (by kernel_rfl) (by simp) ?_
                refine AllReadyH.cons (o := { dst := none, op := Op.store 24 (Operand.tmp 14) (Operand.tmp 56), type := 0, pos := "law.go:145", after := #[{ on := 9, ground := Ground.data }, { on := 7, ground := Ground.data }, { on := 10, ground := Ground.chain }, { on := 0, ground := Ground.phase }, { on := 1, ground := Ground.phase }, { on := 2, ground := Ground.phase }, { on := 3, ground := Ground.phase }, { on := 4, ground := Ground.phase }, { on := 5, ground := Ground.phase }, { on := 6, ground := Ground.phase }, { on := 7, ground := Ground.phase }, { on := 8, ground := Ground.phase }, { on := 9, ground := Ground.phase }, { on := 10, ground := Ground.phase }], guard := none }) rfl (fun K hKq => ?_) AllReadyH.nil
                go_simp
                refine hKq.out _ _ (MK.out _ ((KX.setCell h1 _).setCell h2 _)) (fun hN => ?_)
                clear hKq K hH KQ
                have hH := hN
                clear hN
                have KQ := hH.2.out
                try simp only [Act.put, List.setIfInBounds_toArray, List.set_cons_zero, List.set_cons_succ]
                refine wpAnyH_done (by kernel_rfl) ?_ _
                refine NoPanic.normal ?_
                go_wp2_with fail
                go_meet
                case rel => exact ⟨_, _, c, d, rfl, rfl, FIN.out⟩
              exact AllReadyH.nil
            refine AllReadyH.cons (o := { dst := some 14, op := Op.alloc 24, type := 0, pos := "law.go:145", after := #[], guard := none }) rfl (fun K hKq => ?_) ?_
            ·
              go_simp
              refine hKq.out _ _ (MK.out _ (by first | exact KQ.alloc _ | exact (Kp.alloc (Kp.refl _) _).drew | exact (Kp.alloc (Kp.alloc (Kp.refl _) _) _).drew)) (fun hN => ?_)
              clear hKq K hH KQ
              have hH := hN
              clear hN
              have KQ := hH.2.out
              try simp only [Act.put, List.setIfInBounds_toArray, List.set_cons_zero, List.set_cons_succ]
              refine wpAnyH_ready (rs := [4, 8]) (by kernel_rfl) (by simp) ?_
              refine AllReadyH.cons (o := { dst := some 54, op := Op.call { callee := Callee.value (Operand.func 10), args := #[Operand.tmp 50, Operand.tmp 53], argTypes := #[24, 3] }, type := 30, pos := "law.go:145", after := #[{ on := 0, ground := Ground.data }, { on := 3, ground := Ground.data }, { on := 3, ground := Ground.chain }], guard := none }) rfl (fun K hKq => ?_) ?_
              ·
                go_simp
                refine (split_ok r xs (p2 : Int) _ (Ok.kp F2.out.1 KQ) (by have := LX.out.1; omega) LX.out.2).mono ?_
                rintro e y ⟨c, d, rfl, oa, ob, kq⟩
                rw [Int.toNat_natCast] at oa ob
                have X1 := bl_kp (last_drew W2 _) kq
                have KY : Kp W2 y := KQ.trans kq
                refine hKq.out _ _ (MK.out _ KY) (fun hN => ?_)
                clear kq
                clear hKq K hH KQ
                have hH := hN
                clear hN
                have KQ := hH.2.out
                try simp only [Act.put, List.setIfInBounds_toArray, List.set_cons_zero, List.set_cons_succ]
                refine wpAnyH_take (i := 5) (oi := { dst := some 49, op := Op.move (Operand.tmp 54), type := 30, pos := "law.go:145", after := #[{ on := 4, ground := Ground.data }], guard := none }) (v := ?v5u13) rfl (by kernel_rfl) (by kernel_rfl) (by kernel_rfl) (fun _ _ _ h => h) (Or.inl ⟨by rfl, ?hy5u13⟩) hH ?r5u13
                case hy5u13 => (intro W hSw; (try dsimp only at hSw); go_simp; try (with_reducible rfl))
                try simp only [Act.put, List.setIfInBounds_toArray, List.set_cons_zero, List.set_cons_succ]
                refine wpAnyH_take (i := 6) (oi := { dst := some 55, op := Op.extract (Operand.tmp 49) 0, type := 24, pos := "law.go:145", after := #[{ on := 5, ground := Ground.data }], guard := none }) (v := ?v6u14) rfl (by kernel_rfl) (by kernel_rfl) (by kernel_rfl) (fun _ _ _ h => h) (Or.inl ⟨by rfl, ?hy6u14⟩) hH ?r6u14
                case hy6u14 => (intro W hSw; (try dsimp only at hSw); go_simp; try (with_reducible rfl))
                try simp only [Act.put, List.setIfInBounds_toArray, List.set_cons_zero, List.set_cons_succ]
                refine wpAnyH_take (i := 7) (oi := { dst := some 56, op := Op.extract (Operand.tmp 49) 1, type := 24, pos := "law.go:145", after := #[{ on := 5, ground := Ground.data }, { on := 10, ground := Ground.gcOnly Departure.lateStores }], guard := none }) (v := ?v7u15) rfl (by kernel_rfl) (by kernel_rfl) (by kernel_rfl) (fun _ _ _ h => h) (Or.inl ⟨by rfl, ?hy7u15⟩) hH ?r7u15
                case hy7u15 => (intro W hSw; (try dsimp only at hSw); go_simp; try (with_reducible rfl))
                try simp only [Act.put, List.setIfInBounds_toArray, List.set_cons_zero, List.set_cons_succ]
                refine wpAnyH_ready (rs := [8]) (by kernel_rfl) (by simp) ?_
                refine AllReadyH.cons (o := { dst := some 13, op := Op.alloc 24, type := 0, pos := "law.go:145", after := #[], guard := none }) rfl (fun K hKq => ?_) AllReadyH.nil
                go_simp
                refine hKq.out _ _ (MK.out _ (by first | exact KQ.alloc _ | exact (Kp.alloc (Kp.refl _) _).drew | exact (Kp.alloc (Kp.alloc (Kp.refl _) _) _).drew)) (fun hN => ?_)
                clear hKq K hH KQ
                have hH := hN
                clear hN
                have KQ := hH.2.out
                try simp only [Act.put, List.setIfInBounds_toArray, List.set_cons_zero, List.set_cons_succ]
                refine wpAnyH_ready (rs := [10]) (by kernel_rfl) (by simp) ?_
                refine AllReadyH.cons (o := { dst := none, op := Op.store 24 (Operand.tmp 13) (Operand.tmp 55), type := 0, pos := "law.go:145", after := #[{ on := 8, ground := Ground.data }, { on := 6, ground := Ground.data }, { on := 4, ground := Ground.chain }, { on := 0, ground := Ground.phase }, { on := 1, ground := Ground.phase }, { on := 2, ground := Ground.phase }, { on := 3, ground := Ground.phase }, { on := 4, ground := Ground.phase }, { on := 5, ground := Ground.phase }, { on := 6, ground := Ground.phase }, { on := 7, ground := Ground.textOnly Departure.lateStores }, { on := 8, ground := Ground.phase }, { on := 9, ground := Ground.phase }], guard := none }) rfl (fun K hKq => ?_) AllReadyH.nil
                obtain ⟨X, hX⟩ : ∃ X, y.alloc (.cells #[.pointer none] 24) = X := ⟨_, rfl⟩
                have g1 : X.heap[y.heap.size]? = some (.cells #[.pointer none] 24) := by subst hX; exact last_of _ _
                have g2 : X.heap[W2.heap.size]? = some (.cells #[.pointer none] 24) := by subst hX; exact (bl_alloc X1 _)
                have kyx : Kp y X := by subst hX; exact (Kp.refl y).alloc _
                have hy := KY.size
                have hx1 := bl_lt X1
                have h1 : W2.heap.size ≤ y.heap.size := by omega
                have h2 : W2.heap.size ≤ W2.heap.size := by omega
                have n12 : y.heap.size ≠ W2.heap.size := by omega
                have n21 : W2.heap.size ≠ y.heap.size := by omega
                rw [hX] at hH ⊢
                have oX := oa.kp kyx
                have obX := ob.kp kyx
                have KX : Kp W2 X := KY.trans kyx
                have e1 := bl_cell g1 0 (.pointer none) rfl
                have e2 := bl_cell g2 0 (.pointer none) rfl
                have f1 := bl_frozen g1 0
                have f2 := bl_frozen g2 0
                have FIN : Hid (_ ∧ _ ∧ _ ∧ _ ∧ _) := fin2 KX g1 g2 h1 h2 n12 oX obX
                clear hX kyx hy oa ob KY oX obX g1 g2 hx1 X1
                go_simp
                refine hKq.out _ _ (MK.out _ (KX.setCell h1 _)) (fun hN => ?_)
                clear hKq K hH KQ
                have hH := hN
                clear hN
                have KQ := hH.2.out
                try simp only [Act.put, List.setIfInBounds_toArray, List.set_cons_zero, List.set_cons_succ]
                refine wpAnyH_ready (rs := [11]) (by kernel_rfl) (by simp) ?_
                refine AllReadyH.cons (o := { dst := none, op := Op.store 24 (Operand.tmp 14) (Operand.tmp 56), type := 0, pos := "law.go:145", after := #[{ on := 9, ground := Ground.data }, { on := 7, ground := Ground.data }, { on := 10, ground := Ground.chain }, { on := 0, ground := Ground.phase }, { on := 1, ground := Ground.phase }, { on := 2, ground := Ground.phase }, { on := 3, ground := Ground.phase }, { on := 4, ground := Ground.phase }, { on := 5, ground := Ground.phase }, { on := 6, ground := Ground.phase }, { on := 7, ground := Ground.phase }, { on := 8, ground := Ground.phase }, { on := 9, ground := Ground.phase }, { on := 10, ground := Ground.phase }], guard := none }) rfl (fun K hKq => ?_) AllReadyH.nil
                go_simp
                refine hKq.out _ _ (MK.out _ ((KX.setCell h1 _).setCell h2 _)) (fun hN => ?_)
                clear hKq K hH KQ
                have hH := hN
                clear hN
                have KQ := hH.2.out
                try simp only [Act.put, List.setIfInBounds_toArray, List.set_cons_zero, List.set_cons_succ]
                refine wpAnyH_done (by kernel_rfl) ?_ _
                refine NoPanic.normal ?_
                go_wp2_with fail
                go_meet
                case rel => exact ⟨_, _, c, d, rfl, rfl, FIN.out⟩
              refine AllReadyH.cons (o := { dst := some 13, op := Op.alloc 24, type := 0, pos := "law.go:145", after := #[], guard := none }) rfl (fun K hKq => ?_) ?_
              ·
                go_simp
                refine hKq.out _ _ (MK.out _ (by first | exact KQ.alloc _ | exact (Kp.alloc (Kp.refl _) _).drew | exact (Kp.alloc (Kp.alloc (Kp.refl _) _) _).drew)) (fun hN => ?_)
                clear hKq K hH KQ
                have hH := hN
                clear hN
                have KQ := hH.2.out
                try simp only [Act.put, List.setIfInBounds_toArray, List.set_cons_zero, List.set_cons_succ]
                refine wpAnyH_ready (rs := [4]) (by kernel_rfl) (by simp) ?_
                refine AllReadyH.cons (o := { dst := some 54, op := Op.call { callee := Callee.value (Operand.func 10), args := #[Operand.tmp 50, Operand.tmp 53], argTypes := #[24, 3] }, type := 30, pos := "law.go:145", after := #[{ on := 0, ground := Ground.data }, { on := 3, ground := Ground.data }, { on := 3, ground := Ground.chain }], guard := none }) rfl (fun K hKq => ?_) AllReadyH.nil
                go_simp
                refine (split_ok r xs (p2 : Int) _ (Ok.kp F2.out.1 KQ) (by have := LX.out.1; omega) LX.out.2).mono ?_
                rintro e y ⟨c, d, rfl, oa, ob, kq⟩
                rw [Int.toNat_natCast] at oa ob
                have X1 := bl_kp (show (((W2.alloc (.cells #[.pointer none] 24)).alloc (.cells #[.pointer none] 24)).drew).heap[W2.heap.size]? = _ from bl_alloc (last_of _ _) _) kq
                have X2 := bl_kp (show (((W2.alloc (.cells #[.pointer none] 24)).alloc (.cells #[.pointer none] 24)).drew).heap[W2.heap.size + 1]? = _ from last_at _ _ _ (by simp)) kq
                have KY : Kp W2 y := KQ.trans kq
                refine hKq.out _ _ (MK.out _ KY) (fun hN => ?_)
                clear kq
                clear hKq K hH KQ
                have hH := hN
                clear hN
                have KQ := hH.2.out
                try simp only [Act.put, List.setIfInBounds_toArray, List.set_cons_zero, List.set_cons_succ]
                refine wpAnyH_take (i := 5) (oi := { dst := some 49, op := Op.move (Operand.tmp 54), type := 30, pos := "law.go:145", after := #[{ on := 4, ground := Ground.data }], guard := none }) (v := ?v5u16) rfl (by kernel_rfl) (by kernel_rfl) (by kernel_rfl) (fun _ _ _ h => h) (Or.inl ⟨by rfl, ?hy5u16⟩) hH ?r5u16
                case hy5u16 => (intro W hSw; (try dsimp only at hSw); go_simp; try (with_reducible rfl))
                try simp only [Act.put, List.setIfInBounds_toArray, List.set_cons_zero, List.set_cons_succ]
                refine wpAnyH_take (i := 6) (oi := { dst := some 55, op := Op.extract (Operand.tmp 49) 0, type := 24, pos := "law.go:145", after := #[{ on := 5, ground := Ground.data }], guard := none }) (v := ?v6u17) rfl (by kernel_rfl) (by kernel_rfl) (by kernel_rfl) (fun _ _ _ h => h) (Or.inl ⟨by rfl, ?hy6u17⟩) hH ?r6u17
                case hy6u17 => (intro W hSw; (try dsimp only at hSw); go_simp; try (with_reducible rfl))
                try simp only [Act.put, List.setIfInBounds_toArray, List.set_cons_zero, List.set_cons_succ]
                refine wpAnyH_take (i := 7) (oi := { dst := some 56, op := Op.extract (Operand.tmp 49) 1, type := 24, pos := "law.go:145", after := #[{ on := 5, ground := Ground.data }, { on := 10, ground := Ground.gcOnly Departure.lateStores }], guard := none }) (v := ?v7u18) rfl (by kernel_rfl) (by kernel_rfl) (by kernel_rfl) (fun _ _ _ h => h) (Or.inl ⟨by rfl, ?hy7u18⟩) hH ?r7u18
                case hy7u18 => (intro W hSw; (try dsimp only at hSw); go_simp; try (with_reducible rfl))
                try simp only [Act.put, List.setIfInBounds_toArray, List.set_cons_zero, List.set_cons_succ]
                refine wpAnyH_ready (rs := [10]) (by kernel_rfl) (by simp) ?_
                refine AllReadyH.cons (o := { dst := none, op := Op.store 24 (Operand.tmp 13) (Operand.tmp 55), type := 0, pos := "law.go:145", after := #[{ on := 8, ground := Ground.data }, { on := 6, ground := Ground.data }, { on := 4, ground := Ground.chain }, { on := 0, ground := Ground.phase }, { on := 1, ground := Ground.phase }, { on := 2, ground := Ground.phase }, { on := 3, ground := Ground.phase }, { on := 4, ground := Ground.phase }, { on := 5, ground := Ground.phase }, { on := 6, ground := Ground.phase }, { on := 7, ground := Ground.textOnly Departure.lateStores }, { on := 8, ground := Ground.phase }, { on := 9, ground := Ground.phase }], guard := none }) rfl (fun K hKq => ?_) AllReadyH.nil
                obtain ⟨X, hX⟩ : ∃ X, y = X := ⟨_, rfl⟩
                have g1 : X.heap[(W2.heap.size + 1)]? = some (.cells #[.pointer none] 24) := by subst hX; exact X2
                have g2 : X.heap[W2.heap.size]? = some (.cells #[.pointer none] 24) := by subst hX; exact X1
                have kyx : Kp y X := by subst hX; exact Kp.refl y
                have hy := KY.size
                have hx1 := bl_lt X1
                have h1 : W2.heap.size ≤ (W2.heap.size + 1) := by omega
                have h2 : W2.heap.size ≤ W2.heap.size := by omega
                have n12 : (W2.heap.size + 1) ≠ W2.heap.size := by omega
                have n21 : W2.heap.size ≠ (W2.heap.size + 1) := by omega
                rw [hX] at hH ⊢
                have oX := oa.kp kyx
                have obX := ob.kp kyx
                have KX : Kp W2 X := KY.trans kyx
                have e1 := bl_cell g1 0 (.pointer none) rfl
                have e2 := bl_cell g2 0 (.pointer none) rfl
                have f1 := bl_frozen g1 0
                have f2 := bl_frozen g2 0
                have FIN : Hid (_ ∧ _ ∧ _ ∧ _ ∧ _) := fin2 KX g1 g2 h1 h2 n12 oX obX
                clear hX kyx hy oa ob KY oX obX g1 g2 hx1 X1 X2
                go_simp
                refine hKq.out _ _ (MK.out _ (KX.setCell h1 _)) (fun hN => ?_)
                clear hKq K hH KQ
                have hH := hN
                clear hN
                have KQ := hH.2.out
                try simp only [Act.put, List.setIfInBounds_toArray, List.set_cons_zero, List.set_cons_succ]
                refine wpAnyH_ready (rs := [11]) (by kernel_rfl) (by simp) ?_
                refine AllReadyH.cons (o := { dst := none, op := Op.store 24 (Operand.tmp 14) (Operand.tmp 56), type := 0, pos := "law.go:145", after := #[{ on := 9, ground := Ground.data }, { on := 7, ground := Ground.data }, { on := 10, ground := Ground.chain }, { on := 0, ground := Ground.phase }, { on := 1, ground := Ground.phase }, { on := 2, ground := Ground.phase }, { on := 3, ground := Ground.phase }, { on := 4, ground := Ground.phase }, { on := 5, ground := Ground.phase }, { on := 6, ground := Ground.phase }, { on := 7, ground := Ground.phase }, { on := 8, ground := Ground.phase }, { on := 9, ground := Ground.phase }, { on := 10, ground := Ground.phase }], guard := none }) rfl (fun K hKq => ?_) AllReadyH.nil
                go_simp
                refine hKq.out _ _ (MK.out _ ((KX.setCell h1 _).setCell h2 _)) (fun hN => ?_)
                clear hKq K hH KQ
                have hH := hN
                clear hN
                have KQ := hH.2.out
                try simp only [Act.put, List.setIfInBounds_toArray, List.set_cons_zero, List.set_cons_succ]
                refine wpAnyH_done (by kernel_rfl) ?_ _
                refine NoPanic.normal ?_
                go_wp2_with fail
                go_meet
                case rel => exact ⟨_, _, c, d, rfl, rfl, FIN.out⟩
              exact AllReadyH.nil
            exact AllReadyH.nil
          refine AllReadyH.cons (o := { dst := some 13, op := Op.alloc 24, type := 0, pos := "law.go:145", after := #[], guard := none }) rfl (fun K hKq => ?_) ?_
          ·
            go_simp
            refine hKq.out _ _ (MK.out _ (by first | exact KQ.alloc _ | exact (Kp.alloc (Kp.refl _) _).drew | exact (Kp.alloc (Kp.alloc (Kp.refl _) _) _).drew)) (fun hN => ?_)
            clear hKq K hH KQ
            have hH := hN
            clear hN
            have KQ := hH.2.out
            try simp only [Act.put, List.setIfInBounds_toArray, List.set_cons_zero, List.set_cons_succ]
            refine wpAnyH_ready (rs := [3, 9]) (by kernel_rfl) (by simp) ?_
            refine AllReadyH.cons (o := { dst := some 53, op := Op.call { callee := Callee.value (Operand.func 15), args := #[Operand.tmp 51, Operand.const (Value.int IntKind.i64 0), Operand.tmp 52], argTypes := #[3, 3, 3] }, type := 3, pos := "law.go:145", after := #[{ on := 1, ground := Ground.data }, { on := 2, ground := Ground.data }], guard := none }) rfl (fun K hKq => ?_) ?_
            ·
              go_simp
              refine (within_any j 0 (k : Int) _ (by omega) (by omega) (by omega)).mono ?_
              rintro e yy ⟨rfl, rfl⟩
              rw [HP2.out]
              refine hKq.out _ _ (MK.out _ KQ) (fun hN => ?_)
              clear hKq K hH KQ
              have hH := hN
              clear hN
              have KQ := hH.2.out
              try simp only [Act.put, List.setIfInBounds_toArray, List.set_cons_zero, List.set_cons_succ]
              refine wpAnyH_ready (rs := [4, 9]) (by kernel_rfl) (by simp) ?_
              refine AllReadyH.cons (o := { dst := some 54, op := Op.call { callee := Callee.value (Operand.func 10), args := #[Operand.tmp 50, Operand.tmp 53], argTypes := #[24, 3] }, type := 30, pos := "law.go:145", after := #[{ on := 0, ground := Ground.data }, { on := 3, ground := Ground.data }, { on := 3, ground := Ground.chain }], guard := none }) rfl (fun K hKq => ?_) ?_
              ·
                go_simp
                refine (split_ok r xs (p2 : Int) _ (Ok.kp F2.out.1 KQ) (by have := LX.out.1; omega) LX.out.2).mono ?_
                rintro e y ⟨c, d, rfl, oa, ob, kq⟩
                rw [Int.toNat_natCast] at oa ob
                have X1 := bl_kp (last_drew W2 _) kq
                have KY : Kp W2 y := KQ.trans kq
                refine hKq.out _ _ (MK.out _ KY) (fun hN => ?_)
                clear kq
                clear hKq K hH KQ
                have hH := hN
                clear hN
                have KQ := hH.2.out
                try simp only [Act.put, List.setIfInBounds_toArray, List.set_cons_zero, List.set_cons_succ]
                refine wpAnyH_take (i := 5) (oi := { dst := some 49, op := Op.move (Operand.tmp 54), type := 30, pos := "law.go:145", after := #[{ on := 4, ground := Ground.data }], guard := none }) (v := ?v5u19) rfl (by kernel_rfl) (by kernel_rfl) (by kernel_rfl) (fun _ _ _ h => h) (Or.inl ⟨by rfl, ?hy5u19⟩) hH ?r5u19
                case hy5u19 => (intro W hSw; (try dsimp only at hSw); go_simp; try (with_reducible rfl))
                try simp only [Act.put, List.setIfInBounds_toArray, List.set_cons_zero, List.set_cons_succ]
                refine wpAnyH_take (i := 6) (oi := { dst := some 55, op := Op.extract (Operand.tmp 49) 0, type := 24, pos := "law.go:145", after := #[{ on := 5, ground := Ground.data }], guard := none }) (v := ?v6u20) rfl (by kernel_rfl) (by kernel_rfl) (by kernel_rfl) (fun _ _ _ h => h) (Or.inl ⟨by rfl, ?hy6u20⟩) hH ?r6u20
                case hy6u20 => (intro W hSw; (try dsimp only at hSw); go_simp; try (with_reducible rfl))
                try simp only [Act.put, List.setIfInBounds_toArray, List.set_cons_zero, List.set_cons_succ]
                refine wpAnyH_take (i := 7) (oi := { dst := some 56, op := Op.extract (Operand.tmp 49) 1, type := 24, pos := "law.go:145", after := #[{ on := 5, ground := Ground.data }, { on := 10, ground := Ground.gcOnly Departure.lateStores }], guard := none }) (v := ?v7u21) rfl (by kernel_rfl) (by kernel_rfl) (by kernel_rfl) (fun _ _ _ h => h) (Or.inl ⟨by rfl, ?hy7u21⟩) hH ?r7u21
                case hy7u21 => (intro W hSw; (try dsimp only at hSw); go_simp; try (with_reducible rfl))
                try simp only [Act.put, List.setIfInBounds_toArray, List.set_cons_zero, List.set_cons_succ]
                refine wpAnyH_ready (rs := [9]) (by kernel_rfl) (by simp) ?_
                refine AllReadyH.cons (o := { dst := some 14, op := Op.alloc 24, type := 0, pos := "law.go:145", after := #[], guard := none }) rfl (fun K hKq => ?_) AllReadyH.nil
                go_simp
                refine hKq.out _ _ (MK.out _ (by first | exact KQ.alloc _ | exact (Kp.alloc (Kp.refl _) _).drew | exact (Kp.alloc (Kp.alloc (Kp.refl _) _) _).drew)) (fun hN => ?_)
                clear hKq K hH KQ
                have hH := hN
                clear hN
                have KQ := hH.2.out
                try simp only [Act.put, List.setIfInBounds_toArray, List.set_cons_zero, List.set_cons_succ]
                refine wpAnyH_ready (rs := [10]) (by kernel_rfl) (by simp) ?_
                refine AllReadyH.cons (o := { dst := none, op := Op.store 24 (Operand.tmp 13) (Operand.tmp 55), type := 0, pos := "law.go:145", after := #[{ on := 8, ground := Ground.data }, { on := 6, ground := Ground.data }, { on := 4, ground := Ground.chain }, { on := 0, ground := Ground.phase }, { on := 1, ground := Ground.phase }, { on := 2, ground := Ground.phase }, { on := 3, ground := Ground.phase }, { on := 4, ground := Ground.phase }, { on := 5, ground := Ground.phase }, { on := 6, ground := Ground.phase }, { on := 7, ground := Ground.textOnly Departure.lateStores }, { on := 8, ground := Ground.phase }, { on := 9, ground := Ground.phase }], guard := none }) rfl (fun K hKq => ?_) AllReadyH.nil
                obtain ⟨X, hX⟩ : ∃ X, y.alloc (.cells #[.pointer none] 24) = X := ⟨_, rfl⟩
                have g1 : X.heap[W2.heap.size]? = some (.cells #[.pointer none] 24) := by subst hX; exact (bl_alloc X1 _)
                have g2 : X.heap[y.heap.size]? = some (.cells #[.pointer none] 24) := by subst hX; exact last_of _ _
                have kyx : Kp y X := by subst hX; exact (Kp.refl y).alloc _
                have hy := KY.size
                have hx1 := bl_lt X1
                have h1 : W2.heap.size ≤ W2.heap.size := by omega
                have h2 : W2.heap.size ≤ y.heap.size := by omega
                have n12 : W2.heap.size ≠ y.heap.size := by omega
                have n21 : y.heap.size ≠ W2.heap.size := by omega
                rw [hX] at hH ⊢
                have oX := oa.kp kyx
                have obX := ob.kp kyx
                have KX : Kp W2 X := KY.trans kyx
                have e1 := bl_cell g1 0 (.pointer none) rfl
                have e2 := bl_cell g2 0 (.pointer none) rfl
                have f1 := bl_frozen g1 0
                have f2 := bl_frozen g2 0
                have FIN : Hid (_ ∧ _ ∧ _ ∧ _ ∧ _) := fin2 KX g1 g2 h1 h2 n12 oX obX
                clear hX kyx hy oa ob KY oX obX g1 g2 hx1 X1
                go_simp
                refine hKq.out _ _ (MK.out _ (KX.setCell h1 _)) (fun hN => ?_)
                clear hKq K hH KQ
                have hH := hN
                clear hN
                have KQ := hH.2.out
                try simp only [Act.put, List.setIfInBounds_toArray, List.set_cons_zero, List.set_cons_succ]
                refine wpAnyH_ready (rs := [11]) (by kernel_rfl) (by simp) ?_
                refine AllReadyH.cons (o := { dst := none, op := Op.store 24 (Operand.tmp 14) (Operand.tmp 56), type := 0, pos := "law.go:145", after := #[{ on := 9, ground := Ground.data }, { on := 7, ground := Ground.data }, { on := 10, ground := Ground.chain }, { on := 0, ground := Ground.phase }, { on := 1, ground := Ground.phase }, { on := 2, ground := Ground.phase }, { on := 3, ground := Ground.phase }, { on := 4, ground := Ground.phase }, { on := 5, ground := Ground.phase }, { on := 6, ground := Ground.phase }, { on := 7, ground := Ground.phase }, { on := 8, ground := Ground.phase }, { on := 9, ground := Ground.phase }, { on := 10, ground := Ground.phase }], guard := none }) rfl (fun K hKq => ?_) AllReadyH.nil
                go_simp
                refine hKq.out _ _ (MK.out _ ((KX.setCell h1 _).setCell h2 _)) (fun hN => ?_)
                clear hKq K hH KQ
                have hH := hN
                clear hN
                have KQ := hH.2.out
                try simp only [Act.put, List.setIfInBounds_toArray, List.set_cons_zero, List.set_cons_succ]
                refine wpAnyH_done (by kernel_rfl) ?_ _
                refine NoPanic.normal ?_
                go_wp2_with fail
                go_meet
                case rel => exact ⟨_, _, c, d, rfl, rfl, FIN.out⟩
              refine AllReadyH.cons (o := { dst := some 14, op := Op.alloc 24, type := 0, pos := "law.go:145", after := #[], guard := none }) rfl (fun K hKq => ?_) ?_
              ·
                go_simp
                refine hKq.out _ _ (MK.out _ (by first | exact KQ.alloc _ | exact (Kp.alloc (Kp.refl _) _).drew | exact (Kp.alloc (Kp.alloc (Kp.refl _) _) _).drew)) (fun hN => ?_)
                clear hKq K hH KQ
                have hH := hN
                clear hN
                have KQ := hH.2.out
                try simp only [Act.put, List.setIfInBounds_toArray, List.set_cons_zero, List.set_cons_succ]
                refine wpAnyH_ready (rs := [4]) (by kernel_rfl) (by simp) ?_
                refine AllReadyH.cons (o := { dst := some 54, op := Op.call { callee := Callee.value (Operand.func 10), args := #[Operand.tmp 50, Operand.tmp 53], argTypes := #[24, 3] }, type := 30, pos := "law.go:145", after := #[{ on := 0, ground := Ground.data }, { on := 3, ground := Ground.data }, { on := 3, ground := Ground.chain }], guard := none }) rfl (fun K hKq => ?_) AllReadyH.nil
                go_simp
                refine (split_ok r xs (p2 : Int) _ (Ok.kp F2.out.1 KQ) (by have := LX.out.1; omega) LX.out.2).mono ?_
                rintro e y ⟨c, d, rfl, oa, ob, kq⟩
                rw [Int.toNat_natCast] at oa ob
                have X1 := bl_kp (show (((W2.alloc (.cells #[.pointer none] 24)).alloc (.cells #[.pointer none] 24)).drew).heap[W2.heap.size]? = _ from bl_alloc (last_of _ _) _) kq
                have X2 := bl_kp (show (((W2.alloc (.cells #[.pointer none] 24)).alloc (.cells #[.pointer none] 24)).drew).heap[W2.heap.size + 1]? = _ from last_at _ _ _ (by simp)) kq
                have KY : Kp W2 y := KQ.trans kq
                refine hKq.out _ _ (MK.out _ KY) (fun hN => ?_)
                clear kq
                clear hKq K hH KQ
                have hH := hN
                clear hN
                have KQ := hH.2.out
                try simp only [Act.put, List.setIfInBounds_toArray, List.set_cons_zero, List.set_cons_succ]
                refine wpAnyH_take (i := 5) (oi := { dst := some 49, op := Op.move (Operand.tmp 54), type := 30, pos := "law.go:145", after := #[{ on := 4, ground := Ground.data }], guard := none }) (v := ?v5u22) rfl (by kernel_rfl) (by kernel_rfl) (by kernel_rfl) (fun _ _ _ h => h) (Or.inl ⟨by rfl, ?hy5u22⟩) hH ?r5u22
                case hy5u22 => (intro W hSw; (try dsimp only at hSw); go_simp; try (with_reducible rfl))
                try simp only [Act.put, List.setIfInBounds_toArray, List.set_cons_zero, List.set_cons_succ]
                refine wpAnyH_take (i := 6) (oi := { dst := some 55, op := Op.extract (Operand.tmp 49) 0, type := 24, pos := "law.go:145", after := #[{ on := 5, ground := Ground.data }], guard := none }) (v := ?v6u23) rfl (by kernel_rfl) (by kernel_rfl) (by kernel_rfl) (fun _ _ _ h => h) (Or.inl ⟨by rfl, ?hy6u23⟩) hH ?r6u23
                case hy6u23 => (intro W hSw; (try dsimp only at hSw); go_simp; try (with_reducible rfl))
                try simp only [Act.put, List.setIfInBounds_toArray, List.set_cons_zero, List.set_cons_succ]
                refine wpAnyH_take (i := 7) (oi := { dst := some 56, op := Op.extract (Operand.tmp 49) 1, type := 24, pos := "law.go:145", after := #[{ on := 5, ground := Ground.data }, { on := 10, ground := Ground.gcOnly Departure.lateStores }], guard := none }) (v := ?v7u24) rfl (by kernel_rfl) (by kernel_rfl) (by kernel_rfl) (fun _ _ _ h => h) (Or.inl ⟨by rfl, ?hy7u24⟩) hH ?r7u24
                case hy7u24 => (intro W hSw; (try dsimp only at hSw); go_simp; try (with_reducible rfl))
                try simp only [Act.put, List.setIfInBounds_toArray, List.set_cons_zero, List.set_cons_succ]
                refine wpAnyH_ready (rs := [10]) (by kernel_rfl) (by simp) ?_
                refine AllReadyH.cons (o := { dst := none, op := Op.store 24 (Operand.tmp 13) (Operand.tmp 55), type := 0, pos := "law.go:145", after := #[{ on := 8, ground := Ground.data }, { on := 6, ground := Ground.data }, { on := 4, ground := Ground.chain }, { on := 0, ground := Ground.phase }, { on := 1, ground := Ground.phase }, { on := 2, ground := Ground.phase }, { on := 3, ground := Ground.phase }, { on := 4, ground := Ground.phase }, { on := 5, ground := Ground.phase }, { on := 6, ground := Ground.phase }, { on := 7, ground := Ground.textOnly Departure.lateStores }, { on := 8, ground := Ground.phase }, { on := 9, ground := Ground.phase }], guard := none }) rfl (fun K hKq => ?_) AllReadyH.nil
                obtain ⟨X, hX⟩ : ∃ X, y = X := ⟨_, rfl⟩
                have g1 : X.heap[W2.heap.size]? = some (.cells #[.pointer none] 24) := by subst hX; exact X1
                have g2 : X.heap[(W2.heap.size + 1)]? = some (.cells #[.pointer none] 24) := by subst hX; exact X2
                have kyx : Kp y X := by subst hX; exact Kp.refl y
                have hy := KY.size
                have hx1 := bl_lt X1
                have h1 : W2.heap.size ≤ W2.heap.size := by omega
                have h2 : W2.heap.size ≤ (W2.heap.size + 1) := by omega
                have n12 : W2.heap.size ≠ (W2.heap.size + 1) := by omega
                have n21 : (W2.heap.size + 1) ≠ W2.heap.size := by omega
                rw [hX] at hH ⊢
                have oX := oa.kp kyx
                have obX := ob.kp kyx
                have KX : Kp W2 X := KY.trans kyx
                have e1 := bl_cell g1 0 (.pointer none) rfl
                have e2 := bl_cell g2 0 (.pointer none) rfl
                have f1 := bl_frozen g1 0
                have f2 := bl_frozen g2 0
                have FIN : Hid (_ ∧ _ ∧ _ ∧ _ ∧ _) := fin2 KX g1 g2 h1 h2 n12 oX obX
                clear hX kyx hy oa ob KY oX obX g1 g2 hx1 X1 X2
                go_simp
                refine hKq.out _ _ (MK.out _ (KX.setCell h1 _)) (fun hN => ?_)
                clear hKq K hH KQ
                have hH := hN
                clear hN
                have KQ := hH.2.out
                try simp only [Act.put, List.setIfInBounds_toArray, List.set_cons_zero, List.set_cons_succ]
                refine wpAnyH_ready (rs := [11]) (by kernel_rfl) (by simp) ?_
                refine AllReadyH.cons (o := { dst := none, op := Op.store 24 (Operand.tmp 14) (Operand.tmp 56), type := 0, pos := "law.go:145", after := #[{ on := 9, ground := Ground.data }, { on := 7, ground := Ground.data }, { on := 10, ground := Ground.chain }, { on := 0, ground := Ground.phase }, { on := 1, ground := Ground.phase }, { on := 2, ground := Ground.phase }, { on := 3, ground := Ground.phase }, { on := 4, ground := Ground.phase }, { on := 5, ground := Ground.phase }, { on := 6, ground := Ground.phase }, { on := 7, ground := Ground.phase }, { on := 8, ground := Ground.phase }, { on := 9, ground := Ground.phase }, { on := 10, ground := Ground.phase }], guard := none }) rfl (fun K hKq => ?_) AllReadyH.nil
                go_simp
                refine hKq.out _ _ (MK.out _ ((KX.setCell h1 _).setCell h2 _)) (fun hN => ?_)
                clear hKq K hH KQ
                have hH := hN
                clear hN
                have KQ := hH.2.out
                try simp only [Act.put, List.setIfInBounds_toArray, List.set_cons_zero, List.set_cons_succ]
                refine wpAnyH_done (by kernel_rfl) ?_ _
                refine NoPanic.normal ?_
                go_wp2_with fail
                go_meet
                case rel => exact ⟨_, _, c, d, rfl, rfl, FIN.out⟩
              exact AllReadyH.nil
            refine AllReadyH.cons (o := { dst := some 14, op := Op.alloc 24, type := 0, pos := "law.go:145", after := #[], guard := none }) rfl (fun K hKq => ?_) ?_
            ·
              go_simp
              refine hKq.out _ _ (MK.out _ (by first | exact KQ.alloc _ | exact (Kp.alloc (Kp.refl _) _).drew | exact (Kp.alloc (Kp.alloc (Kp.refl _) _) _).drew)) (fun hN => ?_)
              clear hKq K hH KQ
              have hH := hN
              clear hN
              have KQ := hH.2.out
              try simp only [Act.put, List.setIfInBounds_toArray, List.set_cons_zero, List.set_cons_succ]
              refine wpAnyH_ready (rs := [3]) (by kernel_rfl) (by simp) ?_
              refine AllReadyH.cons (o := { dst := some 53, op := Op.call { callee := Callee.value (Operand.func 15), args := #[Operand.tmp 51, Operand.const (Value.int IntKind.i64 0), Operand.tmp 52], argTypes := #[3, 3, 3] }, type := 3, pos := "law.go:145", after := #[{ on := 1, ground := Ground.data }, { on := 2, ground := Ground.data }], guard := none }) rfl (fun K hKq => ?_) AllReadyH.nil
              go_simp
              refine (within_any j 0 (k : Int) _ (by omega) (by omega) (by omega)).mono ?_
              rintro e yy ⟨rfl, rfl⟩
              rw [HP2.out]
              refine hKq.out _ _ (MK.out _ KQ) (fun hN => ?_)
              clear hKq K hH KQ
              have hH := hN
              clear hN
              have KQ := hH.2.out
              try simp only [Act.put, List.setIfInBounds_toArray, List.set_cons_zero, List.set_cons_succ]
              refine wpAnyH_ready (rs := [4]) (by kernel_rfl) (by simp) ?_
              refine AllReadyH.cons (o := { dst := some 54, op := Op.call { callee := Callee.value (Operand.func 10), args := #[Operand.tmp 50, Operand.tmp 53], argTypes := #[24, 3] }, type := 30, pos := "law.go:145", after := #[{ on := 0, ground := Ground.data }, { on := 3, ground := Ground.data }, { on := 3, ground := Ground.chain }], guard := none }) rfl (fun K hKq => ?_) AllReadyH.nil
              go_simp
              refine (split_ok r xs (p2 : Int) _ (Ok.kp F2.out.1 KQ) (by have := LX.out.1; omega) LX.out.2).mono ?_
              rintro e y ⟨c, d, rfl, oa, ob, kq⟩
              rw [Int.toNat_natCast] at oa ob
              have X1 := bl_kp (show (((W2.alloc (.cells #[.pointer none] 24)).alloc (.cells #[.pointer none] 24)).drew).heap[W2.heap.size]? = _ from bl_alloc (last_of _ _) _) kq
              have X2 := bl_kp (show (((W2.alloc (.cells #[.pointer none] 24)).alloc (.cells #[.pointer none] 24)).drew).heap[W2.heap.size + 1]? = _ from last_at _ _ _ (by simp)) kq
              have KY : Kp W2 y := KQ.trans kq
              refine hKq.out _ _ (MK.out _ KY) (fun hN => ?_)
              clear kq
              clear hKq K hH KQ
              have hH := hN
              clear hN
              have KQ := hH.2.out
              try simp only [Act.put, List.setIfInBounds_toArray, List.set_cons_zero, List.set_cons_succ]
              refine wpAnyH_take (i := 5) (oi := { dst := some 49, op := Op.move (Operand.tmp 54), type := 30, pos := "law.go:145", after := #[{ on := 4, ground := Ground.data }], guard := none }) (v := ?v5u25) rfl (by kernel_rfl) (by kernel_rfl) (by kernel_rfl) (fun _ _ _ h => h) (Or.inl ⟨by rfl, ?hy5u25⟩) hH ?r5u25
              case hy5u25 => (intro W hSw; (try dsimp only at hSw); go_simp; try (with_reducible rfl))
              try simp only [Act.put, List.setIfInBounds_toArray, List.set_cons_zero, List.set_cons_succ]
              refine wpAnyH_take (i := 6) (oi := { dst := some 55, op := Op.extract (Operand.tmp 49) 0, type := 24, pos := "law.go:145", after := #[{ on := 5, ground := Ground.data }], guard := none }) (v := ?v6u26) rfl (by kernel_rfl) (by kernel_rfl) (by kernel_rfl) (fun _ _ _ h => h) (Or.inl ⟨by rfl, ?hy6u26⟩) hH ?r6u26
              case hy6u26 => (intro W hSw; (try dsimp only at hSw); go_simp; try (with_reducible rfl))
              try simp only [Act.put, List.setIfInBounds_toArray, List.set_cons_zero, List.set_cons_succ]
              refine wpAnyH_take (i := 7) (oi := { dst := some 56, op := Op.extract (Operand.tmp 49) 1, type := 24, pos := "law.go:145", after := #[{ on := 5, ground := Ground.data }, { on := 10, ground := Ground.gcOnly Departure.lateStores }], guard := none }) (v := ?v7u27) rfl (by kernel_rfl) (by kernel_rfl) (by kernel_rfl) (fun _ _ _ h => h) (Or.inl ⟨by rfl, ?hy7u27⟩) hH ?r7u27
              case hy7u27 => (intro W hSw; (try dsimp only at hSw); go_simp; try (with_reducible rfl))
              try simp only [Act.put, List.setIfInBounds_toArray, List.set_cons_zero, List.set_cons_succ]
              refine wpAnyH_ready (rs := [10]) (by kernel_rfl) (by simp) ?_
              refine AllReadyH.cons (o := { dst := none, op := Op.store 24 (Operand.tmp 13) (Operand.tmp 55), type := 0, pos := "law.go:145", after := #[{ on := 8, ground := Ground.data }, { on := 6, ground := Ground.data }, { on := 4, ground := Ground.chain }, { on := 0, ground := Ground.phase }, { on := 1, ground := Ground.phase }, { on := 2, ground := Ground.phase }, { on := 3, ground := Ground.phase }, { on := 4, ground := Ground.phase }, { on := 5, ground := Ground.phase }, { on := 6, ground := Ground.phase }, { on := 7, ground := Ground.textOnly Departure.lateStores }, { on := 8, ground := Ground.phase }, { on := 9, ground := Ground.phase }], guard := none }) rfl (fun K hKq => ?_) AllReadyH.nil
              obtain ⟨X, hX⟩ : ∃ X, y = X := ⟨_, rfl⟩
              have g1 : X.heap[W2.heap.size]? = some (.cells #[.pointer none] 24) := by subst hX; exact X1
              have g2 : X.heap[(W2.heap.size + 1)]? = some (.cells #[.pointer none] 24) := by subst hX; exact X2
              have kyx : Kp y X := by subst hX; exact Kp.refl y
              have hy := KY.size
              have hx1 := bl_lt X1
              have h1 : W2.heap.size ≤ W2.heap.size := by omega
              have h2 : W2.heap.size ≤ (W2.heap.size + 1) := by omega
              have n12 : W2.heap.size ≠ (W2.heap.size + 1) := by omega
              have n21 : (W2.heap.size + 1) ≠ W2.heap.size := by omega
              rw [hX] at hH ⊢
              have oX := oa.kp kyx
              have obX := ob.kp kyx
              have KX : Kp W2 X := KY.trans kyx
              have e1 := bl_cell g1 0 (.pointer none) rfl
              have e2 := bl_cell g2 0 (.pointer none) rfl
              have f1 := bl_frozen g1 0
              have f2 := bl_frozen g2 0
              have FIN : Hid (_ ∧ _ ∧ _ ∧ _ ∧ _) := fin2 KX g1 g2 h1 h2 n12 oX obX
              clear hX kyx hy oa ob KY oX obX g1 g2 hx1 X1 X2
              go_simp
              refine hKq.out _ _ (MK.out _ (KX.setCell h1 _)) (fun hN => ?_)
              clear hKq K hH KQ
              have hH := hN
              clear hN
              have KQ := hH.2.out
              try simp only [Act.put, List.setIfInBounds_toArray, List.set_cons_zero, List.set_cons_succ]
              refine wpAnyH_ready (rs := [11]) (by kernel_rfl) (by simp) ?_
              refine AllReadyH.cons (o := { dst := none, op := Op.store 24 (Operand.tmp 14) (Operand.tmp 56), type := 0, pos := "law.go:145", after := #[{ on := 9, ground := Ground.data }, { on := 7, ground := Ground.data }, { on := 10, ground := Ground.chain }, { on := 0, ground := Ground.phase }, { on := 1, ground := Ground.phase }, { on := 2, ground := Ground.phase }, { on := 3, ground := Ground.phase }, { on := 4, ground := Ground.phase }, { on := 5, ground := Ground.phase }, { on := 6, ground := Ground.phase }, { on := 7, ground := Ground.phase }, { on := 8, ground := Ground.phase }, { on := 9, ground := Ground.phase }, { on := 10, ground := Ground.phase }], guard := none }) rfl (fun K hKq => ?_) AllReadyH.nil
              go_simp
              refine hKq.out _ _ (MK.out _ ((KX.setCell h1 _).setCell h2 _)) (fun hN => ?_)
              clear hKq K hH KQ
              have hH := hN
              clear hN
              have KQ := hH.2.out
              try simp only [Act.put, List.setIfInBounds_toArray, List.set_cons_zero, List.set_cons_succ]
              refine wpAnyH_done (by kernel_rfl) ?_ _
              refine NoPanic.normal ?_
              go_wp2_with fail
              go_meet
              case rel => exact ⟨_, _, c, d, rfl, rfl, FIN.out⟩
            exact AllReadyH.nil
          refine AllReadyH.cons (o := { dst := some 14, op := Op.alloc 24, type := 0, pos := "law.go:145", after := #[], guard := none }) rfl (fun K hKq => ?_) ?_
          ·
            go_simp
            refine hKq.out _ _ (MK.out _ (by first | exact KQ.alloc _ | exact (Kp.alloc (Kp.refl _) _).drew | exact (Kp.alloc (Kp.alloc (Kp.refl _) _) _).drew)) (fun hN => ?_)
            clear hKq K hH KQ
            have hH := hN
            clear hN
            have KQ := hH.2.out
            try simp only [Act.put, List.setIfInBounds_toArray, List.set_cons_zero, List.set_cons_succ]
            refine wpAnyH_ready (rs := [3, 8]) (by kernel_rfl) (by simp) ?_
            refine AllReadyH.cons (o := { dst := some 53, op := Op.call { callee := Callee.value (Operand.func 15), args := #[Operand.tmp 51, Operand.const (Value.int IntKind.i64 0), Operand.tmp 52], argTypes := #[3, 3, 3] }, type := 3, pos := "law.go:145", after := #[{ on := 1, ground := Ground.data }, { on := 2, ground := Ground.data }], guard := none }) rfl (fun K hKq => ?_) ?_
            ·
              go_simp
              refine (within_any j 0 (k : Int) _ (by omega) (by omega) (by omega)).mono ?_
              rintro e yy ⟨rfl, rfl⟩
              rw [HP2.out]
              refine hKq.out _ _ (MK.out _ KQ) (fun hN => ?_)
              clear hKq K hH KQ
              have hH := hN
              clear hN
              have KQ := hH.2.out
              try simp only [Act.put, List.setIfInBounds_toArray, List.set_cons_zero, List.set_cons_succ]
              refine wpAnyH_ready (rs := [4, 8]) (by kernel_rfl) (by simp) ?_
              refine AllReadyH.cons (o := { dst := some 54, op := Op.call { callee := Callee.value (Operand.func 10), args := #[Operand.tmp 50, Operand.tmp 53], argTypes := #[24, 3] }, type := 30, pos := "law.go:145", after := #[{ on := 0, ground := Ground.data }, { on := 3, ground := Ground.data }, { on := 3, ground := Ground.chain }], guard := none }) rfl (fun K hKq => ?_) ?_
              ·
                go_simp
                refine (split_ok r xs (p2 : Int) _ (Ok.kp F2.out.1 KQ) (by have := LX.out.1; omega) LX.out.2).mono ?_
                rintro e y ⟨c, d, rfl, oa, ob, kq⟩
                rw [Int.toNat_natCast] at oa ob
                have X1 := bl_kp (last_drew W2 _) kq
                have KY : Kp W2 y := KQ.trans kq
                refine hKq.out _ _ (MK.out _ KY) (fun hN => ?_)
                clear kq
                clear hKq K hH KQ
                have hH := hN
                clear hN
                have KQ := hH.2.out
                try simp only [Act.put, List.setIfInBounds_toArray, List.set_cons_zero, List.set_cons_succ]
                refine wpAnyH_take (i := 5) (oi := { dst := some 49, op := Op.move (Operand.tmp 54), type := 30, pos := "law.go:145", after := #[{ on := 4, ground := Ground.data }], guard := none }) (v := ?v5u28) rfl (by kernel_rfl) (by kernel_rfl) (by kernel_rfl) (fun _ _ _ h => h) (Or.inl ⟨by rfl, ?hy5u28⟩) hH ?r5u28
                case hy5u28 => (intro W hSw; (try dsimp only at hSw); go_simp; try (with_reducible rfl))
                try simp only [Act.put, List.setIfInBounds_toArray, List.set_cons_zero, List.set_cons_succ]
                refine wpAnyH_take (i := 6) (oi := { dst := some 55, op := Op.extract (Operand.tmp 49) 0, type := 24, pos := "law.go:145", after := #[{ on := 5, ground := Ground.data }], guard := none }) (v := ?v6u29) rfl (by kernel_rfl) (by kernel_rfl) (by kernel_rfl) (fun _ _ _ h => h) (Or.inl ⟨by rfl, ?hy6u29⟩) hH ?r6u29
                case hy6u29 => (intro W hSw; (try dsimp only at hSw); go_simp; try (with_reducible rfl))
                try simp only [Act.put, List.setIfInBounds_toArray, List.set_cons_zero, List.set_cons_succ]
                refine wpAnyH_take (i := 7) (oi := { dst := some 56, op := Op.extract (Operand.tmp 49) 1, type := 24, pos := "law.go:145", after := #[{ on := 5, ground := Ground.data }, { on := 10, ground := Ground.gcOnly Departure.lateStores }], guard := none }) (v := ?v7u30) rfl (by kernel_rfl) (by kernel_rfl) (by kernel_rfl) (fun _ _ _ h => h) (Or.inl ⟨by rfl, ?hy7u30⟩) hH ?r7u30
                case hy7u30 => (intro W hSw; (try dsimp only at hSw); go_simp; try (with_reducible rfl))
                try simp only [Act.put, List.setIfInBounds_toArray, List.set_cons_zero, List.set_cons_succ]
                refine wpAnyH_ready (rs := [8]) (by kernel_rfl) (by simp) ?_
                refine AllReadyH.cons (o := { dst := some 13, op := Op.alloc 24, type := 0, pos := "law.go:145", after := #[], guard := none }) rfl (fun K hKq => ?_) AllReadyH.nil
                go_simp
                refine hKq.out _ _ (MK.out _ (by first | exact KQ.alloc _ | exact (Kp.alloc (Kp.refl _) _).drew | exact (Kp.alloc (Kp.alloc (Kp.refl _) _) _).drew)) (fun hN => ?_)
                clear hKq K hH KQ
                have hH := hN
                clear hN
                have KQ := hH.2.out
                try simp only [Act.put, List.setIfInBounds_toArray, List.set_cons_zero, List.set_cons_succ]
                refine wpAnyH_ready (rs := [10]) (by kernel_rfl) (by simp) ?_
                refine AllReadyH.cons (o := { dst := none, op := Op.store 24 (Operand.tmp 13) (Operand.tmp 55), type := 0, pos := "law.go:145", after := #[{ on := 8, ground := Ground.data }, { on := 6, ground := Ground.data }, { on := 4, ground := Ground.chain }, { on := 0, ground := Ground.phase }, { on := 1, ground := Ground.phase }, { on := 2, ground := Ground.phase }, { on := 3, ground := Ground.phase }, { on := 4, ground := Ground.phase }, { on := 5, ground := Ground.phase }, { on := 6, ground := Ground.phase }, { on := 7, ground := Ground.textOnly Departure.lateStores }, { on := 8, ground := Ground.phase }, { on := 9, ground := Ground.phase }], guard := none }) rfl (fun K hKq => ?_) AllReadyH.nil
                obtain ⟨X, hX⟩ : ∃ X, y.alloc (.cells #[.pointer none] 24) = X := ⟨_, rfl⟩
                have g1 : X.heap[y.heap.size]? = some (.cells #[.pointer none] 24) := by subst hX; exact last_of _ _
                have g2 : X.heap[W2.heap.size]? = some (.cells #[.pointer none] 24) := by subst hX; exact (bl_alloc X1 _)
                have kyx : Kp y X := by subst hX; exact (Kp.refl y).alloc _
                have hy := KY.size
                have hx1 := bl_lt X1
                have h1 : W2.heap.size ≤ y.heap.size := by omega
                have h2 : W2.heap.size ≤ W2.heap.size := by omega
                have n12 : y.heap.size ≠ W2.heap.size := by omega
                have n21 : W2.heap.size ≠ y.heap.size := by omega
                rw [hX] at hH ⊢
                have oX := oa.kp kyx
                have obX := ob.kp kyx
                have KX : Kp W2 X := KY.trans kyx
                have e1 := bl_cell g1 0 (.pointer none) rfl
                have e2 := bl_cell g2 0 (.pointer none) rfl
                have f1 := bl_frozen g1 0
                have f2 := bl_frozen g2 0
                have FIN : Hid (_ ∧ _ ∧ _ ∧ _ ∧ _) := fin2 KX g1 g2 h1 h2 n12 oX obX
                clear hX kyx hy oa ob KY oX obX g1 g2 hx1 X1
                go_simp
                refine hKq.out _ _ (MK.out _ (KX.setCell h1 _)) (fun hN => ?_)
                clear hKq K hH KQ
                have hH := hN
                clear hN
                have KQ := hH.2.out
                try simp only [Act.put, List.setIfInBounds_toArray, List.set_cons_zero, List.set_cons_succ]
                refine wpAnyH_ready (rs := [11]) (by kernel_rfl) (by simp) ?_
                refine AllReadyH.cons (o := { dst := none, op := Op.store 24 (Operand.tmp 14) (Operand.tmp 56), type := 0, pos := "law.go:145", after := #[{ on := 9, ground := Ground.data }, { on := 7, ground := Ground.data }, { on := 10, ground := Ground.chain }, { on := 0, ground := Ground.phase }, { on := 1, ground := Ground.phase }, { on := 2, ground := Ground.phase }, { on := 3, ground := Ground.phase }, { on := 4, ground := Ground.phase }, { on := 5, ground := Ground.phase }, { on := 6, ground := Ground.phase }, { on := 7, ground := Ground.phase }, { on := 8, ground := Ground.phase }, { on := 9, ground := Ground.phase }, { on := 10, ground := Ground.phase }], guard := none }) rfl (fun K hKq => ?_) AllReadyH.nil
                go_simp
                refine hKq.out _ _ (MK.out _ ((KX.setCell h1 _).setCell h2 _)) (fun hN => ?_)
                clear hKq K hH KQ
                have hH := hN
                clear hN
                have KQ := hH.2.out
                try simp only [Act.put, List.setIfInBounds_toArray, List.set_cons_zero, List.set_cons_succ]
                refine wpAnyH_done (by kernel_rfl) ?_ _
                refine NoPanic.normal ?_
                go_wp2_with fail
                go_meet
                case rel => exact ⟨_, _, c, d, rfl, rfl, FIN.out⟩
              refine AllReadyH.cons (o := { dst := some 13, op := Op.alloc 24, type := 0, pos := "law.go:145", after := #[], guard := none }) rfl (fun K hKq => ?_) ?_
              ·
                go_simp
                refine hKq.out _ _ (MK.out _ (by first | exact KQ.alloc _ | exact (Kp.alloc (Kp.refl _) _).drew | exact (Kp.alloc (Kp.alloc (Kp.refl _) _) _).drew)) (fun hN => ?_)
                clear hKq K hH KQ
                have hH := hN
                clear hN
                have KQ := hH.2.out
                try simp only [Act.put, List.setIfInBounds_toArray, List.set_cons_zero, List.set_cons_succ]
                refine wpAnyH_ready (rs := [4]) (by kernel_rfl) (by simp) ?_
                refine AllReadyH.cons (o := { dst := some 54, op := Op.call { callee := Callee.value (Operand.func 10), args := #[Operand.tmp 50, Operand.tmp 53], argTypes := #[24, 3] }, type := 30, pos := "law.go:145", after := #[{ on := 0, ground := Ground.data }, { on := 3, ground := Ground.data }, { on := 3, ground := Ground.chain }], guard := none }) rfl (fun K hKq => ?_) AllReadyH.nil
                go_simp
                refine (split_ok r xs (p2 : Int) _ (Ok.kp F2.out.1 KQ) (by have := LX.out.1; omega) LX.out.2).mono ?_
                rintro e y ⟨c, d, rfl, oa, ob, kq⟩
                rw [Int.toNat_natCast] at oa ob
                have X1 := bl_kp (show (((W2.alloc (.cells #[.pointer none] 24)).alloc (.cells #[.pointer none] 24)).drew).heap[W2.heap.size]? = _ from bl_alloc (last_of _ _) _) kq
                have X2 := bl_kp (show (((W2.alloc (.cells #[.pointer none] 24)).alloc (.cells #[.pointer none] 24)).drew).heap[W2.heap.size + 1]? = _ from last_at _ _ _ (by simp)) kq
                have KY : Kp W2 y := KQ.trans kq
                refine hKq.out _ _ (MK.out _ KY) (fun hN => ?_)
                clear kq
                clear hKq K hH KQ
                have hH := hN
                clear hN
                have KQ := hH.2.out
                try simp only [Act.put, List.setIfInBounds_toArray, List.set_cons_zero, List.set_cons_succ]
                refine wpAnyH_take (i := 5) (oi := { dst := some 49, op := Op.move (Operand.tmp 54), type := 30, pos := "law.go:145", after := #[{ on := 4, ground := Ground.data }], guard := none }) (v := ?v5u31) rfl (by kernel_rfl) (by kernel_rfl) (by kernel_rfl) (fun _ _ _ h => h) (Or.inl ⟨by rfl, ?hy5u31⟩) hH ?r5u31
                case hy5u31 => (intro W hSw; (try dsimp only at hSw); go_simp; try (with_reducible rfl))
                try simp only [Act.put, List.setIfInBounds_toArray, List.set_cons_zero, List.set_cons_succ]
                refine wpAnyH_take (i := 6) (oi := { dst := some 55, op := Op.extract (Operand.tmp 49) 0, type := 24, pos := "law.go:145", after := #[{ on := 5, ground := Ground.data }], guard := none }) (v := ?v6u32) rfl (by kernel_rfl) (by kernel_rfl) (by kernel_rfl) (fun _ _ _ h => h) (Or.inl ⟨by rfl, ?hy6u32⟩) hH ?r6u32
                case hy6u32 => (intro W hSw; (try dsimp only at hSw); go_simp; try (with_reducible rfl))
                try simp only [Act.put, List.setIfInBounds_toArray, List.set_cons_zero, List.set_cons_succ]
                refine wpAnyH_take (i := 7) (oi := { dst := some 56, op := Op.extract (Operand.tmp 49) 1, type := 24, pos := "law.go:145", after := #[{ on := 5, ground := Ground.data }, { on := 10, ground := Ground.gcOnly Departure.lateStores }], guard := none }) (v := ?v7u33) rfl (by kernel_rfl) (by kernel_rfl) (by kernel_rfl) (fun _ _ _ h => h) (Or.inl ⟨by rfl, ?hy7u33⟩) hH ?r7u33
                case hy7u33 => (intro W hSw; (try dsimp only at hSw); go_simp; try (with_reducible rfl))
                try simp only [Act.put, List.setIfInBounds_toArray, List.set_cons_zero, List.set_cons_succ]
                refine wpAnyH_ready (rs := [10]) (by kernel_rfl) (by simp) ?_
                refine AllReadyH.cons (o := { dst := none, op := Op.store 24 (Operand.tmp 13) (Operand.tmp 55), type := 0, pos := "law.go:145", after := #[{ on := 8, ground := Ground.data }, { on := 6, ground := Ground.data }, { on := 4, ground := Ground.chain }, { on := 0, ground := Ground.phase }, { on := 1, ground := Ground.phase }, { on := 2, ground := Ground.phase }, { on := 3, ground := Ground.phase }, { on := 4, ground := Ground.phase }, { on := 5, ground := Ground.phase }, { on := 6, ground := Ground.phase }, { on := 7, ground := Ground.textOnly Departure.lateStores }, { on := 8, ground := Ground.phase }, { on := 9, ground := Ground.phase }], guard := none }) rfl (fun K hKq => ?_) AllReadyH.nil
                obtain ⟨X, hX⟩ : ∃ X, y = X := ⟨_, rfl⟩
                have g1 : X.heap[(W2.heap.size + 1)]? = some (.cells #[.pointer none] 24) := by subst hX; exact X2
                have g2 : X.heap[W2.heap.size]? = some (.cells #[.pointer none] 24) := by subst hX; exact X1
                have kyx : Kp y X := by subst hX; exact Kp.refl y
                have hy := KY.size
                have hx1 := bl_lt X1
                have h1 : W2.heap.size ≤ (W2.heap.size + 1) := by omega
                have h2 : W2.heap.size ≤ W2.heap.size := by omega
                have n12 : (W2.heap.size + 1) ≠ W2.heap.size := by omega
                have n21 : W2.heap.size ≠ (W2.heap.size + 1) := by omega
                rw [hX] at hH ⊢
                have oX := oa.kp kyx
                have obX := ob.kp kyx
                have KX : Kp W2 X := KY.trans kyx
                have e1 := bl_cell g1 0 (.pointer none) rfl
                have e2 := bl_cell g2 0 (.pointer none) rfl
                have f1 := bl_frozen g1 0
                have f2 := bl_frozen g2 0
                have FIN : Hid (_ ∧ _ ∧ _ ∧ _ ∧ _) := fin2 KX g1 g2 h1 h2 n12 oX obX
                clear hX kyx hy oa ob KY oX obX g1 g2 hx1 X1 X2
                go_simp
                refine hKq.out _ _ (MK.out _ (KX.setCell h1 _)) (fun hN => ?_)
                clear hKq K hH KQ
                have hH := hN
                clear hN
                have KQ := hH.2.out
                try simp only [Act.put, List.setIfInBounds_toArray, List.set_cons_zero, List.set_cons_succ]
                refine wpAnyH_ready (rs := [11]) (by kernel_rfl) (by simp) ?_
                refine AllReadyH.cons (o := { dst := none, op := Op.store 24 (Operand.tmp 14) (Operand.tmp 56), type := 0, pos := "law.go:145", after := #[{ on := 9, ground := Ground.data }, { on := 7, ground := Ground.data }, { on := 10, ground := Ground.chain }, { on := 0, ground := Ground.phase }, { on := 1, ground := Ground.phase }, { on := 2, ground := Ground.phase }, { on := 3, ground := Ground.phase }, { on := 4, ground := Ground.phase }, { on := 5, ground := Ground.phase }, { on := 6, ground := Ground.phase }, { on := 7, ground := Ground.phase }, { on := 8, ground := Ground.phase }, { on := 9, ground := Ground.phase }, { on := 10, ground := Ground.phase }], guard := none }) rfl (fun K hKq => ?_) AllReadyH.nil
                go_simp
                refine hKq.out _ _ (MK.out _ ((KX.setCell h1 _).setCell h2 _)) (fun hN => ?_)
                clear hKq K hH KQ
                have hH := hN
                clear hN
                have KQ := hH.2.out
                try simp only [Act.put, List.setIfInBounds_toArray, List.set_cons_zero, List.set_cons_succ]
                refine wpAnyH_done (by kernel_rfl) ?_ _
                refine NoPanic.normal ?_
                go_wp2_with fail
                go_meet
                case rel => exact ⟨_, _, c, d, rfl, rfl, FIN.out⟩
              exact AllReadyH.nil
            refine AllReadyH.cons (o := { dst := some 13, op := Op.alloc 24, type := 0, pos := "law.go:145", after := #[], guard := none }) rfl (fun K hKq => ?_) ?_
            ·
              go_simp
              refine hKq.out _ _ (MK.out _ (by first | exact KQ.alloc _ | exact (Kp.alloc (Kp.refl _) _).drew | exact (Kp.alloc (Kp.alloc (Kp.refl _) _) _).drew)) (fun hN => ?_)
              clear hKq K hH KQ
              have hH := hN
              clear hN
              have KQ := hH.2.out
              try simp only [Act.put, List.setIfInBounds_toArray, List.set_cons_zero, List.set_cons_succ]
              refine wpAnyH_ready (rs := [3]) (by kernel_rfl) (by simp) ?_
              refine AllReadyH.cons (o := { dst := some 53, op := Op.call { callee := Callee.value (Operand.func 15), args := #[Operand.tmp 51, Operand.const (Value.int IntKind.i64 0), Operand.tmp 52], argTypes := #[3, 3, 3] }, type := 3, pos := "law.go:145", after := #[{ on := 1, ground := Ground.data }, { on := 2, ground := Ground.data }], guard := none }) rfl (fun K hKq => ?_) AllReadyH.nil
              go_simp
              refine (within_any j 0 (k : Int) _ (by omega) (by omega) (by omega)).mono ?_
              rintro e yy ⟨rfl, rfl⟩
              rw [HP2.out]
              refine hKq.out _ _ (MK.out _ KQ) (fun hN => ?_)
              clear hKq K hH KQ
              have hH := hN
              clear hN
              have KQ := hH.2.out
              try simp only [Act.put, List.setIfInBounds_toArray, List.set_cons_zero, List.set_cons_succ]
              refine wpAnyH_ready (rs := [4]) (by kernel_rfl) (by simp) ?_
              refine AllReadyH.cons (o := { dst := some 54, op := Op.call { callee := Callee.value (Operand.func 10), args := #[Operand.tmp 50, Operand.tmp 53], argTypes := #[24, 3] }, type := 30, pos := "law.go:145", after := #[{ on := 0, ground := Ground.data }, { on := 3, ground := Ground.data }, { on := 3, ground := Ground.chain }], guard := none }) rfl (fun K hKq => ?_) AllReadyH.nil
              go_simp
              refine (split_ok r xs (p2 : Int) _ (Ok.kp F2.out.1 KQ) (by have := LX.out.1; omega) LX.out.2).mono ?_
              rintro e y ⟨c, d, rfl, oa, ob, kq⟩
              rw [Int.toNat_natCast] at oa ob
              have X1 := bl_kp (show (((W2.alloc (.cells #[.pointer none] 24)).alloc (.cells #[.pointer none] 24)).drew).heap[W2.heap.size]? = _ from bl_alloc (last_of _ _) _) kq
              have X2 := bl_kp (show (((W2.alloc (.cells #[.pointer none] 24)).alloc (.cells #[.pointer none] 24)).drew).heap[W2.heap.size + 1]? = _ from last_at _ _ _ (by simp)) kq
              have KY : Kp W2 y := KQ.trans kq
              refine hKq.out _ _ (MK.out _ KY) (fun hN => ?_)
              clear kq
              clear hKq K hH KQ
              have hH := hN
              clear hN
              have KQ := hH.2.out
              try simp only [Act.put, List.setIfInBounds_toArray, List.set_cons_zero, List.set_cons_succ]
              refine wpAnyH_take (i := 5) (oi := { dst := some 49, op := Op.move (Operand.tmp 54), type := 30, pos := "law.go:145", after := #[{ on := 4, ground := Ground.data }], guard := none }) (v := ?v5u34) rfl (by kernel_rfl) (by kernel_rfl) (by kernel_rfl) (fun _ _ _ h => h) (Or.inl ⟨by rfl, ?hy5u34⟩) hH ?r5u34
              case hy5u34 => (intro W hSw; (try dsimp only at hSw); go_simp; try (with_reducible rfl))
              try simp only [Act.put, List.setIfInBounds_toArray, List.set_cons_zero, List.set_cons_succ]
              refine wpAnyH_take (i := 6) (oi := { dst := some 55, op := Op.extract (Operand.tmp 49) 0, type := 24, pos := "law.go:145", after := #[{ on := 5, ground := Ground.data }], guard := none }) (v := ?v6u35) rfl (by kernel_rfl) (by kernel_rfl) (by kernel_rfl) (fun _ _ _ h => h) (Or.inl ⟨by rfl, ?hy6u35⟩) hH ?r6u35
              case hy6u35 => (intro W hSw; (try dsimp only at hSw); go_simp; try (with_reducible rfl))
              try simp only [Act.put, List.setIfInBounds_toArray, List.set_cons_zero, List.set_cons_succ]
              refine wpAnyH_take (i := 7) (oi := { dst := some 56, op := Op.extract (Operand.tmp 49) 1, type := 24, pos := "law.go:145", after := #[{ on := 5, ground := Ground.data }, { on := 10, ground := Ground.gcOnly Departure.lateStores }], guard := none }) (v := ?v7u36) rfl (by kernel_rfl) (by kernel_rfl) (by kernel_rfl) (fun _ _ _ h => h) (Or.inl ⟨by rfl, ?hy7u36⟩) hH ?r7u36
              case hy7u36 => (intro W hSw; (try dsimp only at hSw); go_simp; try (with_reducible rfl))
              try simp only [Act.put, List.setIfInBounds_toArray, List.set_cons_zero, List.set_cons_succ]
              refine wpAnyH_ready (rs := [10]) (by kernel_rfl) (by simp) ?_
              refine AllReadyH.cons (o := { dst := none, op := Op.store 24 (Operand.tmp 13) (Operand.tmp 55), type := 0, pos := "law.go:145", after := #[{ on := 8, ground := Ground.data }, { on := 6, ground := Ground.data }, { on := 4, ground := Ground.chain }, { on := 0, ground := Ground.phase }, { on := 1, ground := Ground.phase }, { on := 2, ground := Ground.phase }, { on := 3, ground := Ground.phase }, { on := 4, ground := Ground.phase }, { on := 5, ground := Ground.phase }, { on := 6, ground := Ground.phase }, { on := 7, ground := Ground.textOnly Departure.lateStores }, { on := 8, ground := Ground.phase }, { on := 9, ground := Ground.phase }], guard := none }) rfl (fun K hKq => ?_) AllReadyH.nil
              obtain ⟨X, hX⟩ : ∃ X, y = X := ⟨_, rfl⟩
              have g1 : X.heap[(W2.heap.size + 1)]? = some (.cells #[.pointer none] 24) := by subst hX; exact X2
              have g2 : X.heap[W2.heap.size]? = some (.cells #[.pointer none] 24) := by subst hX; exact X1
              have kyx : Kp y X := by subst hX; exact Kp.refl y
              have hy := KY.size
              have hx1 := bl_lt X1
              have h1 : W2.heap.size ≤ (W2.heap.size + 1) := by omega
              have h2 : W2.heap.size ≤ W2.heap.size := by omega
              have n12 : (W2.heap.size + 1) ≠ W2.heap.size := by omega
              have n21 : W2.heap.size ≠ (W2.heap.size + 1) := by omega
              rw [hX] at hH ⊢
              have oX := oa.kp kyx
              have obX := ob.kp kyx
              have KX : Kp W2 X := KY.trans kyx
              have e1 := bl_cell g1 0 (.pointer none) rfl
              have e2 := bl_cell g2 0 (.pointer none) rfl
              have f1 := bl_frozen g1 0
              have f2 := bl_frozen g2 0
              have FIN : Hid (_ ∧ _ ∧ _ ∧ _ ∧ _) := fin2 KX g1 g2 h1 h2 n12 oX obX
              clear hX kyx hy oa ob KY oX obX g1 g2 hx1 X1 X2
              go_simp
              refine hKq.out _ _ (MK.out _ (KX.setCell h1 _)) (fun hN => ?_)
              clear hKq K hH KQ
              have hH := hN
              clear hN
              have KQ := hH.2.out
              try simp only [Act.put, List.setIfInBounds_toArray, List.set_cons_zero, List.set_cons_succ]
              refine wpAnyH_ready (rs := [11]) (by kernel_rfl) (by simp) ?_
              refine AllReadyH.cons (o := { dst := none, op := Op.store 24 (Operand.tmp 14) (Operand.tmp 56), type := 0, pos := "law.go:145", after := #[{ on := 9, ground := Ground.data }, { on := 7, ground := Ground.data }, { on := 10, ground := Ground.chain }, { on := 0, ground := Ground.phase }, { on := 1, ground := Ground.phase }, { on := 2, ground := Ground.phase }, { on := 3, ground := Ground.phase }, { on := 4, ground := Ground.phase }, { on := 5, ground := Ground.phase }, { on := 6, ground := Ground.phase }, { on := 7, ground := Ground.phase }, { on := 8, ground := Ground.phase }, { on := 9, ground := Ground.phase }, { on := 10, ground := Ground.phase }], guard := none }) rfl (fun K hKq => ?_) AllReadyH.nil
              go_simp
              refine hKq.out _ _ (MK.out _ ((KX.setCell h1 _).setCell h2 _)) (fun hN => ?_)
              clear hKq K hH KQ
              have hH := hN
              clear hN
              have KQ := hH.2.out
              try simp only [Act.put, List.setIfInBounds_toArray, List.set_cons_zero, List.set_cons_succ]
              refine wpAnyH_done (by kernel_rfl) ?_ _
              refine NoPanic.normal ?_
              go_wp2_with fail
              go_meet
              case rel => exact ⟨_, _, c, d, rfl, rfl, FIN.out⟩
            exact AllReadyH.nil
          exact AllReadyH.nil
        case rest =>
          obtain ⟨S3, S4, c, d, rfl, rfl, vc, vd, oc, od, k3⟩ := hcut
          rename World => W3
          have F3 : Hid (Ok W3 r xs ∧ Vr W3 w1.heap.size r ∧ Sl W3 (.slice ad k cp) xs ∧ Kp w W3) := ⟨F2.out.1.kp k3, F2.out.2.1.kp k3, F2.out.2.2.1.kp k3, F2.out.2.2.2.trans k3⟩
          have G3 : Hid (Vr W3 S1 a ∧ Vr W3 S2 b ∧ Ok W3 a (xs.take p1) ∧ Ok W3 b (xs.drop p1)) := ⟨G2.out.1.kp k3, G2.out.2.1.kp k3, G2.out.2.2.1.kp k3, G2.out.2.2.2.kp k3⟩
          have H3 : Hid (Vr W3 S3 c ∧ Vr W3 S4 d ∧ Ok W3 c (xs.take p2) ∧ Ok W3 d (xs.drop p2)) := ⟨vc, vd, oc, od⟩
          have SS : Hid (Sm (xs.take p1) ∧ Sm (xs.drop p1) ∧ Sm (xs.take p2) ∧ Sm (xs.drop p2)) := ⟨LX.out.2.sub (fun x hx => List.mem_of_mem_take hx), LX.out.2.sub (fun x hx => List.mem_of_mem_drop hx), LX.out.2.sub (fun x hx => List.mem_of_mem_take hx), LX.out.2.sub (fun x hx => List.mem_of_mem_drop hx)⟩
          have NN : Hid ((xs.take p1).length ≤ 80 ∧ (xs.drop p1).length ≤ 80 ∧ (xs.take p2).length ≤ 80 ∧ (xs.drop p2).length ≤ 80) := by
            have := LX.out.1
            simp only [List.length_take, List.length_drop]
            exact ⟨by omega, by omega, by omega, by omega⟩
          clear vc vd oc od k3 F2 G2 MK Q0
          have va := G3.out.1
          have vb := G3.out.2.1
          have MK : Hid (∀ W, Kp W3 W → W.cell? ⟨S2, 0, none⟩ = some (.pointer (pO b)) ∧ W.cell? ⟨S1, 0, none⟩ = some (.pointer (pO a)) ∧ Hid (Kp W3 W)) := fun W k => ⟨(vb.kp k).cell, (va.kp k).cell, k⟩
          clear va vb
          go_wp2_with fail
          have Q0 : Kp W3 W3.drew := (Kp.refl _).drew
          go_cut [15] (fun p wc => ∃ S5 x, p = .pointer (some ⟨S5, 0, none⟩) ∧ Vr wc S5 x ∧ Ok wc x (xs.drop p1 ++ [m1] ++ xs.take p1) ∧ Kp W3 wc)
          case first =>
            refine wp_region_noPanic ?_
            refine wp_region_held_drew (S := (fun W => W.cell? ⟨S2, 0, none⟩ = some (.pointer (pO b)) ∧ W.cell? ⟨S1, 0, none⟩ = some (.pointer (pO a)) ∧ Hid (Kp W3 W))) (by kernel_rfl) ?_ (fun hH => ?_)
            · exact MK.out _ Q0
            have KQ := Q0
            refine wpAnyH_take (i := 0) (oi := { dst := some 57, op := Op.load 24 (Operand.tmp 12), type := 24, pos := "law.go:146", after := #[], guard := none }) (v := ?v0b1) rfl (by kernel_rfl) (by kernel_rfl) (by kernel_rfl) (fun _ _ _ h => h) (Or.inl ⟨by rfl, ?hy0b1⟩) hH ?r0b1
            case hy0b1 => (intro W hSw; (try dsimp only at hSw); go_simp; try (with_reducible rfl))
            try simp only [Act.put, List.setIfInBounds_toArray, List.set_cons_zero, List.set_cons_succ]
            refine wpAnyH_take (i := 1) (oi := { dst := some 58, op := Op.build 29 #[(0, Operand.const (Value.int IntKind.i64 (-1)))], type := 29, pos := "law.go:146", after := #[], guard := none }) (v := ?v1b2) rfl (by kernel_rfl) (by kernel_rfl) (by kernel_rfl) (fun _ _ _ h => h) (Or.inl ⟨by rfl, ?hy1b2⟩) hH ?r1b2
            case hy1b2 => (intro W hSw; (try dsimp only at hSw); go_simp; try (with_reducible rfl))
            try simp only [Act.put, List.setIfInBounds_toArray, List.set_cons_zero, List.set_cons_succ]
            refine wpAnyH_take (i := 4) (oi := { dst := some 61, op := Op.load 24 (Operand.tmp 11), type := 24, pos := "law.go:146", after := #[], guard := none }) (v := ?v4b3) rfl (by kernel_rfl) (by kernel_rfl) (by kernel_rfl) (fun _ _ _ h => h) (Or.inl ⟨by rfl, ?hy4b3⟩) hH ?r4b3
            case hy4b3 => (intro W hSw; (try dsimp only at hSw); go_simp; try (with_reducible rfl))
            try simp only [Act.put, List.setIfInBounds_toArray, List.set_cons_zero, List.set_cons_succ]
            refine wpAnyH_ready (rs := [2, 7]) (by kernel_rfl) (by simp) ?_
            refine AllReadyH.cons (o := { dst := some 59, op := Op.buildSlice 32 1 #[(0, Operand.tmp 58)], type := 32, pos := "law.go:146", after := #[{ on := 1, ground := Ground.data }], guard := none }) rfl (fun K hKq => ?_) ?_
            ·
              go_simp
              refine hKq.out _ _ (MK.out _ (show Kp W3 (W3.alloc (.cells #[.int .i64 (-1), .complex .f64 0 0] 29)).drew from Kp.drew (Kp.alloc (Kp.refl W3) _))) (fun hN => ?_)
              clear hKq K hH KQ
              have hH := hN
              clear hN
              have KQ := hH.2.2.out
              try simp only [Act.put, List.setIfInBounds_toArray, List.set_cons_zero, List.set_cons_succ]
              refine wpAnyH_ready (rs := [3, 7]) (by kernel_rfl) (by simp) ?_
              refine AllReadyH.cons (o := { dst := some 60, op := Op.call { callee := Callee.value (Operand.func 8), args := #[Operand.tmp 59], argTypes := #[32] }, type := 24, pos := "law.go:146", after := #[{ on := 2, ground := Ground.data }], guard := none }) rfl (fun K hKq => ?_) ?_
              ·
                go_simp
                refine (of_ok _ [m1] _ (m1_sl (show ((W3.alloc (.cells #[.int .i64 (-1), .complex .f64 0 0] 29)).drew).heap[W3.heap.size]? = _ from last_of _ _)) (by simp) m1_sm).mono ?_
                rintro e y1 ⟨u, rfl, ou, kq⟩
                have KB : Kp W3 y1 := KQ.trans kq
                refine hKq.out _ _ (MK.out _ KB) (fun hN => ?_)
                clear kq
                clear hKq K hH KQ
                have hH := hN
                clear hN
                have KQ := hH.2.2.out
                try simp only [Act.put, List.setIfInBounds_toArray, List.set_cons_zero, List.set_cons_succ]
                refine wpAnyH_ready (rs := [5, 7]) (by kernel_rfl) (by simp) ?_
                refine AllReadyH.cons (o := { dst := some 62, op := Op.buildSlice 59 3 #[(0, Operand.tmp 57), (1, Operand.tmp 60), (2, Operand.tmp 61)], type := 59, pos := "law.go:146", after := #[{ on := 0, ground := Ground.data }, { on := 3, ground := Ground.data }, { on := 4, ground := Ground.data }], guard := none }) rfl (fun K hKq => ?_) ?_
                ·
                  go_simp
                  refine hKq.out _ _ (MK.out _ (show Kp W3 (y1.alloc (.cells #[.pointer (pO b), .pointer (pO u), .pointer (pO a)] 24)) from Kp.trans KB (Kp.alloc (Kp.refl y1) _))) (fun hN => ?_)
                  clear hKq K hH KQ
                  have hH := hN
                  clear hN
                  have KQ := hH.2.2.out
                  try simp only [Act.put, List.setIfInBounds_toArray, List.set_cons_zero, List.set_cons_succ]
                  refine wpAnyH_ready (rs := [6, 7]) (by kernel_rfl) (by simp) ?_
                  refine AllReadyH.cons (o := { dst := some 63, op := Op.call { callee := Callee.value (Operand.func 11), args := #[Operand.tmp 62], argTypes := #[59] }, type := 24, pos := "law.go:146", after := #[{ on := 5, ground := Ground.data }, { on := 3, ground := Ground.chain }], guard := none }) rfl (fun K hKq => ?_) ?_
                  ·
                    go_simp
                    have kw : Kp y1 (y1.alloc (.cells #[.pointer (pO b), .pointer (pO u), .pointer (pO a)] 24)) := Kp.alloc (Kp.refl y1) _
                    refine (join3_ok b u a _ _ _ _ _ (show ((y1.alloc (.cells #[.pointer (pO b), .pointer (pO u), .pointer (pO a)] 24))).heap[y1.heap.size]? = _ from last_of _ _) (G3.out.2.2.2.kp (KB.trans kw)) (ou.kp kw) (G3.out.2.2.1.kp (KB.trans kw)) (by have := NN.out; simp only [List.length_singleton]; omega) SS.out.2.1 m1_sm SS.out.1).mono ?_
                    rintro e y2 ⟨z, rfl, oz, kq⟩
                    have KC : Kp W3 y2 := (KB.trans kw).trans kq
                    refine hKq.out _ _ (MK.out _ KC) (fun hN => ?_)
                    clear kq kw
                    clear hKq K hH KQ
                    have hH := hN
                    clear hN
                    have KQ := hH.2.2.out
                    try simp only [Act.put, List.setIfInBounds_toArray, List.set_cons_zero, List.set_cons_succ]
                    refine wpAnyH_ready (rs := [7]) (by kernel_rfl) (by simp) ?_
                    refine AllReadyH.cons (o := { dst := some 15, op := Op.alloc 24, type := 0, pos := "law.go:146", after := #[], guard := none }) rfl (fun K hKq => ?_) AllReadyH.nil
                    go_simp
                    refine hKq.out _ _ (MK.out _ (show Kp W3 (y2.alloc (.cells #[.pointer none] 24)) from Kp.trans KC (Kp.alloc (Kp.refl y2) _))) (fun hN => ?_)
                    clear hKq K hH KQ
                    have hH := hN
                    clear hN
                    have KQ := hH.2.2.out
                    try simp only [Act.put, List.setIfInBounds_toArray, List.set_cons_zero, List.set_cons_succ]
                    refine wpAnyH_ready (rs := [8]) (by kernel_rfl) (by simp) ?_
                    refine AllReadyH.cons (o := { dst := none, op := Op.store 24 (Operand.tmp 15) (Operand.tmp 63), type := 0, pos := "law.go:146", after := #[{ on := 7, ground := Ground.data }, { on := 6, ground := Ground.data }, { on := 6, ground := Ground.chain }, { on := 0, ground := Ground.phase }, { on := 1, ground := Ground.phase }, { on := 2, ground := Ground.phase }, { on := 3, ground := Ground.phase }, { on := 4, ground := Ground.phase }, { on := 5, ground := Ground.phase }, { on := 6, ground := Ground.phase }, { on := 7, ground := Ground.phase }], guard := none }) rfl (fun K hKq => ?_) AllReadyH.nil
                    obtain ⟨X, hX⟩ : ∃ X, (y2.alloc (.cells #[.pointer none] 24)) = X := ⟨_, rfl⟩
                    have g1 : X.heap[y2.heap.size]? = some (.cells #[.pointer none] 24) := by subst hX; exact last_of _ _
                    have kyx : Kp y2 X := by subst hX; exact Kp.alloc (Kp.refl y2) _
                    rw [hX] at hH ⊢
                    have e1 := bl_cell g1 0 (.pointer none) rfl
                    have f1 := bl_frozen g1 0
                    have KX : Kp W3 X := KC.trans kyx
                    have h1 : W3.heap.size ≤ y2.heap.size := by have := KB.size; have := KC.size; omega
                    have FIN : Hid (_ ∧ _ ∧ _) := fin1 KX g1 h1 (oz.kp kyx)
                    clear hX kyx g1
                    go_simp
                    refine hKq.out _ _ (MK.out _ (KX.setCell h1 _)) (fun hN => ?_)
                    clear hKq K hH KQ
                    have hH := hN
                    clear hN
                    have KQ := hH.2.2.out
                    try simp only [Act.put, List.setIfInBounds_toArray, List.set_cons_zero, List.set_cons_succ]
                    refine wpAnyH_done (by kernel_rfl) ?_ _
                    refine NoPanic.normal ?_
                    go_wp2_with fail
                    go_meet
                    case rel => exact ⟨_, z, rfl, FIN.out⟩
                  refine AllReadyH.cons (o := { dst := some 15, op := Op.alloc 24, type := 0, pos := "law.go:146", after := #[], guard := none }) rfl (fun K hKq => ?_) ?_
                  ·
                    go_simp
                    refine hKq.out _ _ (MK.out _ (show Kp W3 ((y1.alloc (.cells #[.pointer (pO b), .pointer (pO u), .pointer (pO a)] 24)).alloc (.cells #[.pointer none] 24)) from Kp.trans KB (Kp.alloc (Kp.alloc (Kp.refl y1) _) _))) (fun hN => ?_)
                    clear hKq K hH KQ
                    have hH := hN
                    clear hN
                    have KQ := hH.2.2.out
                    try simp only [Act.put, List.setIfInBounds_toArray, List.set_cons_zero, List.set_cons_succ]
                    refine wpAnyH_ready (rs := [6]) (by kernel_rfl) (by simp) ?_
                    refine AllReadyH.cons (o := { dst := some 63, op := Op.call { callee := Callee.value (Operand.func 11), args := #[Operand.tmp 62], argTypes := #[59] }, type := 24, pos := "law.go:146", after := #[{ on := 5, ground := Ground.data }, { on := 3, ground := Ground.chain }], guard := none }) rfl (fun K hKq => ?_) AllReadyH.nil
                    go_simp
                    have kw : Kp y1 ((y1.alloc (.cells #[.pointer (pO b), .pointer (pO u), .pointer (pO a)] 24)).alloc (.cells #[.pointer none] 24)) := Kp.alloc (Kp.alloc (Kp.refl y1) _) _
                    refine (join3_ok b u a _ _ _ _ _ (show (((y1.alloc (.cells #[.pointer (pO b), .pointer (pO u), .pointer (pO a)] 24)).alloc (.cells #[.pointer none] 24))).heap[y1.heap.size]? = _ from bl_alloc (last_of _ _) _) (G3.out.2.2.2.kp (KB.trans kw)) (ou.kp kw) (G3.out.2.2.1.kp (KB.trans kw)) (by have := NN.out; simp only [List.length_singleton]; omega) SS.out.2.1 m1_sm SS.out.1).mono ?_
                    rintro e y2 ⟨z, rfl, oz, kq⟩
                    have GZ2 : y2.heap[y1.heap.size + 1]? = some (.cells #[.pointer none] 24) := bl_kp (show (((y1.alloc (.cells #[.pointer (pO b), .pointer (pO u), .pointer (pO a)] 24)).alloc (.cells #[.pointer none] 24))).heap[y1.heap.size + 1]? = _ from last_at _ _ _ (by simp)) kq
                    have KC : Kp W3 y2 := (KB.trans kw).trans kq
                    refine hKq.out _ _ (MK.out _ KC) (fun hN => ?_)
                    clear kq kw
                    clear hKq K hH KQ
                    have hH := hN
                    clear hN
                    have KQ := hH.2.2.out
                    try simp only [Act.put, List.setIfInBounds_toArray, List.set_cons_zero, List.set_cons_succ]
                    refine wpAnyH_ready (rs := [8]) (by kernel_rfl) (by simp) ?_
                    refine AllReadyH.cons (o := { dst := none, op := Op.store 24 (Operand.tmp 15) (Operand.tmp 63), type := 0, pos := "law.go:146", after := #[{ on := 7, ground := Ground.data }, { on := 6, ground := Ground.data }, { on := 6, ground := Ground.chain }, { on := 0, ground := Ground.phase }, { on := 1, ground := Ground.phase }, { on := 2, ground := Ground.phase }, { on := 3, ground := Ground.phase }, { on := 4, ground := Ground.phase }, { on := 5, ground := Ground.phase }, { on := 6, ground := Ground.phase }, { on := 7, ground := Ground.phase }], guard := none }) rfl (fun K hKq => ?_) AllReadyH.nil
                    obtain ⟨X, hX⟩ : ∃ X, y2 = X := ⟨_, rfl⟩
                    have g1 : X.heap[y1.heap.size + 1]? = some (.cells #[.pointer none] 24) := by subst hX; exact GZ2
                    have kyx : Kp y2 X := by subst hX; exact Kp.refl y2
                    rw [hX] at hH ⊢
                    have e1 := bl_cell g1 0 (.pointer none) rfl
                    have f1 := bl_frozen g1 0
                    have KX : Kp W3 X := KC.trans kyx
                    have h1 : W3.heap.size ≤ y1.heap.size + 1 := by have := KB.size; have := KC.size; omega
                    have FIN : Hid (_ ∧ _ ∧ _) := fin1 KX g1 h1 (oz.kp kyx)
                    clear hX kyx g1
                    go_simp
                    refine hKq.out _ _ (MK.out _ (KX.setCell h1 _)) (fun hN => ?_)
                    clear hKq K hH KQ
                    have hH := hN
                    clear hN
                    have KQ := hH.2.2.out
                    try simp only [Act.put, List.setIfInBounds_toArray, List.set_cons_zero, List.set_cons_succ]
                    refine wpAnyH_done (by kernel_rfl) ?_ _
                    refine NoPanic.normal ?_
                    go_wp2_with fail
                    go_meet
                    case rel => exact ⟨_, z, rfl, FIN.out⟩
                  exact AllReadyH.nil
                refine AllReadyH.cons (o := { dst := some 15, op := Op.alloc 24, type := 0, pos := "law.go:146", after := #[], guard := none }) rfl (fun K hKq => ?_) ?_
                ·
                  go_simp
                  refine hKq.out _ _ (MK.out _ (show Kp W3 (y1.alloc (.cells #[.pointer none] 24)) from Kp.trans KB (Kp.alloc (Kp.refl y1) _))) (fun hN => ?_)
                  clear hKq K hH KQ
                  have hH := hN
                  clear hN
                  have KQ := hH.2.2.out
                  try simp only [Act.put, List.setIfInBounds_toArray, List.set_cons_zero, List.set_cons_succ]
                  refine wpAnyH_ready (rs := [5]) (by kernel_rfl) (by simp) ?_
                  refine AllReadyH.cons (o := { dst := some 62, op := Op.buildSlice 59 3 #[(0, Operand.tmp 57), (1, Operand.tmp 60), (2, Operand.tmp 61)], type := 59, pos := "law.go:146", after := #[{ on := 0, ground := Ground.data }, { on := 3, ground := Ground.data }, { on := 4, ground := Ground.data }], guard := none }) rfl (fun K hKq => ?_) AllReadyH.nil
                  go_simp
                  refine hKq.out _ _ (MK.out _ (show Kp W3 ((y1.alloc (.cells #[.pointer none] 24)).alloc (.cells #[.pointer (pO b), .pointer (pO u), .pointer (pO a)] 24)) from Kp.trans KB (Kp.alloc (Kp.alloc (Kp.refl y1) _) _))) (fun hN => ?_)
                  clear hKq K hH KQ
                  have hH := hN
                  clear hN
                  have KQ := hH.2.2.out
                  try simp only [Act.put, List.setIfInBounds_toArray, List.set_cons_zero, List.set_cons_succ]
                  refine wpAnyH_ready (rs := [6]) (by kernel_rfl) (by simp) ?_
                  refine AllReadyH.cons (o := { dst := some 63, op := Op.call { callee := Callee.value (Operand.func 11), args := #[Operand.tmp 62], argTypes := #[59] }, type := 24, pos := "law.go:146", after := #[{ on := 5, ground := Ground.data }, { on := 3, ground := Ground.chain }], guard := none }) rfl (fun K hKq => ?_) AllReadyH.nil
                  go_simp
                  have kw : Kp y1 ((y1.alloc (.cells #[.pointer none] 24)).alloc (.cells #[.pointer (pO b), .pointer (pO u), .pointer (pO a)] 24)) := Kp.alloc (Kp.alloc (Kp.refl y1) _) _
                  refine (join3_ok b u a _ _ _ _ _ (show (((y1.alloc (.cells #[.pointer none] 24)).alloc (.cells #[.pointer (pO b), .pointer (pO u), .pointer (pO a)] 24))).heap[y1.heap.size + 1]? = _ from last_at _ _ _ (by simp)) (G3.out.2.2.2.kp (KB.trans kw)) (ou.kp kw) (G3.out.2.2.1.kp (KB.trans kw)) (by have := NN.out; simp only [List.length_singleton]; omega) SS.out.2.1 m1_sm SS.out.1).mono ?_
                  rintro e y2 ⟨z, rfl, oz, kq⟩
                  have GZ2 : y2.heap[y1.heap.size]? = some (.cells #[.pointer none] 24) := bl_kp (show (((y1.alloc (.cells #[.pointer none] 24)).alloc (.cells #[.pointer (pO b), .pointer (pO u), .pointer (pO a)] 24))).heap[y1.heap.size]? = _ from bl_alloc (last_of _ _) _) kq
                  have KC : Kp W3 y2 := (KB.trans kw).trans kq
                  refine hKq.out _ _ (MK.out _ KC) (fun hN => ?_)
                  clear kq kw
                  clear hKq K hH KQ
                  have hH := hN
                  clear hN
                  have KQ := hH.2.2.out
                  try simp only [Act.put, List.setIfInBounds_toArray, List.set_cons_zero, List.set_cons_succ]
                  refine wpAnyH_ready (rs := [8]) (by kernel_rfl) (by simp) ?_
                  refine AllReadyH.cons (o := { dst := none, op := Op.store 24 (Operand.tmp 15) (Operand.tmp 63), type := 0, pos := "law.go:146", after := #[{ on := 7, ground := Ground.data }, { on := 6, ground := Ground.data }, { on := 6, ground := Ground.chain }, { on := 0, ground := Ground.phase }, { on := 1, ground := Ground.phase }, { on := 2, ground := Ground.phase }, { on := 3, ground := Ground.phase }, { on := 4, ground := Ground.phase }, { on := 5, ground := Ground.phase }, { on := 6, ground := Ground.phase }, { on := 7, ground := Ground.phase }], guard := none }) rfl (fun K hKq => ?_) AllReadyH.nil
                  obtain ⟨X, hX⟩ : ∃ X, y2 = X := ⟨_, rfl⟩
                  have g1 : X.heap[y1.heap.size]? = some (.cells #[.pointer none] 24) := by subst hX; exact GZ2
                  have kyx : Kp y2 X := by subst hX; exact Kp.refl y2
                  rw [hX] at hH ⊢
                  have e1 := bl_cell g1 0 (.pointer none) rfl
                  have f1 := bl_frozen g1 0
                  have KX : Kp W3 X := KC.trans kyx
                  have h1 : W3.heap.size ≤ y1.heap.size := by have := KB.size; have := KC.size; omega
                  have FIN : Hid (_ ∧ _ ∧ _) := fin1 KX g1 h1 (oz.kp kyx)
                  clear hX kyx g1
                  go_simp
                  refine hKq.out _ _ (MK.out _ (KX.setCell h1 _)) (fun hN => ?_)
                  clear hKq K hH KQ
                  have hH := hN
                  clear hN
                  have KQ := hH.2.2.out
                  try simp only [Act.put, List.setIfInBounds_toArray, List.set_cons_zero, List.set_cons_succ]
                  refine wpAnyH_done (by kernel_rfl) ?_ _
                  refine NoPanic.normal ?_
                  go_wp2_with fail
                  go_meet
                  case rel => exact ⟨_, z, rfl, FIN.out⟩
                exact AllReadyH.nil
              refine AllReadyH.cons (o := { dst := some 15, op := Op.alloc 24, type := 0, pos := "law.go:146", after := #[], guard := none }) rfl (fun K hKq => ?_) ?_
              ·
                go_simp
                refine hKq.out _ _ (MK.out _ (show Kp W3 ((W3.alloc (.cells #[.int .i64 (-1), .complex .f64 0 0] 29)).alloc (.cells #[.pointer none] 24)).drew from Kp.drew (Kp.alloc (Kp.alloc (Kp.refl W3) _) _))) (fun hN => ?_)
                clear hKq K hH KQ
                have hH := hN
                clear hN
                have KQ := hH.2.2.out
                try simp only [Act.put, List.setIfInBounds_toArray, List.set_cons_zero, List.set_cons_succ]
                refine wpAnyH_ready (rs := [3]) (by kernel_rfl) (by simp) ?_
                refine AllReadyH.cons (o := { dst := some 60, op := Op.call { callee := Callee.value (Operand.func 8), args := #[Operand.tmp 59], argTypes := #[32] }, type := 24, pos := "law.go:146", after := #[{ on := 2, ground := Ground.data }], guard := none }) rfl (fun K hKq => ?_) AllReadyH.nil
                go_simp
                refine (of_ok _ [m1] _ (m1_sl (show (((W3.alloc (.cells #[.int .i64 (-1), .complex .f64 0 0] 29)).alloc (.cells #[.pointer none] 24)).drew).heap[W3.heap.size]? = _ from bl_alloc (last_of _ _) _)) (by simp) m1_sm).mono ?_
                rintro e y1 ⟨u, rfl, ou, kq⟩
                have GZ : y1.heap[W3.heap.size + 1]? = some (.cells #[.pointer none] 24) := bl_kp (show (((W3.alloc (.cells #[.int .i64 (-1), .complex .f64 0 0] 29)).alloc (.cells #[.pointer none] 24)).drew).heap[W3.heap.size + 1]? = _ from last_at _ _ _ (by simp)) kq
                have KB : Kp W3 y1 := KQ.trans kq
                refine hKq.out _ _ (MK.out _ KB) (fun hN => ?_)
                clear kq
                clear hKq K hH KQ
                have hH := hN
                clear hN
                have KQ := hH.2.2.out
                try simp only [Act.put, List.setIfInBounds_toArray, List.set_cons_zero, List.set_cons_succ]
                refine wpAnyH_ready (rs := [5]) (by kernel_rfl) (by simp) ?_
                refine AllReadyH.cons (o := { dst := some 62, op := Op.buildSlice 59 3 #[(0, Operand.tmp 57), (1, Operand.tmp 60), (2, Operand.tmp 61)], type := 59, pos := "law.go:146", after := #[{ on := 0, ground := Ground.data }, { on := 3, ground := Ground.data }, { on := 4, ground := Ground.data }], guard := none }) rfl (fun K hKq => ?_) AllReadyH.nil
                go_simp
                refine hKq.out _ _ (MK.out _ (show Kp W3 (y1.alloc (.cells #[.pointer (pO b), .pointer (pO u), .pointer (pO a)] 24)) from Kp.trans KB (Kp.alloc (Kp.refl y1) _))) (fun hN => ?_)
                clear hKq K hH KQ
                have hH := hN
                clear hN
                have KQ := hH.2.2.out
                try simp only [Act.put, List.setIfInBounds_toArray, List.set_cons_zero, List.set_cons_succ]
                refine wpAnyH_ready (rs := [6]) (by kernel_rfl) (by simp) ?_
                refine AllReadyH.cons (o := { dst := some 63, op := Op.call { callee := Callee.value (Operand.func 11), args := #[Operand.tmp 62], argTypes := #[59] }, type := 24, pos := "law.go:146", after := #[{ on := 5, ground := Ground.data }, { on := 3, ground := Ground.chain }], guard := none }) rfl (fun K hKq => ?_) AllReadyH.nil
                go_simp
                have kw : Kp y1 (y1.alloc (.cells #[.pointer (pO b), .pointer (pO u), .pointer (pO a)] 24)) := Kp.alloc (Kp.refl y1) _
                refine (join3_ok b u a _ _ _ _ _ (show ((y1.alloc (.cells #[.pointer (pO b), .pointer (pO u), .pointer (pO a)] 24))).heap[y1.heap.size]? = _ from last_of _ _) (G3.out.2.2.2.kp (KB.trans kw)) (ou.kp kw) (G3.out.2.2.1.kp (KB.trans kw)) (by have := NN.out; simp only [List.length_singleton]; omega) SS.out.2.1 m1_sm SS.out.1).mono ?_
                rintro e y2 ⟨z, rfl, oz, kq⟩
                have GZ2 : y2.heap[W3.heap.size + 1]? = some (.cells #[.pointer none] 24) := bl_kp (bl_kp GZ kw) kq
                have KC : Kp W3 y2 := (KB.trans kw).trans kq
                refine hKq.out _ _ (MK.out _ KC) (fun hN => ?_)
                clear kq kw
                clear hKq K hH KQ
                have hH := hN
                clear hN
                have KQ := hH.2.2.out
                try simp only [Act.put, List.setIfInBounds_toArray, List.set_cons_zero, List.set_cons_succ]
                refine wpAnyH_ready (rs := [8]) (by kernel_rfl) (by simp) ?_
                refine AllReadyH.cons (o := { dst := none, op := Op.store 24 (Operand.tmp 15) (Operand.tmp 63), type := 0, pos := "law.go:146", after := #[{ on := 7, ground := Ground.data }, { on := 6, ground := Ground.data }, { on := 6, ground := Ground.chain }, { on := 0, ground := Ground.phase }, { on := 1, ground := Ground.phase }, { on := 2, ground := Ground.phase }, { on := 3, ground := Ground.phase }, { on := 4, ground := Ground.phase }, { on := 5, ground := Ground.phase }, { on := 6, ground := Ground.phase }, { on := 7, ground := Ground.phase }], guard := none }) rfl (fun K hKq => ?_) AllReadyH.nil
                obtain ⟨X, hX⟩ : ∃ X, y2 = X := ⟨_, rfl⟩
                have g1 : X.heap[W3.heap.size + 1]? = some (.cells #[.pointer none] 24) := by subst hX; exact GZ2
                have kyx : Kp y2 X := by subst hX; exact Kp.refl y2
                rw [hX] at hH ⊢
                have e1 := bl_cell g1 0 (.pointer none) rfl
                have f1 := bl_frozen g1 0
                have KX : Kp W3 X := KC.trans kyx
                have h1 : W3.heap.size ≤ W3.heap.size + 1 := by have := KB.size; have := KC.size; omega
                have FIN : Hid (_ ∧ _ ∧ _) := fin1 KX g1 h1 (oz.kp kyx)
                clear hX kyx g1
                go_simp
                refine hKq.out _ _ (MK.out _ (KX.setCell h1 _)) (fun hN => ?_)
                clear hKq K hH KQ
                have hH := hN
                clear hN
                have KQ := hH.2.2.out
                try simp only [Act.put, List.setIfInBounds_toArray, List.set_cons_zero, List.set_cons_succ]
                refine wpAnyH_done (by kernel_rfl) ?_ _
                refine NoPanic.normal ?_
                go_wp2_with fail
                go_meet
                case rel => exact ⟨_, z, rfl, FIN.out⟩
              exact AllReadyH.nil
            refine AllReadyH.cons (o := { dst := some 15, op := Op.alloc 24, type := 0, pos := "law.go:146", after := #[], guard := none }) rfl (fun K hKq => ?_) ?_
            ·
              go_simp
              refine hKq.out _ _ (MK.out _ (show Kp W3 (W3.alloc (.cells #[.pointer none] 24)).drew from Kp.drew (Kp.alloc (Kp.refl W3) _))) (fun hN => ?_)
              clear hKq K hH KQ
              have hH := hN
              clear hN
              have KQ := hH.2.2.out
              try simp only [Act.put, List.setIfInBounds_toArray, List.set_cons_zero, List.set_cons_succ]
              refine wpAnyH_ready (rs := [2]) (by kernel_rfl) (by simp) ?_
              refine AllReadyH.cons (o := { dst := some 59, op := Op.buildSlice 32 1 #[(0, Operand.tmp 58)], type := 32, pos := "law.go:146", after := #[{ on := 1, ground := Ground.data }], guard := none }) rfl (fun K hKq => ?_) AllReadyH.nil
              go_simp
              refine hKq.out _ _ (MK.out _ (show Kp W3 ((W3.alloc (.cells #[.pointer none] 24)).alloc (.cells #[.int .i64 (-1), .complex .f64 0 0] 29)).drew from Kp.drew (Kp.alloc (Kp.alloc (Kp.refl W3) _) _))) (fun hN => ?_)
              clear hKq K hH KQ
              have hH := hN
              clear hN
              have KQ := hH.2.2.out
              try simp only [Act.put, List.setIfInBounds_toArray, List.set_cons_zero, List.set_cons_succ]
              refine wpAnyH_ready (rs := [3]) (by kernel_rfl) (by simp) ?_
              refine AllReadyH.cons (o := { dst := some 60, op := Op.call { callee := Callee.value (Operand.func 8), args := #[Operand.tmp 59], argTypes := #[32] }, type := 24, pos := "law.go:146", after := #[{ on := 2, ground := Ground.data }], guard := none }) rfl (fun K hKq => ?_) AllReadyH.nil
              go_simp
              refine (of_ok _ [m1] _ (m1_sl (show (((W3.alloc (.cells #[.pointer none] 24)).alloc (.cells #[.int .i64 (-1), .complex .f64 0 0] 29)).drew).heap[W3.heap.size + 1]? = _ from last_at _ _ _ (by simp))) (by simp) m1_sm).mono ?_
              rintro e y1 ⟨u, rfl, ou, kq⟩
              have GZ : y1.heap[W3.heap.size]? = some (.cells #[.pointer none] 24) := bl_kp (show (((W3.alloc (.cells #[.pointer none] 24)).alloc (.cells #[.int .i64 (-1), .complex .f64 0 0] 29)).drew).heap[W3.heap.size]? = _ from bl_alloc (last_of _ _) _) kq
              have KB : Kp W3 y1 := KQ.trans kq
              refine hKq.out _ _ (MK.out _ KB) (fun hN => ?_)
              clear kq
              clear hKq K hH KQ
              have hH := hN
              clear hN
              have KQ := hH.2.2.out
              try simp only [Act.put, List.setIfInBounds_toArray, List.set_cons_zero, List.set_cons_succ]
              refine wpAnyH_ready (rs := [5]) (by kernel_rfl) (by simp) ?_
              refine AllReadyH.cons (o := { dst := some 62, op := Op.buildSlice 59 3 #[(0, Operand.tmp 57), (1, Operand.tmp 60), (2, Operand.tmp 61)], type := 59, pos := "law.go:146", after := #[{ on := 0, ground := Ground.data }, { on := 3, ground := Ground.data }, { on := 4, ground := Ground.data }], guard := none }) rfl (fun K hKq => ?_) AllReadyH.nil
              go_simp
              refine hKq.out _ _ (MK.out _ (show Kp W3 (y1.alloc (.cells #[.pointer (pO b), .pointer (pO u), .pointer (pO a)] 24)) from Kp.trans KB (Kp.alloc (Kp.refl y1) _))) (fun hN => ?_)
              clear hKq K hH KQ
              have hH := hN
              clear hN
              have KQ := hH.2.2.out
              try simp only [Act.put, List.setIfInBounds_toArray, List.set_cons_zero, List.set_cons_succ]
              refine wpAnyH_ready (rs := [6]) (by kernel_rfl) (by simp) ?_
              refine AllReadyH.cons (o := { dst := some 63, op := Op.call { callee := Callee.value (Operand.func 11), args := #[Operand.tmp 62], argTypes := #[59] }, type := 24, pos := "law.go:146", after := #[{ on := 5, ground := Ground.data }, { on := 3, ground := Ground.chain }], guard := none }) rfl (fun K hKq => ?_) AllReadyH.nil
              go_simp
              have kw : Kp y1 (y1.alloc (.cells #[.pointer (pO b), .pointer (pO u), .pointer (pO a)] 24)) := Kp.alloc (Kp.refl y1) _
              refine (join3_ok b u a _ _ _ _ _ (show ((y1.alloc (.cells #[.pointer (pO b), .pointer (pO u), .pointer (pO a)] 24))).heap[y1.heap.size]? = _ from last_of _ _) (G3.out.2.2.2.kp (KB.trans kw)) (ou.kp kw) (G3.out.2.2.1.kp (KB.trans kw)) (by have := NN.out; simp only [List.length_singleton]; omega) SS.out.2.1 m1_sm SS.out.1).mono ?_
              rintro e y2 ⟨z, rfl, oz, kq⟩
              have GZ2 : y2.heap[W3.heap.size]? = some (.cells #[.pointer none] 24) := bl_kp (bl_kp GZ kw) kq
              have KC : Kp W3 y2 := (KB.trans kw).trans kq
              refine hKq.out _ _ (MK.out _ KC) (fun hN => ?_)
              clear kq kw
              clear hKq K hH KQ
              have hH := hN
              clear hN
              have KQ := hH.2.2.out
              try simp only [Act.put, List.setIfInBounds_toArray, List.set_cons_zero, List.set_cons_succ]
              refine wpAnyH_ready (rs := [8]) (by kernel_rfl) (by simp) ?_
              refine AllReadyH.cons (o := { dst := none, op := Op.store 24 (Operand.tmp 15) (Operand.tmp 63), type := 0, pos := "law.go:146", after := #[{ on := 7, ground := Ground.data }, { on := 6, ground := Ground.data }, { on := 6, ground := Ground.chain }, { on := 0, ground := Ground.phase }, { on := 1, ground := Ground.phase }, { on := 2, ground := Ground.phase }, { on := 3, ground := Ground.phase }, { on := 4, ground := Ground.phase }, { on := 5, ground := Ground.phase }, { on := 6, ground := Ground.phase }, { on := 7, ground := Ground.phase }], guard := none }) rfl (fun K hKq => ?_) AllReadyH.nil
              obtain ⟨X, hX⟩ : ∃ X, y2 = X := ⟨_, rfl⟩
              have g1 : X.heap[W3.heap.size]? = some (.cells #[.pointer none] 24) := by subst hX; exact GZ2
              have kyx : Kp y2 X := by subst hX; exact Kp.refl y2
              rw [hX] at hH ⊢
              have e1 := bl_cell g1 0 (.pointer none) rfl
              have f1 := bl_frozen g1 0
              have KX : Kp W3 X := KC.trans kyx
              have h1 : W3.heap.size ≤ W3.heap.size := by have := KB.size; have := KC.size; omega
              have FIN : Hid (_ ∧ _ ∧ _) := fin1 KX g1 h1 (oz.kp kyx)
              clear hX kyx g1
              go_simp
              refine hKq.out _ _ (MK.out _ (KX.setCell h1 _)) (fun hN => ?_)
              clear hKq K hH KQ
              have hH := hN
              clear hN
              have KQ := hH.2.2.out
              try simp only [Act.put, List.setIfInBounds_toArray, List.set_cons_zero, List.set_cons_succ]
              refine wpAnyH_done (by kernel_rfl) ?_ _
              refine NoPanic.normal ?_
              go_wp2_with fail
              go_meet
              case rel => exact ⟨_, z, rfl, FIN.out⟩
            exact AllReadyH.nil
          case rest =>
            obtain ⟨S5, x, rfl, vx, ox, k4⟩ := hcut
            rename World => W4
            have F4 : Hid (Ok W4 r xs ∧ Vr W4 w1.heap.size r ∧ Sl W4 (.slice ad k cp) xs ∧ Kp w W4) := ⟨F3.out.1.kp k4, F3.out.2.1.kp k4, F3.out.2.2.1.kp k4, F3.out.2.2.2.trans k4⟩
            have G4 : Hid (Vr W4 S1 a ∧ Vr W4 S2 b ∧ Ok W4 a (xs.take p1) ∧ Ok W4 b (xs.drop p1)) := ⟨G3.out.1.kp k4, G3.out.2.1.kp k4, G3.out.2.2.1.kp k4, G3.out.2.2.2.kp k4⟩
            have H4 : Hid (Vr W4 S3 c ∧ Vr W4 S4 d ∧ Ok W4 c (xs.take p2) ∧ Ok W4 d (xs.drop p2)) := ⟨H3.out.1.kp k4, H3.out.2.1.kp k4, H3.out.2.2.1.kp k4, H3.out.2.2.2.kp k4⟩
            have X4 : Hid (Vr W4 S5 x ∧ Ok W4 x (xs.drop p1 ++ [m1] ++ xs.take p1)) := ⟨vx, ox⟩
            clear vx ox k4 F3 G3 H3 MK Q0
            have q1 := H4.out.1.cell
            have q2 := H4.out.2.1.cell
            go_wp2_with fail
            have ka : Kp W4 (W4.alloc (.cells #[.pointer (pO d), .pointer (pO d), .pointer (pO c)] 24)) := (Kp.refl _).alloc _
            refine (join3_ok d d c _ _ _ _ _ (last_of _ _) (H4.out.2.2.2.kp ka) (H4.out.2.2.2.kp ka) (H4.out.2.2.1.kp ka) (by have := NN.out; omega) SS.out.2.2.2 SS.out.2.2.2 SS.out.2.2.1).mono ?_
            rintro e w5 ⟨y, rfl, oy, k5⟩
            obtain ⟨W5, hW5⟩ : ∃ W, w5.alloc (.cells #[.pointer (pO y)] 24) = W := ⟨_, rfl⟩
            have HW5 : Hid (w5.alloc (.cells #[.pointer (pO y)] 24) = W5) := hW5
            have k55 : Kp w5 W5 := by subst hW5; exact (Kp.refl _).alloc _
            have kk : Kp W4 W5 := (ka.trans k5).trans k55
            have Y5 : Hid (Vr W5 w5.heap.size y ∧ Ok W5 y (xs.drop p2 ++ xs.drop p2 ++ xs.take p2)) := ⟨by subst hW5; exact last_of _ _, oy.kp k55⟩
            have F5 : Hid (Ok W5 r xs ∧ Vr W5 w1.heap.size r ∧ Sl W5 (.slice ad k cp) xs ∧ Kp w W5) := ⟨F4.out.1.kp kk, F4.out.2.1.kp kk, F4.out.2.2.1.kp kk, F4.out.2.2.2.trans kk⟩
            have G5 : Hid (Vr W5 S1 a ∧ Vr W5 S2 b ∧ Ok W5 a (xs.take p1) ∧ Ok W5 b (xs.drop p1)) := ⟨G4.out.1.kp kk, G4.out.2.1.kp kk, G4.out.2.2.1.kp kk, G4.out.2.2.2.kp kk⟩
            have H5 : Hid (Vr W5 S3 c ∧ Vr W5 S4 d ∧ Ok W5 c (xs.take p2) ∧ Ok W5 d (xs.drop p2)) := ⟨H4.out.1.kp kk, H4.out.2.1.kp kk, H4.out.2.2.1.kp kk, H4.out.2.2.2.kp kk⟩
            have X5 : Hid (Vr W5 S5 x ∧ Ok W5 x (xs.drop p1 ++ [m1] ++ xs.take p1)) := ⟨X4.out.1.kp kk, X4.out.2.kp kk⟩
            clear q1 q2 ka oy k5 hW5 k55 kk F4 G4 H4 X4
            have va := G5.out.1
            have vb := G5.out.2.1
            have vc := H5.out.1
            have vd := H5.out.2.1
            have MK : Hid (∀ W, Kp W5 W → W.cell? ⟨S1, 0, none⟩ = some (.pointer (pO a)) ∧ W.cell? ⟨S2, 0, none⟩ = some (.pointer (pO b)) ∧ W.cell? ⟨S3, 0, none⟩ = some (.pointer (pO c)) ∧ W.cell? ⟨S4, 0, none⟩ = some (.pointer (pO d)) ∧ Hid (Kp W5 W)) := fun W k => ⟨(va.kp k).cell, (vb.kp k).cell, (vc.kp k).cell, (vd.kp k).cell, k⟩
            clear va vb vc vd
            go_wp2_with fail
            rw [HW5.out]
            clear HW5
            have Q0 : Kp W5 W5.drew := (Kp.refl _).drew
            go_cut [17, 18, 19, 20] (fun p q u v wc => Sl wc p (xs.take p1) ∧ Sl wc q (xs.drop p1) ∧ Sl wc u (xs.take p2) ∧ Sl wc v (xs.drop p2) ∧ Kp W5 wc)
            case first =>
              refine wp_region_noPanic ?_
              refine wp_region_held_drew (S := (fun W => W.cell? ⟨S1, 0, none⟩ = some (.pointer (pO a)) ∧ W.cell? ⟨S2, 0, none⟩ = some (.pointer (pO b)) ∧ W.cell? ⟨S3, 0, none⟩ = some (.pointer (pO c)) ∧ W.cell? ⟨S4, 0, none⟩ = some (.pointer (pO d)) ∧ Hid (Kp W5 W))) (by kernel_rfl) ?_ (fun hH => ?_)
              · exact MK.out _ Q0
              have KQ := Q0
              refine wpAnyH_take (i := 0) (oi := { dst := some 69, op := Op.load 24 (Operand.tmp 11), type := 24, pos := "law.go:148", after := #[], guard := none }) (v := ?v0c1) rfl (by kernel_rfl) (by kernel_rfl) (by kernel_rfl) (fun _ _ _ h => h) (Or.inl ⟨by rfl, ?hy0c1⟩) hH ?r0c1
              case hy0c1 => (intro W hSw; (try dsimp only at hSw); go_simp; try (with_reducible rfl))
              try simp only [Act.put, List.setIfInBounds_toArray, List.set_cons_zero, List.set_cons_succ]
              refine wpAnyH_take (i := 2) (oi := { dst := some 71, op := Op.load 24 (Operand.tmp 12), type := 24, pos := "law.go:148", after := #[], guard := none }) (v := ?v2c2) rfl (by kernel_rfl) (by kernel_rfl) (by kernel_rfl) (fun _ _ _ h => h) (Or.inl ⟨by rfl, ?hy2c2⟩) hH ?r2c2
              case hy2c2 => (intro W hSw; (try dsimp only at hSw); go_simp; try (with_reducible rfl))
              try simp only [Act.put, List.setIfInBounds_toArray, List.set_cons_zero, List.set_cons_succ]
              refine wpAnyH_take (i := 4) (oi := { dst := some 73, op := Op.load 24 (Operand.tmp 13), type := 24, pos := "law.go:148", after := #[], guard := none }) (v := ?v4c3) rfl (by kernel_rfl) (by kernel_rfl) (by kernel_rfl) (fun _ _ _ h => h) (Or.inl ⟨by rfl, ?hy4c3⟩) hH ?r4c3
              case hy4c3 => (intro W hSw; (try dsimp only at hSw); go_simp; try (with_reducible rfl))
              try simp only [Act.put, List.setIfInBounds_toArray, List.set_cons_zero, List.set_cons_succ]
              refine wpAnyH_take (i := 6) (oi := { dst := some 75, op := Op.load 24 (Operand.tmp 14), type := 24, pos := "law.go:148", after := #[], guard := none }) (v := ?v6c4) rfl (by kernel_rfl) (by kernel_rfl) (by kernel_rfl) (fun _ _ _ h => h) (Or.inl ⟨by rfl, ?hy6c4⟩) hH ?r6c4
              case hy6c4 => (intro W hSw; (try dsimp only at hSw); go_simp; try (with_reducible rfl))
              try simp only [Act.put, List.setIfInBounds_toArray, List.set_cons_zero, List.set_cons_succ]
              refine wpAnyH_ready (rs := [1]) (by kernel_rfl) (by simp) ?_
              refine AllReadyH.cons (o := { dst := some 70, op := Op.call { callee := Callee.value (Operand.func 12), args := #[Operand.tmp 69], argTypes := #[24] }, type := 32, pos := "law.go:148", after := #[{ on := 0, ground := Ground.data }], guard := none }) rfl (fun K hKq => ?_) AllReadyH.nil
              go_simp
              refine (items_ok a (xs.take p1) _ (G5.out.2.2.1.kp KQ) (by have := NN.out; omega)).mono ?_
              rintro e y1 ⟨va, rfl, oi, kq⟩
              have sa := oi.sl
              clear oi
              refine hKq.out _ _ (MK.out _ (KQ.trans kq)) (fun hN => ?_)
              clear kq
              clear hKq K hH KQ
              have hH := hN
              clear hN
              have KQ := hH.2.2.2.2.out
              try simp only [Act.put, List.setIfInBounds_toArray, List.set_cons_zero, List.set_cons_succ]
              refine wpAnyH_ready (rs := [3]) (by kernel_rfl) (by simp) ?_
              refine AllReadyH.cons (o := { dst := some 72, op := Op.call { callee := Callee.value (Operand.func 12), args := #[Operand.tmp 71], argTypes := #[24] }, type := 32, pos := "law.go:148", after := #[{ on := 2, ground := Ground.data }, { on := 1, ground := Ground.chain }], guard := none }) rfl (fun K hKq => ?_) AllReadyH.nil
              go_simp
              refine (items_ok b (xs.drop p1) _ (G5.out.2.2.2.kp KQ) (by have := NN.out; omega)).mono ?_
              rintro e y2 ⟨vb, rfl, oi, kq⟩
              have sa := sa.kp kq
              have sb := oi.sl
              clear oi
              refine hKq.out _ _ (MK.out _ (KQ.trans kq)) (fun hN => ?_)
              clear kq
              clear hKq K hH KQ
              have hH := hN
              clear hN
              have KQ := hH.2.2.2.2.out
              try simp only [Act.put, List.setIfInBounds_toArray, List.set_cons_zero, List.set_cons_succ]
              refine wpAnyH_ready (rs := [5]) (by kernel_rfl) (by simp) ?_
              refine AllReadyH.cons (o := { dst := some 74, op := Op.call { callee := Callee.value (Operand.func 12), args := #[Operand.tmp 73], argTypes := #[24] }, type := 32, pos := "law.go:148", after := #[{ on := 4, ground := Ground.data }, { on := 3, ground := Ground.chain }], guard := none }) rfl (fun K hKq => ?_) AllReadyH.nil
              go_simp
              refine (items_ok c (xs.take p2) _ (H5.out.2.2.1.kp KQ) (by have := NN.out; omega)).mono ?_
              rintro e y3 ⟨vc, rfl, oi, kq⟩
              have sa := sa.kp kq
              have sb := sb.kp kq
              have sc := oi.sl
              clear oi
              refine hKq.out _ _ (MK.out _ (KQ.trans kq)) (fun hN => ?_)
              clear kq
              clear hKq K hH KQ
              have hH := hN
              clear hN
              have KQ := hH.2.2.2.2.out
              try simp only [Act.put, List.setIfInBounds_toArray, List.set_cons_zero, List.set_cons_succ]
              refine wpAnyH_ready (rs := [7]) (by kernel_rfl) (by simp) ?_
              refine AllReadyH.cons (o := { dst := some 76, op := Op.call { callee := Callee.value (Operand.func 12), args := #[Operand.tmp 75], argTypes := #[24] }, type := 32, pos := "law.go:148", after := #[{ on := 6, ground := Ground.data }, { on := 5, ground := Ground.chain }], guard := none }) rfl (fun K hKq => ?_) AllReadyH.nil
              go_simp
              refine (items_ok d (xs.drop p2) _ (H5.out.2.2.2.kp KQ) (by have := NN.out; omega)).mono ?_
              rintro e y4 ⟨vd, rfl, oi, kq⟩
              have sa := sa.kp kq
              have sb := sb.kp kq
              have sc := sc.kp kq
              have sd := oi.sl
              clear oi
              refine hKq.out _ _ (MK.out _ (KQ.trans kq)) (fun hN => ?_)
              clear kq
              clear hKq K hH KQ
              have hH := hN
              clear hN
              have KQ := hH.2.2.2.2.out
              try simp only [Act.put, List.setIfInBounds_toArray, List.set_cons_zero, List.set_cons_succ]
              refine wpAnyH_take (i := 8) (oi := { dst := some 17, op := Op.assign (Operand.tmp 70), type := 32, pos := "law.go:148", after := #[{ on := 1, ground := Ground.data }, { on := 7, ground := Ground.chain }, { on := 0, ground := Ground.phase }, { on := 1, ground := Ground.phase }, { on := 2, ground := Ground.textOnly Departure.lateStores }, { on := 3, ground := Ground.textOnly Departure.lateStoresUnsure }, { on := 4, ground := Ground.textOnly Departure.lateStores }, { on := 5, ground := Ground.textOnly Departure.lateStoresUnsure }, { on := 6, ground := Ground.textOnly Departure.lateStores }, { on := 7, ground := Ground.textOnly Departure.lateStoresUnsure }], guard := none }) (v := ?v8c5) rfl (by kernel_rfl) (by kernel_rfl) (by kernel_rfl) (fun _ _ _ h => h) (Or.inl ⟨by rfl, ?hy8c5⟩) hH ?r8c5
              case hy8c5 => (intro W hSw; (try dsimp only at hSw); go_simp; try (with_reducible rfl))
              try simp only [Act.put, List.setIfInBounds_toArray, List.set_cons_zero, List.set_cons_succ]
              refine wpAnyH_take (i := 9) (oi := { dst := some 18, op := Op.assign (Operand.tmp 72), type := 32, pos := "law.go:148", after := #[{ on := 3, ground := Ground.data }, { on := 8, ground := Ground.chain }, { on := 0, ground := Ground.phase }, { on := 1, ground := Ground.phase }, { on := 2, ground := Ground.phase }, { on := 3, ground := Ground.phase }, { on := 4, ground := Ground.textOnly Departure.lateStores }, { on := 5, ground := Ground.textOnly Departure.lateStoresUnsure }, { on := 6, ground := Ground.textOnly Departure.lateStores }, { on := 7, ground := Ground.textOnly Departure.lateStoresUnsure }, { on := 8, ground := Ground.phase }], guard := none }) (v := ?v9c6) rfl (by kernel_rfl) (by kernel_rfl) (by kernel_rfl) (fun _ _ _ h => h) (Or.inl ⟨by rfl, ?hy9c6⟩) hH ?r9c6
              case hy9c6 => (intro W hSw; (try dsimp only at hSw); go_simp; try (with_reducible rfl))
              try simp only [Act.put, List.setIfInBounds_toArray, List.set_cons_zero, List.set_cons_succ]
              refine wpAnyH_take (i := 10) (oi := { dst := some 19, op := Op.assign (Operand.tmp 74), type := 32, pos := "law.go:148", after := #[{ on := 5, ground := Ground.data }, { on := 9, ground := Ground.chain }, { on := 0, ground := Ground.phase }, { on := 1, ground := Ground.phase }, { on := 2, ground := Ground.phase }, { on := 3, ground := Ground.phase }, { on := 4, ground := Ground.phase }, { on := 5, ground := Ground.phase }, { on := 6, ground := Ground.textOnly Departure.lateStores }, { on := 7, ground := Ground.textOnly Departure.lateStoresUnsure }, { on := 8, ground := Ground.phase }, { on := 9, ground := Ground.phase }], guard := none }) (v := ?v10c7) rfl (by kernel_rfl) (by kernel_rfl) (by kernel_rfl) (fun _ _ _ h => h) (Or.inl ⟨by rfl, ?hy10c7⟩) hH ?r10c7
              case hy10c7 => (intro W hSw; (try dsimp only at hSw); go_simp; try (with_reducible rfl))
              try simp only [Act.put, List.setIfInBounds_toArray, List.set_cons_zero, List.set_cons_succ]
              refine wpAnyH_take (i := 11) (oi := { dst := some 20, op := Op.assign (Operand.tmp 76), type := 32, pos := "law.go:148", after := #[{ on := 7, ground := Ground.data }, { on := 10, ground := Ground.chain }, { on := 0, ground := Ground.phase }, { on := 1, ground := Ground.phase }, { on := 2, ground := Ground.phase }, { on := 3, ground := Ground.phase }, { on := 4, ground := Ground.phase }, { on := 5, ground := Ground.phase }, { on := 6, ground := Ground.phase }, { on := 7, ground := Ground.phase }, { on := 8, ground := Ground.phase }, { on := 9, ground := Ground.phase }, { on := 10, ground := Ground.phase }], guard := none }) (v := ?v11c8) rfl (by kernel_rfl) (by kernel_rfl) (by kernel_rfl) (fun _ _ _ h => h) (Or.inl ⟨by rfl, ?hy11c8⟩) hH ?r11c8
              case hy11c8 => (intro W hSw; (try dsimp only at hSw); go_simp; try (with_reducible rfl))
              try simp only [Act.put, List.setIfInBounds_toArray, List.set_cons_zero, List.set_cons_succ]
              refine wpAnyH_done (by kernel_rfl) ?_ _
              refine NoPanic.normal ?_
              go_wp2_with fail
              go_meet
              case rel => exact ⟨sa, sb, sc, sd, KQ⟩
            case rest =>
              obtain ⟨sa, sb, sc, sd, k6⟩ := hcut
              rename World => W6
              have F6 : Hid (Ok W6 r xs ∧ Vr W6 w1.heap.size r ∧ Sl W6 (.slice ad k cp) xs ∧ Kp w W6) := ⟨F5.out.1.kp k6, F5.out.2.1.kp k6, F5.out.2.2.1.kp k6, F5.out.2.2.2.trans k6⟩
              have H6 : Hid (Vr W6 S3 c ∧ Vr W6 S4 d ∧ Ok W6 c (xs.take p2) ∧ Ok W6 d (xs.drop p2)) := ⟨H5.out.1.kp k6, H5.out.2.1.kp k6, H5.out.2.2.1.kp k6, H5.out.2.2.2.kp k6⟩
              have X6 : Hid (Vr W6 S5 x ∧ Ok W6 x (xs.drop p1 ++ [m1] ++ xs.take p1)) := ⟨X5.out.1.kp k6, X5.out.2.kp k6⟩
              have Y6 : Hid (Vr W6 w5.heap.size y ∧ Ok W6 y (xs.drop p2 ++ xs.drop p2 ++ xs.take p2)) := ⟨Y5.out.1.kp k6, Y5.out.2.kp k6⟩
              have SS6 : Hid (Sl W6 u17 (xs.take p1) ∧ Sl W6 u18 (xs.drop p1) ∧ Sl W6 u19 (xs.take p2) ∧ Sl W6 u20 (xs.drop p2)) := ⟨sa, sb, sc, sd⟩
              have GM : Hid (Ga W6 (W6.alloc (.cells #[] 29)) (.slice (some ⟨W6.heap.size, 0, none⟩) 0 0) []) := Ga.made W6
              have SB : Hid (Sl (W6.alloc (.cells #[] 29)) u18 (xs.drop p1)) := sb.kp ((Kp.refl _).alloc _)
              clear sa sb sc sd k6 F5 G5 H5 X5 Y5 MK Q0
              go_wp2_with (at_builtin; go_must (refine wpList_append_sl W6 _ (by rfl) _ _ (by rfl) _ _ [] (xs.drop p1) (by rfl) (by rfl) GM SB ?h1 ?_))
              case h1 => have := NN.out; simp only [List.length_nil]; omega
              intro v1 q1 g1
              have GM2 : Hid (Ga W6 (q1.alloc (.cells #[.int .i64 (-1), .complex .f64 0 0] 29)) v1 ([] ++ xs.drop p1)) := g1.out.kp ((Kp.refl _).alloc _)
              have SB2 : Hid (Sl (q1.alloc (.cells #[.int .i64 (-1), .complex .f64 0 0] 29)) (.slice (some ⟨q1.heap.size, 0, none⟩) 1 1) [m1]) := m1_sl (last_of _ _)
              clear GM SB
              go_wp2_with (at_builtin; go_must (refine wpList_append_sl W6 _ (by rfl) _ _ (by rfl) _ _ ([] ++ xs.drop p1) [m1] (by rfl) (by rfl) GM2 SB2 ?h2 ?_))
              case h2 => have := NN.out; simp only [List.length_append, List.length_nil, List.length_singleton]; omega
              intro v2 q2 g2
              have SB3 : Hid (Sl q2 u17 (xs.take p1)) := SS6.out.1.kp g2.out.k
              clear GM2 SB2 g1
              go_wp2_with (at_builtin; go_must (refine wpList_append_sl W6 _ (by rfl) _ _ (by rfl) _ _ ([] ++ xs.drop p1 ++ [m1]) (xs.take p1) (by rfl) (by rfl) g2 SB3 ?h3 ?_))
              case h3 => have := NN.out; simp only [List.length_append, List.length_nil, List.length_singleton]; omega
              intro v3 q3 g3
              have W3' : Hid (Sl q3 v3 (xs.drop p1 ++ [m1] ++ xs.take p1) ∧ Kp W6 q3) := ⟨by simpa using g3.out.o.sl, g3.out.k⟩
              have GN : Hid (Ga q3 (q3.alloc (.cells #[] 29)) (.slice (some ⟨q3.heap.size, 0, none⟩) 0 0) []) := Ga.made q3
              have SD : Hid (Sl (q3.alloc (.cells #[] 29)) u20 (xs.drop p2)) := SS6.out.2.2.2.kp (W3'.out.2.alloc _)
              clear SB3 g2 g3
              go_wp2_with (at_builtin; go_must (refine wpList_append_sl q3 _ (by rfl) _ _ (by rfl) _ _ [] (xs.drop p2) (by rfl) (by rfl) GN SD ?h4 ?_))
              case h4 => have := NN.out; simp only [List.length_nil]; omega
              intro v4 q4 g4
              have SD2 : Hid (Sl q4 u20 (xs.drop p2)) := SS6.out.2.2.2.kp (W3'.out.2.trans g4.out.k)
              clear GN SD
              go_wp2_with (at_builtin; go_must (refine wpList_append_sl q3 _ (by rfl) _ _ (by rfl) _ _ ([] ++ xs.drop p2) (xs.drop p2) (by rfl) (by rfl) g4 SD2 ?h5 ?_))
              case h5 => have := NN.out; simp only [List.length_append, List.length_nil]; omega
              intro v5 q5 g5
              have SD3 : Hid (Sl q5 u19 (xs.take p2)) := SS6.out.2.2.1.kp (W3'.out.2.trans g5.out.k)
              clear SD2 g4
              go_wp2_with (at_builtin; go_must (refine wpList_append_sl q3 _ (by rfl) _ _ (by rfl) _ _ ([] ++ xs.drop p2 ++ xs.drop p2) (xs.take p2) (by rfl) (by rfl) g5 SD3 ?h6 ?_))
              case h6 => have := NN.out; simp only [List.length_append, List.length_nil]; omega
              intro v6 q6 g6
              have k36 : Kp W6 q6 := W3'.out.2.trans g6.out.k
              have T6 : Hid (Sl q6 v6 (xs.drop p2 ++ xs.drop p2 ++ xs.take p2) ∧ Sl q6 v3 (xs.drop p1 ++ [m1] ++ xs.take p1) ∧ Sl q6 u17 (xs.take p1) ∧ Sl q6 u18 (xs.drop p1) ∧ Sl q6 (.slice ad k cp) xs) := by
                have h : Sl q6 v6 (xs.drop p2 ++ xs.drop p2 ++ xs.take p2) := by simpa using g6.out.o.sl
                exact ⟨h, W3'.out.1.kp g6.out.k, SS6.out.1.kp k36, SS6.out.2.1.kp k36, F6.out.2.2.1.kp k36⟩
              have O6 : Hid (Ok q6 x (xs.drop p1 ++ [m1] ++ xs.take p1) ∧ Ok q6 y (xs.drop p2 ++ xs.drop p2 ++ xs.take p2) ∧ Ok q6 r xs ∧ Ok q6 d (xs.drop p2) ∧ Ok q6 c (xs.take p2)) := ⟨X6.out.2.kp k36, Y6.out.2.kp k36, F6.out.1.kp k36, H6.out.2.2.2.kp k36, H6.out.2.2.1.kp k36⟩
              have KW : Hid (Kp w q6) := F6.out.2.2.2.trans k36
              have vx := X6.out.1.kp k36
              have vy := Y6.out.1.kp k36
              have vr := F6.out.2.1.kp k36
              have vd := H6.out.2.1.kp k36
              have vc := H6.out.1.kp k36
              have MK : Hid (∀ W, Kp q6 W → W.cell? ⟨S5, 0, none⟩ = some (.pointer (pO x)) ∧ W.cell? ⟨w5.heap.size, 0, none⟩ = some (.pointer (pO y)) ∧ W.cell? ⟨w1.heap.size, 0, none⟩ = some (.pointer (pO r)) ∧ W.cell? ⟨S4, 0, none⟩ = some (.pointer (pO d)) ∧ W.cell? ⟨S3, 0, none⟩ = some (.pointer (pO c)) ∧ Hid (Kp q6 W)) := fun W k => ⟨(vx.kp k).cell, (vy.kp k).cell, (vr.kp k).cell, (vd.kp k).cell, (vc.kp k).cell, k⟩
              obtain ⟨ld, yd, lc, yc, e1, e2, e3, hb1, hb2⟩ : ∃ ld yd lc yc : Nat, mk (xs.drop p2) = cx (ld : Nat) (yd : Nat) ∧ mk (xs.take p2) = cx (lc : Nat) (yc : Nat) ∧ mk (xs.drop p2 ++ xs.drop p2 ++ xs.take p2) = cx ((ld + ld + lc : Nat) : Int) ((yd + yd + yc : Nat) : Int) ∧ ld + ld + lc ≤ 30000 ∧ yd + yd + yc ≤ 30000 := by
                have b1 := SS.out.2.2.2.lines; have b2 := SS.out.2.2.2.bytes; have b3 := SS.out.2.2.1.lines; have b4 := SS.out.2.2.1.bytes
                have := NN.out
                refine ⟨_, _, _, _, rfl, rfl, ?_, by omega, by omega⟩
                show cx (lsum It.l (xs.drop p2 ++ xs.drop p2 ++ xs.take p2) : Nat) (lsum It.y (xs.drop p2 ++ xs.drop p2 ++ xs.take p2) : Nat) = _
                rw [lsum_append, lsum_append, lsum_append, lsum_append]
              obtain ⟨L, eL⟩ : ∃ L, ld + ld + lc = L := ⟨_, rfl⟩
              obtain ⟨Y, eY⟩ : ∃ Y, yd + yd + yc = Y := ⟨_, rfl⟩
              rw [eL, eY] at e3
              have EE : Hid (mk (xs.drop p2) = cx (ld : Nat) (yd : Nat) ∧ mk (xs.take p2) = cx (lc : Nat) (yc : Nat) ∧ mk (xs.drop p2 ++ xs.drop p2 ++ xs.take p2) = cx (L : Nat) (Y : Nat)) := ⟨e1, e2, e3⟩
              have SUM : Hid (∀ (w : World) (B : Nat), w.heap[B]? = some (.cells #[cx (ld : Nat) (yd : Nat), cx (ld : Nat) (yd : Nat), cx (lc : Nat) (yc : Nat)] 26) → Calls Try.prog 19 #[.slice (some ⟨B, 0, none⟩) 3 3] w fun e w' => e = .returned (cx (L : Nat) (Y : Nat)) ∧ w' = w) := by
                intro w B h
                have := sum3 ld yd ld yd lc yc w B (by omega) (by omega) h
                rw [eL, eY] at this
                exact this
              rw [eL] at hb1
              rw [eY] at hb2
              have EQC := run_ceql (P := Try.prog) 26 (L : Int) (Y : Int) (L : Int) (Y : Int) (small (by omega) (by omega)) (small (by omega) (by omega)) (small (by omega) (by omega)) (small (by omega) (by omega))
              have SX : Hid (Sm (xs.drop p1 ++ [m1] ++ xs.take p1) ∧ Sm (xs.drop p2 ++ xs.drop p2 ++ xs.take p2) ∧ (xs.drop p1 ++ [m1] ++ xs.take p1).length ≤ 300 ∧ (xs.drop p2 ++ xs.drop p2 ++ xs.take p2).length ≤ 300) := by
                have := NN.out
                refine ⟨(SS.out.2.1.append m1_sm).append SS.out.1, (SS.out.2.2.2.append SS.out.2.2.2).append SS.out.2.2.1, ?_, ?_⟩
                · simp only [List.length_append, List.length_singleton]; omega
                · simp only [List.length_append]; omega
              clear eL eY e1 e2 e3 vx vy vr vd vc k36 SD3 g5 g6 F6 H6 X6 Y6 SS6 W3'
              go_wp2_with fail
              have Q0 : Kp q6 q6.drew := (Kp.refl _).drew
              try simp only [List.append_eq, List.cons_append, List.nil_append]
              refine wp_region_noPanic ?_
              refine wp_region_held_drew (S := (fun W => W.cell? ⟨S5, 0, none⟩ = some (.pointer (pO x)) ∧ W.cell? ⟨w5.heap.size, 0, none⟩ = some (.pointer (pO y)) ∧ W.cell? ⟨w1.heap.size, 0, none⟩ = some (.pointer (pO r)) ∧ W.cell? ⟨S4, 0, none⟩ = some (.pointer (pO d)) ∧ W.cell? ⟨S3, 0, none⟩ = some (.pointer (pO c)) ∧ Hid (Kp q6 W))) (by kernel_rfl) ?_ (fun hH => ?_)
              · exact MK.out _ Q0
              have KQ := Q0
              refine wpAnyH_take (i := 0) (oi := { dst := some 92, op := Op.load 24 (Operand.tmp 15), type := 24, pos := "law.go:151", after := #[], guard := none }) (v := ?v0d1) rfl (by kernel_rfl) (by kernel_rfl) (by kernel_rfl) (fun _ _ _ h => h) (Or.inl ⟨by rfl, ?hy0d1⟩) hH ?r0d1
              case hy0d1 => (intro W hSw; (try dsimp only at hSw); go_simp; try (with_reducible rfl))
              try simp only [Act.put, List.setIfInBounds_toArray, List.set_cons_zero, List.set_cons_succ]
              refine wpAnyH_take (i := 2) (oi := { dst := some 94, op := Op.move (Operand.tmp 21), type := 32, pos := "law.go:151", after := #[], guard := none }) (v := ?v2d2) rfl (by kernel_rfl) (by kernel_rfl) (by kernel_rfl) (fun _ _ _ h => h) (Or.inl ⟨by rfl, ?hy2d2⟩) hH ?r2d2
              case hy2d2 => (intro W hSw; (try dsimp only at hSw); go_simp; try (with_reducible rfl))
              try simp only [Act.put, List.setIfInBounds_toArray, List.set_cons_zero, List.set_cons_succ]
              refine wpAnyH_ready (rs := [1]) (by kernel_rfl) (by simp) ?_
              refine AllReadyH.cons (o := { dst := some 93, op := Op.call { callee := Callee.value (Operand.func 12), args := #[Operand.tmp 92], argTypes := #[24] }, type := 32, pos := "law.go:151", after := #[{ on := 0, ground := Ground.data }], guard := none }) rfl (fun K hKq => ?_) AllReadyH.nil
              go_simp
              refine (items_ok x (xs.drop p1 ++ [m1] ++ xs.take p1) _ (O6.out.1.kp KQ) (by have := SX.out.2.2; omega)).mono ?_
              rintro e y1 ⟨vi, rfl, oi, kq⟩
              have OI1 : Hid (Sl y1 vi (xs.drop p1 ++ [m1] ++ xs.take p1)) := oi.sl
              clear oi
              refine hKq.out _ _ (MK.out _ (KQ.trans kq)) (fun hN => ?_)
              clear kq
              clear hKq K hH KQ
              have hH := hN
              clear hN
              have KQ := hH.2.2.2.2.2.out
              try simp only [Act.put, List.setIfInBounds_toArray, List.set_cons_zero, List.set_cons_succ]
              refine wpAnyH_ready (rs := [3]) (by kernel_rfl) (by simp) ?_
              refine AllReadyH.cons (o := { dst := some 95, op := Op.call { callee := Callee.value (Operand.func 18), args := #[Operand.tmp 93, Operand.tmp 94], argTypes := #[32, 32] }, type := 4, pos := "law.go:151", after := #[{ on := 1, ground := Ground.data }, { on := 2, ground := Ground.data }, { on := 1, ground := Ground.chain }], guard := none }) rfl (fun K hKq => ?_) AllReadyH.nil
              go_simp
              refine (same_any _ _ (xs.drop p1 ++ [m1] ++ xs.take p1) _ OI1.out (T6.out.2.1.kp KQ) SX.out.1 (by have := SX.out.2.2; omega)).mono ?_
              rintro e y2 ⟨rfl, kq⟩
              refine hKq.out _ _ (MK.out _ (KQ.trans kq)) (fun hN => ?_)
              clear kq
              clear hKq K hH KQ
              have hH := hN
              clear hN
              have KQ := hH.2.2.2.2.2.out
              try simp only [Act.put, List.setIfInBounds_toArray, List.set_cons_zero, List.set_cons_succ]
              refine wpAnyH_take (i := 4) (oi := { dst := some 96, op := Op.move (Operand.tmp 95), type := 4, pos := "law.go:151", after := #[{ on := 3, ground := Ground.data }, { on := 3, ground := Ground.chain }], guard := none }) (v := ?v4d3) rfl (by kernel_rfl) (by kernel_rfl) (by kernel_rfl) (fun _ _ _ h => h) (Or.inl ⟨by rfl, ?hy4d3⟩) hH ?r4d3
              case hy4d3 => (intro W hSw; (try dsimp only at hSw); go_simp; try (with_reducible rfl))
              try simp only [Act.put, List.setIfInBounds_toArray, List.set_cons_zero, List.set_cons_succ]
              refine wpAnyH_take (i := 5) (oi := { dst := some 97, op := Op.load 24 (Operand.tmp 16), type := 24, pos := "law.go:151", after := #[{ on := 4, ground := Ground.guard }], guard := some (4, true) }) (v := ?v5d4) rfl (by kernel_rfl) (by kernel_rfl) (by kernel_rfl) (fun _ _ _ h => h) (Or.inl ⟨by rfl, ?hy5d4⟩) hH ?r5d4
              case hy5d4 => (intro W hSw; (try dsimp only at hSw); go_simp; try (with_reducible rfl))
              try simp only [Act.put, List.setIfInBounds_toArray, List.set_cons_zero, List.set_cons_succ]
              refine wpAnyH_take (i := 7) (oi := { dst := some 99, op := Op.move (Operand.tmp 22), type := 32, pos := "law.go:151", after := #[{ on := 4, ground := Ground.guard }], guard := some (4, true) }) (v := ?v7d5) rfl (by kernel_rfl) (by kernel_rfl) (by kernel_rfl) (fun _ _ _ h => h) (Or.inl ⟨by rfl, ?hy7d5⟩) hH ?r7d5
              case hy7d5 => (intro W hSw; (try dsimp only at hSw); go_simp; try (with_reducible rfl))
              try simp only [Act.put, List.setIfInBounds_toArray, List.set_cons_zero, List.set_cons_succ]
              refine wpAnyH_ready (rs := [6]) (by kernel_rfl) (by simp) ?_
              refine AllReadyH.cons (o := { dst := some 98, op := Op.call { callee := Callee.value (Operand.func 12), args := #[Operand.tmp 97], argTypes := #[24] }, type := 32, pos := "law.go:151", after := #[{ on := 5, ground := Ground.data }, { on := 4, ground := Ground.chain }, { on := 4, ground := Ground.guard }], guard := some (4, true) }) rfl (fun K hKq => ?_) AllReadyH.nil
              go_simp
              refine (items_ok y (xs.drop p2 ++ xs.drop p2 ++ xs.take p2) _ (O6.out.2.1.kp KQ) (by have := SX.out.2.2; omega)).mono ?_
              rintro e y3 ⟨vi, rfl, oi, kq⟩
              have OI2 : Hid (Sl y3 vi (xs.drop p2 ++ xs.drop p2 ++ xs.take p2)) := oi.sl
              clear oi
              refine hKq.out _ _ (MK.out _ (KQ.trans kq)) (fun hN => ?_)
              clear kq
              clear hKq K hH KQ
              have hH := hN
              clear hN
              have KQ := hH.2.2.2.2.2.out
              try simp only [Act.put, List.setIfInBounds_toArray, List.set_cons_zero, List.set_cons_succ]
              refine wpAnyH_ready (rs := [8]) (by kernel_rfl) (by simp) ?_
              refine AllReadyH.cons (o := { dst := some 100, op := Op.call { callee := Callee.value (Operand.func 18), args := #[Operand.tmp 98, Operand.tmp 99], argTypes := #[32, 32] }, type := 4, pos := "law.go:151", after := #[{ on := 6, ground := Ground.data }, { on := 7, ground := Ground.data }, { on := 6, ground := Ground.chain }, { on := 4, ground := Ground.guard }], guard := some (4, true) }) rfl (fun K hKq => ?_) AllReadyH.nil
              go_simp
              refine (same_any _ _ (xs.drop p2 ++ xs.drop p2 ++ xs.take p2) _ OI2.out (T6.out.1.kp KQ) SX.out.2.1 (by have := SX.out.2.2; omega)).mono ?_
              rintro e y4 ⟨rfl, kq⟩
              refine hKq.out _ _ (MK.out _ (KQ.trans kq)) (fun hN => ?_)
              clear kq
              clear hKq K hH KQ
              have hH := hN
              clear hN
              have KQ := hH.2.2.2.2.2.out
              try simp only [Act.put, List.setIfInBounds_toArray, List.set_cons_zero, List.set_cons_succ]
              refine wpAnyH_take (i := 9) (oi := { dst := some 101, op := Op.pick (Operand.tmp 96) (Operand.tmp 100) (Operand.const (Value.bool false)), type := 4, pos := "law.go:151", after := #[{ on := 4, ground := Ground.data }, { on := 8, ground := Ground.data }], guard := none }) (v := ?v9d6) rfl (by kernel_rfl) (by kernel_rfl) (by kernel_rfl) (fun _ _ _ h => h) (Or.inl ⟨by rfl, ?hy9d6⟩) hH ?r9d6
              case hy9d6 => (intro W hSw; (try dsimp only at hSw); go_simp; try (with_reducible rfl))
              try simp only [Act.put, List.setIfInBounds_toArray, List.set_cons_zero, List.set_cons_succ]
              refine wpAnyH_take (i := 10) (oi := { dst := some 102, op := Op.move (Operand.tmp 101), type := 4, pos := "law.go:151", after := #[{ on := 9, ground := Ground.data }, { on := 8, ground := Ground.chain }], guard := none }) (v := ?v10d7) rfl (by kernel_rfl) (by kernel_rfl) (by kernel_rfl) (fun _ _ _ h => h) (Or.inl ⟨by rfl, ?hy10d7⟩) hH ?r10d7
              case hy10d7 => (intro W hSw; (try dsimp only at hSw); go_simp; try (with_reducible rfl))
              try simp only [Act.put, List.setIfInBounds_toArray, List.set_cons_zero, List.set_cons_succ]
              refine wpAnyH_take (i := 11) (oi := { dst := some 103, op := Op.load 24 (Operand.tmp 10), type := 24, pos := "law.go:151", after := #[{ on := 10, ground := Ground.guard }], guard := some (10, true) }) (v := ?v11d8) rfl (by kernel_rfl) (by kernel_rfl) (by kernel_rfl) (fun _ _ _ h => h) (Or.inl ⟨by rfl, ?hy11d8⟩) hH ?r11d8
              case hy11d8 => (intro W hSw; (try dsimp only at hSw); go_simp; try (with_reducible rfl))
              try simp only [Act.put, List.setIfInBounds_toArray, List.set_cons_zero, List.set_cons_succ]
              refine wpAnyH_take (i := 13) (oi := { dst := some 105, op := Op.move (Operand.tmp 8), type := 32, pos := "law.go:151", after := #[{ on := 10, ground := Ground.guard }], guard := some (10, true) }) (v := ?v13d9) rfl (by kernel_rfl) (by kernel_rfl) (by kernel_rfl) (fun _ _ _ h => h) (Or.inl ⟨by rfl, ?hy13d9⟩) hH ?r13d9
              case hy13d9 => (intro W hSw; (try dsimp only at hSw); go_simp; try (with_reducible rfl))
              try simp only [Act.put, List.setIfInBounds_toArray, List.set_cons_zero, List.set_cons_succ]
              refine wpAnyH_ready (rs := [12]) (by kernel_rfl) (by simp) ?_
              refine AllReadyH.cons (o := { dst := some 104, op := Op.call { callee := Callee.value (Operand.func 12), args := #[Operand.tmp 103], argTypes := #[24] }, type := 32, pos := "law.go:151", after := #[{ on := 11, ground := Ground.data }, { on := 10, ground := Ground.chain }, { on := 10, ground := Ground.guard }], guard := some (10, true) }) rfl (fun K hKq => ?_) AllReadyH.nil
              go_simp
              refine (items_ok r (xs) _ (O6.out.2.2.1.kp KQ) (by have := LX.out.1; omega)).mono ?_
              rintro e y5 ⟨vi, rfl, oi, kq⟩
              have OI3 : Hid (Sl y5 vi (xs)) := oi.sl
              clear oi
              refine hKq.out _ _ (MK.out _ (KQ.trans kq)) (fun hN => ?_)
              clear kq
              clear hKq K hH KQ
              have hH := hN
              clear hN
              have KQ := hH.2.2.2.2.2.out
              try simp only [Act.put, List.setIfInBounds_toArray, List.set_cons_zero, List.set_cons_succ]
              refine wpAnyH_ready (rs := [14]) (by kernel_rfl) (by simp) ?_
              refine AllReadyH.cons (o := { dst := some 106, op := Op.call { callee := Callee.value (Operand.func 18), args := #[Operand.tmp 104, Operand.tmp 105], argTypes := #[32, 32] }, type := 4, pos := "law.go:151", after := #[{ on := 12, ground := Ground.data }, { on := 13, ground := Ground.data }, { on := 12, ground := Ground.chain }, { on := 10, ground := Ground.guard }], guard := some (10, true) }) rfl (fun K hKq => ?_) AllReadyH.nil
              go_simp
              refine (same_any _ _ (xs) _ OI3.out (T6.out.2.2.2.2.kp KQ) LX.out.2 (by have := LX.out.1; omega)).mono ?_
              rintro e y6 ⟨rfl, kq⟩
              refine hKq.out _ _ (MK.out _ (KQ.trans kq)) (fun hN => ?_)
              clear kq
              clear hKq K hH KQ
              have hH := hN
              clear hN
              have KQ := hH.2.2.2.2.2.out
              try simp only [Act.put, List.setIfInBounds_toArray, List.set_cons_zero, List.set_cons_succ]
              refine wpAnyH_take (i := 15) (oi := { dst := some 107, op := Op.pick (Operand.tmp 102) (Operand.tmp 106) (Operand.const (Value.bool false)), type := 4, pos := "law.go:151", after := #[{ on := 10, ground := Ground.data }, { on := 14, ground := Ground.data }], guard := none }) (v := ?v15d10) rfl (by kernel_rfl) (by kernel_rfl) (by kernel_rfl) (fun _ _ _ h => h) (Or.inl ⟨by rfl, ?hy15d10⟩) hH ?r15d10
              case hy15d10 => (intro W hSw; (try dsimp only at hSw); go_simp; try (with_reducible rfl))
              try simp only [Act.put, List.setIfInBounds_toArray, List.set_cons_zero, List.set_cons_succ]
              refine wpAnyH_take (i := 16) (oi := { dst := some 108, op := Op.move (Operand.tmp 107), type := 4, pos := "law.go:151", after := #[{ on := 15, ground := Ground.data }, { on := 14, ground := Ground.chain }], guard := none }) (v := ?v16d11) rfl (by kernel_rfl) (by kernel_rfl) (by kernel_rfl) (fun _ _ _ h => h) (Or.inl ⟨by rfl, ?hy16d11⟩) hH ?r16d11
              case hy16d11 => (intro W hSw; (try dsimp only at hSw); go_simp; try (with_reducible rfl))
              try simp only [Act.put, List.setIfInBounds_toArray, List.set_cons_zero, List.set_cons_succ]
              refine wpAnyH_take (i := 18) (oi := { dst := some 110, op := Op.move (Operand.tmp 17), type := 32, pos := "law.go:151", after := #[{ on := 16, ground := Ground.guard }], guard := some (16, true) }) (v := ?v18d12) rfl (by kernel_rfl) (by kernel_rfl) (by kernel_rfl) (fun _ _ _ h => h) (Or.inl ⟨by rfl, ?hy18d12⟩) hH ?r18d12
              case hy18d12 => (intro W hSw; (try dsimp only at hSw); go_simp; try (with_reducible rfl))
              try simp only [Act.put, List.setIfInBounds_toArray, List.set_cons_zero, List.set_cons_succ]
              refine wpAnyH_take (i := 20) (oi := { dst := some 112, op := Op.move (Operand.tmp 18), type := 32, pos := "law.go:151", after := #[{ on := 16, ground := Ground.guard }], guard := some (16, true) }) (v := ?v20d13) rfl (by kernel_rfl) (by kernel_rfl) (by kernel_rfl) (fun _ _ _ h => h) (Or.inl ⟨by rfl, ?hy20d13⟩) hH ?r20d13
              case hy20d13 => (intro W hSw; (try dsimp only at hSw); go_simp; try (with_reducible rfl))
              try simp only [Act.put, List.setIfInBounds_toArray, List.set_cons_zero, List.set_cons_succ]
              refine wpAnyH_take (i := 22) (oi := { dst := some 114, op := Op.move (Operand.tmp 8), type := 32, pos := "law.go:151", after := #[{ on := 16, ground := Ground.guard }], guard := some (16, true) }) (v := ?v22d14) rfl (by kernel_rfl) (by kernel_rfl) (by kernel_rfl) (fun _ _ _ h => h) (Or.inl ⟨by rfl, ?hy22d14⟩) hH ?r22d14
              case hy22d14 => (intro W hSw; (try dsimp only at hSw); go_simp; try (with_reducible rfl))
              try simp only [Act.put, List.setIfInBounds_toArray, List.set_cons_zero, List.set_cons_succ]
              refine wpAnyH_ready (rs := [17]) (by kernel_rfl) (by simp) ?_
              refine AllReadyH.cons (o := { dst := some 109, op := Op.buildSlice 32 0 #[], type := 32, pos := "law.go:151", after := #[{ on := 16, ground := Ground.guard }], guard := some (16, true) }) rfl (fun K hKq => ?_) AllReadyH.nil
              go_simp
              have KB := KQ
              refine hKq.out _ _ (MK.out _ (KQ.alloc _)) (fun hN => ?_)
              clear hKq K hH KQ
              have hH := hN
              clear hN
              have KQ := hH.2.2.2.2.2.out
              try simp only [Act.put, List.setIfInBounds_toArray, List.set_cons_zero, List.set_cons_succ]
              refine wpAnyH_ready (rs := [19]) (by kernel_rfl) (by simp) ?_
              refine AllReadyH.cons (o := { dst := some 111, op := Op.call { callee := Callee.builtin Builtin.append, args := #[Operand.tmp 109, Operand.tmp 110], argTypes := #[32, 32] }, type := 32, pos := "law.go:151", after := #[{ on := 17, ground := Ground.data }, { on := 18, ground := Ground.data }, { on := 16, ground := Ground.chain }, { on := 16, ground := Ground.guard }], guard := some (16, true) }) rfl (fun K hKq => ?_) AllReadyH.nil
              refine step_append_sl y6 _ (by rfl) _ _ (by rfl) _ _ [] (xs.take p1) (by rfl) (by rfl) ?g11 ?s11 ?n11 ?_
              case g11 => exact Ga.made _
              case s11 => exact T6.out.2.2.1.kp KQ
              case n11 => have := NN.out; simp only [List.length_nil]; omega
              intro va1 qa ga
              refine hKq.out _ _ (MK.out _ (KB.trans ga.k)) (fun hN => ?_)
              clear hKq K hH KQ
              have hH := hN
              clear hN
              have KQ := hH.2.2.2.2.2.out
              try simp only [Act.put, List.setIfInBounds_toArray, List.set_cons_zero, List.set_cons_succ]
              refine wpAnyH_ready (rs := [21]) (by kernel_rfl) (by simp) ?_
              refine AllReadyH.cons (o := { dst := some 113, op := Op.call { callee := Callee.builtin Builtin.append, args := #[Operand.tmp 111, Operand.tmp 112], argTypes := #[32, 32] }, type := 32, pos := "law.go:151", after := #[{ on := 19, ground := Ground.data }, { on := 20, ground := Ground.data }, { on := 19, ground := Ground.chain }, { on := 16, ground := Ground.guard }], guard := some (16, true) }) rfl (fun K hKq => ?_) AllReadyH.nil
              refine step_append_sl y6 _ (by rfl) _ _ (by rfl) _ _ ([] ++ xs.take p1) (xs.drop p1) (by rfl) (by rfl) ga ?s12 ?n12 ?_
              case s12 => exact T6.out.2.2.2.1.kp KQ
              case n12 => have := NN.out; simp only [List.length_append, List.length_nil]; omega
              intro va2 qb gb
              have SAB : Hid (Sl qb va2 xs) := by show Sl qb va2 xs; simpa using gb.o.sl
              refine hKq.out _ _ (MK.out _ (KB.trans gb.k)) (fun hN => ?_)
              clear ga gb
              clear hKq K hH KQ
              have hH := hN
              clear hN
              have KQ := hH.2.2.2.2.2.out
              try simp only [Act.put, List.setIfInBounds_toArray, List.set_cons_zero, List.set_cons_succ]
              refine wpAnyH_ready (rs := [23]) (by kernel_rfl) (by simp) ?_
              refine AllReadyH.cons (o := { dst := some 115, op := Op.call { callee := Callee.value (Operand.func 18), args := #[Operand.tmp 113, Operand.tmp 114], argTypes := #[32, 32] }, type := 4, pos := "law.go:151", after := #[{ on := 21, ground := Ground.data }, { on := 22, ground := Ground.data }, { on := 21, ground := Ground.chain }, { on := 16, ground := Ground.guard }], guard := some (16, true) }) rfl (fun K hKq => ?_) AllReadyH.nil
              go_simp
              refine (same_any _ _ xs _ SAB.out (T6.out.2.2.2.2.kp KQ) LX.out.2 (by have := LX.out.1; omega)).mono ?_
              rintro e y10 ⟨rfl, kq⟩
              refine hKq.out _ _ (MK.out _ (KQ.trans kq)) (fun hN => ?_)
              clear kq
              clear hKq K hH KQ
              have hH := hN
              clear hN
              have KQ := hH.2.2.2.2.2.out
              try simp only [Act.put, List.setIfInBounds_toArray, List.set_cons_zero, List.set_cons_succ]
              refine wpAnyH_take (i := 24) (oi := { dst := some 116, op := Op.pick (Operand.tmp 108) (Operand.tmp 115) (Operand.const (Value.bool false)), type := 4, pos := "law.go:151", after := #[{ on := 16, ground := Ground.data }, { on := 23, ground := Ground.data }], guard := none }) (v := ?v24d15) rfl (by kernel_rfl) (by kernel_rfl) (by kernel_rfl) (fun _ _ _ h => h) (Or.inl ⟨by rfl, ?hy24d15⟩) hH ?r24d15
              case hy24d15 => (intro W hSw; (try dsimp only at hSw); go_simp; try (with_reducible rfl))
              try simp only [Act.put, List.setIfInBounds_toArray, List.set_cons_zero, List.set_cons_succ]
              refine wpAnyH_take (i := 25) (oi := { dst := some 117, op := Op.move (Operand.tmp 116), type := 4, pos := "law.go:151", after := #[{ on := 24, ground := Ground.data }, { on := 23, ground := Ground.chain }], guard := none }) (v := ?v25d16) rfl (by kernel_rfl) (by kernel_rfl) (by kernel_rfl) (fun _ _ _ h => h) (Or.inl ⟨by rfl, ?hy25d16⟩) hH ?r25d16
              case hy25d16 => (intro W hSw; (try dsimp only at hSw); go_simp; try (with_reducible rfl))
              try simp only [Act.put, List.setIfInBounds_toArray, List.set_cons_zero, List.set_cons_succ]
              refine wpAnyH_take (i := 26) (oi := { dst := some 118, op := Op.load 24 (Operand.tmp 16), type := 24, pos := "law.go:151", after := #[{ on := 25, ground := Ground.guard }], guard := some (25, true) }) (v := ?v26d17) rfl (by kernel_rfl) (by kernel_rfl) (by kernel_rfl) (fun _ _ _ h => h) (Or.inl ⟨by rfl, ?hy26d17⟩) hH ?r26d17
              case hy26d17 => (intro W hSw; (try dsimp only at hSw); go_simp; try (with_reducible rfl))
              try simp only [Act.put, List.setIfInBounds_toArray, List.set_cons_zero, List.set_cons_succ]
              refine wpAnyH_take (i := 28) (oi := { dst := some 120, op := Op.load 24 (Operand.tmp 14), type := 24, pos := "law.go:151", after := #[{ on := 25, ground := Ground.guard }], guard := some (25, true) }) (v := ?v28d18) rfl (by kernel_rfl) (by kernel_rfl) (by kernel_rfl) (fun _ _ _ h => h) (Or.inl ⟨by rfl, ?hy28d18⟩) hH ?r28d18
              case hy28d18 => (intro W hSw; (try dsimp only at hSw); go_simp; try (with_reducible rfl))
              try simp only [Act.put, List.setIfInBounds_toArray, List.set_cons_zero, List.set_cons_succ]
              refine wpAnyH_take (i := 30) (oi := { dst := some 122, op := Op.load 24 (Operand.tmp 14), type := 24, pos := "law.go:151", after := #[{ on := 25, ground := Ground.guard }], guard := some (25, true) }) (v := ?v30d19) rfl (by kernel_rfl) (by kernel_rfl) (by kernel_rfl) (fun _ _ _ h => h) (Or.inl ⟨by rfl, ?hy30d19⟩) hH ?r30d19
              case hy30d19 => (intro W hSw; (try dsimp only at hSw); go_simp; try (with_reducible rfl))
              try simp only [Act.put, List.setIfInBounds_toArray, List.set_cons_zero, List.set_cons_succ]
              refine wpAnyH_take (i := 32) (oi := { dst := some 124, op := Op.load 24 (Operand.tmp 13), type := 24, pos := "law.go:151", after := #[{ on := 25, ground := Ground.guard }], guard := some (25, true) }) (v := ?v32d20) rfl (by kernel_rfl) (by kernel_rfl) (by kernel_rfl) (fun _ _ _ h => h) (Or.inl ⟨by rfl, ?hy32d20⟩) hH ?r32d20
              case hy32d20 => (intro W hSw; (try dsimp only at hSw); go_simp; try (with_reducible rfl))
              try simp only [Act.put, List.setIfInBounds_toArray, List.set_cons_zero, List.set_cons_succ]
              refine wpAnyH_ready (rs := [27]) (by kernel_rfl) (by simp) ?_
              refine AllReadyH.cons (o := { dst := some 119, op := Op.call { callee := Callee.value (Operand.func 20), args := #[Operand.tmp 118], argTypes := #[24] }, type := 26, pos := "law.go:151", after := #[{ on := 26, ground := Ground.data }, { on := 25, ground := Ground.chain }, { on := 25, ground := Ground.guard }], guard := some (25, true) }) rfl (fun K hKq => ?_) AllReadyH.nil
              go_simp
              refine (mark_ok y _ _ (O6.out.2.1.kp KQ)).mono ?_
              rintro e y11 ⟨rfl, kq⟩
              rw [EE.out.2.2]
              refine hKq.out _ _ (MK.out _ (KQ.trans kq)) (fun hN => ?_)
              clear kq
              clear hKq K hH KQ
              have hH := hN
              clear hN
              have KQ := hH.2.2.2.2.2.out
              try simp only [Act.put, List.setIfInBounds_toArray, List.set_cons_zero, List.set_cons_succ]
              refine wpAnyH_ready (rs := [29]) (by kernel_rfl) (by simp) ?_
              refine AllReadyH.cons (o := { dst := some 121, op := Op.call { callee := Callee.value (Operand.func 20), args := #[Operand.tmp 120], argTypes := #[24] }, type := 26, pos := "law.go:151", after := #[{ on := 28, ground := Ground.data }, { on := 27, ground := Ground.chain }, { on := 25, ground := Ground.guard }], guard := some (25, true) }) rfl (fun K hKq => ?_) AllReadyH.nil
              go_simp
              refine (mark_ok d _ _ (O6.out.2.2.2.1.kp KQ)).mono ?_
              rintro e y12 ⟨rfl, kq⟩
              rw [EE.out.1]
              refine hKq.out _ _ (MK.out _ (KQ.trans kq)) (fun hN => ?_)
              clear kq
              clear hKq K hH KQ
              have hH := hN
              clear hN
              have KQ := hH.2.2.2.2.2.out
              try simp only [Act.put, List.setIfInBounds_toArray, List.set_cons_zero, List.set_cons_succ]
              refine wpAnyH_ready (rs := [31]) (by kernel_rfl) (by simp) ?_
              refine AllReadyH.cons (o := { dst := some 123, op := Op.call { callee := Callee.value (Operand.func 20), args := #[Operand.tmp 122], argTypes := #[24] }, type := 26, pos := "law.go:151", after := #[{ on := 30, ground := Ground.data }, { on := 29, ground := Ground.chain }, { on := 25, ground := Ground.guard }], guard := some (25, true) }) rfl (fun K hKq => ?_) AllReadyH.nil
              go_simp
              refine (mark_ok d _ _ (O6.out.2.2.2.1.kp KQ)).mono ?_
              rintro e y13 ⟨rfl, kq⟩
              rw [EE.out.1]
              refine hKq.out _ _ (MK.out _ (KQ.trans kq)) (fun hN => ?_)
              clear kq
              clear hKq K hH KQ
              have hH := hN
              clear hN
              have KQ := hH.2.2.2.2.2.out
              try simp only [Act.put, List.setIfInBounds_toArray, List.set_cons_zero, List.set_cons_succ]
              refine wpAnyH_ready (rs := [33]) (by kernel_rfl) (by simp) ?_
              refine AllReadyH.cons (o := { dst := some 125, op := Op.call { callee := Callee.value (Operand.func 20), args := #[Operand.tmp 124], argTypes := #[24] }, type := 26, pos := "law.go:151", after := #[{ on := 32, ground := Ground.data }, { on := 31, ground := Ground.chain }, { on := 25, ground := Ground.guard }], guard := some (25, true) }) rfl (fun K hKq => ?_) AllReadyH.nil
              go_simp
              refine (mark_ok c _ _ (O6.out.2.2.2.2.kp KQ)).mono ?_
              rintro e y14 ⟨rfl, kq⟩
              rw [EE.out.2.1]
              refine hKq.out _ _ (MK.out _ (KQ.trans kq)) (fun hN => ?_)
              clear kq
              clear hKq K hH KQ
              have hH := hN
              clear hN
              have KQ := hH.2.2.2.2.2.out
              try simp only [Act.put, List.setIfInBounds_toArray, List.set_cons_zero, List.set_cons_succ]
              refine wpAnyH_ready (rs := [34]) (by kernel_rfl) (by simp) ?_
              refine AllReadyH.cons (o := { dst := some 126, op := Op.buildSlice 68 3 #[(0, Operand.tmp 121), (1, Operand.tmp 123), (2, Operand.tmp 125)], type := 68, pos := "law.go:151", after := #[{ on := 29, ground := Ground.data }, { on := 31, ground := Ground.data }, { on := 33, ground := Ground.data }, { on := 25, ground := Ground.guard }], guard := some (25, true) }) rfl (fun K hKq => ?_) AllReadyH.nil
              go_simp
              refine hKq.out _ _ (MK.out _ (by first | exact KQ.alloc _ | exact (KQ0.alloc _).drew)) (fun hN => ?_)
              clear hKq K hH KQ
              have hH := hN
              clear hN
              have KQ := hH.2.2.2.2.2.out
              try simp only [Act.put, List.setIfInBounds_toArray, List.set_cons_zero, List.set_cons_succ]
              refine wpAnyH_ready (rs := [35]) (by kernel_rfl) (by simp) ?_
              refine AllReadyH.cons (o := { dst := some 127, op := Op.call { callee := Callee.value (Operand.func 19), args := #[Operand.tmp 126], argTypes := #[68] }, type := 26, pos := "law.go:151", after := #[{ on := 34, ground := Ground.data }, { on := 33, ground := Ground.chain }, { on := 25, ground := Ground.guard }], guard := some (25, true) }) rfl (fun K hKq => ?_) AllReadyH.nil
              go_simp
              refine (SUM.out _ _ ?hX13).mono ?_
              case hX13 => first | exact last_of _ _ | exact last_drew _ _
              rintro e yy ⟨rfl, rfl⟩
              refine hKq.out _ _ (MK.out _ KQ) (fun hN => ?_)
              clear hKq K hH KQ
              have hH := hN
              clear hN
              have KQ := hH.2.2.2.2.2.out
              try simp only [Act.put, List.setIfInBounds_toArray, List.set_cons_zero, List.set_cons_succ]
              refine wpAnyH_take (i := 36) (oi := { dst := some 128, op := Op.binOp BinOp.eql 26 (Operand.tmp 119) (Operand.tmp 127) 26, type := 4, pos := "law.go:151", after := #[{ on := 27, ground := Ground.data }, { on := 35, ground := Ground.data }, { on := 25, ground := Ground.guard }], guard := some (25, true) }) (v := ?v36d21) rfl (by kernel_rfl) (by kernel_rfl) (by kernel_rfl) (fun _ _ _ h => h) (Or.inl ⟨by rfl, ?hy36d21⟩) hH ?r36d21
              case hy36d21 => (intro W hSw; (try dsimp only at hSw); go_simp; try (with_reducible rfl))
              try simp only [Act.put, List.setIfInBounds_toArray, List.set_cons_zero, List.set_cons_succ]
              refine wpAnyH_take (i := 37) (oi := { dst := some 129, op := Op.pick (Operand.tmp 117) (Operand.tmp 128) (Operand.const (Value.bool false)), type := 4, pos := "law.go:151", after := #[{ on := 25, ground := Ground.data }, { on := 36, ground := Ground.data }], guard := none }) (v := ?v37d22) rfl (by kernel_rfl) (by kernel_rfl) (by kernel_rfl) (fun _ _ _ h => h) (Or.inl ⟨by rfl, ?hy37d22⟩) hH ?r37d22
              case hy37d22 => (intro W hSw; (try dsimp only at hSw); go_simp; try (with_reducible rfl))
              try simp only [Act.put, List.setIfInBounds_toArray, List.set_cons_zero, List.set_cons_succ]
              refine wpAnyH_take (i := 38) (oi := { dst := some 130, op := Op.move (Operand.tmp 129), type := 4, pos := "law.go:151", after := #[{ on := 37, ground := Ground.data }, { on := 35, ground := Ground.chain }], guard := none }) (v := ?v38d23) rfl (by kernel_rfl) (by kernel_rfl) (by kernel_rfl) (fun _ _ _ h => h) (Or.inl ⟨by rfl, ?hy38d23⟩) hH ?r38d23
              case hy38d23 => (intro W hSw; (try dsimp only at hSw); go_simp; try (with_reducible rfl))
              try simp only [Act.put, List.setIfInBounds_toArray, List.set_cons_zero, List.set_cons_succ]
              refine wpAnyH_ready (rs := [39]) (by kernel_rfl) (by simp) ?_
              refine AllReadyH.cons (o := { dst := some 131, op := Op.call { callee := Callee.value (Operand.func 3), args := #[], argTypes := #[] }, type := 4, pos := "law.go:151", after := #[{ on := 38, ground := Ground.chain }, { on := 38, ground := Ground.guard }], guard := some (38, true) }) rfl (fun K hKq => ?_) AllReadyH.nil
              go_simp
              refine (runs_any _).mono ?_
              rintro e y17 ⟨rfl, kq⟩
              refine hKq.out _ _ (MK.out _ (KQ.trans kq)) (fun hN => ?_)
              clear kq
              clear hKq K hH KQ
              have hH := hN
              clear hN
              have KQ := hH.2.2.2.2.2.out
              try simp only [Act.put, List.setIfInBounds_toArray, List.set_cons_zero, List.set_cons_succ]
              refine wpAnyH_take (i := 40) (oi := { dst := some 132, op := Op.pick (Operand.tmp 130) (Operand.tmp 131) (Operand.const (Value.bool false)), type := 4, pos := "law.go:151", after := #[{ on := 38, ground := Ground.data }, { on := 39, ground := Ground.data }], guard := none }) (v := ?v40d24) rfl (by kernel_rfl) (by kernel_rfl) (by kernel_rfl) (fun _ _ _ h => h) (Or.inl ⟨by rfl, ?hy40d24⟩) hH ?r40d24
              case hy40d24 => (intro W hSw; (try dsimp only at hSw); go_simp; try (with_reducible rfl))
              try simp only [Act.put, List.setIfInBounds_toArray, List.set_cons_zero, List.set_cons_succ]
              refine wpAnyH_take (i := 41) (oi := { dst := some 6, op := Op.assign (Operand.tmp 132), type := 4, pos := "law.go:151", after := #[{ on := 40, ground := Ground.data }, { on := 39, ground := Ground.chain }, { on := 0, ground := Ground.phase }, { on := 1, ground := Ground.phase }, { on := 2, ground := Ground.phase }, { on := 3, ground := Ground.phase }, { on := 4, ground := Ground.phase }, { on := 5, ground := Ground.phase }, { on := 6, ground := Ground.phase }, { on := 7, ground := Ground.phase }, { on := 8, ground := Ground.phase }, { on := 9, ground := Ground.phase }, { on := 10, ground := Ground.phase }, { on := 11, ground := Ground.phase }, { on := 12, ground := Ground.phase }, { on := 13, ground := Ground.phase }, { on := 14, ground := Ground.phase }, { on := 15, ground := Ground.phase }, { on := 16, ground := Ground.phase }, { on := 17, ground := Ground.phase }, { on := 18, ground := Ground.phase }, { on := 19, ground := Ground.phase }, { on := 20, ground := Ground.phase }, { on := 21, ground := Ground.phase }, { on := 22, ground := Ground.phase }, { on := 23, ground := Ground.phase }, { on := 24, ground := Ground.phase }, { on := 25, ground := Ground.phase }, { on := 26, ground := Ground.phase }, { on := 27, ground := Ground.phase }, { on := 28, ground := Ground.phase }, { on := 29, ground := Ground.phase }, { on := 30, ground := Ground.phase }, { on := 31, ground := Ground.phase }, { on := 32, ground := Ground.phase }, { on := 33, ground := Ground.phase }, { on := 34, ground := Ground.phase }, { on := 35, ground := Ground.phase }, { on := 36, ground := Ground.phase }, { on := 37, ground := Ground.phase }, { on := 38, ground := Ground.phase }, { on := 39, ground := Ground.phase }, { on := 40, ground := Ground.phase }], guard := none }) (v := ?v41d25) rfl (by kernel_rfl) (by kernel_rfl) (by kernel_rfl) (fun _ _ _ h => h) (Or.inl ⟨by rfl, ?hy41d25⟩) hH ?r41d25
              case hy41d25 => (intro W hSw; (try dsimp only at hSw); go_simp; try (with_reducible rfl))
              try simp only [Act.put, List.setIfInBounds_toArray, List.set_cons_zero, List.set_cons_succ]
              refine wpAnyH_done (by kernel_rfl) ?_ _
              refine NoPanic.normal ?_
              go_wp2_with fail
              go_ret
              exact ⟨rfl, KW.out.trans KQ⟩
end Go.Proofs.Ytjphjnpcpbenlaa
