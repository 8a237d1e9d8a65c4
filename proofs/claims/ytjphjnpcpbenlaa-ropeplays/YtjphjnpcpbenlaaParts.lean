/-
  The law RopeParts.
-/
import Derived.Test.YtjphjnpcpbenlaaLooks
import Derived.Test.YtjphjnpcpbenlaaFrame
namespace Go.Proofs.Ytjphjnpcpbenlaa
open Go.RowKit
attribute [local go_sem] run_store_complex

/-- The items of the first k keys. -/
def kit (kf : Nat → Int) (i : Nat) : It := ⟨kf i, 1, (wit (kf i) 0 99).toNat⟩
def kits (kf : Nat → Int) (k : Nat) : List It := (List.range k).map (kit kf)
theorem kits_succ (kf : Nat → Int) (k : Nat) : kits kf (k + 1) = kits kf k ++ [kit kf k] := by simp [kits, List.range_succ]
theorem kits_len (kf : Nat → Int) (k : Nat) : (kits kf k).length = k := by simp [kits]
theorem kit_sm (kf : Nat → Int) (i : Nat) : (kit kf i).l ≤ 100 ∧ (kit kf i).y ≤ 100 := by
  have := wit_le (kf i) 0 99 (by omega)
  exact ⟨by show 1 ≤ 100; omega, by show (wit (kf i) 0 99).toNat ≤ 100; omega⟩
theorem kits_sm (kf : Nat → Int) (k : Nat) : Sm (kits kf k) := by
  intro x hx
  simp only [kits, List.mem_map] at hx
  obtain ⟨i, _, rfl⟩ := hx
  exact kit_sm kf i
theorem one_sm {x : It} (h : x.l ≤ 100 ∧ x.y ≤ 100) : Sm [x] := by intro y hy; simp at hy; subst hy; exact h

theorem of_one (x : It) (w : World) (B : Nat) (hx : x.l ≤ 100 ∧ x.y ≤ 100) (h : w.heap[B]? = some (.cells #[.int .i64 x.key, cx (x.l : Nat) (x.y : Nat)] 29)) :
    Calls Try.prog 8 #[.slice (some ⟨B, 0, none⟩) 1 1] w fun e w' => ∃ t, e = .returned (rv t) ∧ Ok w' t [x] ∧ Kp w w' :=
  of_ok _ [x] w (Sl.block h (vals_one x).symm 1 1 rfl (by omega) (by omega)) (by simp) (one_sm hx)

def at3 (a c f : Int) (j : Nat) : Int := if j = 0 then a else if j = 1 then c else f
theorem sum3 (a b c d f g : Nat) (w : World) (B : Nat) (ha : a + c + f ≤ 1000000000) (hb : b + d + g ≤ 1000000000)
    (h : w.heap[B]? = some (.cells #[cx (a : Nat) (b : Nat), cx (c : Nat) (d : Nat), cx (f : Nat) (g : Nat)] 26)) :
    Calls Try.prog 19 #[.slice (some ⟨B, 0, none⟩) 3 3] w fun e w' => e = .returned (cx ((a + c + f : Nat) : Int) ((b + d + g : Nat) : Int)) ∧ w' = w := by
  have e1 : psum (at3 a c f) 3 = ((a + c + f : Nat) : Int) := by simp [psum, at3]
  have e2 : psum (at3 b d g) 3 = ((b + d + g : Nat) : Int) := by simp [psum, at3]
  have := sum_any (at3 a c f) (at3 b d g) B 0 3 3 w (by omega)
    (by intro j hj
        have : j = 0 ∨ j = 1 ∨ j = 2 := by omega
        rcases this with rfl | rfl | rfl <;> simp [World.cell?, h, at3])
    (by intro j hj; rcases lt4 (by omega : j < 4) with rfl | rfl | rfl | rfl <;> (simp only [at3]; exact small (by simp; try omega) (by simp; try omega)))
    (by intro j hj; rcases lt4 (by omega : j < 4) with rfl | rfl | rfl | rfl <;> (simp only [at3]; exact small (by simp; try omega) (by simp; try omega)))
    (by intro j hj; have : j = 0 ∨ j = 1 ∨ j = 2 ∨ j = 3 := by omega
        rcases this with rfl | rfl | rfl | rfl <;> (simp only [psum, at3]; exact small (by simp; try omega) (by simp; try omega)))
    (by intro j hj; have : j = 0 ∨ j = 1 ∨ j = 2 ∨ j = 3 := by omega
        rcases this with rfl | rfl | rfl | rfl <;> (simp only [psum, at3]; exact small (by simp; try omega) (by simp; try omega)))
  rw [e1, e2] at this
  exact this
theorem sl_shape {w : World} {v : Value} {xs : List It} (h : Sl w v xs) : ∃ ad cp, v = .slice ad xs.length cp := by
  rcases h with ⟨B, o, cap, rfl, _⟩ | ⟨rfl, rfl⟩
  · exact ⟨_, _, rfl⟩
  · exact ⟨_, _, rfl⟩

theorem merge_point {A G : Prop} (h2 : A → G) (h1 : A) : G := h2 h1

/-- What is kept through a statement that writes the variable A. -/
def Keep (w : World) (S : Nat) (o : Obj) (W : World) : Prop := Kp w W ∧ W.heap[S]? = some o
theorem Keep.kp {w : World} {S : Nat} {o : Obj} {W W' : World} (h : Keep w S o W) (k : Kp W W') : Keep w S o W' := ⟨h.1.trans k, bl_kp h.2 k⟩
theorem Keep.alloc {w : World} {S : Nat} {o : Obj} {W : World} (h : Keep w S o W) (o' : Obj) : Keep w S o (W.alloc o') := h.kp ((Kp.refl _).alloc _)
theorem Keep.drew {w : World} {S : Nat} {o : Obj} {W : World} (h : Keep w S o W) : Keep w S o W.drew := h.kp (Kp.refl _).drew
theorem Keep.set {w : World} {S A : Nat} {o : Obj} {W : World} (h : Keep w S o W) (hA : w.heap.size ≤ A) (hne : S ≠ A) (v : Value) : Keep w S o (W.setCell ⟨A, 0, none⟩ v) := ⟨h.1.setCell hA v, bl_set h.2 hne v⟩

/-- One more round: an item more, in the list and behind the rope. -/
structure Rd (w : World) (A : Nat) (wc : World) (v : Value) (xs : List It) (t : Option T) : Prop where
  o : Own (w.heap.size + 1) wc v xs
  v : Vr wc A t
  t : Ok wc t xs
  k : Kp w wc

set_option maxRecDepth 100000 in
set_option maxHeartbeats 4000000 in
theorem parts_walk (a0 : Option Addr) (len cap : Nat) (kf : Nat → Int) (i j : Int) (w : World)
    (hc : ∀ k, k < len → ∃ b o, a0 = some ⟨b, o, none⟩ ∧ w.cell? ⟨b, o + k, none⟩ = some (.int .i64 (kf k))) :
    Calls Try.prog 5 #[.slice a0 len cap, .int .i64 i, .int .i64 j] w fun e w' => e = .returned (.bool true) ∧ Kp w w' := by
  have HC : Hid (∀ k, k < len → ∃ b o, a0 = some ⟨b, o, none⟩ ∧ w.cell? ⟨b, o + k, none⟩ = some (.int .i64 (kf k))) := hc
  clear hc
  go_enter Try.func5, Try.ntmps5
  go_wp2_with fail
  go_loopw [7, 9] (fun v x wr => ∃ (k : Nat) (t : Option T), k ≤ len ∧ k ≤ 60 ∧ x = .int .i64 (k : Int) ∧ Rd w w.heap.size wr v (kits kf k) t) (fun _ x _ => 60 - (intOf x).toNat)
  case atStart => exact ⟨0, none, Nat.zero_le _, by omega, rfl, Own.nil _ _, last_of _ _, ⟨trivial, trivial, rfl⟩, (Kp.refl _).alloc _⟩
  case round =>
    obtain ⟨k, t, hk1, hk2, rfl, rd⟩ := hrel
    rename World => wr
    by_cases hlt : k < len ∧ k < 60
    · obtain ⟨h1, h2⟩ := hlt
      obtain ⟨b, o, rfl, ck⟩ := HC.out k h1
      have h1' : (k : Int) < (len : Int) := by omega
      have h2' : (k : Int) < 60 := by omega
      have h3' : (0 : Int) ≤ (k : Int) := by omega
      have yb := wit_le (kf k) 0 99 (by omega)
      obtain ⟨yk, hy⟩ := Int.eq_ofNat_of_zero_le yb.1
      have HY : Hid (wit (kf k) 0 99 = (yk : Int)) := hy
      have KX : Hid (kit kf k = ⟨kf k, 1, yk⟩) := by show _ = _; unfold kit; rw [hy]; rfl
      have SX : Hid ((⟨kf k, 1, yk⟩ : It).l ≤ 100 ∧ (⟨kf k, 1, yk⟩ : It).y ≤ 100) := by rw [← KX.out]; exact kit_sm kf k
      have RD : Hid (Rd w w.heap.size wr u7 (kits kf k) t) := rd
      have MK : Hid (∀ W, Kp wr W → W.cell? ⟨b, o + k, none⟩ = some (.int .i64 (kf k)) ∧ Hid (Kp wr W)) := fun W k => ⟨((rd.k.trans k).cell (block_lt_of_cell ck)).trans ck, k⟩
      obtain ⟨c0, _⟩ := MK.out _ (Kp.refl wr)
      clear rd ck yb hy HC
      go_wp2_with fail
      have Q0 : Kp wr wr.drew := (Kp.refl _).drew
      go_cut [10] (fun v wc => ∃ S, v = .pointer (some ⟨S, 0, none⟩) ∧ wr.heap.size ≤ S ∧ wc.heap[S]? = some (.cells #[.int .i64 (kf k), cx ((1 : Nat) : Int) ((yk : Nat) : Int)] 29) ∧ Kp wr wc)
      case first =>
        go_region_held3 (fun W => W.cell? ⟨b, o + k, none⟩ = some (.int .i64 (kf k)) ∧ Hid (Kp wr W))
          (first | with_reducible exact MK.out _ (by assumption) | with_reducible exact MK.out _ (Kp.alloc (by assumption) _) | with_reducible exact MK.out _ (((Kp.refl _).alloc _).drew))
          (first
            | (go_at_call 15; refine (within_any (kf k) 0 99 _ (by omega) (by omega) (by omega)).mono ?_; rintro e wx ⟨rfl, rfl⟩; rw [HY.out])
            | (go_at_call 9; refine (of_any 1 (yk : Int) _).mono ?_; rintro e wx ⟨rfl, rfl⟩))
        all_goals
          go_wp2_with fail
          go_meet
          case rel => exact ⟨_, rfl, Nat.le_refl _, last_drew _ _, ((Kp.refl _).alloc _).drew⟩
      case rest =>
        obtain ⟨S, rfl, hS, mS, kc⟩ := hcut
        rename World => wc
        have d0 := bl_cell mS 0 _ rfl
        have d1 := bl_cell mS 1 _ rfl
        have HOc : Hid (Own (w.heap.size + 1) wc u7 (kits kf k)) := RD.out.o.kp kc
        have hsz : w.heap.size + 1 ≤ wc.heap.size := by have := RD.out.v.lt; have := kc.size; omega
        have HB : Hid (∀ g, u7.ownBlock = some g → w.heap.size + 1 ≤ g ∧ g < wr.heap.size) := fun g hg => RD.out.o.lt g hg
        have RC : Hid (Vr wc w.heap.size t ∧ Ok wc t (kits kf k) ∧ Kp w wc ∧ wr.heap.size ≤ S ∧ wc.heap[S]? = some (.cells #[.int .i64 (kf k), cx ((1 : Nat) : Int) ((yk : Nat) : Int)] 29)) := ⟨RD.out.v.kp kc, RD.out.t.kp kc, RD.out.k.trans kc, hS, mS⟩
        clear hS mS kc c0 Q0 RD MK
        go_wp2_with (at_builtin; go_must (refine wpList_append_item _ (by rfl) _ _ (by rfl) (w.heap.size + 1) u7 ⟨kf k, 1, yk⟩ (kits kf k) (by rfl) HOc _ (by rfl) (by rfl) ?h1 ?h2 ?_))
        case h1 => rw [kits_len]; omega
        case h2 => omega
        intro v' w2 hown' hgrow
        have ow1 : Own (w.heap.size + 1) (wc.alloc (.cells #[.int .i64 (kf k), cx ((1 : Nat) : Int) ((yk : Nat) : Int)] 29)) u7 (kits kf k) := HOc.out.kp ((Kp.refl _).alloc _)
        have ka : Kp wc (wc.alloc (.cells #[.int .i64 (kf k), cx ((1 : Nat) : Int) ((yk : Nat) : Int)] 29)) := (Kp.refl _).alloc _
        have V2 : Hid (Vr w2 w.heap.size t) := (RC.out.1.kp ka).grown ow1 hgrow
        have O2 : Hid (Ok w2 t (kits kf k)) := (RC.out.2.1.kp ka).grown ow1 hgrow
        have K2 : Kp w w2 := Below.grown (RC.out.2.2.1.alloc _) hgrow (by simp; omega) (fun b hb => by have := (HB.out b hb).1; omega)
        have m2 : w2.heap[S]? = some (.cells #[.int .i64 (kf k), cx ((1 : Nat) : Int) ((yk : Nat) : Int)] 29) := by
          have m1 := bl_alloc RC.out.2.2.2.2 (.cells #[.int .i64 (kf k), cx ((1 : Nat) : Int) ((yk : Nat) : Int)] 29)
          refine (hgrow.block S (bl_lt m1) ?_).trans m1
          intro e; have := (HB.out S e.symm).2; have := RC.out.2.2.2.1; omega
        have HO2 : Hid (Own (w.heap.size + 1) w2 v' (kits kf k ++ [⟨kf k, 1, yk⟩])) := hown'
        have q2 : Keep w S (.cells #[.int .i64 (kf k), cx ((1 : Nat) : Int) ((yk : Nat) : Int)] 29) w2 := ⟨K2, m2⟩
        have hne : S ≠ w.heap.size := by intro e; have e1 := V2.out; unfold Vr at e1; rw [e] at m2; rw [m2] at e1; cases e1
        have HNE : Hid (S ≠ w.heap.size) := hne
        clear hown' hgrow ow1 ka d0 d1 hne
        have Q2 : Keep w S (.cells #[.int .i64 (kf k), cx ((1 : Nat) : Int) ((yk : Nat) : Int)] 29) w2.drew := q2.drew
        have J2 : Kp w2 w2.drew := (Kp.refl _).drew
        have cA := V2.out.cell
        have ca := al_cell cA
        have MK : Hid (∀ W, Keep w S (.cells #[.int .i64 (kf k), cx ((1 : Nat) : Int) ((yk : Nat) : Int)] 29) W → W.cell? ⟨S, 0, none⟩ = some (.int .i64 (kf k)) ∧ W.cell? ⟨S, 1, none⟩ = some (cx ((1 : Nat) : Int) ((yk : Nat) : Int)) ∧ Hid (Keep w S (.cells #[.int .i64 (kf k), cx ((1 : Nat) : Int) ((yk : Nat) : Int)] 29) W)) := fun W h => ⟨bl_cell h.2 0 _ rfl, bl_cell h.2 1 _ rfl, h⟩
        obtain ⟨d0, d1, _⟩ := MK.out _ q2
        have KQ0 := q2
        clear q2 K2 m2
        go_wp2_with fail
        refine wp_region_noPanic ?_
        refine wp_region_held_drew (S := (fun W => W.cell? ⟨S, 0, none⟩ = some (.int .i64 (kf k)) ∧ W.cell? ⟨S, 1, none⟩ = some (cx ((1 : Nat) : Int) ((yk : Nat) : Int)) ∧ Hid (Keep w S (.cells #[.int .i64 (kf k), cx ((1 : Nat) : Int) ((yk : Nat) : Int)] 29) W))) (by kernel_rfl) ?_ (fun hH => ?_)
        · exact MK.out _ Q2
        have KQ := Q2
        refine wpAnyH_take (i := 1) (oi := { dst := some 43, op := Op.load 29 (Operand.tmp 10), type := 29, pos := "law.go:102", after := #[], guard := none }) (v := ?v1p1) rfl (by kernel_rfl) (by kernel_rfl) (by kernel_rfl) (fun _ _ _ h => h) (Or.inl ⟨by rfl, ?hy1p1⟩) hH ?r1p1
        case hy1p1 => (intro W hSw; (try dsimp only at hSw); go_simp; try (with_reducible rfl))
        try simp only [Act.put, List.setIfInBounds_toArray, List.set_cons_zero, List.set_cons_succ]
        refine wpAnyH_ready (rs := [0, 2]) (by kernel_rfl) (by simp) ?_
        refine AllReadyH.cons (o := { dst := some 42, op := Op.load 24 (Operand.tmp 8), type := 24, pos := "law.go:102", after := #[], guard := none }) rfl (fun K hKq => ?_) ?_
        ·
          go_simp
          refine hKq.out _ _ (MK.out _ KQ) (fun hN => ?_)
          clear hKq K hH KQ
          have hH := hN
          clear hN
          have KQ := hH.2.2.out
          try simp only [Act.put, List.setIfInBounds_toArray, List.set_cons_zero, List.set_cons_succ]
          refine wpAnyH_ready (rs := [2]) (by kernel_rfl) (by simp) ?_
          refine AllReadyH.cons (o := { dst := some 44, op := Op.buildSlice 32 1 #[(0, Operand.tmp 43)], type := 32, pos := "law.go:102", after := #[{ on := 1, ground := Ground.data }], guard := none }) rfl (fun K hKq => ?_) AllReadyH.nil
          go_simp
          refine hKq.out _ _ (MK.out _ (by first | exact KQ.alloc _ | exact (KQ0.alloc _).drew)) (fun hN => ?_)
          clear hKq K hH KQ
          have hH := hN
          clear hN
          have KQ := hH.2.2.out
          try simp only [Act.put, List.setIfInBounds_toArray, List.set_cons_zero, List.set_cons_succ]
          refine wpAnyH_ready (rs := [3]) (by kernel_rfl) (by simp) ?_
          refine AllReadyH.cons (o := { dst := some 45, op := Op.call { callee := Callee.value (Operand.func 8), args := #[Operand.tmp 44], argTypes := #[32] }, type := 24, pos := "law.go:102", after := #[{ on := 2, ground := Ground.data }], guard := none }) rfl (fun K hKq => ?_) AllReadyH.nil
          go_simp
          refine (of_one ⟨kf k, 1, yk⟩ _ _ SX.out ?hX2).mono ?_
          case hX2 => first | exact last_of _ _ | exact last_drew _ _
          rintro e w3 ⟨u, rfl, ou, kq⟩
          have J3 : Kp w2 w3 := Kp.trans (by first | assumption | exact Kp.alloc (by assumption) _ | exact ((Kp.refl _).alloc _).drew) kq
          have cA3 := (V2.out.kp J3).cell
          refine hKq.out _ _ (MK.out _ (KQ.kp kq)) (fun hN => ?_)
          clear kq
          clear hKq K hH KQ
          have hH := hN
          clear hN
          have KQ := hH.2.2.out
          try simp only [Act.put, List.setIfInBounds_toArray, List.set_cons_zero, List.set_cons_succ]
          refine wpAnyH_ready (rs := [4]) (by kernel_rfl) (by simp) ?_
          refine AllReadyH.cons (o := { dst := some 46, op := Op.buildSlice 59 2 #[(0, Operand.tmp 42), (1, Operand.tmp 45)], type := 59, pos := "law.go:102", after := #[{ on := 0, ground := Ground.data }, { on := 3, ground := Ground.data }], guard := none }) rfl (fun K hKq => ?_) AllReadyH.nil
          go_simp
          refine hKq.out _ _ (MK.out _ (by first | exact KQ.alloc _ | exact (KQ0.alloc _).drew)) (fun hN => ?_)
          clear hKq K hH KQ
          have hH := hN
          clear hN
          have KQ := hH.2.2.out
          try simp only [Act.put, List.setIfInBounds_toArray, List.set_cons_zero, List.set_cons_succ]
          refine wpAnyH_ready (rs := [5]) (by kernel_rfl) (by simp) ?_
          refine AllReadyH.cons (o := { dst := some 47, op := Op.call { callee := Callee.value (Operand.func 11), args := #[Operand.tmp 46], argTypes := #[59] }, type := 24, pos := "law.go:102", after := #[{ on := 4, ground := Ground.data }, { on := 3, ground := Ground.chain }], guard := none }) rfl (fun K hKq => ?_) AllReadyH.nil
          go_simp
          refine (join2_ok t u (kits kf k) [⟨kf k, 1, yk⟩] _ _ ?hX3 (O2.out.kp (J3.alloc _)) (ou.kp ((Kp.refl _).alloc _)) (by rw [kits_len]; simp; omega) (kits_sm kf k) (one_sm SX.out)).mono ?_
          case hX3 => first | exact last_of _ _ | exact last_drew _ _
          rintro e w4 ⟨z, rfl, oz, kq⟩
          have J4 : Kp w2 w4 := Kp.trans (J3.alloc _) kq
          have cA4 := (V2.out.kp J4).cell
          have fA4 := (V2.out.kp J4).frozen
          have Q4 := KQ.kp kq
          refine hKq.out _ _ (MK.out _ (KQ.kp kq)) (fun hN => ?_)
          clear kq
          clear hKq K hH KQ
          have hH := hN
          clear hN
          have KQ := hH.2.2.out
          try simp only [Act.put, List.setIfInBounds_toArray, List.set_cons_zero, List.set_cons_succ]
          refine wpAnyH_ready (rs := [6]) (by kernel_rfl) (by simp) ?_
          refine AllReadyH.cons (o := { dst := none, op := Op.store 24 (Operand.tmp 8) (Operand.tmp 47), type := 0, pos := "law.go:102", after := #[{ on := 5, ground := Ground.data }, { on := 5, ground := Ground.chain }, { on := 0, ground := Ground.phase }, { on := 1, ground := Ground.phase }, { on := 2, ground := Ground.phase }, { on := 3, ground := Ground.phase }, { on := 4, ground := Ground.phase }, { on := 5, ground := Ground.phase }], guard := none }) rfl (fun K hKq => ?_) AllReadyH.nil
          go_simp
          refine hKq.out _ _ (MK.out _ (KQ.set (Nat.le_refl _) HNE.out _)) (fun hN => ?_)
          clear hKq K hH KQ
          have hH := hN
          clear hN
          have KQ := hH.2.2.out
          try simp only [Act.put, List.setIfInBounds_toArray, List.set_cons_zero, List.set_cons_succ]
          refine wpAnyH_done (by kernel_rfl) ?_ _
          refine NoPanic.normal ?_
          have RD : Hid (Rd w w.heap.size (w4.setCell ⟨w.heap.size, 0, none⟩ (.pointer (pO z))) v' (kits kf (k + 1)) z) := by
            rw [kits_succ, KX.out]
            exact ⟨(HO2.out.kp J4).set (V2.out.kp J4) _, (V2.out.kp J4).put z, oz.set (V2.out.kp J4) _, Q4.1.setCell (Nat.le_refl _) _⟩
          clear cA4 fA4 cA3 cA ca d0 d1 Q4 J4 J3 oz ou
          go_wp2_with fail
          go_roundw
          case rel => exact ⟨k + 1, z, h1, h2, by go_num, RD.out⟩
          case measure => simp [intOf]; omega
        refine AllReadyH.cons (o := { dst := some 44, op := Op.buildSlice 32 1 #[(0, Operand.tmp 43)], type := 32, pos := "law.go:102", after := #[{ on := 1, ground := Ground.data }], guard := none }) rfl (fun K hKq => ?_) ?_
        ·
          go_simp
          refine hKq.out _ _ (MK.out _ (by first | exact KQ.alloc _ | exact (KQ0.alloc _).drew)) (fun hN => ?_)
          clear hKq K hH KQ
          have hH := hN
          clear hN
          have KQ := hH.2.2.out
          try simp only [Act.put, List.setIfInBounds_toArray, List.set_cons_zero, List.set_cons_succ]
          refine wpAnyH_ready (rs := [0, 3]) (by kernel_rfl) (by simp) ?_
          refine AllReadyH.cons (o := { dst := some 42, op := Op.load 24 (Operand.tmp 8), type := 24, pos := "law.go:102", after := #[], guard := none }) rfl (fun K hKq => ?_) ?_
          ·
            go_simp
            refine hKq.out _ _ (MK.out _ KQ) (fun hN => ?_)
            clear hKq K hH KQ
            have hH := hN
            clear hN
            have KQ := hH.2.2.out
            try simp only [Act.put, List.setIfInBounds_toArray, List.set_cons_zero, List.set_cons_succ]
            refine wpAnyH_ready (rs := [3]) (by kernel_rfl) (by simp) ?_
            refine AllReadyH.cons (o := { dst := some 45, op := Op.call { callee := Callee.value (Operand.func 8), args := #[Operand.tmp 44], argTypes := #[32] }, type := 24, pos := "law.go:102", after := #[{ on := 2, ground := Ground.data }], guard := none }) rfl (fun K hKq => ?_) AllReadyH.nil
            go_simp
            refine (of_one ⟨kf k, 1, yk⟩ _ _ SX.out ?hX5).mono ?_
            case hX5 => first | exact last_of _ _ | exact last_drew _ _
            rintro e w3 ⟨u, rfl, ou, kq⟩
            have J3 : Kp w2 w3 := Kp.trans (by first | assumption | exact Kp.alloc (by assumption) _ | exact ((Kp.refl _).alloc _).drew) kq
            have cA3 := (V2.out.kp J3).cell
            refine hKq.out _ _ (MK.out _ (KQ.kp kq)) (fun hN => ?_)
            clear kq
            clear hKq K hH KQ
            have hH := hN
            clear hN
            have KQ := hH.2.2.out
            try simp only [Act.put, List.setIfInBounds_toArray, List.set_cons_zero, List.set_cons_succ]
            refine wpAnyH_ready (rs := [4]) (by kernel_rfl) (by simp) ?_
            refine AllReadyH.cons (o := { dst := some 46, op := Op.buildSlice 59 2 #[(0, Operand.tmp 42), (1, Operand.tmp 45)], type := 59, pos := "law.go:102", after := #[{ on := 0, ground := Ground.data }, { on := 3, ground := Ground.data }], guard := none }) rfl (fun K hKq => ?_) AllReadyH.nil
            go_simp
            refine hKq.out _ _ (MK.out _ (by first | exact KQ.alloc _ | exact (KQ0.alloc _).drew)) (fun hN => ?_)
            clear hKq K hH KQ
            have hH := hN
            clear hN
            have KQ := hH.2.2.out
            try simp only [Act.put, List.setIfInBounds_toArray, List.set_cons_zero, List.set_cons_succ]
            refine wpAnyH_ready (rs := [5]) (by kernel_rfl) (by simp) ?_
            refine AllReadyH.cons (o := { dst := some 47, op := Op.call { callee := Callee.value (Operand.func 11), args := #[Operand.tmp 46], argTypes := #[59] }, type := 24, pos := "law.go:102", after := #[{ on := 4, ground := Ground.data }, { on := 3, ground := Ground.chain }], guard := none }) rfl (fun K hKq => ?_) AllReadyH.nil
            go_simp
            refine (join2_ok t u (kits kf k) [⟨kf k, 1, yk⟩] _ _ ?hX6 (O2.out.kp (J3.alloc _)) (ou.kp ((Kp.refl _).alloc _)) (by rw [kits_len]; simp; omega) (kits_sm kf k) (one_sm SX.out)).mono ?_
            case hX6 => first | exact last_of _ _ | exact last_drew _ _
            rintro e w4 ⟨z, rfl, oz, kq⟩
            have J4 : Kp w2 w4 := Kp.trans (J3.alloc _) kq
            have cA4 := (V2.out.kp J4).cell
            have fA4 := (V2.out.kp J4).frozen
            have Q4 := KQ.kp kq
            refine hKq.out _ _ (MK.out _ (KQ.kp kq)) (fun hN => ?_)
            clear kq
            clear hKq K hH KQ
            have hH := hN
            clear hN
            have KQ := hH.2.2.out
            try simp only [Act.put, List.setIfInBounds_toArray, List.set_cons_zero, List.set_cons_succ]
            refine wpAnyH_ready (rs := [6]) (by kernel_rfl) (by simp) ?_
            refine AllReadyH.cons (o := { dst := none, op := Op.store 24 (Operand.tmp 8) (Operand.tmp 47), type := 0, pos := "law.go:102", after := #[{ on := 5, ground := Ground.data }, { on := 5, ground := Ground.chain }, { on := 0, ground := Ground.phase }, { on := 1, ground := Ground.phase }, { on := 2, ground := Ground.phase }, { on := 3, ground := Ground.phase }, { on := 4, ground := Ground.phase }, { on := 5, ground := Ground.phase }], guard := none }) rfl (fun K hKq => ?_) AllReadyH.nil
            go_simp
            refine hKq.out _ _ (MK.out _ (KQ.set (Nat.le_refl _) HNE.out _)) (fun hN => ?_)
            clear hKq K hH KQ
            have hH := hN
            clear hN
            have KQ := hH.2.2.out
            try simp only [Act.put, List.setIfInBounds_toArray, List.set_cons_zero, List.set_cons_succ]
            refine wpAnyH_done (by kernel_rfl) ?_ _
            refine NoPanic.normal ?_
            have RD : Hid (Rd w w.heap.size (w4.setCell ⟨w.heap.size, 0, none⟩ (.pointer (pO z))) v' (kits kf (k + 1)) z) := by
              rw [kits_succ, KX.out]
              exact ⟨(HO2.out.kp J4).set (V2.out.kp J4) _, (V2.out.kp J4).put z, oz.set (V2.out.kp J4) _, Q4.1.setCell (Nat.le_refl _) _⟩
            clear cA4 fA4 cA3 cA ca d0 d1 Q4 J4 J3 oz ou
            go_wp2_with fail
            go_roundw
            case rel => exact ⟨k + 1, z, h1, h2, by go_num, RD.out⟩
            case measure => simp [intOf]; omega
          refine AllReadyH.cons (o := { dst := some 45, op := Op.call { callee := Callee.value (Operand.func 8), args := #[Operand.tmp 44], argTypes := #[32] }, type := 24, pos := "law.go:102", after := #[{ on := 2, ground := Ground.data }], guard := none }) rfl (fun K hKq => ?_) ?_
          ·
            go_simp
            refine (of_one ⟨kf k, 1, yk⟩ _ _ SX.out ?hX8).mono ?_
            case hX8 => first | exact last_of _ _ | exact last_drew _ _
            rintro e w3 ⟨u, rfl, ou, kq⟩
            have J3 : Kp w2 w3 := Kp.trans (by first | assumption | exact Kp.alloc (by assumption) _ | exact ((Kp.refl _).alloc _).drew) kq
            have cA3 := (V2.out.kp J3).cell
            refine hKq.out _ _ (MK.out _ (KQ.kp kq)) (fun hN => ?_)
            clear kq
            clear hKq K hH KQ
            have hH := hN
            clear hN
            have KQ := hH.2.2.out
            try simp only [Act.put, List.setIfInBounds_toArray, List.set_cons_zero, List.set_cons_succ]
            refine wpAnyH_ready (rs := [0]) (by kernel_rfl) (by simp) ?_
            refine AllReadyH.cons (o := { dst := some 42, op := Op.load 24 (Operand.tmp 8), type := 24, pos := "law.go:102", after := #[], guard := none }) rfl (fun K hKq => ?_) AllReadyH.nil
            go_simp
            refine hKq.out _ _ (MK.out _ KQ) (fun hN => ?_)
            clear hKq K hH KQ
            have hH := hN
            clear hN
            have KQ := hH.2.2.out
            try simp only [Act.put, List.setIfInBounds_toArray, List.set_cons_zero, List.set_cons_succ]
            refine wpAnyH_ready (rs := [4]) (by kernel_rfl) (by simp) ?_
            refine AllReadyH.cons (o := { dst := some 46, op := Op.buildSlice 59 2 #[(0, Operand.tmp 42), (1, Operand.tmp 45)], type := 59, pos := "law.go:102", after := #[{ on := 0, ground := Ground.data }, { on := 3, ground := Ground.data }], guard := none }) rfl (fun K hKq => ?_) AllReadyH.nil
            go_simp
            refine hKq.out _ _ (MK.out _ (by first | exact KQ.alloc _ | exact (KQ0.alloc _).drew)) (fun hN => ?_)
            clear hKq K hH KQ
            have hH := hN
            clear hN
            have KQ := hH.2.2.out
            try simp only [Act.put, List.setIfInBounds_toArray, List.set_cons_zero, List.set_cons_succ]
            refine wpAnyH_ready (rs := [5]) (by kernel_rfl) (by simp) ?_
            refine AllReadyH.cons (o := { dst := some 47, op := Op.call { callee := Callee.value (Operand.func 11), args := #[Operand.tmp 46], argTypes := #[59] }, type := 24, pos := "law.go:102", after := #[{ on := 4, ground := Ground.data }, { on := 3, ground := Ground.chain }], guard := none }) rfl (fun K hKq => ?_) AllReadyH.nil
            go_simp
            refine (join2_ok t u (kits kf k) [⟨kf k, 1, yk⟩] _ _ ?hX9 (O2.out.kp (J3.alloc _)) (ou.kp ((Kp.refl _).alloc _)) (by rw [kits_len]; simp; omega) (kits_sm kf k) (one_sm SX.out)).mono ?_
            case hX9 => first | exact last_of _ _ | exact last_drew _ _
            rintro e w4 ⟨z, rfl, oz, kq⟩
            have J4 : Kp w2 w4 := Kp.trans (J3.alloc _) kq
            have cA4 := (V2.out.kp J4).cell
            have fA4 := (V2.out.kp J4).frozen
            have Q4 := KQ.kp kq
            refine hKq.out _ _ (MK.out _ (KQ.kp kq)) (fun hN => ?_)
            clear kq
            clear hKq K hH KQ
            have hH := hN
            clear hN
            have KQ := hH.2.2.out
            try simp only [Act.put, List.setIfInBounds_toArray, List.set_cons_zero, List.set_cons_succ]
            refine wpAnyH_ready (rs := [6]) (by kernel_rfl) (by simp) ?_
            refine AllReadyH.cons (o := { dst := none, op := Op.store 24 (Operand.tmp 8) (Operand.tmp 47), type := 0, pos := "law.go:102", after := #[{ on := 5, ground := Ground.data }, { on := 5, ground := Ground.chain }, { on := 0, ground := Ground.phase }, { on := 1, ground := Ground.phase }, { on := 2, ground := Ground.phase }, { on := 3, ground := Ground.phase }, { on := 4, ground := Ground.phase }, { on := 5, ground := Ground.phase }], guard := none }) rfl (fun K hKq => ?_) AllReadyH.nil
            go_simp
            refine hKq.out _ _ (MK.out _ (KQ.set (Nat.le_refl _) HNE.out _)) (fun hN => ?_)
            clear hKq K hH KQ
            have hH := hN
            clear hN
            have KQ := hH.2.2.out
            try simp only [Act.put, List.setIfInBounds_toArray, List.set_cons_zero, List.set_cons_succ]
            refine wpAnyH_done (by kernel_rfl) ?_ _
            refine NoPanic.normal ?_
            have RD : Hid (Rd w w.heap.size (w4.setCell ⟨w.heap.size, 0, none⟩ (.pointer (pO z))) v' (kits kf (k + 1)) z) := by
              rw [kits_succ, KX.out]
              exact ⟨(HO2.out.kp J4).set (V2.out.kp J4) _, (V2.out.kp J4).put z, oz.set (V2.out.kp J4) _, Q4.1.setCell (Nat.le_refl _) _⟩
            clear cA4 fA4 cA3 cA ca d0 d1 Q4 J4 J3 oz ou
            go_wp2_with fail
            go_roundw
            case rel => exact ⟨k + 1, z, h1, h2, by go_num, RD.out⟩
            case measure => simp [intOf]; omega
          exact AllReadyH.nil
        exact AllReadyH.nil
    · have RD : Hid (Rd w w.heap.size wr u7 (kits kf k) t) := rd
      clear rd HC
      go_upto_region 4 with fail
      go_cut [24] (fun b wc => b = .bool false ∧ wc = wr)
      case first =>
        by_cases hA : k < len
        · have h1 : (k : Int) < (len : Int) := by omega
          have h2 : ¬ (k : Int) < 60 := by omega
          go_wp2_with fail
          go_meet
          case rel => exact ⟨by first | rfl | simp, rfl⟩
        · have h1 : decide ((k : Int) < (len : Int)) = false := by simp; omega
          have h1' : ¬ (k : Int) < (len : Int) := by omega
          go_wp2_with fail
          go_meet
          case rel => exact ⟨by first | rfl | simp, rfl⟩
      case rest =>
        obtain ⟨rfl, rfl⟩ := hcut
        rename World => wr
        obtain ⟨xs, eX⟩ : ∃ xs, kits kf k = xs := ⟨_, rfl⟩
        have hk60 : xs.length ≤ 60 := by rw [← eX, kits_len]; exact hk2
        have sx : Sm xs := by rw [← eX]; exact kits_sm kf k
        rw [eX] at RD
        clear eX
        obtain ⟨ad, cp, hu7⟩ := sl_shape RD.out.o.sl
        subst hu7
        go_wp2_with fail
        refine (of_ok _ xs _ RD.out.o.sl (by omega) sx).mono ?_
        rintro e w1 ⟨r, rfl, or1, k1⟩
        have O1 : Hid (Ok w1 r xs) := or1
        have L1 : Hid (Vr w1 w.heap.size t ∧ Ok w1 t xs ∧ Sl w1 (.slice ad xs.length cp) xs ∧ Kp w w1) := ⟨RD.out.v.kp k1, RD.out.t.kp k1, RD.out.o.sl.kp k1, RD.out.k.trans k1⟩
        clear or1 k1 RD
        go_wp2_with fail
        have V1 : Hid (Vr (w1.alloc (.cells #[.pointer (pO r)] 24)) w1.heap.size r) := last_of _ _
        refine (split_ok r xs i _ (O1.out.kp ((Kp.refl _).alloc _)) (by omega) sx).mono ?_
        rintro e w2 ⟨a, b, rfl, oa, ob, k2⟩
        have k12 : Kp w1 w2 := ((Kp.refl _).alloc _).trans k2
        have O2 : Hid (Ok w2 r xs ∧ Ok w2 a (xs.take i.toNat) ∧ Ok w2 b (xs.drop i.toNat) ∧ Vr w2 w1.heap.size r) := ⟨O1.out.kp k12, oa, ob, V1.out.kp k2⟩
        have L2 : Hid (Vr w2 w.heap.size t ∧ Ok w2 t xs ∧ Sl w2 (.slice ad xs.length cp) xs ∧ Kp w w2) := ⟨L1.out.1.kp k12, L1.out.2.1.kp k12, L1.out.2.2.1.kp k12, L1.out.2.2.2.trans k12⟩
        clear oa ob k2 k12 L1 O1 V1
        go_wp2_with fail
        obtain ⟨W2, hW2⟩ : ∃ W, (w2.alloc (.cells #[.pointer (pO a)] 24)).alloc (.cells #[.pointer (pO b)] 24) = W := ⟨_, rfl⟩
        have k22 : Kp w2 W2 := by subst hW2; exact ((Kp.refl _).alloc _).alloc _
        have VA : Hid (Vr W2 w2.heap.size a) := by subst hW2; exact bl_alloc (last_of _ _) _
        rw [hW2]
        have K22 : Hid (Kp w2 W2) := k22
        clear hW2 k22
        refine (split_ok b (xs.drop i.toNat) j _ (O2.out.2.2.1.kp K22.out) (by rw [List.length_drop]; omega) (sx.sub (fun x hx => List.mem_of_mem_drop hx))).mono ?_
        rintro e w3 ⟨c, d, rfl, oc, od, k3⟩
        have k23 : Kp w2 w3 := K22.out.trans k3
        have O3 : Hid (Ok w3 r xs ∧ Ok w3 a (xs.take i.toNat) ∧ Ok w3 c ((xs.drop i.toNat).take j.toNat) ∧ Ok w3 d ((xs.drop i.toNat).drop j.toNat) ∧ Vr w3 w1.heap.size r ∧ Vr w3 w2.heap.size a) := ⟨O2.out.1.kp k23, O2.out.2.1.kp k23, oc, od, O2.out.2.2.2.kp k23, VA.out.kp k3⟩
        have L3 : Hid (Vr w3 w.heap.size t ∧ Ok w3 t xs ∧ Sl w3 (.slice ad xs.length cp) xs ∧ Kp w w3) := ⟨L2.out.1.kp k23, L2.out.2.1.kp k23, L2.out.2.2.1.kp k23, L2.out.2.2.2.trans k23⟩
        have ca3 := fun o o' => al_cell (al_cell O3.out.2.2.2.2.2.cell o) o'
        clear oc od k3 k23 L2 O2 VA K22
        go_wp2_with fail
        obtain ⟨W3, hW3⟩ : ∃ W, (w3.alloc (.cells #[.pointer (pO c)] 24)).alloc (.cells #[.pointer (pO d)] 24) = W := ⟨_, rfl⟩
        have k33 : Kp w3 W3 := by subst hW3; exact ((Kp.refl _).alloc _).alloc _
        have VC : Hid (Vr W3 w3.heap.size c) := by subst hW3; exact bl_alloc (last_of _ _) _
        have VD : Hid (Vr W3 (w3.heap.size + 1) d) := by subst hW3; exact last_at _ _ _ (by simp)
        have hsz : W3.heap.size = w3.heap.size + 1 + 1 := by subst hW3; simp
        rw [hW3, ← hsz]
        have K33 : Hid (Kp w3 W3) := k33
        clear hW3 k33 ca3 hsz
        have ka := (Kp.refl W3).alloc (.cells #[.pointer (pO a), .pointer (pO c), .pointer (pO d)] 24)
        have n1 : (xs.take i.toNat).length ≤ 60 := by rw [List.length_take]; omega
        have n2 : ((xs.drop i.toNat).take j.toNat).length ≤ 60 := by rw [List.length_take, List.length_drop]; omega
        have n3 : ((xs.drop i.toNat).drop j.toNat).length ≤ 60 := by rw [List.length_drop, List.length_drop]; omega
        have s1 : Sm (xs.take i.toNat) := sx.sub (fun x hx => List.mem_of_mem_take hx)
        have s2 : Sm ((xs.drop i.toNat).take j.toNat) := sx.sub (fun x hx => List.mem_of_mem_drop (List.mem_of_mem_take hx))
        have s3 : Sm ((xs.drop i.toNat).drop j.toNat) := sx.sub (fun x hx => List.mem_of_mem_drop (List.mem_of_mem_drop hx))
        refine (join3_ok a c d _ _ _ _ _ (last_of _ _) (O3.out.2.1.kp (K33.out.trans ka)) (O3.out.2.2.1.kp (K33.out.trans ka)) (O3.out.2.2.2.1.kp (K33.out.trans ka)) (by omega) s1 s2 s3).mono ?_
        rintro e w4 ⟨z, rfl, oz, k4⟩
        rw [List.append_assoc, List.take_append_drop, List.take_append_drop] at oz
        have k34 : Kp W3 w4 := ka.trans k4
        obtain ⟨W5, hW5⟩ : ∃ W, w4.alloc (.cells #[.pointer (pO z)] 24) = W := ⟨_, rfl⟩
        have HW5 : Hid (w4.alloc (.cells #[.pointer (pO z)] 24) = W5) := hW5
        have k45 : Kp w4 W5 := by subst hW5; exact (Kp.refl _).alloc _
        have k35 : Kp w3 W5 := (K33.out.trans k34).trans k45
        have kW3 : Kp W3 W5 := k34.trans k45
        have vz : Vr W5 w4.heap.size z := by subst hW5; exact last_of _ _
        have F : Hid (Ok W5 t xs ∧ Ok W5 z xs ∧ Ok W5 a (xs.take i.toNat) ∧ Ok W5 c ((xs.drop i.toNat).take j.toNat) ∧ Ok W5 d ((xs.drop i.toNat).drop j.toNat) ∧ Ok W5 r xs ∧ Sl W5 (.slice ad xs.length cp) xs) := ⟨L3.out.2.1.kp k35, oz.kp k45, O3.out.2.1.kp k35, O3.out.2.2.1.kp k35, O3.out.2.2.2.1.kp k35, O3.out.1.kp k35, L3.out.2.2.1.kp k35⟩
        have KW : Hid (Kp w W5) := L3.out.2.2.2.trans k35
        have va : Vr W5 w2.heap.size a := O3.out.2.2.2.2.2.kp k35
        have vr : Vr W5 w1.heap.size r := O3.out.2.2.2.2.1.kp k35
        have vt : Vr W5 w.heap.size t := L3.out.1.kp k35
        have vc : Vr W5 w3.heap.size c := VC.out.kp kW3
        have vd : Vr W5 (w3.heap.size + 1) d := VD.out.kp kW3
        have MK : Hid (∀ W, Kp W5 W → W.cell? ⟨w.heap.size, 0, none⟩ = some (.pointer (pO t)) ∧ W.cell? ⟨w4.heap.size, 0, none⟩ = some (.pointer (pO z)) ∧ W.cell? ⟨w2.heap.size, 0, none⟩ = some (.pointer (pO a)) ∧ W.cell? ⟨w3.heap.size, 0, none⟩ = some (.pointer (pO c)) ∧ W.cell? ⟨w3.heap.size + 1, 0, none⟩ = some (.pointer (pO d)) ∧ W.cell? ⟨w1.heap.size, 0, none⟩ = some (.pointer (pO r)) ∧ Hid (Kp W5 W)) := fun W k => ⟨(vt.kp k).cell, (vz.kp k).cell, (va.kp k).cell, (vc.kp k).cell, (vd.kp k).cell, (vr.kp k).cell, k⟩
        obtain ⟨la, ya, lc, yc, ld, yd, na, nc, nd, e1, e2, e3, e4, e5, e6⟩ : ∃ la ya lc yc ld yd na nc nd : Nat, mk (xs.take i.toNat) = cx (la : Nat) (ya : Nat) ∧ mk ((xs.drop i.toNat).take j.toNat) = cx (lc : Nat) (yc : Nat) ∧ mk ((xs.drop i.toNat).drop j.toNat) = cx (ld : Nat) (yd : Nat) ∧ ((xs.take i.toNat).length = na ∧ ((xs.drop i.toNat).take j.toNat).length = nc ∧ ((xs.drop i.toNat).drop j.toNat).length = nd) ∧ mk xs = cx ((la + lc + ld : Nat) : Int) ((ya + yc + yd : Nat) : Int) ∧ (xs.length = na + nc + nd ∧ la + lc + ld ≤ 6000 ∧ ya + yc + yd ≤ 6000) := by
          have hx : xs.take i.toNat ++ ((xs.drop i.toNat).take j.toNat ++ (xs.drop i.toNat).drop j.toNat) = xs := by rw [List.take_append_drop, List.take_append_drop]
          have a1 : ∀ f, lsum f xs = lsum f (xs.take i.toNat) + lsum f ((xs.drop i.toNat).take j.toNat) + lsum f ((xs.drop i.toNat).drop j.toNat) := by
            intro f
            have := congrArg (lsum f) hx
            rw [lsum_append, lsum_append] at this
            omega
          have a2 := congrArg List.length hx
          rw [List.length_append, List.length_append] at a2
          have b1 := sx.lines; have b2 := sx.bytes
          refine ⟨_, _, _, _, _, _, _, _, _, rfl, rfl, rfl, ⟨rfl, rfl, rfl⟩, ?_, by omega, ?_, ?_⟩
          · show cx (lsum It.l xs : Nat) (lsum It.y xs : Nat) = _
            rw [a1 It.l, a1 It.y]
          · rw [← a1 It.l]; omega
          · rw [← a1 It.y]; omega
        obtain ⟨hN, hL, hY⟩ := e6
        have EE : Hid (mk (xs.take i.toNat) = cx (la : Nat) (ya : Nat) ∧ mk ((xs.drop i.toNat).take j.toNat) = cx (lc : Nat) (yc : Nat) ∧ mk ((xs.drop i.toNat).drop j.toNat) = cx (ld : Nat) (yd : Nat) ∧ ((xs.take i.toNat).length = na ∧ ((xs.drop i.toNat).take j.toNat).length = nc ∧ ((xs.drop i.toNat).drop j.toNat).length = nd) ∧ mk xs = cx ((la + lc + ld : Nat) : Int) ((ya + yc + yd : Nat) : Int)) := ⟨e1, e2, e3, e4, e5⟩
        obtain ⟨L, eL⟩ : ∃ L, la + lc + ld = L := ⟨_, rfl⟩
        obtain ⟨Y, eY⟩ : ∃ Y, ya + yc + yd = Y := ⟨_, rfl⟩
        rw [eL, eY] at EE
        rw [eL] at hL
        rw [eY] at hY
        have SUM : Hid (∀ (w : World) (B : Nat), w.heap[B]? = some (.cells #[cx (la : Nat) (ya : Nat), cx (lc : Nat) (yc : Nat), cx (ld : Nat) (yd : Nat)] 26) → Calls Try.prog 19 #[.slice (some ⟨B, 0, none⟩) 3 3] w fun e w' => e = .returned (cx (L : Nat) (Y : Nat)) ∧ w' = w) := by
          intro w B h
          have := sum3 la ya lc yc ld yd w B (by omega) (by omega) h
          rw [eL, eY] at this
          exact this
        have EQC := run_ceql (P := Try.prog) 26 (L : Int) (Y : Int) (L : Int) (Y : Int) (small (by omega) (by omega)) (small (by omega) (by omega)) (small (by omega) (by omega)) (small (by omega) (by omega))
        obtain ⟨N, eN⟩ : ∃ N, xs.length = N := ⟨_, rfl⟩
        have NN : Hid (xs.length = N ∧ Sm xs) := ⟨eN, sx⟩
        rw [eN] at hN hk60
        have gN : (na : Int) + (nc : Int) + (nd : Int) = (N : Int) := by omega
        have gE : (((na : Int) + (nc : Int) + (nd : Int)) == (N : Int)) = true := by rw [gN]; simp
        rw [eN] at F ⊢
        have hna : na ≤ 60 ∧ nc ≤ 60 ∧ nd ≤ 60 := by omega
        obtain ⟨hna, hnc, hnd⟩ := hna
        have gw1 : IntKind.i64.wrap ((na : Int) + (nc : Int)) = (na : Int) + (nc : Int) := by rw [IntKind.wrap_i64]; omega
        have gw2 : IntKind.i64.wrap ((na : Int) + (nc : Int) + (nd : Int)) = (N : Int) := by rw [gN, IntKind.wrap_i64]; omega
        have gw3 : IntKind.i64.wrap (N : Int) = (N : Int) := by rw [IntKind.wrap_i64]; omega
        clear hN
        clear eL eY e1 e2 e3 e4 e5 hW5 vz va vr vt vc vd k45 k35 kW3 k34 oz k4 ka n1 n2 n3 s1 s2 s3 O3 L3 VC VD K33 eN sx
        go_wp2_with fail
        rw [HW5.out]
        clear HW5
        have Q0 : Kp W5 W5.drew := (Kp.refl _).drew
        try simp only [List.append_eq, List.cons_append, List.nil_append]
        refine wp_region_noPanic ?_
        refine wp_region_held_drew (S := (fun W => W.cell? ⟨w.heap.size, 0, none⟩ = some (.pointer (pO t)) ∧ W.cell? ⟨w4.heap.size, 0, none⟩ = some (.pointer (pO z)) ∧ W.cell? ⟨w2.heap.size, 0, none⟩ = some (.pointer (pO a)) ∧ W.cell? ⟨w3.heap.size, 0, none⟩ = some (.pointer (pO c)) ∧ W.cell? ⟨w3.heap.size + 1, 0, none⟩ = some (.pointer (pO d)) ∧ W.cell? ⟨w1.heap.size, 0, none⟩ = some (.pointer (pO r)) ∧ Hid (Kp W5 W))) (by kernel_rfl) ?_ (fun hH => ?_)
        · exact MK.out _ Q0
        have KQ := Q0
        refine wpAnyH_take (i := 0) (oi := { dst := some 67, op := Op.load 24 (Operand.tmp 8), type := 24, pos := "law.go:108", after := #[], guard := none }) (v := ?v0q1) rfl (by kernel_rfl) (by kernel_rfl) (by kernel_rfl) (fun _ _ _ h => h) (Or.inl ⟨by rfl, ?hy0q1⟩) hH ?r0q1
        case hy0q1 => (intro W hSw; (try dsimp only at hSw); go_simp; try (with_reducible rfl))
        try simp only [Act.put, List.setIfInBounds_toArray, List.set_cons_zero, List.set_cons_succ]
        refine wpAnyH_take (i := 2) (oi := { dst := some 69, op := Op.move (Operand.tmp 7), type := 32, pos := "law.go:108", after := #[], guard := none }) (v := ?v2q2) rfl (by kernel_rfl) (by kernel_rfl) (by kernel_rfl) (fun _ _ _ h => h) (Or.inl ⟨by rfl, ?hy2q2⟩) hH ?r2q2
        case hy2q2 => (intro W hSw; (try dsimp only at hSw); go_simp; try (with_reducible rfl))
        try simp only [Act.put, List.setIfInBounds_toArray, List.set_cons_zero, List.set_cons_succ]
        refine wpAnyH_ready (rs := [1]) (by kernel_rfl) (by simp) ?_
        refine AllReadyH.cons (o := { dst := some 68, op := Op.call { callee := Callee.value (Operand.func 12), args := #[Operand.tmp 67], argTypes := #[24] }, type := 32, pos := "law.go:108", after := #[{ on := 0, ground := Ground.data }], guard := none }) rfl (fun K hKq => ?_) AllReadyH.nil
        go_simp
        refine (items_ok t xs _ (F.out.1.kp KQ) (by rw [NN.out.1]; omega)).mono ?_
        rintro e y1 ⟨vi, rfl, oi, kq⟩
        have OI1 : Hid (Sl y1 vi xs) := oi.sl
        clear oi
        refine hKq.out _ _ (MK.out _ (KQ.trans kq)) (fun hN => ?_)
        clear kq
        clear hKq K hH KQ
        have hH := hN
        clear hN
        have KQ := hH.2.2.2.2.2.2.out
        try simp only [Act.put, List.setIfInBounds_toArray, List.set_cons_zero, List.set_cons_succ]
        refine wpAnyH_ready (rs := [3]) (by kernel_rfl) (by simp) ?_
        refine AllReadyH.cons (o := { dst := some 70, op := Op.call { callee := Callee.value (Operand.func 18), args := #[Operand.tmp 68, Operand.tmp 69], argTypes := #[32, 32] }, type := 4, pos := "law.go:108", after := #[{ on := 1, ground := Ground.data }, { on := 2, ground := Ground.data }, { on := 1, ground := Ground.chain }], guard := none }) rfl (fun K hKq => ?_) AllReadyH.nil
        go_simp
        refine (same_any _ _ xs _ OI1.out (F.out.2.2.2.2.2.2.kp KQ) NN.out.2 (by rw [NN.out.1]; omega)).mono ?_
        rintro e y2 ⟨rfl, kq⟩
        refine hKq.out _ _ (MK.out _ (KQ.trans kq)) (fun hN => ?_)
        clear kq
        clear hKq K hH KQ
        have hH := hN
        clear hN
        have KQ := hH.2.2.2.2.2.2.out
        try simp only [Act.put, List.setIfInBounds_toArray, List.set_cons_zero, List.set_cons_succ]
        refine wpAnyH_take (i := 4) (oi := { dst := some 71, op := Op.move (Operand.tmp 70), type := 4, pos := "law.go:108", after := #[{ on := 3, ground := Ground.data }, { on := 3, ground := Ground.chain }], guard := none }) (v := ?v4q3) rfl (by kernel_rfl) (by kernel_rfl) (by kernel_rfl) (fun _ _ _ h => h) (Or.inl ⟨by rfl, ?hy4q3⟩) hH ?r4q3
        case hy4q3 => (intro W hSw; (try dsimp only at hSw); go_simp; try (with_reducible rfl))
        try simp only [Act.put, List.setIfInBounds_toArray, List.set_cons_zero, List.set_cons_succ]
        refine wpAnyH_take (i := 5) (oi := { dst := some 72, op := Op.load 24 (Operand.tmp 16), type := 24, pos := "law.go:108", after := #[{ on := 4, ground := Ground.guard }], guard := some (4, true) }) (v := ?v5q4) rfl (by kernel_rfl) (by kernel_rfl) (by kernel_rfl) (fun _ _ _ h => h) (Or.inl ⟨by rfl, ?hy5q4⟩) hH ?r5q4
        case hy5q4 => (intro W hSw; (try dsimp only at hSw); go_simp; try (with_reducible rfl))
        try simp only [Act.put, List.setIfInBounds_toArray, List.set_cons_zero, List.set_cons_succ]
        refine wpAnyH_take (i := 7) (oi := { dst := some 74, op := Op.move (Operand.tmp 7), type := 32, pos := "law.go:108", after := #[{ on := 4, ground := Ground.guard }], guard := some (4, true) }) (v := ?v7q5) rfl (by kernel_rfl) (by kernel_rfl) (by kernel_rfl) (fun _ _ _ h => h) (Or.inl ⟨by rfl, ?hy7q5⟩) hH ?r7q5
        case hy7q5 => (intro W hSw; (try dsimp only at hSw); go_simp; try (with_reducible rfl))
        try simp only [Act.put, List.setIfInBounds_toArray, List.set_cons_zero, List.set_cons_succ]
        refine wpAnyH_ready (rs := [6]) (by kernel_rfl) (by simp) ?_
        refine AllReadyH.cons (o := { dst := some 73, op := Op.call { callee := Callee.value (Operand.func 12), args := #[Operand.tmp 72], argTypes := #[24] }, type := 32, pos := "law.go:108", after := #[{ on := 5, ground := Ground.data }, { on := 4, ground := Ground.chain }, { on := 4, ground := Ground.guard }], guard := some (4, true) }) rfl (fun K hKq => ?_) AllReadyH.nil
        go_simp
        refine (items_ok z xs _ (F.out.2.1.kp KQ) (by rw [NN.out.1]; omega)).mono ?_
        rintro e y3 ⟨vi, rfl, oi, kq⟩
        have OI2 : Hid (Sl y3 vi xs) := oi.sl
        clear oi
        refine hKq.out _ _ (MK.out _ (KQ.trans kq)) (fun hN => ?_)
        clear kq
        clear hKq K hH KQ
        have hH := hN
        clear hN
        have KQ := hH.2.2.2.2.2.2.out
        try simp only [Act.put, List.setIfInBounds_toArray, List.set_cons_zero, List.set_cons_succ]
        refine wpAnyH_ready (rs := [8]) (by kernel_rfl) (by simp) ?_
        refine AllReadyH.cons (o := { dst := some 75, op := Op.call { callee := Callee.value (Operand.func 18), args := #[Operand.tmp 73, Operand.tmp 74], argTypes := #[32, 32] }, type := 4, pos := "law.go:108", after := #[{ on := 6, ground := Ground.data }, { on := 7, ground := Ground.data }, { on := 6, ground := Ground.chain }, { on := 4, ground := Ground.guard }], guard := some (4, true) }) rfl (fun K hKq => ?_) AllReadyH.nil
        go_simp
        refine (same_any _ _ xs _ OI2.out (F.out.2.2.2.2.2.2.kp KQ) NN.out.2 (by rw [NN.out.1]; omega)).mono ?_
        rintro e y4 ⟨rfl, kq⟩
        refine hKq.out _ _ (MK.out _ (KQ.trans kq)) (fun hN => ?_)
        clear kq
        clear hKq K hH KQ
        have hH := hN
        clear hN
        have KQ := hH.2.2.2.2.2.2.out
        try simp only [Act.put, List.setIfInBounds_toArray, List.set_cons_zero, List.set_cons_succ]
        refine wpAnyH_take (i := 9) (oi := { dst := some 76, op := Op.pick (Operand.tmp 71) (Operand.tmp 75) (Operand.const (Value.bool false)), type := 4, pos := "law.go:108", after := #[{ on := 4, ground := Ground.data }, { on := 8, ground := Ground.data }], guard := none }) (v := ?v9q6) rfl (by kernel_rfl) (by kernel_rfl) (by kernel_rfl) (fun _ _ _ h => h) (Or.inl ⟨by rfl, ?hy9q6⟩) hH ?r9q6
        case hy9q6 => (intro W hSw; (try dsimp only at hSw); go_simp; try (with_reducible rfl))
        try simp only [Act.put, List.setIfInBounds_toArray, List.set_cons_zero, List.set_cons_succ]
        refine wpAnyH_take (i := 10) (oi := { dst := some 77, op := Op.move (Operand.tmp 76), type := 4, pos := "law.go:108", after := #[{ on := 9, ground := Ground.data }, { on := 8, ground := Ground.chain }], guard := none }) (v := ?v10q7) rfl (by kernel_rfl) (by kernel_rfl) (by kernel_rfl) (fun _ _ _ h => h) (Or.inl ⟨by rfl, ?hy10q7⟩) hH ?r10q7
        case hy10q7 => (intro W hSw; (try dsimp only at hSw); go_simp; try (with_reducible rfl))
        try simp only [Act.put, List.setIfInBounds_toArray, List.set_cons_zero, List.set_cons_succ]
        refine wpAnyH_take (i := 11) (oi := { dst := some 78, op := Op.load 24 (Operand.tmp 12), type := 24, pos := "law.go:108", after := #[{ on := 10, ground := Ground.guard }], guard := some (10, true) }) (v := ?v11q8) rfl (by kernel_rfl) (by kernel_rfl) (by kernel_rfl) (fun _ _ _ h => h) (Or.inl ⟨by rfl, ?hy11q8⟩) hH ?r11q8
        case hy11q8 => (intro W hSw; (try dsimp only at hSw); go_simp; try (with_reducible rfl))
        try simp only [Act.put, List.setIfInBounds_toArray, List.set_cons_zero, List.set_cons_succ]
        refine wpAnyH_take (i := 13) (oi := { dst := some 80, op := Op.load 24 (Operand.tmp 14), type := 24, pos := "law.go:108", after := #[{ on := 10, ground := Ground.guard }], guard := some (10, true) }) (v := ?v13q9) rfl (by kernel_rfl) (by kernel_rfl) (by kernel_rfl) (fun _ _ _ h => h) (Or.inl ⟨by rfl, ?hy13q9⟩) hH ?r13q9
        case hy13q9 => (intro W hSw; (try dsimp only at hSw); go_simp; try (with_reducible rfl))
        try simp only [Act.put, List.setIfInBounds_toArray, List.set_cons_zero, List.set_cons_succ]
        refine wpAnyH_take (i := 15) (oi := { dst := some 82, op := Op.load 24 (Operand.tmp 15), type := 24, pos := "law.go:108", after := #[{ on := 10, ground := Ground.guard }], guard := some (10, true) }) (v := ?v15q10) rfl (by kernel_rfl) (by kernel_rfl) (by kernel_rfl) (fun _ _ _ h => h) (Or.inl ⟨by rfl, ?hy15q10⟩) hH ?r15q10
        case hy15q10 => (intro W hSw; (try dsimp only at hSw); go_simp; try (with_reducible rfl))
        try simp only [Act.put, List.setIfInBounds_toArray, List.set_cons_zero, List.set_cons_succ]
        refine wpAnyH_take (i := 19) (oi := { dst := some 86, op := Op.load 24 (Operand.tmp 11), type := 24, pos := "law.go:108", after := #[{ on := 10, ground := Ground.guard }], guard := some (10, true) }) (v := ?v19q11) rfl (by kernel_rfl) (by kernel_rfl) (by kernel_rfl) (fun _ _ _ h => h) (Or.inl ⟨by rfl, ?hy19q11⟩) hH ?r19q11
        case hy19q11 => (intro W hSw; (try dsimp only at hSw); go_simp; try (with_reducible rfl))
        try simp only [Act.put, List.setIfInBounds_toArray, List.set_cons_zero, List.set_cons_succ]
        refine wpAnyH_ready (rs := [12]) (by kernel_rfl) (by simp) ?_
        refine AllReadyH.cons (o := { dst := some 79, op := Op.call { callee := Callee.value (Operand.func 20), args := #[Operand.tmp 78], argTypes := #[24] }, type := 26, pos := "law.go:108", after := #[{ on := 11, ground := Ground.data }, { on := 10, ground := Ground.chain }, { on := 10, ground := Ground.guard }], guard := some (10, true) }) rfl (fun K hKq => ?_) AllReadyH.nil
        go_simp
        refine (mark_ok a _ _ (F.out.2.2.1.kp KQ)).mono ?_
        rintro e y5 ⟨rfl, kq⟩
        rw [EE.out.1]
        refine hKq.out _ _ (MK.out _ (KQ.trans kq)) (fun hN => ?_)
        clear kq
        clear hKq K hH KQ
        have hH := hN
        clear hN
        have KQ := hH.2.2.2.2.2.2.out
        try simp only [Act.put, List.setIfInBounds_toArray, List.set_cons_zero, List.set_cons_succ]
        refine wpAnyH_ready (rs := [14]) (by kernel_rfl) (by simp) ?_
        refine AllReadyH.cons (o := { dst := some 81, op := Op.call { callee := Callee.value (Operand.func 20), args := #[Operand.tmp 80], argTypes := #[24] }, type := 26, pos := "law.go:108", after := #[{ on := 13, ground := Ground.data }, { on := 12, ground := Ground.chain }, { on := 10, ground := Ground.guard }], guard := some (10, true) }) rfl (fun K hKq => ?_) AllReadyH.nil
        go_simp
        refine (mark_ok c _ _ (F.out.2.2.2.1.kp KQ)).mono ?_
        rintro e y6 ⟨rfl, kq⟩
        rw [EE.out.2.1]
        refine hKq.out _ _ (MK.out _ (KQ.trans kq)) (fun hN => ?_)
        clear kq
        clear hKq K hH KQ
        have hH := hN
        clear hN
        have KQ := hH.2.2.2.2.2.2.out
        try simp only [Act.put, List.setIfInBounds_toArray, List.set_cons_zero, List.set_cons_succ]
        refine wpAnyH_ready (rs := [16]) (by kernel_rfl) (by simp) ?_
        refine AllReadyH.cons (o := { dst := some 83, op := Op.call { callee := Callee.value (Operand.func 20), args := #[Operand.tmp 82], argTypes := #[24] }, type := 26, pos := "law.go:108", after := #[{ on := 15, ground := Ground.data }, { on := 14, ground := Ground.chain }, { on := 10, ground := Ground.guard }], guard := some (10, true) }) rfl (fun K hKq => ?_) AllReadyH.nil
        go_simp
        refine (mark_ok d _ _ (F.out.2.2.2.2.1.kp KQ)).mono ?_
        rintro e y7 ⟨rfl, kq⟩
        rw [EE.out.2.2.1]
        refine hKq.out _ _ (MK.out _ (KQ.trans kq)) (fun hN => ?_)
        clear kq
        clear hKq K hH KQ
        have hH := hN
        clear hN
        have KQ := hH.2.2.2.2.2.2.out
        try simp only [Act.put, List.setIfInBounds_toArray, List.set_cons_zero, List.set_cons_succ]
        refine wpAnyH_ready (rs := [17]) (by kernel_rfl) (by simp) ?_
        refine AllReadyH.cons (o := { dst := some 84, op := Op.buildSlice 68 3 #[(0, Operand.tmp 79), (1, Operand.tmp 81), (2, Operand.tmp 83)], type := 68, pos := "law.go:108", after := #[{ on := 12, ground := Ground.data }, { on := 14, ground := Ground.data }, { on := 16, ground := Ground.data }, { on := 10, ground := Ground.guard }], guard := some (10, true) }) rfl (fun K hKq => ?_) AllReadyH.nil
        go_simp
        refine hKq.out _ _ (MK.out _ (by first | exact KQ.alloc _ | exact (KQ0.alloc _).drew)) (fun hN => ?_)
        clear hKq K hH KQ
        have hH := hN
        clear hN
        have KQ := hH.2.2.2.2.2.2.out
        try simp only [Act.put, List.setIfInBounds_toArray, List.set_cons_zero, List.set_cons_succ]
        refine wpAnyH_ready (rs := [18]) (by kernel_rfl) (by simp) ?_
        refine AllReadyH.cons (o := { dst := some 85, op := Op.call { callee := Callee.value (Operand.func 19), args := #[Operand.tmp 84], argTypes := #[68] }, type := 26, pos := "law.go:108", after := #[{ on := 17, ground := Ground.data }, { on := 16, ground := Ground.chain }, { on := 10, ground := Ground.guard }], guard := some (10, true) }) rfl (fun K hKq => ?_) AllReadyH.nil
        go_simp
        refine (SUM.out _ _ ?hX1).mono ?_
        case hX1 => first | exact last_of _ _ | exact last_drew _ _
        rintro e yy ⟨rfl, rfl⟩
        refine hKq.out _ _ (MK.out _ KQ) (fun hN => ?_)
        clear hKq K hH KQ
        have hH := hN
        clear hN
        have KQ := hH.2.2.2.2.2.2.out
        try simp only [Act.put, List.setIfInBounds_toArray, List.set_cons_zero, List.set_cons_succ]
        refine wpAnyH_ready (rs := [20]) (by kernel_rfl) (by simp) ?_
        refine AllReadyH.cons (o := { dst := some 87, op := Op.call { callee := Callee.value (Operand.func 20), args := #[Operand.tmp 86], argTypes := #[24] }, type := 26, pos := "law.go:108", after := #[{ on := 19, ground := Ground.data }, { on := 18, ground := Ground.chain }, { on := 10, ground := Ground.guard }], guard := some (10, true) }) rfl (fun K hKq => ?_) AllReadyH.nil
        go_simp
        refine (mark_ok r _ _ (F.out.2.2.2.2.2.1.kp KQ)).mono ?_
        rintro e y10 ⟨rfl, kq⟩
        rw [EE.out.2.2.2.2]
        refine hKq.out _ _ (MK.out _ (KQ.trans kq)) (fun hN => ?_)
        clear kq
        clear hKq K hH KQ
        have hH := hN
        clear hN
        have KQ := hH.2.2.2.2.2.2.out
        try simp only [Act.put, List.setIfInBounds_toArray, List.set_cons_zero, List.set_cons_succ]
        refine wpAnyH_take (i := 21) (oi := { dst := some 88, op := Op.binOp BinOp.eql 26 (Operand.tmp 85) (Operand.tmp 87) 26, type := 4, pos := "law.go:108", after := #[{ on := 18, ground := Ground.data }, { on := 20, ground := Ground.data }, { on := 10, ground := Ground.guard }], guard := some (10, true) }) (v := ?v21q12) rfl (by kernel_rfl) (by kernel_rfl) (by kernel_rfl) (fun _ _ _ h => h) (Or.inl ⟨by rfl, ?hy21q12⟩) hH ?r21q12
        case hy21q12 => (intro W hSw; (try dsimp only at hSw); go_simp; try (with_reducible rfl))
        try simp only [Act.put, List.setIfInBounds_toArray, List.set_cons_zero, List.set_cons_succ]
        refine wpAnyH_take (i := 22) (oi := { dst := some 89, op := Op.pick (Operand.tmp 77) (Operand.tmp 88) (Operand.const (Value.bool false)), type := 4, pos := "law.go:108", after := #[{ on := 10, ground := Ground.data }, { on := 21, ground := Ground.data }], guard := none }) (v := ?v22q13) rfl (by kernel_rfl) (by kernel_rfl) (by kernel_rfl) (fun _ _ _ h => h) (Or.inl ⟨by rfl, ?hy22q13⟩) hH ?r22q13
        case hy22q13 => (intro W hSw; (try dsimp only at hSw); go_simp; try (with_reducible rfl))
        try simp only [Act.put, List.setIfInBounds_toArray, List.set_cons_zero, List.set_cons_succ]
        refine wpAnyH_take (i := 23) (oi := { dst := some 90, op := Op.move (Operand.tmp 89), type := 4, pos := "law.go:108", after := #[{ on := 22, ground := Ground.data }, { on := 20, ground := Ground.chain }], guard := none }) (v := ?v23q14) rfl (by kernel_rfl) (by kernel_rfl) (by kernel_rfl) (fun _ _ _ h => h) (Or.inl ⟨by rfl, ?hy23q14⟩) hH ?r23q14
        case hy23q14 => (intro W hSw; (try dsimp only at hSw); go_simp; try (with_reducible rfl))
        try simp only [Act.put, List.setIfInBounds_toArray, List.set_cons_zero, List.set_cons_succ]
        refine wpAnyH_take (i := 24) (oi := { dst := some 91, op := Op.load 24 (Operand.tmp 12), type := 24, pos := "law.go:108", after := #[{ on := 23, ground := Ground.guard }], guard := some (23, true) }) (v := ?v24q15) rfl (by kernel_rfl) (by kernel_rfl) (by kernel_rfl) (fun _ _ _ h => h) (Or.inl ⟨by rfl, ?hy24q15⟩) hH ?r24q15
        case hy24q15 => (intro W hSw; (try dsimp only at hSw); go_simp; try (with_reducible rfl))
        try simp only [Act.put, List.setIfInBounds_toArray, List.set_cons_zero, List.set_cons_succ]
        refine wpAnyH_take (i := 26) (oi := { dst := some 93, op := Op.load 24 (Operand.tmp 14), type := 24, pos := "law.go:108", after := #[{ on := 23, ground := Ground.guard }], guard := some (23, true) }) (v := ?v26q16) rfl (by kernel_rfl) (by kernel_rfl) (by kernel_rfl) (fun _ _ _ h => h) (Or.inl ⟨by rfl, ?hy26q16⟩) hH ?r26q16
        case hy26q16 => (intro W hSw; (try dsimp only at hSw); go_simp; try (with_reducible rfl))
        try simp only [Act.put, List.setIfInBounds_toArray, List.set_cons_zero, List.set_cons_succ]
        refine wpAnyH_take (i := 29) (oi := { dst := some 96, op := Op.load 24 (Operand.tmp 15), type := 24, pos := "law.go:108", after := #[{ on := 23, ground := Ground.guard }], guard := some (23, true) }) (v := ?v29q17) rfl (by kernel_rfl) (by kernel_rfl) (by kernel_rfl) (fun _ _ _ h => h) (Or.inl ⟨by rfl, ?hy29q17⟩) hH ?r29q17
        case hy29q17 => (intro W hSw; (try dsimp only at hSw); go_simp; try (with_reducible rfl))
        try simp only [Act.put, List.setIfInBounds_toArray, List.set_cons_zero, List.set_cons_succ]
        refine wpAnyH_take (i := 32) (oi := { dst := some 99, op := Op.move (Operand.tmp 7), type := 32, pos := "law.go:108", after := #[{ on := 23, ground := Ground.guard }], guard := some (23, true) }) (v := ?v32q18) rfl (by kernel_rfl) (by kernel_rfl) (by kernel_rfl) (fun _ _ _ h => h) (Or.inl ⟨by rfl, ?hy32q18⟩) hH ?r32q18
        case hy32q18 => (intro W hSw; (try dsimp only at hSw); go_simp; try (with_reducible rfl))
        try simp only [Act.put, List.setIfInBounds_toArray, List.set_cons_zero, List.set_cons_succ]
        refine wpAnyH_take (i := 33) (oi := { dst := some 100, op := Op.call { callee := Callee.builtin Builtin.len, args := #[Operand.tmp 99], argTypes := #[32] }, type := 3, pos := "law.go:108", after := #[{ on := 32, ground := Ground.data }, { on := 23, ground := Ground.guard }], guard := some (23, true) }) (v := ?v33q19) rfl (by kernel_rfl) (by kernel_rfl) (by kernel_rfl) (fun _ _ _ h => h) (Or.inl ⟨by rfl, ?hy33q19⟩) hH ?r33q19
        case hy33q19 => (intro W hSw; (try dsimp only at hSw); go_simp; try (with_reducible rfl))
        try simp only [Act.put, List.setIfInBounds_toArray, List.set_cons_zero, List.set_cons_succ]
        refine wpAnyH_ready (rs := [25]) (by kernel_rfl) (by simp) ?_
        refine AllReadyH.cons (o := { dst := some 92, op := Op.call { callee := Callee.value (Operand.func 14), args := #[Operand.tmp 91], argTypes := #[24] }, type := 3, pos := "law.go:108", after := #[{ on := 24, ground := Ground.data }, { on := 23, ground := Ground.chain }, { on := 23, ground := Ground.guard }], guard := some (23, true) }) rfl (fun K hKq => ?_) AllReadyH.nil
        go_simp
        refine (len_ok a _ _ (F.out.2.2.1.kp KQ)).mono ?_
        rintro e y11 ⟨rfl, kq⟩
        rw [EE.out.2.2.2.1.1]
        refine hKq.out _ _ (MK.out _ (KQ.trans kq)) (fun hN => ?_)
        clear kq
        clear hKq K hH KQ
        have hH := hN
        clear hN
        have KQ := hH.2.2.2.2.2.2.out
        try simp only [Act.put, List.setIfInBounds_toArray, List.set_cons_zero, List.set_cons_succ]
        refine wpAnyH_ready (rs := [27]) (by kernel_rfl) (by simp) ?_
        refine AllReadyH.cons (o := { dst := some 94, op := Op.call { callee := Callee.value (Operand.func 14), args := #[Operand.tmp 93], argTypes := #[24] }, type := 3, pos := "law.go:108", after := #[{ on := 26, ground := Ground.data }, { on := 25, ground := Ground.chain }, { on := 23, ground := Ground.guard }], guard := some (23, true) }) rfl (fun K hKq => ?_) AllReadyH.nil
        go_simp
        refine (len_ok c _ _ (F.out.2.2.2.1.kp KQ)).mono ?_
        rintro e y12 ⟨rfl, kq⟩
        rw [EE.out.2.2.2.1.2.1]
        refine hKq.out _ _ (MK.out _ (KQ.trans kq)) (fun hN => ?_)
        clear kq
        clear hKq K hH KQ
        have hH := hN
        clear hN
        have KQ := hH.2.2.2.2.2.2.out
        try simp only [Act.put, List.setIfInBounds_toArray, List.set_cons_zero, List.set_cons_succ]
        refine wpAnyH_take (i := 28) (oi := { dst := some 95, op := Op.binOp BinOp.add 3 (Operand.tmp 92) (Operand.tmp 94) 3, type := 3, pos := "law.go:108", after := #[{ on := 25, ground := Ground.data }, { on := 27, ground := Ground.data }, { on := 23, ground := Ground.guard }], guard := some (23, true) }) (v := ?v28q20) rfl (by kernel_rfl) (by kernel_rfl) (by kernel_rfl) (fun _ _ _ h => h) (Or.inl ⟨by rfl, ?hy28q20⟩) hH ?r28q20
        case hy28q20 => (intro W hSw; (try dsimp only at hSw); go_simp; try (with_reducible rfl))
        try simp only [Act.put, List.setIfInBounds_toArray, List.set_cons_zero, List.set_cons_succ]
        refine wpAnyH_ready (rs := [30]) (by kernel_rfl) (by simp) ?_
        refine AllReadyH.cons (o := { dst := some 97, op := Op.call { callee := Callee.value (Operand.func 14), args := #[Operand.tmp 96], argTypes := #[24] }, type := 3, pos := "law.go:108", after := #[{ on := 29, ground := Ground.data }, { on := 27, ground := Ground.chain }, { on := 23, ground := Ground.guard }], guard := some (23, true) }) rfl (fun K hKq => ?_) AllReadyH.nil
        go_simp
        refine (len_ok d _ _ (F.out.2.2.2.2.1.kp KQ)).mono ?_
        rintro e y13 ⟨rfl, kq⟩
        rw [EE.out.2.2.2.1.2.2]
        refine hKq.out _ _ (MK.out _ (KQ.trans kq)) (fun hN => ?_)
        clear kq
        clear hKq K hH KQ
        have hH := hN
        clear hN
        have KQ := hH.2.2.2.2.2.2.out
        try simp only [Act.put, List.setIfInBounds_toArray, List.set_cons_zero, List.set_cons_succ]
        refine wpAnyH_take (i := 31) (oi := { dst := some 98, op := Op.binOp BinOp.add 3 (Operand.tmp 95) (Operand.tmp 97) 3, type := 3, pos := "law.go:108", after := #[{ on := 28, ground := Ground.data }, { on := 30, ground := Ground.data }, { on := 23, ground := Ground.guard }], guard := some (23, true) }) (v := ?v31q21) rfl (by kernel_rfl) (by kernel_rfl) (by kernel_rfl) (fun _ _ _ h => h) (Or.inl ⟨by rfl, ?hy31q21⟩) hH ?r31q21
        case hy31q21 => (intro W hSw; (try dsimp only at hSw); go_simp; try (with_reducible rfl))
        try simp only [Act.put, List.setIfInBounds_toArray, List.set_cons_zero, List.set_cons_succ]
        refine wpAnyH_take (i := 34) (oi := { dst := some 101, op := Op.binOp BinOp.eql 3 (Operand.tmp 98) (Operand.tmp 100) 3, type := 4, pos := "law.go:108", after := #[{ on := 31, ground := Ground.data }, { on := 33, ground := Ground.data }, { on := 23, ground := Ground.guard }], guard := some (23, true) }) (v := ?v34q22) rfl (by kernel_rfl) (by kernel_rfl) (by kernel_rfl) (fun _ _ _ h => h) (Or.inl ⟨by rfl, ?hy34q22⟩) hH ?r34q22
        case hy34q22 => (intro W hSw; (try dsimp only at hSw); go_simp; try (with_reducible rfl))
        try simp only [Act.put, List.setIfInBounds_toArray, List.set_cons_zero, List.set_cons_succ]
        refine wpAnyH_take (i := 35) (oi := { dst := some 102, op := Op.pick (Operand.tmp 90) (Operand.tmp 101) (Operand.const (Value.bool false)), type := 4, pos := "law.go:108", after := #[{ on := 23, ground := Ground.data }, { on := 34, ground := Ground.data }], guard := none }) (v := ?v35q23) rfl (by kernel_rfl) (by kernel_rfl) (by kernel_rfl) (fun _ _ _ h => h) (Or.inl ⟨by rfl, ?hy35q23⟩) hH ?r35q23
        case hy35q23 => (intro W hSw; (try dsimp only at hSw); go_simp; try (with_reducible rfl))
        try simp only [Act.put, List.setIfInBounds_toArray, List.set_cons_zero, List.set_cons_succ]
        refine wpAnyH_take (i := 36) (oi := { dst := some 103, op := Op.move (Operand.tmp 102), type := 4, pos := "law.go:108", after := #[{ on := 35, ground := Ground.data }, { on := 30, ground := Ground.chain }], guard := none }) (v := ?v36q24) rfl (by kernel_rfl) (by kernel_rfl) (by kernel_rfl) (fun _ _ _ h => h) (Or.inl ⟨by rfl, ?hy36q24⟩) hH ?r36q24
        case hy36q24 => (intro W hSw; (try dsimp only at hSw); go_simp; try (with_reducible rfl))
        try simp only [Act.put, List.setIfInBounds_toArray, List.set_cons_zero, List.set_cons_succ]
        refine wpAnyH_take (i := 37) (oi := { dst := some 104, op := Op.load 24 (Operand.tmp 8), type := 24, pos := "law.go:108", after := #[{ on := 36, ground := Ground.guard }], guard := some (36, true) }) (v := ?v37q25) rfl (by kernel_rfl) (by kernel_rfl) (by kernel_rfl) (fun _ _ _ h => h) (Or.inl ⟨by rfl, ?hy37q25⟩) hH ?r37q25
        case hy37q25 => (intro W hSw; (try dsimp only at hSw); go_simp; try (with_reducible rfl))
        try simp only [Act.put, List.setIfInBounds_toArray, List.set_cons_zero, List.set_cons_succ]
        refine wpAnyH_take (i := 38) (oi := { dst := some 105, op := Op.move (Operand.tmp 7), type := 32, pos := "law.go:108", after := #[{ on := 36, ground := Ground.guard }], guard := some (36, true) }) (v := ?v38q26) rfl (by kernel_rfl) (by kernel_rfl) (by kernel_rfl) (fun _ _ _ h => h) (Or.inl ⟨by rfl, ?hy38q26⟩) hH ?r38q26
        case hy38q26 => (intro W hSw; (try dsimp only at hSw); go_simp; try (with_reducible rfl))
        try simp only [Act.put, List.setIfInBounds_toArray, List.set_cons_zero, List.set_cons_succ]
        refine wpAnyH_take (i := 39) (oi := { dst := some 106, op := Op.move (Operand.tmp 1), type := 3, pos := "law.go:108", after := #[{ on := 36, ground := Ground.guard }], guard := some (36, true) }) (v := ?v39q27) rfl (by kernel_rfl) (by kernel_rfl) (by kernel_rfl) (fun _ _ _ h => h) (Or.inl ⟨by rfl, ?hy39q27⟩) hH ?r39q27
        case hy39q27 => (intro W hSw; (try dsimp only at hSw); go_simp; try (with_reducible rfl))
        try simp only [Act.put, List.setIfInBounds_toArray, List.set_cons_zero, List.set_cons_succ]
        refine wpAnyH_ready (rs := [40]) (by kernel_rfl) (by simp) ?_
        refine AllReadyH.cons (o := { dst := some 107, op := Op.call { callee := Callee.value (Operand.func 17), args := #[Operand.tmp 104, Operand.tmp 105, Operand.tmp 106], argTypes := #[24, 32, 3] }, type := 4, pos := "law.go:108", after := #[{ on := 37, ground := Ground.data }, { on := 38, ground := Ground.data }, { on := 39, ground := Ground.data }, { on := 36, ground := Ground.chain }, { on := 36, ground := Ground.guard }], guard := some (36, true) }) rfl (fun K hKq => ?_) AllReadyH.nil
        go_simp
        refine (looks_any t xs _ i _ (F.out.1.kp KQ) (F.out.2.2.2.2.2.2.kp KQ) NN.out.2 (by rw [NN.out.1]; omega)).mono ?_
        rintro e y14 ⟨rfl, kq⟩
        refine hKq.out _ _ (MK.out _ (KQ.trans kq)) (fun hN => ?_)
        clear kq
        clear hKq K hH KQ
        have hH := hN
        clear hN
        have KQ := hH.2.2.2.2.2.2.out
        try simp only [Act.put, List.setIfInBounds_toArray, List.set_cons_zero, List.set_cons_succ]
        refine wpAnyH_take (i := 41) (oi := { dst := some 108, op := Op.pick (Operand.tmp 103) (Operand.tmp 107) (Operand.const (Value.bool false)), type := 4, pos := "law.go:108", after := #[{ on := 36, ground := Ground.data }, { on := 40, ground := Ground.data }], guard := none }) (v := ?v41q28) rfl (by kernel_rfl) (by kernel_rfl) (by kernel_rfl) (fun _ _ _ h => h) (Or.inl ⟨by rfl, ?hy41q28⟩) hH ?r41q28
        case hy41q28 => (intro W hSw; (try dsimp only at hSw); go_simp; try (with_reducible rfl))
        try simp only [Act.put, List.setIfInBounds_toArray, List.set_cons_zero, List.set_cons_succ]
        refine wpAnyH_take (i := 42) (oi := { dst := some 109, op := Op.move (Operand.tmp 108), type := 4, pos := "law.go:108", after := #[{ on := 41, ground := Ground.data }, { on := 40, ground := Ground.chain }], guard := none }) (v := ?v42q29) rfl (by kernel_rfl) (by kernel_rfl) (by kernel_rfl) (fun _ _ _ h => h) (Or.inl ⟨by rfl, ?hy42q29⟩) hH ?r42q29
        case hy42q29 => (intro W hSw; (try dsimp only at hSw); go_simp; try (with_reducible rfl))
        try simp only [Act.put, List.setIfInBounds_toArray, List.set_cons_zero, List.set_cons_succ]
        refine wpAnyH_take (i := 43) (oi := { dst := some 110, op := Op.load 24 (Operand.tmp 16), type := 24, pos := "law.go:108", after := #[{ on := 42, ground := Ground.guard }], guard := some (42, true) }) (v := ?v43q30) rfl (by kernel_rfl) (by kernel_rfl) (by kernel_rfl) (fun _ _ _ h => h) (Or.inl ⟨by rfl, ?hy43q30⟩) hH ?r43q30
        case hy43q30 => (intro W hSw; (try dsimp only at hSw); go_simp; try (with_reducible rfl))
        try simp only [Act.put, List.setIfInBounds_toArray, List.set_cons_zero, List.set_cons_succ]
        refine wpAnyH_take (i := 44) (oi := { dst := some 111, op := Op.move (Operand.tmp 7), type := 32, pos := "law.go:108", after := #[{ on := 42, ground := Ground.guard }], guard := some (42, true) }) (v := ?v44q31) rfl (by kernel_rfl) (by kernel_rfl) (by kernel_rfl) (fun _ _ _ h => h) (Or.inl ⟨by rfl, ?hy44q31⟩) hH ?r44q31
        case hy44q31 => (intro W hSw; (try dsimp only at hSw); go_simp; try (with_reducible rfl))
        try simp only [Act.put, List.setIfInBounds_toArray, List.set_cons_zero, List.set_cons_succ]
        refine wpAnyH_take (i := 45) (oi := { dst := some 112, op := Op.move (Operand.tmp 2), type := 3, pos := "law.go:108", after := #[{ on := 42, ground := Ground.guard }], guard := some (42, true) }) (v := ?v45q32) rfl (by kernel_rfl) (by kernel_rfl) (by kernel_rfl) (fun _ _ _ h => h) (Or.inl ⟨by rfl, ?hy45q32⟩) hH ?r45q32
        case hy45q32 => (intro W hSw; (try dsimp only at hSw); go_simp; try (with_reducible rfl))
        try simp only [Act.put, List.setIfInBounds_toArray, List.set_cons_zero, List.set_cons_succ]
        refine wpAnyH_ready (rs := [46]) (by kernel_rfl) (by simp) ?_
        refine AllReadyH.cons (o := { dst := some 113, op := Op.call { callee := Callee.value (Operand.func 17), args := #[Operand.tmp 110, Operand.tmp 111, Operand.tmp 112], argTypes := #[24, 32, 3] }, type := 4, pos := "law.go:108", after := #[{ on := 43, ground := Ground.data }, { on := 44, ground := Ground.data }, { on := 45, ground := Ground.data }, { on := 42, ground := Ground.chain }, { on := 42, ground := Ground.guard }], guard := some (42, true) }) rfl (fun K hKq => ?_) AllReadyH.nil
        go_simp
        refine (looks_any z xs _ j _ (F.out.2.1.kp KQ) (F.out.2.2.2.2.2.2.kp KQ) NN.out.2 (by rw [NN.out.1]; omega)).mono ?_
        rintro e y15 ⟨rfl, kq⟩
        refine hKq.out _ _ (MK.out _ (KQ.trans kq)) (fun hN => ?_)
        clear kq
        clear hKq K hH KQ
        have hH := hN
        clear hN
        have KQ := hH.2.2.2.2.2.2.out
        try simp only [Act.put, List.setIfInBounds_toArray, List.set_cons_zero, List.set_cons_succ]
        refine wpAnyH_take (i := 47) (oi := { dst := some 114, op := Op.pick (Operand.tmp 109) (Operand.tmp 113) (Operand.const (Value.bool false)), type := 4, pos := "law.go:108", after := #[{ on := 42, ground := Ground.data }, { on := 46, ground := Ground.data }], guard := none }) (v := ?v47q33) rfl (by kernel_rfl) (by kernel_rfl) (by kernel_rfl) (fun _ _ _ h => h) (Or.inl ⟨by rfl, ?hy47q33⟩) hH ?r47q33
        case hy47q33 => (intro W hSw; (try dsimp only at hSw); go_simp; try (with_reducible rfl))
        try simp only [Act.put, List.setIfInBounds_toArray, List.set_cons_zero, List.set_cons_succ]
        refine wpAnyH_take (i := 48) (oi := { dst := some 115, op := Op.move (Operand.tmp 114), type := 4, pos := "law.go:108", after := #[{ on := 47, ground := Ground.data }, { on := 46, ground := Ground.chain }], guard := none }) (v := ?v48q34) rfl (by kernel_rfl) (by kernel_rfl) (by kernel_rfl) (fun _ _ _ h => h) (Or.inl ⟨by rfl, ?hy48q34⟩) hH ?r48q34
        case hy48q34 => (intro W hSw; (try dsimp only at hSw); go_simp; try (with_reducible rfl))
        try simp only [Act.put, List.setIfInBounds_toArray, List.set_cons_zero, List.set_cons_succ]
        refine wpAnyH_ready (rs := [49]) (by kernel_rfl) (by simp) ?_
        refine AllReadyH.cons (o := { dst := some 116, op := Op.call { callee := Callee.value (Operand.func 11), args := #[Operand.const (Value.slice none 0 0)], argTypes := #[59] }, type := 24, pos := "law.go:108", after := #[{ on := 48, ground := Ground.chain }, { on := 48, ground := Ground.guard }], guard := some (48, true) }) rfl (fun K hKq => ?_) AllReadyH.nil
        go_simp
        refine (join_nil _).mono ?_
        rintro e y16 ⟨rfl, kq⟩
        refine hKq.out _ _ (MK.out _ (KQ.trans kq)) (fun hN => ?_)
        clear kq
        clear hKq K hH KQ
        have hH := hN
        clear hN
        have KQ := hH.2.2.2.2.2.2.out
        try simp only [Act.put, List.setIfInBounds_toArray, List.set_cons_zero, List.set_cons_succ]
        refine wpAnyH_ready (rs := [50]) (by kernel_rfl) (by simp) ?_
        refine AllReadyH.cons (o := { dst := some 117, op := Op.call { callee := Callee.value (Operand.func 14), args := #[Operand.tmp 116], argTypes := #[24] }, type := 3, pos := "law.go:108", after := #[{ on := 49, ground := Ground.data }, { on := 49, ground := Ground.chain }, { on := 48, ground := Ground.guard }], guard := some (48, true) }) rfl (fun K hKq => ?_) AllReadyH.nil
        go_simp
        refine (len_any none _ trivial).mono ?_
        rintro e y17 ⟨rfl, kq⟩
        rw [show ((itemsO none).length : Int) = 0 from rfl]
        refine hKq.out _ _ (MK.out _ (KQ.trans kq)) (fun hN => ?_)
        clear kq
        clear hKq K hH KQ
        have hH := hN
        clear hN
        have KQ := hH.2.2.2.2.2.2.out
        try simp only [Act.put, List.setIfInBounds_toArray, List.set_cons_zero, List.set_cons_succ]
        refine wpAnyH_take (i := 51) (oi := { dst := some 118, op := Op.binOp BinOp.eql 3 (Operand.tmp 117) (Operand.const (Value.int IntKind.i64 0)) 3, type := 4, pos := "law.go:108", after := #[{ on := 50, ground := Ground.data }, { on := 48, ground := Ground.guard }], guard := some (48, true) }) (v := ?v51q35) rfl (by kernel_rfl) (by kernel_rfl) (by kernel_rfl) (fun _ _ _ h => h) (Or.inl ⟨by rfl, ?hy51q35⟩) hH ?r51q35
        case hy51q35 => (intro W hSw; (try dsimp only at hSw); go_simp; try (with_reducible rfl))
        try simp only [Act.put, List.setIfInBounds_toArray, List.set_cons_zero, List.set_cons_succ]
        refine wpAnyH_take (i := 52) (oi := { dst := some 119, op := Op.pick (Operand.tmp 115) (Operand.tmp 118) (Operand.const (Value.bool false)), type := 4, pos := "law.go:108", after := #[{ on := 48, ground := Ground.data }, { on := 51, ground := Ground.data }], guard := none }) (v := ?v52q36) rfl (by kernel_rfl) (by kernel_rfl) (by kernel_rfl) (fun _ _ _ h => h) (Or.inl ⟨by rfl, ?hy52q36⟩) hH ?r52q36
        case hy52q36 => (intro W hSw; (try dsimp only at hSw); go_simp; try (with_reducible rfl))
        try simp only [Act.put, List.setIfInBounds_toArray, List.set_cons_zero, List.set_cons_succ]
        refine wpAnyH_take (i := 53) (oi := { dst := some 120, op := Op.move (Operand.tmp 119), type := 4, pos := "law.go:108", after := #[{ on := 52, ground := Ground.data }, { on := 50, ground := Ground.chain }], guard := none }) (v := ?v53q37) rfl (by kernel_rfl) (by kernel_rfl) (by kernel_rfl) (fun _ _ _ h => h) (Or.inl ⟨by rfl, ?hy53q37⟩) hH ?r53q37
        case hy53q37 => (intro W hSw; (try dsimp only at hSw); go_simp; try (with_reducible rfl))
        try simp only [Act.put, List.setIfInBounds_toArray, List.set_cons_zero, List.set_cons_succ]
        refine wpAnyH_ready (rs := [54]) (by kernel_rfl) (by simp) ?_
        refine AllReadyH.cons (o := { dst := some 121, op := Op.call { callee := Callee.value (Operand.func 3), args := #[], argTypes := #[] }, type := 4, pos := "law.go:108", after := #[{ on := 53, ground := Ground.chain }, { on := 53, ground := Ground.guard }], guard := some (53, true) }) rfl (fun K hKq => ?_) AllReadyH.nil
        go_simp
        refine (runs_any _).mono ?_
        rintro e y18 ⟨rfl, kq⟩
        refine hKq.out _ _ (MK.out _ (KQ.trans kq)) (fun hN => ?_)
        clear kq
        clear hKq K hH KQ
        have hH := hN
        clear hN
        have KQ := hH.2.2.2.2.2.2.out
        try simp only [Act.put, List.setIfInBounds_toArray, List.set_cons_zero, List.set_cons_succ]
        refine wpAnyH_take (i := 55) (oi := { dst := some 122, op := Op.pick (Operand.tmp 120) (Operand.tmp 121) (Operand.const (Value.bool false)), type := 4, pos := "law.go:108", after := #[{ on := 53, ground := Ground.data }, { on := 54, ground := Ground.data }], guard := none }) (v := ?v55q38) rfl (by kernel_rfl) (by kernel_rfl) (by kernel_rfl) (fun _ _ _ h => h) (Or.inl ⟨by rfl, ?hy55q38⟩) hH ?r55q38
        case hy55q38 => (intro W hSw; (try dsimp only at hSw); go_simp; try (with_reducible rfl))
        try simp only [Act.put, List.setIfInBounds_toArray, List.set_cons_zero, List.set_cons_succ]
        refine wpAnyH_take (i := 56) (oi := { dst := some 6, op := Op.assign (Operand.tmp 122), type := 4, pos := "law.go:108", after := #[{ on := 55, ground := Ground.data }, { on := 54, ground := Ground.chain }, { on := 0, ground := Ground.phase }, { on := 1, ground := Ground.phase }, { on := 2, ground := Ground.phase }, { on := 3, ground := Ground.phase }, { on := 4, ground := Ground.phase }, { on := 5, ground := Ground.phase }, { on := 6, ground := Ground.phase }, { on := 7, ground := Ground.phase }, { on := 8, ground := Ground.phase }, { on := 9, ground := Ground.phase }, { on := 10, ground := Ground.phase }, { on := 11, ground := Ground.phase }, { on := 12, ground := Ground.phase }, { on := 13, ground := Ground.phase }, { on := 14, ground := Ground.phase }, { on := 15, ground := Ground.phase }, { on := 16, ground := Ground.phase }, { on := 17, ground := Ground.phase }, { on := 18, ground := Ground.phase }, { on := 19, ground := Ground.phase }, { on := 20, ground := Ground.phase }, { on := 21, ground := Ground.phase }, { on := 22, ground := Ground.phase }, { on := 23, ground := Ground.phase }, { on := 24, ground := Ground.phase }, { on := 25, ground := Ground.phase }, { on := 26, ground := Ground.phase }, { on := 27, ground := Ground.phase }, { on := 28, ground := Ground.phase }, { on := 29, ground := Ground.phase }, { on := 30, ground := Ground.phase }, { on := 31, ground := Ground.phase }, { on := 32, ground := Ground.phase }, { on := 33, ground := Ground.phase }, { on := 34, ground := Ground.phase }, { on := 35, ground := Ground.phase }, { on := 36, ground := Ground.phase }, { on := 37, ground := Ground.phase }, { on := 38, ground := Ground.phase }, { on := 39, ground := Ground.phase }, { on := 40, ground := Ground.phase }, { on := 41, ground := Ground.phase }, { on := 42, ground := Ground.phase }, { on := 43, ground := Ground.phase }, { on := 44, ground := Ground.phase }, { on := 45, ground := Ground.phase }, { on := 46, ground := Ground.phase }, { on := 47, ground := Ground.phase }, { on := 48, ground := Ground.phase }, { on := 49, ground := Ground.phase }, { on := 50, ground := Ground.phase }, { on := 51, ground := Ground.phase }, { on := 52, ground := Ground.phase }, { on := 53, ground := Ground.phase }, { on := 54, ground := Ground.phase }, { on := 55, ground := Ground.phase }], guard := none }) (v := ?v56q39) rfl (by kernel_rfl) (by kernel_rfl) (by kernel_rfl) (fun _ _ _ h => h) (Or.inl ⟨by rfl, ?hy56q39⟩) hH ?r56q39
        case hy56q39 => (intro W hSw; (try dsimp only at hSw); go_simp; try (with_reducible rfl))
        try simp only [Act.put, List.setIfInBounds_toArray, List.set_cons_zero, List.set_cons_succ]
        refine wpAnyH_done (by kernel_rfl) ?_ _
        refine NoPanic.normal ?_
        go_wp2_with fail
        go_ret
        exact ⟨rfl, KW.out.trans KQ⟩

end Go.Proofs.Ytjphjnpcpbenlaa
