/-
 Proved: the law RxBack of glosslaw4 returns true for every four rows of numbers and either way of writing, and leaves them as they were (P4.2 to P4.4). The tied card, no condition.
-/
import Derived.Test.YtikmgckefbjbkaaGreatDoorM6
import Derived.ProofKit
import Derived.OpenShut
import Derived.ChangeSame
import Derived.Test.YtikmgckefbjbkaaGreatDoorRows
import Derived.Test.YtikmgckefbjbkaaGreatDoorChecked
import Derived.HandedShaped
import Derived.Shelf.Vars
import Derived.LaidMore
import Derived.LaidHandle
import Derived.LaidLaws
import Derived.Stop.Joined
import Derived.Test.YtikmgckefbjbkaaGreatDoorTie
import Derived.Test.YtikmgckefbjbkaaGreatDoorCards
import Derived.Below
import Derived.WalkKit
import Derived.ShutString
import Derived.ChangeOld
import Derived.SevenTiedAt

/-! ### BackW -/

namespace Go.Proofs.YtikmgckefbjbkaaGreatDoor
open Go.RowKit

/-- Two trees in two variables. -/
structure BMid (ere : Bool) (W0 : World) (v v' : Value) (w' : World) : Prop where
 ex : ∃ V1 V2 T1 T2, ∃ (k1 mn1 mx1 mm1 : Int) (t1 : W4) (ad1 : Option Addr) (l1 c1 : Nat), ∃ (k2 mn2 mx2 mm2 : Int) (t2 : W4) (ad2 : Option Addr) (l2 c2 : Nat), v = .pointer (some ⟨V1, 0, none⟩) ∧ v' = .pointer (some ⟨V2, 0, none⟩) ∧ w'.heap[V1]? = some (rxo k1 mn1 mx1 mm1 t1 (.slice ad1 l1 c1)) ∧ w'.heap[V2]? = some (rxo k2 mn2 mx2 mm2 t2 (.slice ad2 l2 c2)) ∧ Pd w' T1 k1 mn1 mx1 mm1 t1 ad1 l1 c1 ∧ Pd w' T2 k2 mn2 mx2 mm2 t2 ad2 l2 c2 ∧ right ere T1 = true ∧ RxOk T1 ∧ right ere T2 = true ∧ RxOk T2 ∧ Kp W0 w'
theorem bmid_of {ere : Bool} {V1 V2 : Nat} {W0 u1 Y1 u2 Y2 u3 Z Wf : World} {T1 T2 : Rx} {k1 mn1 mx1 mm1 : Int} {t1 : W4} {ad1 : Option Addr} {l1 c1 : Nat} {k2 mn2 mx2 mm2 : Int} {t2 : W4} {ad2 : Option Addr} {l2 c2 : Nat} (kc1 : Kp W0 u1) (kp1 : Kp u1 Y1) (kc2 : Kp Y1 u2) (kp2 : Kp u2 Y2) (kc3 : Kp Y2 u3)
  (hV1 : W0.heap.size ≤ V1) (hV2 : W0.heap.size ≤ V2) (o11 : V1 < u1.heap.size ∨ Y1.heap.size ≤ V1) (o12 : V1 < u2.heap.size ∨ Y2.heap.size ≤ V1) (o21 : V2 < u1.heap.size ∨ Y1.heap.size ≤ V2) (o22 : V2 < u2.heap.size ∨ Y2.heap.size ≤ V2)
  (I1 : Is Y1 (fun b => u1.heap.size ≤ b) T1 (rxv k1 mn1 mx1 mm1 t1 (.slice ad1 l1 c1))) (r1 : right ere T1 = true) (x1 : RxOk T1) (I2 : Is Y2 (fun b => u2.heap.size ≤ b) T2 (rxv k2 mn2 mx2 mm2 t2 (.slice ad2 l2 c2))) (r2 : right ere T2 = true) (x2 : RxOk T2)
  (f1 : Ks V1 u3 Z) (f2 : Ks V2 Z Wf) (b1 : Wf.heap[V1]? = some (rxo k1 mn1 mx1 mm1 t1 (.slice ad1 l1 c1))) (b2 : Wf.heap[V2]? = some (rxo k2 mn2 mx2 mm2 t2 (.slice ad2 l2 c2))) : BMid ere W0 (.pointer (some ⟨V1, 0, none⟩)) (.pointer (some ⟨V2, 0, none⟩)) Wf := by
 have s1 := kc1.size
 have s2 := kp1.size
 have s3 := kc2.size
 have s4 := kp2.size
 have s5 := kc3.size
 have s6 := f1.size
 have s7 := f2.size
 refine ⟨V1, V2, T1, T2, k1, mn1, mx1, mm1, t1, ad1, l1, c1, k2, mn2, mx2, mm2, t2, ad2, l2, c2, rfl, rfl, b1, b2, ⟨?_⟩, ⟨?_⟩, r1, x1, r2, x2, ?_⟩
 ·
  refine Is.turn (by omega) (fun b hb hl => ⟨trivial, ?_⟩) _ _ I1
  exact (f2.block b (by omega) (by omega)).trans ((f1.block b (by omega) (by omega)).trans ((kc3.block b (by omega)).trans ((kp2.block b (by omega)).trans (kc2.block b hl))))
 ·
  refine Is.turn (by omega) (fun b hb hl => ⟨trivial, ?_⟩) _ _ I2
  exact (f2.block b (by omega) (by omega)).trans ((f1.block b (by omega) (by omega)).trans (kc3.block b hl))
 ·
  exact f2.up (f1.up ((((kc1.trans kp1).trans kc2).trans kp2).trans kc3) hV1) hV2

set_option maxHeartbeats 8000000 in
set_option maxRecDepth 100000 in
theorem lawBack_any (aK : Option Addr) (lK cK : Nat) (aN : Option Addr) (lN cN : Nat) (aL : Option Addr) (lL cL : Nat) (aM : Option Addr) (lM cM : Nat) (ere : Bool) (w : World) (hK : Nums w w.heap.size aK lK) (hN : Nums w w.heap.size aN lN) (hL : Nums w w.heap.size aL lL) (hM : Nums w w.heap.size aM lM) (h0 : ∃ m, w.cell? ⟨0, 0, none⟩ = some (.int .i64 m)) :
  Calls Tryz.prog 5 #[.agg #[.slice aK lK cK, .slice aN lN cN], .agg #[.slice aL lL cL, .slice aM lM cM], .bool ere] w fun e w' => e = .returned (.bool true) ∧ Kp w w' := by
 have HK := hid hK
 have HN := hid hN
 have HL := hid hL
 have HM := hid hM
 have Z0 := hid h0
 clear hK hN hL hM h0
 go_enter Tryz.func5, Tryz.ntmps5
 go_upto_region 1 with fail
 refine opq (fun V0 => V0.heap[w.heap.size]? = some (.cells #[.slice aK lK cK, .slice aN lN cN] 36) ∧ V0.heap[w.heap.size + 1]? = some (.cells #[.slice aL lL cL, .slice aM lM cM] 36) ∧ Kp w V0 ∧ (∃ mz, V0.cell? ⟨0, 0, none⟩ = some (.int .i64 mz))) ⟨by exact bl_alloc (last_of _ _) _, by exact last_at _ _ _ (by simp), by exact (by repeat (first | exact Kp.refl _ | refine Kp.alloc ?_ _ | refine Kp.drew ?_ | refine Kp.drewN _ ?_)), by exact cell0 Z0.out (by repeat (first | exact Kp.refl _ | refine Kp.alloc ?_ _ | refine Kp.drew ?_ | refine Kp.drewN _ ?_))⟩ ?_
 rintro V0 ⟨xA_1, xA2_1, xK_1, xZ_1⟩
 have A_1 : Hid (V0.heap[w.heap.size]? = some (.cells #[.slice aK lK cK, .slice aN lN cN] 36)) := xA_1
 have A2_1 : Hid (V0.heap[w.heap.size + 1]? = some (.cells #[.slice aL lL cL, .slice aM lM cM] 36)) := xA2_1
 have K_1 : Hid (Kp w V0) := xK_1
 have Z_1 : Hid ((∃ mz, V0.cell? ⟨0, 0, none⟩ = some (.int .i64 mz))) := xZ_1
 clear xA_1 xA2_1 xK_1 xZ_1
 have NK := hid (fun (W : World) (k : Kp V0 W) => (HK.out.km ((K_1.out.trans k).km (Nat.le_refl _))).up (B' := W.heap.size) (K_1.out.trans k).size)
 have NN := hid (fun (W : World) (k : Kp V0 W) => (HN.out.km ((K_1.out.trans k).km (Nat.le_refl _))).up (B' := W.heap.size) (K_1.out.trans k).size)
 have NL := hid (fun (W : World) (k : Kp V0 W) => (HL.out.km ((K_1.out.trans k).km (Nat.le_refl _))).up (B' := W.heap.size) (K_1.out.trans k).size)
 have NM := hid (fun (W : World) (k : Kp V0 W) => (HM.out.km ((K_1.out.trans k).km (Nat.le_refl _))).up (B' := W.heap.size) (K_1.out.trans k).size)
 clear Z0 HK HN HL HM
 have MA := hid (fun (W : World) (k : Kp V0 W) => made_any ere (rowS_any ere) aK lK cK aN lN cN W (NK.out W k) (NN.out W k))
 have MB := hid (fun (W : World) (k : Kp V0 W) => made_any ere (rowS_any ere) aL lL cL aM lM cM W (NL.out W k) (NM.out W k))
 clear NK NN NL NM
 go_cut [7, 8] (fun v v' wc => BMid ere V0 v v' wc)
 case first =>
  have Q0 : Kp V0 V0.drew := (Kp.refl _).drew
  have MK : Hid (∀ W, Kp V0 W → W.cell? ⟨w.heap.size, 0, none⟩ = some (.slice aK lK cK) ∧ W.cell? ⟨w.heap.size, 1, none⟩ = some (.slice aN lN cN) ∧ W.cell? ⟨(w.heap.size + 1), 0, none⟩ = some (.slice aL lL cL) ∧ W.cell? ⟨(w.heap.size + 1), 1, none⟩ = some (.slice aM lM cM) ∧ Hid (Kp V0 W)) := fun W k => ⟨bl_cell (bl_kp A_1.out k) 0 _ rfl, bl_cell (bl_kp A_1.out k) 1 _ rfl, bl_cell (bl_kp A2_1.out k) 0 _ rfl, bl_cell (bl_kp A2_1.out k) 1 _ rfl, k⟩
  refine wp_region_noPanic ?_
  refine wp_region_held_drew (S := (fun W => W.cell? ⟨w.heap.size, 0, none⟩ = some (.slice aK lK cK) ∧ W.cell? ⟨w.heap.size, 1, none⟩ = some (.slice aN lN cN) ∧ W.cell? ⟨(w.heap.size + 1), 0, none⟩ = some (.slice aL lL cL) ∧ W.cell? ⟨(w.heap.size + 1), 1, none⟩ = some (.slice aM lM cM) ∧ Hid (Kp V0 W))) (by kernel_rfl) ?_ (fun hH => ?_)
  ·
   exact MK.out _ Q0
  have KQ := Q0
  refine wpAnyH_take (i := 0) (oi := { dst := some 14, op := Op.load 36 (Operand.tmp 3), type := 36, pos := "law.go:62", after := #[], guard := none }) (v := ?v0e1) rfl (by kernel_rfl) (by kernel_rfl) (by kernel_rfl) (fun _ _ _ h => h) (Or.inl ⟨by rfl, ?hy0e1⟩) hH ?r0e1
  case hy0e1 => (intro W hSw; (try dsimp only at hSw); go_simp; try (with_reducible rfl))
  try simp only [Act.put, List.setIfInBounds_toArray, List.set_cons_zero, List.set_cons_succ]
  refine wpAnyH_take (i := 1) (oi := { dst := some 15, op := Op.move (Operand.tmp 2), type := 4, pos := "law.go:62", after := #[], guard := none }) (v := ?v1e2) rfl (by kernel_rfl) (by kernel_rfl) (by kernel_rfl) (fun _ _ _ h => h) (Or.inl ⟨by rfl, ?hy1e2⟩) hH ?r1e2
  case hy1e2 => (intro W hSw; (try dsimp only at hSw); go_simp; try (with_reducible rfl))
  try simp only [Act.put, List.setIfInBounds_toArray, List.set_cons_zero, List.set_cons_succ]
  refine wpAnyH_take (i := 3) (oi := { dst := some 17, op := Op.load 36 (Operand.tmp 4), type := 36, pos := "law.go:62", after := #[], guard := none }) (v := ?v3e3) rfl (by kernel_rfl) (by kernel_rfl) (by kernel_rfl) (fun _ _ _ h => h) (Or.inl ⟨by rfl, ?hy3e3⟩) hH ?r3e3
  case hy3e3 => (intro W hSw; (try dsimp only at hSw); go_simp; try (with_reducible rfl))
  try simp only [Act.put, List.setIfInBounds_toArray, List.set_cons_zero, List.set_cons_succ]
  refine wpAnyH_take (i := 4) (oi := { dst := some 18, op := Op.move (Operand.tmp 2), type := 4, pos := "law.go:62", after := #[], guard := none }) (v := ?v4e4) rfl (by kernel_rfl) (by kernel_rfl) (by kernel_rfl) (fun _ _ _ h => h) (Or.inl ⟨by rfl, ?hy4e4⟩) hH ?r4e4
  case hy4e4 => (intro W hSw; (try dsimp only at hSw); go_simp; try (with_reducible rfl))
  try simp only [Act.put, List.setIfInBounds_toArray, List.set_cons_zero, List.set_cons_succ]
  refine wpAnyH_ready (rs := [2, 6, 7]) (by kernel_rfl) (by simp) ?_
  refine AllReadyH.cons (o := { dst := some 16, op := Op.call { callee := Callee.value (Operand.func 13), args := #[Operand.tmp 14, Operand.tmp 15], argTypes := #[36, 4] }, type := 27, pos := "law.go:62", after := #[{ on := 0, ground := Ground.data }, { on := 1, ground := Ground.data }], guard := none }) rfl (fun K hKq => ?_) ?_
  ·
   go_simp
   refine (MA.out _ KQ).mono ?_
   rintro e Y1 ⟨⟨T1, v1, rfl, hI, hR, hO, kp⟩⟩
   obtain ⟨k1, mn1, mx1, mm1, t1, ad1, l1, c1, rfl⟩ := hI.form
   have I1 := hid hI
   have KP1 := hid kp
   have HR1 := hid hR
   have HO1 := hid hO
   have hy1 := kp.size
   try simp at hy1
   clear hI kp hR hO
   refine hKq.out _ _ (MK.out _ (KQ.trans KP1.out)) (fun hN => ?_)
   clear hKq K hH KQ
   have hH := hN
   clear hN
   have KQ := hH.2.2.2.2.out
   try simp only [Act.put, List.setIfInBounds_toArray, List.set_cons_zero, List.set_cons_succ]
   refine wpAnyH_ready (rs := [5, 6, 7]) (by kernel_rfl) (by simp) ?_
   refine AllReadyH.cons (o := { dst := some 19, op := Op.call { callee := Callee.value (Operand.func 13), args := #[Operand.tmp 17, Operand.tmp 18], argTypes := #[36, 4] }, type := 27, pos := "law.go:62", after := #[{ on := 3, ground := Ground.data }, { on := 4, ground := Ground.data }, { on := 2, ground := Ground.chain }], guard := none }) rfl (fun K hKq => ?_) ?_
   ·
    go_simp
    refine (MB.out _ KQ).mono ?_
    rintro e Y2 ⟨⟨T2, v2, rfl, hI, hR, hO, kp⟩⟩
    obtain ⟨k2, mn2, mx2, mm2, t2, ad2, l2, c2, rfl⟩ := hI.form
    have I2 := hid hI
    have KP2 := hid kp
    have HR2 := hid hR
    have HO2 := hid hO
    have hy2 := kp.size
    try simp at hy2
    clear hI kp hR hO
    refine hKq.out _ _ (MK.out _ (KQ.trans KP2.out)) (fun hN => ?_)
    clear hKq K hH KQ
    have hH := hN
    clear hN
    have KQ := hH.2.2.2.2.out
    try simp only [Act.put, List.setIfInBounds_toArray, List.set_cons_zero, List.set_cons_succ]
    refine wpAnyH_ready (rs := [6, 7]) (by kernel_rfl) (by simp) ?_
    refine AllReadyH.cons (o := { dst := some 7, op := Op.alloc 27, type := 0, pos := "law.go:62", after := #[], guard := none }) rfl (fun K hKq => ?_) ?_
    ·
     go_simp
     refine hKq.out _ _ (MK.out _ (KQ.alloc _)) (fun hN => ?_)
     have B1n3 : Hid ((Y2.alloc rzo).heap[Y2.heap.size]? = some rzo) := last_at _ _ _ (by simp)
     clear hKq K hH KQ
     have hH := hN
     clear hN
     have KQ := hH.2.2.2.2.out
     try simp only [Act.put, List.setIfInBounds_toArray, List.set_cons_zero, List.set_cons_succ]
     refine wpAnyH_ready (rs := [7]) (by kernel_rfl) (by simp) ?_
     refine AllReadyH.cons (o := { dst := some 8, op := Op.alloc 27, type := 0, pos := "law.go:62", after := #[], guard := none }) rfl (fun K hKq => ?_) AllReadyH.nil
     go_simp
     refine hKq.out _ _ (MK.out _ (KQ.alloc _)) (fun hN => ?_)
     have B1n4 : Hid (((Y2.alloc rzo).alloc rzo).heap[Y2.heap.size]? = some rzo) := bl_alloc B1n3.out _
     have B2n4 : Hid (((Y2.alloc rzo).alloc rzo).heap[Y2.heap.size + 1]? = some rzo) := last_at _ _ _ (by simp)
     clear hKq K hH KQ
     have hH := hN
     clear hN
     have KQ := hH.2.2.2.2.out
     try simp only [Act.put, List.setIfInBounds_toArray, List.set_cons_zero, List.set_cons_succ]
     refine wpAnyH_ready (rs := [8]) (by kernel_rfl) (by simp) ?_
     refine AllReadyH.cons (o := { dst := none, op := Op.store 27 (Operand.tmp 7) (Operand.tmp 16), type := 0, pos := "law.go:62", after := #[{ on := 6, ground := Ground.data }, { on := 2, ground := Ground.data }, { on := 5, ground := Ground.chain }, { on := 0, ground := Ground.phase }, { on := 1, ground := Ground.phase }, { on := 2, ground := Ground.phase }, { on := 3, ground := Ground.textOnly Departure.lateStores }, { on := 4, ground := Ground.textOnly Departure.lateStores }, { on := 5, ground := Ground.textOnly Departure.lateStoresUnsure }, { on := 6, ground := Ground.phase }, { on := 7, ground := Ground.phase }], guard := none }) rfl (fun K hKq => ?_) AllReadyH.nil
     obtain ⟨U, hU⟩ : ∃ U, ((Y2.alloc rzo).alloc rzo) = U := ⟨_, rfl⟩
     rw [hU] at hH KQ B1n4 B2n4 ⊢
     have KU : Hid (Kp Y2 U) := by subst hU; exact (by repeat (first | exact Kp.refl _ | refine Kp.alloc ?_ _ | refine Kp.drew ?_))
     clear hU
     have v0 := bl_cell (B1n4.out) 0 _ rfl
     have fv0 := bl_frozen (B1n4.out) 0
     have v1 := bl_cell (B1n4.out) 1 _ rfl
     have fv1 := bl_frozen (B1n4.out) 1
     have v2 := bl_cell (B1n4.out) 2 _ rfl
     have fv2 := bl_frozen (B1n4.out) 2
     have v3 := bl_cell (B1n4.out) 3 _ rfl
     have fv3 := bl_frozen (B1n4.out) 3
     have v4 := bl_cell (B1n4.out) 4 _ rfl
     have fv4 := bl_frozen (B1n4.out) 4
     have v5 := bl_cell (B1n4.out) 5 _ rfl
     have fv5 := bl_frozen (B1n4.out) 5
     have v6 := bl_cell (B1n4.out) 6 _ rfl
     have fv6 := bl_frozen (B1n4.out) 6
     have v7 := bl_cell (B1n4.out) 7 _ rfl
     have fv7 := bl_frozen (B1n4.out) 7
     have v8 := bl_cell (B1n4.out) 8 _ rfl
     have fv8 := bl_frozen (B1n4.out) 8
     go_simp
     refine hKq.out _ _ (MK.out _ (Ks.up (P := Y2.heap.size) (ks_set9 _ _ _ _ _ _ _ _ _) KQ (by omega))) (fun hN => ?_)
     clear v0 fv0 v1 fv1 v2 fv2 v3 fv3 v4 fv4 v5 fv5 v6 fv6 v7 fv7 v8 fv8
     have B1s := hid (bl_set9 B1n4.out (.int .i64 k1) (.int .i64 mn1) (.int .i64 mx1) (.int .i64 mm1) (.int .u64 (t1.a : Int)) (.int .u64 (t1.b : Int)) (.int .u64 (t1.c : Int)) (.int .u64 (t1.d : Int)) (.slice ad1 l1 c1))
     have F1s := hid (ks_set9 (w := U) (B := Y2.heap.size) (.int .i64 k1) (.int .i64 mn1) (.int .i64 mx1) (.int .i64 mm1) (.int .u64 (t1.a : Int)) (.int .u64 (t1.b : Int)) (.int .u64 (t1.c : Int)) (.int .u64 (t1.d : Int)) (.slice ad1 l1 c1))
     have B2s := hid (bl_ks B2n4.out (by omega) F1s.out)
     clear hKq K hH KQ
     have hH := hN
     clear hN
     have KQ := hH.2.2.2.2.out
     try simp only [Act.put, List.setIfInBounds_toArray, List.set_cons_zero, List.set_cons_succ]
     refine wpAnyH_ready (rs := [9]) (by kernel_rfl) (by simp) ?_
     refine AllReadyH.cons (o := { dst := none, op := Op.store 27 (Operand.tmp 8) (Operand.tmp 19), type := 0, pos := "law.go:62", after := #[{ on := 7, ground := Ground.data }, { on := 5, ground := Ground.data }, { on := 8, ground := Ground.chain }, { on := 0, ground := Ground.phase }, { on := 1, ground := Ground.phase }, { on := 2, ground := Ground.phase }, { on := 3, ground := Ground.phase }, { on := 4, ground := Ground.phase }, { on := 5, ground := Ground.phase }, { on := 6, ground := Ground.phase }, { on := 7, ground := Ground.phase }, { on := 8, ground := Ground.phase }], guard := none }) rfl (fun K hKq => ?_) AllReadyH.nil
     have u0 := bl_cell (B2s.out) 0 _ rfl
     have fu0 := bl_frozen (B2s.out) 0
     have u1 := bl_cell (B2s.out) 1 _ rfl
     have fu1 := bl_frozen (B2s.out) 1
     have u2 := bl_cell (B2s.out) 2 _ rfl
     have fu2 := bl_frozen (B2s.out) 2
     have u3 := bl_cell (B2s.out) 3 _ rfl
     have fu3 := bl_frozen (B2s.out) 3
     have u4 := bl_cell (B2s.out) 4 _ rfl
     have fu4 := bl_frozen (B2s.out) 4
     have u5 := bl_cell (B2s.out) 5 _ rfl
     have fu5 := bl_frozen (B2s.out) 5
     have u6 := bl_cell (B2s.out) 6 _ rfl
     have fu6 := bl_frozen (B2s.out) 6
     have u7 := bl_cell (B2s.out) 7 _ rfl
     have fu7 := bl_frozen (B2s.out) 7
     have u8 := bl_cell (B2s.out) 8 _ rfl
     have fu8 := bl_frozen (B2s.out) 8
     go_simp
     refine hKq.out _ _ (MK.out _ (Ks.up (P := Y2.heap.size + 1) (ks_set9 _ _ _ _ _ _ _ _ _) KQ (by omega))) (fun hN => ?_)
     clear u0 fu0 u1 fu1 u2 fu2 u3 fu3 u4 fu4 u5 fu5 u6 fu6 u7 fu7 u8 fu8
     clear hKq K hH KQ
     have hH := hN
     clear hN
     have KQ := hH.2.2.2.2.out
     try simp only [Act.put, List.setIfInBounds_toArray, List.set_cons_zero, List.set_cons_succ]
     refine wpAnyH_done (by kernel_rfl) ?_ _
     refine NoPanic.normal ?_
     go_wp2_with fail
     go_meet
     case rel => exact bmid_of (u1 := V0.drew) (u2 := Y1) (u3 := U) (by repeat (first | exact Kp.refl _ | refine Kp.alloc ?_ _ | refine Kp.drew ?_)) KP1.out (by repeat (first | exact Kp.refl _ | refine Kp.alloc ?_ _ | refine Kp.drew ?_)) KP2.out KU.out (by omega) (by omega) (by first | omega | (simp; omega) | simp) (by first | omega | (simp; omega) | simp) (by first | omega | (simp; omega) | simp) (by first | omega | (simp; omega) | simp) I1.out HR1.out HO1.out I2.out HR2.out HO2.out F1s.out (ks_set9 _ _ _ _ _ _ _ _ _) (bl_ks B1s.out (by omega) (ks_set9 _ _ _ _ _ _ _ _ _)) (bl_set9 B2s.out _ _ _ _ _ _ _ _ _)
    refine AllReadyH.cons (o := { dst := some 8, op := Op.alloc 27, type := 0, pos := "law.go:62", after := #[], guard := none }) rfl (fun K hKq => ?_) ?_
    ·
     go_simp
     refine hKq.out _ _ (MK.out _ (KQ.alloc _)) (fun hN => ?_)
     have B2n3 : Hid ((Y2.alloc rzo).heap[Y2.heap.size]? = some rzo) := last_at _ _ _ (by simp)
     clear hKq K hH KQ
     have hH := hN
     clear hN
     have KQ := hH.2.2.2.2.out
     try simp only [Act.put, List.setIfInBounds_toArray, List.set_cons_zero, List.set_cons_succ]
     refine wpAnyH_ready (rs := [6]) (by kernel_rfl) (by simp) ?_
     refine AllReadyH.cons (o := { dst := some 7, op := Op.alloc 27, type := 0, pos := "law.go:62", after := #[], guard := none }) rfl (fun K hKq => ?_) AllReadyH.nil
     go_simp
     refine hKq.out _ _ (MK.out _ (KQ.alloc _)) (fun hN => ?_)
     have B2n4 : Hid (((Y2.alloc rzo).alloc rzo).heap[Y2.heap.size]? = some rzo) := bl_alloc B2n3.out _
     have B1n4 : Hid (((Y2.alloc rzo).alloc rzo).heap[Y2.heap.size + 1]? = some rzo) := last_at _ _ _ (by simp)
     clear hKq K hH KQ
     have hH := hN
     clear hN
     have KQ := hH.2.2.2.2.out
     try simp only [Act.put, List.setIfInBounds_toArray, List.set_cons_zero, List.set_cons_succ]
     refine wpAnyH_ready (rs := [8]) (by kernel_rfl) (by simp) ?_
     refine AllReadyH.cons (o := { dst := none, op := Op.store 27 (Operand.tmp 7) (Operand.tmp 16), type := 0, pos := "law.go:62", after := #[{ on := 6, ground := Ground.data }, { on := 2, ground := Ground.data }, { on := 5, ground := Ground.chain }, { on := 0, ground := Ground.phase }, { on := 1, ground := Ground.phase }, { on := 2, ground := Ground.phase }, { on := 3, ground := Ground.textOnly Departure.lateStores }, { on := 4, ground := Ground.textOnly Departure.lateStores }, { on := 5, ground := Ground.textOnly Departure.lateStoresUnsure }, { on := 6, ground := Ground.phase }, { on := 7, ground := Ground.phase }], guard := none }) rfl (fun K hKq => ?_) AllReadyH.nil
     obtain ⟨U, hU⟩ : ∃ U, ((Y2.alloc rzo).alloc rzo) = U := ⟨_, rfl⟩
     rw [hU] at hH KQ B1n4 B2n4 ⊢
     have KU : Hid (Kp Y2 U) := by subst hU; exact (by repeat (first | exact Kp.refl _ | refine Kp.alloc ?_ _ | refine Kp.drew ?_))
     clear hU
     have v0 := bl_cell (B1n4.out) 0 _ rfl
     have fv0 := bl_frozen (B1n4.out) 0
     have v1 := bl_cell (B1n4.out) 1 _ rfl
     have fv1 := bl_frozen (B1n4.out) 1
     have v2 := bl_cell (B1n4.out) 2 _ rfl
     have fv2 := bl_frozen (B1n4.out) 2
     have v3 := bl_cell (B1n4.out) 3 _ rfl
     have fv3 := bl_frozen (B1n4.out) 3
     have v4 := bl_cell (B1n4.out) 4 _ rfl
     have fv4 := bl_frozen (B1n4.out) 4
     have v5 := bl_cell (B1n4.out) 5 _ rfl
     have fv5 := bl_frozen (B1n4.out) 5
     have v6 := bl_cell (B1n4.out) 6 _ rfl
     have fv6 := bl_frozen (B1n4.out) 6
     have v7 := bl_cell (B1n4.out) 7 _ rfl
     have fv7 := bl_frozen (B1n4.out) 7
     have v8 := bl_cell (B1n4.out) 8 _ rfl
     have fv8 := bl_frozen (B1n4.out) 8
     go_simp
     refine hKq.out _ _ (MK.out _ (Ks.up (P := Y2.heap.size + 1) (ks_set9 _ _ _ _ _ _ _ _ _) KQ (by omega))) (fun hN => ?_)
     clear v0 fv0 v1 fv1 v2 fv2 v3 fv3 v4 fv4 v5 fv5 v6 fv6 v7 fv7 v8 fv8
     have B1s := hid (bl_set9 B1n4.out (.int .i64 k1) (.int .i64 mn1) (.int .i64 mx1) (.int .i64 mm1) (.int .u64 (t1.a : Int)) (.int .u64 (t1.b : Int)) (.int .u64 (t1.c : Int)) (.int .u64 (t1.d : Int)) (.slice ad1 l1 c1))
     have F1s := hid (ks_set9 (w := U) (B := Y2.heap.size + 1) (.int .i64 k1) (.int .i64 mn1) (.int .i64 mx1) (.int .i64 mm1) (.int .u64 (t1.a : Int)) (.int .u64 (t1.b : Int)) (.int .u64 (t1.c : Int)) (.int .u64 (t1.d : Int)) (.slice ad1 l1 c1))
     have B2s := hid (bl_ks B2n4.out (by omega) F1s.out)
     clear hKq K hH KQ
     have hH := hN
     clear hN
     have KQ := hH.2.2.2.2.out
     try simp only [Act.put, List.setIfInBounds_toArray, List.set_cons_zero, List.set_cons_succ]
     refine wpAnyH_ready (rs := [9]) (by kernel_rfl) (by simp) ?_
     refine AllReadyH.cons (o := { dst := none, op := Op.store 27 (Operand.tmp 8) (Operand.tmp 19), type := 0, pos := "law.go:62", after := #[{ on := 7, ground := Ground.data }, { on := 5, ground := Ground.data }, { on := 8, ground := Ground.chain }, { on := 0, ground := Ground.phase }, { on := 1, ground := Ground.phase }, { on := 2, ground := Ground.phase }, { on := 3, ground := Ground.phase }, { on := 4, ground := Ground.phase }, { on := 5, ground := Ground.phase }, { on := 6, ground := Ground.phase }, { on := 7, ground := Ground.phase }, { on := 8, ground := Ground.phase }], guard := none }) rfl (fun K hKq => ?_) AllReadyH.nil
     have u0 := bl_cell (B2s.out) 0 _ rfl
     have fu0 := bl_frozen (B2s.out) 0
     have u1 := bl_cell (B2s.out) 1 _ rfl
     have fu1 := bl_frozen (B2s.out) 1
     have u2 := bl_cell (B2s.out) 2 _ rfl
     have fu2 := bl_frozen (B2s.out) 2
     have u3 := bl_cell (B2s.out) 3 _ rfl
     have fu3 := bl_frozen (B2s.out) 3
     have u4 := bl_cell (B2s.out) 4 _ rfl
     have fu4 := bl_frozen (B2s.out) 4
     have u5 := bl_cell (B2s.out) 5 _ rfl
     have fu5 := bl_frozen (B2s.out) 5
     have u6 := bl_cell (B2s.out) 6 _ rfl
     have fu6 := bl_frozen (B2s.out) 6
     have u7 := bl_cell (B2s.out) 7 _ rfl
     have fu7 := bl_frozen (B2s.out) 7
     have u8 := bl_cell (B2s.out) 8 _ rfl
     have fu8 := bl_frozen (B2s.out) 8
     go_simp
     refine hKq.out _ _ (MK.out _ (Ks.up (P := Y2.heap.size) (ks_set9 _ _ _ _ _ _ _ _ _) KQ (by omega))) (fun hN => ?_)
     clear u0 fu0 u1 fu1 u2 fu2 u3 fu3 u4 fu4 u5 fu5 u6 fu6 u7 fu7 u8 fu8
     clear hKq K hH KQ
     have hH := hN
     clear hN
     have KQ := hH.2.2.2.2.out
     try simp only [Act.put, List.setIfInBounds_toArray, List.set_cons_zero, List.set_cons_succ]
     refine wpAnyH_done (by kernel_rfl) ?_ _
     refine NoPanic.normal ?_
     go_wp2_with fail
     go_meet
     case rel => exact bmid_of (u1 := V0.drew) (u2 := Y1) (u3 := U) (by repeat (first | exact Kp.refl _ | refine Kp.alloc ?_ _ | refine Kp.drew ?_)) KP1.out (by repeat (first | exact Kp.refl _ | refine Kp.alloc ?_ _ | refine Kp.drew ?_)) KP2.out KU.out (by omega) (by omega) (by first | omega | (simp; omega) | simp) (by first | omega | (simp; omega) | simp) (by first | omega | (simp; omega) | simp) (by first | omega | (simp; omega) | simp) I1.out HR1.out HO1.out I2.out HR2.out HO2.out F1s.out (ks_set9 _ _ _ _ _ _ _ _ _) (bl_ks B1s.out (by omega) (ks_set9 _ _ _ _ _ _ _ _ _)) (bl_set9 B2s.out _ _ _ _ _ _ _ _ _)
    exact AllReadyH.nil
   refine AllReadyH.cons (o := { dst := some 7, op := Op.alloc 27, type := 0, pos := "law.go:62", after := #[], guard := none }) rfl (fun K hKq => ?_) ?_
   ·
    go_simp
    refine hKq.out _ _ (MK.out _ (KQ.alloc _)) (fun hN => ?_)
    have B1n2 : Hid ((Y1.alloc rzo).heap[Y1.heap.size]? = some rzo) := last_at _ _ _ (by simp)
    clear hKq K hH KQ
    have hH := hN
    clear hN
    have KQ := hH.2.2.2.2.out
    try simp only [Act.put, List.setIfInBounds_toArray, List.set_cons_zero, List.set_cons_succ]
    refine wpAnyH_ready (rs := [5, 7]) (by kernel_rfl) (by simp) ?_
    refine AllReadyH.cons (o := { dst := some 19, op := Op.call { callee := Callee.value (Operand.func 13), args := #[Operand.tmp 17, Operand.tmp 18], argTypes := #[36, 4] }, type := 27, pos := "law.go:62", after := #[{ on := 3, ground := Ground.data }, { on := 4, ground := Ground.data }, { on := 2, ground := Ground.chain }], guard := none }) rfl (fun K hKq => ?_) ?_
    ·
     go_simp
     refine (MB.out _ KQ).mono ?_
     rintro e Y2 ⟨⟨T2, v2, rfl, hI, hR, hO, kp⟩⟩
     obtain ⟨k2, mn2, mx2, mm2, t2, ad2, l2, c2, rfl⟩ := hI.form
     have I2 := hid hI
     have KP2 := hid kp
     have HR2 := hid hR
     have HO2 := hid hO
     have hy2 := kp.size
     try simp at hy2
     have B1n3 : Hid (Y2.heap[Y1.heap.size]? = some rzo) := bl_kp (w := (Y1.alloc rzo)) B1n2.out KP2.out
     clear hI kp hR hO
     refine hKq.out _ _ (MK.out _ (KQ.trans KP2.out)) (fun hN => ?_)
     clear hKq K hH KQ
     have hH := hN
     clear hN
     have KQ := hH.2.2.2.2.out
     try simp only [Act.put, List.setIfInBounds_toArray, List.set_cons_zero, List.set_cons_succ]
     refine wpAnyH_ready (rs := [7]) (by kernel_rfl) (by simp) ?_
     refine AllReadyH.cons (o := { dst := some 8, op := Op.alloc 27, type := 0, pos := "law.go:62", after := #[], guard := none }) rfl (fun K hKq => ?_) AllReadyH.nil
     go_simp
     refine hKq.out _ _ (MK.out _ (KQ.alloc _)) (fun hN => ?_)
     have B1n4 : Hid ((Y2.alloc rzo).heap[Y1.heap.size]? = some rzo) := bl_alloc B1n3.out _
     have B2n4 : Hid ((Y2.alloc rzo).heap[Y2.heap.size]? = some rzo) := last_at _ _ _ (by simp)
     clear hKq K hH KQ
     have hH := hN
     clear hN
     have KQ := hH.2.2.2.2.out
     try simp only [Act.put, List.setIfInBounds_toArray, List.set_cons_zero, List.set_cons_succ]
     refine wpAnyH_ready (rs := [8]) (by kernel_rfl) (by simp) ?_
     refine AllReadyH.cons (o := { dst := none, op := Op.store 27 (Operand.tmp 7) (Operand.tmp 16), type := 0, pos := "law.go:62", after := #[{ on := 6, ground := Ground.data }, { on := 2, ground := Ground.data }, { on := 5, ground := Ground.chain }, { on := 0, ground := Ground.phase }, { on := 1, ground := Ground.phase }, { on := 2, ground := Ground.phase }, { on := 3, ground := Ground.textOnly Departure.lateStores }, { on := 4, ground := Ground.textOnly Departure.lateStores }, { on := 5, ground := Ground.textOnly Departure.lateStoresUnsure }, { on := 6, ground := Ground.phase }, { on := 7, ground := Ground.phase }], guard := none }) rfl (fun K hKq => ?_) AllReadyH.nil
     obtain ⟨U, hU⟩ : ∃ U, (Y2.alloc rzo) = U := ⟨_, rfl⟩
     rw [hU] at hH KQ B1n4 B2n4 ⊢
     have KU : Hid (Kp Y2 U) := by subst hU; exact (by repeat (first | exact Kp.refl _ | refine Kp.alloc ?_ _ | refine Kp.drew ?_))
     clear hU
     have v0 := bl_cell (B1n4.out) 0 _ rfl
     have fv0 := bl_frozen (B1n4.out) 0
     have v1 := bl_cell (B1n4.out) 1 _ rfl
     have fv1 := bl_frozen (B1n4.out) 1
     have v2 := bl_cell (B1n4.out) 2 _ rfl
     have fv2 := bl_frozen (B1n4.out) 2
     have v3 := bl_cell (B1n4.out) 3 _ rfl
     have fv3 := bl_frozen (B1n4.out) 3
     have v4 := bl_cell (B1n4.out) 4 _ rfl
     have fv4 := bl_frozen (B1n4.out) 4
     have v5 := bl_cell (B1n4.out) 5 _ rfl
     have fv5 := bl_frozen (B1n4.out) 5
     have v6 := bl_cell (B1n4.out) 6 _ rfl
     have fv6 := bl_frozen (B1n4.out) 6
     have v7 := bl_cell (B1n4.out) 7 _ rfl
     have fv7 := bl_frozen (B1n4.out) 7
     have v8 := bl_cell (B1n4.out) 8 _ rfl
     have fv8 := bl_frozen (B1n4.out) 8
     go_simp
     refine hKq.out _ _ (MK.out _ (Ks.up (P := Y1.heap.size) (ks_set9 _ _ _ _ _ _ _ _ _) KQ (by omega))) (fun hN => ?_)
     clear v0 fv0 v1 fv1 v2 fv2 v3 fv3 v4 fv4 v5 fv5 v6 fv6 v7 fv7 v8 fv8
     have B1s := hid (bl_set9 B1n4.out (.int .i64 k1) (.int .i64 mn1) (.int .i64 mx1) (.int .i64 mm1) (.int .u64 (t1.a : Int)) (.int .u64 (t1.b : Int)) (.int .u64 (t1.c : Int)) (.int .u64 (t1.d : Int)) (.slice ad1 l1 c1))
     have F1s := hid (ks_set9 (w := U) (B := Y1.heap.size) (.int .i64 k1) (.int .i64 mn1) (.int .i64 mx1) (.int .i64 mm1) (.int .u64 (t1.a : Int)) (.int .u64 (t1.b : Int)) (.int .u64 (t1.c : Int)) (.int .u64 (t1.d : Int)) (.slice ad1 l1 c1))
     have B2s := hid (bl_ks B2n4.out (by omega) F1s.out)
     clear hKq K hH KQ
     have hH := hN
     clear hN
     have KQ := hH.2.2.2.2.out
     try simp only [Act.put, List.setIfInBounds_toArray, List.set_cons_zero, List.set_cons_succ]
     refine wpAnyH_ready (rs := [9]) (by kernel_rfl) (by simp) ?_
     refine AllReadyH.cons (o := { dst := none, op := Op.store 27 (Operand.tmp 8) (Operand.tmp 19), type := 0, pos := "law.go:62", after := #[{ on := 7, ground := Ground.data }, { on := 5, ground := Ground.data }, { on := 8, ground := Ground.chain }, { on := 0, ground := Ground.phase }, { on := 1, ground := Ground.phase }, { on := 2, ground := Ground.phase }, { on := 3, ground := Ground.phase }, { on := 4, ground := Ground.phase }, { on := 5, ground := Ground.phase }, { on := 6, ground := Ground.phase }, { on := 7, ground := Ground.phase }, { on := 8, ground := Ground.phase }], guard := none }) rfl (fun K hKq => ?_) AllReadyH.nil
     have u0 := bl_cell (B2s.out) 0 _ rfl
     have fu0 := bl_frozen (B2s.out) 0
     have u1 := bl_cell (B2s.out) 1 _ rfl
     have fu1 := bl_frozen (B2s.out) 1
     have u2 := bl_cell (B2s.out) 2 _ rfl
     have fu2 := bl_frozen (B2s.out) 2
     have u3 := bl_cell (B2s.out) 3 _ rfl
     have fu3 := bl_frozen (B2s.out) 3
     have u4 := bl_cell (B2s.out) 4 _ rfl
     have fu4 := bl_frozen (B2s.out) 4
     have u5 := bl_cell (B2s.out) 5 _ rfl
     have fu5 := bl_frozen (B2s.out) 5
     have u6 := bl_cell (B2s.out) 6 _ rfl
     have fu6 := bl_frozen (B2s.out) 6
     have u7 := bl_cell (B2s.out) 7 _ rfl
     have fu7 := bl_frozen (B2s.out) 7
     have u8 := bl_cell (B2s.out) 8 _ rfl
     have fu8 := bl_frozen (B2s.out) 8
     go_simp
     refine hKq.out _ _ (MK.out _ (Ks.up (P := Y2.heap.size) (ks_set9 _ _ _ _ _ _ _ _ _) KQ (by omega))) (fun hN => ?_)
     clear u0 fu0 u1 fu1 u2 fu2 u3 fu3 u4 fu4 u5 fu5 u6 fu6 u7 fu7 u8 fu8
     clear hKq K hH KQ
     have hH := hN
     clear hN
     have KQ := hH.2.2.2.2.out
     try simp only [Act.put, List.setIfInBounds_toArray, List.set_cons_zero, List.set_cons_succ]
     refine wpAnyH_done (by kernel_rfl) ?_ _
     refine NoPanic.normal ?_
     go_wp2_with fail
     go_meet
     case rel => exact bmid_of (u1 := V0.drew) (u2 := (Y1.alloc rzo)) (u3 := U) (by repeat (first | exact Kp.refl _ | refine Kp.alloc ?_ _ | refine Kp.drew ?_)) KP1.out (by repeat (first | exact Kp.refl _ | refine Kp.alloc ?_ _ | refine Kp.drew ?_)) KP2.out KU.out (by omega) (by omega) (by first | omega | (simp; omega) | simp) (by first | omega | (simp; omega) | simp) (by first | omega | (simp; omega) | simp) (by first | omega | (simp; omega) | simp) I1.out HR1.out HO1.out I2.out HR2.out HO2.out F1s.out (ks_set9 _ _ _ _ _ _ _ _ _) (bl_ks B1s.out (by omega) (ks_set9 _ _ _ _ _ _ _ _ _)) (bl_set9 B2s.out _ _ _ _ _ _ _ _ _)
    refine AllReadyH.cons (o := { dst := some 8, op := Op.alloc 27, type := 0, pos := "law.go:62", after := #[], guard := none }) rfl (fun K hKq => ?_) ?_
    ·
     go_simp
     refine hKq.out _ _ (MK.out _ (KQ.alloc _)) (fun hN => ?_)
     have B1n3 : Hid (((Y1.alloc rzo).alloc rzo).heap[Y1.heap.size]? = some rzo) := bl_alloc B1n2.out _
     have B2n3 : Hid (((Y1.alloc rzo).alloc rzo).heap[Y1.heap.size + 1]? = some rzo) := last_at _ _ _ (by simp)
     clear hKq K hH KQ
     have hH := hN
     clear hN
     have KQ := hH.2.2.2.2.out
     try simp only [Act.put, List.setIfInBounds_toArray, List.set_cons_zero, List.set_cons_succ]
     refine wpAnyH_ready (rs := [5]) (by kernel_rfl) (by simp) ?_
     refine AllReadyH.cons (o := { dst := some 19, op := Op.call { callee := Callee.value (Operand.func 13), args := #[Operand.tmp 17, Operand.tmp 18], argTypes := #[36, 4] }, type := 27, pos := "law.go:62", after := #[{ on := 3, ground := Ground.data }, { on := 4, ground := Ground.data }, { on := 2, ground := Ground.chain }], guard := none }) rfl (fun K hKq => ?_) AllReadyH.nil
     go_simp
     refine (MB.out _ KQ).mono ?_
     rintro e Y2 ⟨⟨T2, v2, rfl, hI, hR, hO, kp⟩⟩
     obtain ⟨k2, mn2, mx2, mm2, t2, ad2, l2, c2, rfl⟩ := hI.form
     have I2 := hid hI
     have KP2 := hid kp
     have HR2 := hid hR
     have HO2 := hid hO
     have hy2 := kp.size
     try simp at hy2
     have B1n4 : Hid (Y2.heap[Y1.heap.size]? = some rzo) := bl_kp (w := ((Y1.alloc rzo).alloc rzo)) B1n3.out KP2.out
     have B2n4 : Hid (Y2.heap[Y1.heap.size + 1]? = some rzo) := bl_kp (w := ((Y1.alloc rzo).alloc rzo)) B2n3.out KP2.out
     clear hI kp hR hO
     refine hKq.out _ _ (MK.out _ (KQ.trans KP2.out)) (fun hN => ?_)
     clear hKq K hH KQ
     have hH := hN
     clear hN
     have KQ := hH.2.2.2.2.out
     try simp only [Act.put, List.setIfInBounds_toArray, List.set_cons_zero, List.set_cons_succ]
     refine wpAnyH_ready (rs := [8]) (by kernel_rfl) (by simp) ?_
     refine AllReadyH.cons (o := { dst := none, op := Op.store 27 (Operand.tmp 7) (Operand.tmp 16), type := 0, pos := "law.go:62", after := #[{ on := 6, ground := Ground.data }, { on := 2, ground := Ground.data }, { on := 5, ground := Ground.chain }, { on := 0, ground := Ground.phase }, { on := 1, ground := Ground.phase }, { on := 2, ground := Ground.phase }, { on := 3, ground := Ground.textOnly Departure.lateStores }, { on := 4, ground := Ground.textOnly Departure.lateStores }, { on := 5, ground := Ground.textOnly Departure.lateStoresUnsure }, { on := 6, ground := Ground.phase }, { on := 7, ground := Ground.phase }], guard := none }) rfl (fun K hKq => ?_) AllReadyH.nil
     have v0 := bl_cell (B1n4.out) 0 _ rfl
     have fv0 := bl_frozen (B1n4.out) 0
     have v1 := bl_cell (B1n4.out) 1 _ rfl
     have fv1 := bl_frozen (B1n4.out) 1
     have v2 := bl_cell (B1n4.out) 2 _ rfl
     have fv2 := bl_frozen (B1n4.out) 2
     have v3 := bl_cell (B1n4.out) 3 _ rfl
     have fv3 := bl_frozen (B1n4.out) 3
     have v4 := bl_cell (B1n4.out) 4 _ rfl
     have fv4 := bl_frozen (B1n4.out) 4
     have v5 := bl_cell (B1n4.out) 5 _ rfl
     have fv5 := bl_frozen (B1n4.out) 5
     have v6 := bl_cell (B1n4.out) 6 _ rfl
     have fv6 := bl_frozen (B1n4.out) 6
     have v7 := bl_cell (B1n4.out) 7 _ rfl
     have fv7 := bl_frozen (B1n4.out) 7
     have v8 := bl_cell (B1n4.out) 8 _ rfl
     have fv8 := bl_frozen (B1n4.out) 8
     go_simp
     refine hKq.out _ _ (MK.out _ (Ks.up (P := Y1.heap.size) (ks_set9 _ _ _ _ _ _ _ _ _) KQ (by omega))) (fun hN => ?_)
     clear v0 fv0 v1 fv1 v2 fv2 v3 fv3 v4 fv4 v5 fv5 v6 fv6 v7 fv7 v8 fv8
     have B1s := hid (bl_set9 B1n4.out (.int .i64 k1) (.int .i64 mn1) (.int .i64 mx1) (.int .i64 mm1) (.int .u64 (t1.a : Int)) (.int .u64 (t1.b : Int)) (.int .u64 (t1.c : Int)) (.int .u64 (t1.d : Int)) (.slice ad1 l1 c1))
     have F1s := hid (ks_set9 (w := Y2) (B := Y1.heap.size) (.int .i64 k1) (.int .i64 mn1) (.int .i64 mx1) (.int .i64 mm1) (.int .u64 (t1.a : Int)) (.int .u64 (t1.b : Int)) (.int .u64 (t1.c : Int)) (.int .u64 (t1.d : Int)) (.slice ad1 l1 c1))
     have B2s := hid (bl_ks B2n4.out (by omega) F1s.out)
     clear hKq K hH KQ
     have hH := hN
     clear hN
     have KQ := hH.2.2.2.2.out
     try simp only [Act.put, List.setIfInBounds_toArray, List.set_cons_zero, List.set_cons_succ]
     refine wpAnyH_ready (rs := [9]) (by kernel_rfl) (by simp) ?_
     refine AllReadyH.cons (o := { dst := none, op := Op.store 27 (Operand.tmp 8) (Operand.tmp 19), type := 0, pos := "law.go:62", after := #[{ on := 7, ground := Ground.data }, { on := 5, ground := Ground.data }, { on := 8, ground := Ground.chain }, { on := 0, ground := Ground.phase }, { on := 1, ground := Ground.phase }, { on := 2, ground := Ground.phase }, { on := 3, ground := Ground.phase }, { on := 4, ground := Ground.phase }, { on := 5, ground := Ground.phase }, { on := 6, ground := Ground.phase }, { on := 7, ground := Ground.phase }, { on := 8, ground := Ground.phase }], guard := none }) rfl (fun K hKq => ?_) AllReadyH.nil
     have u0 := bl_cell (B2s.out) 0 _ rfl
     have fu0 := bl_frozen (B2s.out) 0
     have u1 := bl_cell (B2s.out) 1 _ rfl
     have fu1 := bl_frozen (B2s.out) 1
     have u2 := bl_cell (B2s.out) 2 _ rfl
     have fu2 := bl_frozen (B2s.out) 2
     have u3 := bl_cell (B2s.out) 3 _ rfl
     have fu3 := bl_frozen (B2s.out) 3
     have u4 := bl_cell (B2s.out) 4 _ rfl
     have fu4 := bl_frozen (B2s.out) 4
     have u5 := bl_cell (B2s.out) 5 _ rfl
     have fu5 := bl_frozen (B2s.out) 5
     have u6 := bl_cell (B2s.out) 6 _ rfl
     have fu6 := bl_frozen (B2s.out) 6
     have u7 := bl_cell (B2s.out) 7 _ rfl
     have fu7 := bl_frozen (B2s.out) 7
     have u8 := bl_cell (B2s.out) 8 _ rfl
     have fu8 := bl_frozen (B2s.out) 8
     go_simp
     refine hKq.out _ _ (MK.out _ (Ks.up (P := Y1.heap.size + 1) (ks_set9 _ _ _ _ _ _ _ _ _) KQ (by omega))) (fun hN => ?_)
     clear u0 fu0 u1 fu1 u2 fu2 u3 fu3 u4 fu4 u5 fu5 u6 fu6 u7 fu7 u8 fu8
     clear hKq K hH KQ
     have hH := hN
     clear hN
     have KQ := hH.2.2.2.2.out
     try simp only [Act.put, List.setIfInBounds_toArray, List.set_cons_zero, List.set_cons_succ]
     refine wpAnyH_done (by kernel_rfl) ?_ _
     refine NoPanic.normal ?_
     go_wp2_with fail
     go_meet
     case rel => exact bmid_of (u1 := V0.drew) (u2 := ((Y1.alloc rzo).alloc rzo)) (u3 := Y2) (by repeat (first | exact Kp.refl _ | refine Kp.alloc ?_ _ | refine Kp.drew ?_)) KP1.out (by repeat (first | exact Kp.refl _ | refine Kp.alloc ?_ _ | refine Kp.drew ?_)) KP2.out (Kp.refl _) (by omega) (by omega) (by first | omega | (simp; omega) | simp) (by first | omega | (simp; omega) | simp) (by first | omega | (simp; omega) | simp) (by first | omega | (simp; omega) | simp) I1.out HR1.out HO1.out I2.out HR2.out HO2.out F1s.out (ks_set9 _ _ _ _ _ _ _ _ _) (bl_ks B1s.out (by omega) (ks_set9 _ _ _ _ _ _ _ _ _)) (bl_set9 B2s.out _ _ _ _ _ _ _ _ _)
    exact AllReadyH.nil
   refine AllReadyH.cons (o := { dst := some 8, op := Op.alloc 27, type := 0, pos := "law.go:62", after := #[], guard := none }) rfl (fun K hKq => ?_) ?_
   ·
    go_simp
    refine hKq.out _ _ (MK.out _ (KQ.alloc _)) (fun hN => ?_)
    have B2n2 : Hid ((Y1.alloc rzo).heap[Y1.heap.size]? = some rzo) := last_at _ _ _ (by simp)
    clear hKq K hH KQ
    have hH := hN
    clear hN
    have KQ := hH.2.2.2.2.out
    try simp only [Act.put, List.setIfInBounds_toArray, List.set_cons_zero, List.set_cons_succ]
    refine wpAnyH_ready (rs := [5, 6]) (by kernel_rfl) (by simp) ?_
    refine AllReadyH.cons (o := { dst := some 19, op := Op.call { callee := Callee.value (Operand.func 13), args := #[Operand.tmp 17, Operand.tmp 18], argTypes := #[36, 4] }, type := 27, pos := "law.go:62", after := #[{ on := 3, ground := Ground.data }, { on := 4, ground := Ground.data }, { on := 2, ground := Ground.chain }], guard := none }) rfl (fun K hKq => ?_) ?_
    ·
     go_simp
     refine (MB.out _ KQ).mono ?_
     rintro e Y2 ⟨⟨T2, v2, rfl, hI, hR, hO, kp⟩⟩
     obtain ⟨k2, mn2, mx2, mm2, t2, ad2, l2, c2, rfl⟩ := hI.form
     have I2 := hid hI
     have KP2 := hid kp
     have HR2 := hid hR
     have HO2 := hid hO
     have hy2 := kp.size
     try simp at hy2
     have B2n3 : Hid (Y2.heap[Y1.heap.size]? = some rzo) := bl_kp (w := (Y1.alloc rzo)) B2n2.out KP2.out
     clear hI kp hR hO
     refine hKq.out _ _ (MK.out _ (KQ.trans KP2.out)) (fun hN => ?_)
     clear hKq K hH KQ
     have hH := hN
     clear hN
     have KQ := hH.2.2.2.2.out
     try simp only [Act.put, List.setIfInBounds_toArray, List.set_cons_zero, List.set_cons_succ]
     refine wpAnyH_ready (rs := [6]) (by kernel_rfl) (by simp) ?_
     refine AllReadyH.cons (o := { dst := some 7, op := Op.alloc 27, type := 0, pos := "law.go:62", after := #[], guard := none }) rfl (fun K hKq => ?_) AllReadyH.nil
     go_simp
     refine hKq.out _ _ (MK.out _ (KQ.alloc _)) (fun hN => ?_)
     have B2n4 : Hid ((Y2.alloc rzo).heap[Y1.heap.size]? = some rzo) := bl_alloc B2n3.out _
     have B1n4 : Hid ((Y2.alloc rzo).heap[Y2.heap.size]? = some rzo) := last_at _ _ _ (by simp)
     clear hKq K hH KQ
     have hH := hN
     clear hN
     have KQ := hH.2.2.2.2.out
     try simp only [Act.put, List.setIfInBounds_toArray, List.set_cons_zero, List.set_cons_succ]
     refine wpAnyH_ready (rs := [8]) (by kernel_rfl) (by simp) ?_
     refine AllReadyH.cons (o := { dst := none, op := Op.store 27 (Operand.tmp 7) (Operand.tmp 16), type := 0, pos := "law.go:62", after := #[{ on := 6, ground := Ground.data }, { on := 2, ground := Ground.data }, { on := 5, ground := Ground.chain }, { on := 0, ground := Ground.phase }, { on := 1, ground := Ground.phase }, { on := 2, ground := Ground.phase }, { on := 3, ground := Ground.textOnly Departure.lateStores }, { on := 4, ground := Ground.textOnly Departure.lateStores }, { on := 5, ground := Ground.textOnly Departure.lateStoresUnsure }, { on := 6, ground := Ground.phase }, { on := 7, ground := Ground.phase }], guard := none }) rfl (fun K hKq => ?_) AllReadyH.nil
     obtain ⟨U, hU⟩ : ∃ U, (Y2.alloc rzo) = U := ⟨_, rfl⟩
     rw [hU] at hH KQ B1n4 B2n4 ⊢
     have KU : Hid (Kp Y2 U) := by subst hU; exact (by repeat (first | exact Kp.refl _ | refine Kp.alloc ?_ _ | refine Kp.drew ?_))
     clear hU
     have v0 := bl_cell (B1n4.out) 0 _ rfl
     have fv0 := bl_frozen (B1n4.out) 0
     have v1 := bl_cell (B1n4.out) 1 _ rfl
     have fv1 := bl_frozen (B1n4.out) 1
     have v2 := bl_cell (B1n4.out) 2 _ rfl
     have fv2 := bl_frozen (B1n4.out) 2
     have v3 := bl_cell (B1n4.out) 3 _ rfl
     have fv3 := bl_frozen (B1n4.out) 3
     have v4 := bl_cell (B1n4.out) 4 _ rfl
     have fv4 := bl_frozen (B1n4.out) 4
     have v5 := bl_cell (B1n4.out) 5 _ rfl
     have fv5 := bl_frozen (B1n4.out) 5
     have v6 := bl_cell (B1n4.out) 6 _ rfl
     have fv6 := bl_frozen (B1n4.out) 6
     have v7 := bl_cell (B1n4.out) 7 _ rfl
     have fv7 := bl_frozen (B1n4.out) 7
     have v8 := bl_cell (B1n4.out) 8 _ rfl
     have fv8 := bl_frozen (B1n4.out) 8
     go_simp
     refine hKq.out _ _ (MK.out _ (Ks.up (P := Y2.heap.size) (ks_set9 _ _ _ _ _ _ _ _ _) KQ (by omega))) (fun hN => ?_)
     clear v0 fv0 v1 fv1 v2 fv2 v3 fv3 v4 fv4 v5 fv5 v6 fv6 v7 fv7 v8 fv8
     have B1s := hid (bl_set9 B1n4.out (.int .i64 k1) (.int .i64 mn1) (.int .i64 mx1) (.int .i64 mm1) (.int .u64 (t1.a : Int)) (.int .u64 (t1.b : Int)) (.int .u64 (t1.c : Int)) (.int .u64 (t1.d : Int)) (.slice ad1 l1 c1))
     have F1s := hid (ks_set9 (w := U) (B := Y2.heap.size) (.int .i64 k1) (.int .i64 mn1) (.int .i64 mx1) (.int .i64 mm1) (.int .u64 (t1.a : Int)) (.int .u64 (t1.b : Int)) (.int .u64 (t1.c : Int)) (.int .u64 (t1.d : Int)) (.slice ad1 l1 c1))
     have B2s := hid (bl_ks B2n4.out (by omega) F1s.out)
     clear hKq K hH KQ
     have hH := hN
     clear hN
     have KQ := hH.2.2.2.2.out
     try simp only [Act.put, List.setIfInBounds_toArray, List.set_cons_zero, List.set_cons_succ]
     refine wpAnyH_ready (rs := [9]) (by kernel_rfl) (by simp) ?_
     refine AllReadyH.cons (o := { dst := none, op := Op.store 27 (Operand.tmp 8) (Operand.tmp 19), type := 0, pos := "law.go:62", after := #[{ on := 7, ground := Ground.data }, { on := 5, ground := Ground.data }, { on := 8, ground := Ground.chain }, { on := 0, ground := Ground.phase }, { on := 1, ground := Ground.phase }, { on := 2, ground := Ground.phase }, { on := 3, ground := Ground.phase }, { on := 4, ground := Ground.phase }, { on := 5, ground := Ground.phase }, { on := 6, ground := Ground.phase }, { on := 7, ground := Ground.phase }, { on := 8, ground := Ground.phase }], guard := none }) rfl (fun K hKq => ?_) AllReadyH.nil
     have u0 := bl_cell (B2s.out) 0 _ rfl
     have fu0 := bl_frozen (B2s.out) 0
     have u1 := bl_cell (B2s.out) 1 _ rfl
     have fu1 := bl_frozen (B2s.out) 1
     have u2 := bl_cell (B2s.out) 2 _ rfl
     have fu2 := bl_frozen (B2s.out) 2
     have u3 := bl_cell (B2s.out) 3 _ rfl
     have fu3 := bl_frozen (B2s.out) 3
     have u4 := bl_cell (B2s.out) 4 _ rfl
     have fu4 := bl_frozen (B2s.out) 4
     have u5 := bl_cell (B2s.out) 5 _ rfl
     have fu5 := bl_frozen (B2s.out) 5
     have u6 := bl_cell (B2s.out) 6 _ rfl
     have fu6 := bl_frozen (B2s.out) 6
     have u7 := bl_cell (B2s.out) 7 _ rfl
     have fu7 := bl_frozen (B2s.out) 7
     have u8 := bl_cell (B2s.out) 8 _ rfl
     have fu8 := bl_frozen (B2s.out) 8
     go_simp
     refine hKq.out _ _ (MK.out _ (Ks.up (P := Y1.heap.size) (ks_set9 _ _ _ _ _ _ _ _ _) KQ (by omega))) (fun hN => ?_)
     clear u0 fu0 u1 fu1 u2 fu2 u3 fu3 u4 fu4 u5 fu5 u6 fu6 u7 fu7 u8 fu8
     clear hKq K hH KQ
     have hH := hN
     clear hN
     have KQ := hH.2.2.2.2.out
     try simp only [Act.put, List.setIfInBounds_toArray, List.set_cons_zero, List.set_cons_succ]
     refine wpAnyH_done (by kernel_rfl) ?_ _
     refine NoPanic.normal ?_
     go_wp2_with fail
     go_meet
     case rel => exact bmid_of (u1 := V0.drew) (u2 := (Y1.alloc rzo)) (u3 := U) (by repeat (first | exact Kp.refl _ | refine Kp.alloc ?_ _ | refine Kp.drew ?_)) KP1.out (by repeat (first | exact Kp.refl _ | refine Kp.alloc ?_ _ | refine Kp.drew ?_)) KP2.out KU.out (by omega) (by omega) (by first | omega | (simp; omega) | simp) (by first | omega | (simp; omega) | simp) (by first | omega | (simp; omega) | simp) (by first | omega | (simp; omega) | simp) I1.out HR1.out HO1.out I2.out HR2.out HO2.out F1s.out (ks_set9 _ _ _ _ _ _ _ _ _) (bl_ks B1s.out (by omega) (ks_set9 _ _ _ _ _ _ _ _ _)) (bl_set9 B2s.out _ _ _ _ _ _ _ _ _)
    refine AllReadyH.cons (o := { dst := some 7, op := Op.alloc 27, type := 0, pos := "law.go:62", after := #[], guard := none }) rfl (fun K hKq => ?_) ?_
    ·
     go_simp
     refine hKq.out _ _ (MK.out _ (KQ.alloc _)) (fun hN => ?_)
     have B2n3 : Hid (((Y1.alloc rzo).alloc rzo).heap[Y1.heap.size]? = some rzo) := bl_alloc B2n2.out _
     have B1n3 : Hid (((Y1.alloc rzo).alloc rzo).heap[Y1.heap.size + 1]? = some rzo) := last_at _ _ _ (by simp)
     clear hKq K hH KQ
     have hH := hN
     clear hN
     have KQ := hH.2.2.2.2.out
     try simp only [Act.put, List.setIfInBounds_toArray, List.set_cons_zero, List.set_cons_succ]
     refine wpAnyH_ready (rs := [5]) (by kernel_rfl) (by simp) ?_
     refine AllReadyH.cons (o := { dst := some 19, op := Op.call { callee := Callee.value (Operand.func 13), args := #[Operand.tmp 17, Operand.tmp 18], argTypes := #[36, 4] }, type := 27, pos := "law.go:62", after := #[{ on := 3, ground := Ground.data }, { on := 4, ground := Ground.data }, { on := 2, ground := Ground.chain }], guard := none }) rfl (fun K hKq => ?_) AllReadyH.nil
     go_simp
     refine (MB.out _ KQ).mono ?_
     rintro e Y2 ⟨⟨T2, v2, rfl, hI, hR, hO, kp⟩⟩
     obtain ⟨k2, mn2, mx2, mm2, t2, ad2, l2, c2, rfl⟩ := hI.form
     have I2 := hid hI
     have KP2 := hid kp
     have HR2 := hid hR
     have HO2 := hid hO
     have hy2 := kp.size
     try simp at hy2
     have B1n4 : Hid (Y2.heap[Y1.heap.size + 1]? = some rzo) := bl_kp (w := ((Y1.alloc rzo).alloc rzo)) B1n3.out KP2.out
     have B2n4 : Hid (Y2.heap[Y1.heap.size]? = some rzo) := bl_kp (w := ((Y1.alloc rzo).alloc rzo)) B2n3.out KP2.out
     clear hI kp hR hO
     refine hKq.out _ _ (MK.out _ (KQ.trans KP2.out)) (fun hN => ?_)
     clear hKq K hH KQ
     have hH := hN
     clear hN
     have KQ := hH.2.2.2.2.out
     try simp only [Act.put, List.setIfInBounds_toArray, List.set_cons_zero, List.set_cons_succ]
     refine wpAnyH_ready (rs := [8]) (by kernel_rfl) (by simp) ?_
     refine AllReadyH.cons (o := { dst := none, op := Op.store 27 (Operand.tmp 7) (Operand.tmp 16), type := 0, pos := "law.go:62", after := #[{ on := 6, ground := Ground.data }, { on := 2, ground := Ground.data }, { on := 5, ground := Ground.chain }, { on := 0, ground := Ground.phase }, { on := 1, ground := Ground.phase }, { on := 2, ground := Ground.phase }, { on := 3, ground := Ground.textOnly Departure.lateStores }, { on := 4, ground := Ground.textOnly Departure.lateStores }, { on := 5, ground := Ground.textOnly Departure.lateStoresUnsure }, { on := 6, ground := Ground.phase }, { on := 7, ground := Ground.phase }], guard := none }) rfl (fun K hKq => ?_) AllReadyH.nil
     have v0 := bl_cell (B1n4.out) 0 _ rfl
     have fv0 := bl_frozen (B1n4.out) 0
     have v1 := bl_cell (B1n4.out) 1 _ rfl
     have fv1 := bl_frozen (B1n4.out) 1
     have v2 := bl_cell (B1n4.out) 2 _ rfl
     have fv2 := bl_frozen (B1n4.out) 2
     have v3 := bl_cell (B1n4.out) 3 _ rfl
     have fv3 := bl_frozen (B1n4.out) 3
     have v4 := bl_cell (B1n4.out) 4 _ rfl
     have fv4 := bl_frozen (B1n4.out) 4
     have v5 := bl_cell (B1n4.out) 5 _ rfl
     have fv5 := bl_frozen (B1n4.out) 5
     have v6 := bl_cell (B1n4.out) 6 _ rfl
     have fv6 := bl_frozen (B1n4.out) 6
     have v7 := bl_cell (B1n4.out) 7 _ rfl
     have fv7 := bl_frozen (B1n4.out) 7
     have v8 := bl_cell (B1n4.out) 8 _ rfl
     have fv8 := bl_frozen (B1n4.out) 8
     go_simp
     refine hKq.out _ _ (MK.out _ (Ks.up (P := Y1.heap.size + 1) (ks_set9 _ _ _ _ _ _ _ _ _) KQ (by omega))) (fun hN => ?_)
     clear v0 fv0 v1 fv1 v2 fv2 v3 fv3 v4 fv4 v5 fv5 v6 fv6 v7 fv7 v8 fv8
     have B1s := hid (bl_set9 B1n4.out (.int .i64 k1) (.int .i64 mn1) (.int .i64 mx1) (.int .i64 mm1) (.int .u64 (t1.a : Int)) (.int .u64 (t1.b : Int)) (.int .u64 (t1.c : Int)) (.int .u64 (t1.d : Int)) (.slice ad1 l1 c1))
     have F1s := hid (ks_set9 (w := Y2) (B := Y1.heap.size + 1) (.int .i64 k1) (.int .i64 mn1) (.int .i64 mx1) (.int .i64 mm1) (.int .u64 (t1.a : Int)) (.int .u64 (t1.b : Int)) (.int .u64 (t1.c : Int)) (.int .u64 (t1.d : Int)) (.slice ad1 l1 c1))
     have B2s := hid (bl_ks B2n4.out (by omega) F1s.out)
     clear hKq K hH KQ
     have hH := hN
     clear hN
     have KQ := hH.2.2.2.2.out
     try simp only [Act.put, List.setIfInBounds_toArray, List.set_cons_zero, List.set_cons_succ]
     refine wpAnyH_ready (rs := [9]) (by kernel_rfl) (by simp) ?_
     refine AllReadyH.cons (o := { dst := none, op := Op.store 27 (Operand.tmp 8) (Operand.tmp 19), type := 0, pos := "law.go:62", after := #[{ on := 7, ground := Ground.data }, { on := 5, ground := Ground.data }, { on := 8, ground := Ground.chain }, { on := 0, ground := Ground.phase }, { on := 1, ground := Ground.phase }, { on := 2, ground := Ground.phase }, { on := 3, ground := Ground.phase }, { on := 4, ground := Ground.phase }, { on := 5, ground := Ground.phase }, { on := 6, ground := Ground.phase }, { on := 7, ground := Ground.phase }, { on := 8, ground := Ground.phase }], guard := none }) rfl (fun K hKq => ?_) AllReadyH.nil
     have u0 := bl_cell (B2s.out) 0 _ rfl
     have fu0 := bl_frozen (B2s.out) 0
     have u1 := bl_cell (B2s.out) 1 _ rfl
     have fu1 := bl_frozen (B2s.out) 1
     have u2 := bl_cell (B2s.out) 2 _ rfl
     have fu2 := bl_frozen (B2s.out) 2
     have u3 := bl_cell (B2s.out) 3 _ rfl
     have fu3 := bl_frozen (B2s.out) 3
     have u4 := bl_cell (B2s.out) 4 _ rfl
     have fu4 := bl_frozen (B2s.out) 4
     have u5 := bl_cell (B2s.out) 5 _ rfl
     have fu5 := bl_frozen (B2s.out) 5
     have u6 := bl_cell (B2s.out) 6 _ rfl
     have fu6 := bl_frozen (B2s.out) 6
     have u7 := bl_cell (B2s.out) 7 _ rfl
     have fu7 := bl_frozen (B2s.out) 7
     have u8 := bl_cell (B2s.out) 8 _ rfl
     have fu8 := bl_frozen (B2s.out) 8
     go_simp
     refine hKq.out _ _ (MK.out _ (Ks.up (P := Y1.heap.size) (ks_set9 _ _ _ _ _ _ _ _ _) KQ (by omega))) (fun hN => ?_)
     clear u0 fu0 u1 fu1 u2 fu2 u3 fu3 u4 fu4 u5 fu5 u6 fu6 u7 fu7 u8 fu8
     clear hKq K hH KQ
     have hH := hN
     clear hN
     have KQ := hH.2.2.2.2.out
     try simp only [Act.put, List.setIfInBounds_toArray, List.set_cons_zero, List.set_cons_succ]
     refine wpAnyH_done (by kernel_rfl) ?_ _
     refine NoPanic.normal ?_
     go_wp2_with fail
     go_meet
     case rel => exact bmid_of (u1 := V0.drew) (u2 := ((Y1.alloc rzo).alloc rzo)) (u3 := Y2) (by repeat (first | exact Kp.refl _ | refine Kp.alloc ?_ _ | refine Kp.drew ?_)) KP1.out (by repeat (first | exact Kp.refl _ | refine Kp.alloc ?_ _ | refine Kp.drew ?_)) KP2.out (Kp.refl _) (by omega) (by omega) (by first | omega | (simp; omega) | simp) (by first | omega | (simp; omega) | simp) (by first | omega | (simp; omega) | simp) (by first | omega | (simp; omega) | simp) I1.out HR1.out HO1.out I2.out HR2.out HO2.out F1s.out (ks_set9 _ _ _ _ _ _ _ _ _) (bl_ks B1s.out (by omega) (ks_set9 _ _ _ _ _ _ _ _ _)) (bl_set9 B2s.out _ _ _ _ _ _ _ _ _)
    exact AllReadyH.nil
   exact AllReadyH.nil
  refine AllReadyH.cons (o := { dst := some 7, op := Op.alloc 27, type := 0, pos := "law.go:62", after := #[], guard := none }) rfl (fun K hKq => ?_) ?_
  ·
   go_simp
   refine hKq.out _ _ (MK.out _ (KQ.alloc _)) (fun hN => ?_)
   have B1n1 : Hid ((V0.alloc rzo).heap[V0.heap.size]? = some rzo) := last_at _ _ _ (by simp)
   clear hKq K hH KQ
   have hH := hN
   clear hN
   have KQ := hH.2.2.2.2.out
   try simp only [Act.put, List.setIfInBounds_toArray, List.set_cons_zero, List.set_cons_succ]
   refine wpAnyH_ready (rs := [2, 7]) (by kernel_rfl) (by simp) ?_
   refine AllReadyH.cons (o := { dst := some 16, op := Op.call { callee := Callee.value (Operand.func 13), args := #[Operand.tmp 14, Operand.tmp 15], argTypes := #[36, 4] }, type := 27, pos := "law.go:62", after := #[{ on := 0, ground := Ground.data }, { on := 1, ground := Ground.data }], guard := none }) rfl (fun K hKq => ?_) ?_
   ·
    go_simp
    refine (MA.out _ KQ).mono ?_
    rintro e Y1 ⟨⟨T1, v1, rfl, hI, hR, hO, kp⟩⟩
    obtain ⟨k1, mn1, mx1, mm1, t1, ad1, l1, c1, rfl⟩ := hI.form
    have I1 := hid hI
    have KP1 := hid kp
    have HR1 := hid hR
    have HO1 := hid hO
    have hy1 := kp.size
    try simp at hy1
    have B1n2 : Hid (Y1.heap[V0.heap.size]? = some rzo) := bl_kp (w := (V0.alloc rzo).drew) B1n1.out KP1.out
    clear hI kp hR hO
    refine hKq.out _ _ (MK.out _ (KQ.trans KP1.out)) (fun hN => ?_)
    clear hKq K hH KQ
    have hH := hN
    clear hN
    have KQ := hH.2.2.2.2.out
    try simp only [Act.put, List.setIfInBounds_toArray, List.set_cons_zero, List.set_cons_succ]
    refine wpAnyH_ready (rs := [5, 7]) (by kernel_rfl) (by simp) ?_
    refine AllReadyH.cons (o := { dst := some 19, op := Op.call { callee := Callee.value (Operand.func 13), args := #[Operand.tmp 17, Operand.tmp 18], argTypes := #[36, 4] }, type := 27, pos := "law.go:62", after := #[{ on := 3, ground := Ground.data }, { on := 4, ground := Ground.data }, { on := 2, ground := Ground.chain }], guard := none }) rfl (fun K hKq => ?_) ?_
    ·
     go_simp
     refine (MB.out _ KQ).mono ?_
     rintro e Y2 ⟨⟨T2, v2, rfl, hI, hR, hO, kp⟩⟩
     obtain ⟨k2, mn2, mx2, mm2, t2, ad2, l2, c2, rfl⟩ := hI.form
     have I2 := hid hI
     have KP2 := hid kp
     have HR2 := hid hR
     have HO2 := hid hO
     have hy2 := kp.size
     try simp at hy2
     have B1n3 : Hid (Y2.heap[V0.heap.size]? = some rzo) := bl_kp (w := Y1) B1n2.out KP2.out
     clear hI kp hR hO
     refine hKq.out _ _ (MK.out _ (KQ.trans KP2.out)) (fun hN => ?_)
     clear hKq K hH KQ
     have hH := hN
     clear hN
     have KQ := hH.2.2.2.2.out
     try simp only [Act.put, List.setIfInBounds_toArray, List.set_cons_zero, List.set_cons_succ]
     refine wpAnyH_ready (rs := [7]) (by kernel_rfl) (by simp) ?_
     refine AllReadyH.cons (o := { dst := some 8, op := Op.alloc 27, type := 0, pos := "law.go:62", after := #[], guard := none }) rfl (fun K hKq => ?_) AllReadyH.nil
     go_simp
     refine hKq.out _ _ (MK.out _ (KQ.alloc _)) (fun hN => ?_)
     have B1n4 : Hid ((Y2.alloc rzo).heap[V0.heap.size]? = some rzo) := bl_alloc B1n3.out _
     have B2n4 : Hid ((Y2.alloc rzo).heap[Y2.heap.size]? = some rzo) := last_at _ _ _ (by simp)
     clear hKq K hH KQ
     have hH := hN
     clear hN
     have KQ := hH.2.2.2.2.out
     try simp only [Act.put, List.setIfInBounds_toArray, List.set_cons_zero, List.set_cons_succ]
     refine wpAnyH_ready (rs := [8]) (by kernel_rfl) (by simp) ?_
     refine AllReadyH.cons (o := { dst := none, op := Op.store 27 (Operand.tmp 7) (Operand.tmp 16), type := 0, pos := "law.go:62", after := #[{ on := 6, ground := Ground.data }, { on := 2, ground := Ground.data }, { on := 5, ground := Ground.chain }, { on := 0, ground := Ground.phase }, { on := 1, ground := Ground.phase }, { on := 2, ground := Ground.phase }, { on := 3, ground := Ground.textOnly Departure.lateStores }, { on := 4, ground := Ground.textOnly Departure.lateStores }, { on := 5, ground := Ground.textOnly Departure.lateStoresUnsure }, { on := 6, ground := Ground.phase }, { on := 7, ground := Ground.phase }], guard := none }) rfl (fun K hKq => ?_) AllReadyH.nil
     obtain ⟨U, hU⟩ : ∃ U, (Y2.alloc rzo) = U := ⟨_, rfl⟩
     rw [hU] at hH KQ B1n4 B2n4 ⊢
     have KU : Hid (Kp Y2 U) := by subst hU; exact (by repeat (first | exact Kp.refl _ | refine Kp.alloc ?_ _ | refine Kp.drew ?_))
     clear hU
     have v0 := bl_cell (B1n4.out) 0 _ rfl
     have fv0 := bl_frozen (B1n4.out) 0
     have v1 := bl_cell (B1n4.out) 1 _ rfl
     have fv1 := bl_frozen (B1n4.out) 1
     have v2 := bl_cell (B1n4.out) 2 _ rfl
     have fv2 := bl_frozen (B1n4.out) 2
     have v3 := bl_cell (B1n4.out) 3 _ rfl
     have fv3 := bl_frozen (B1n4.out) 3
     have v4 := bl_cell (B1n4.out) 4 _ rfl
     have fv4 := bl_frozen (B1n4.out) 4
     have v5 := bl_cell (B1n4.out) 5 _ rfl
     have fv5 := bl_frozen (B1n4.out) 5
     have v6 := bl_cell (B1n4.out) 6 _ rfl
     have fv6 := bl_frozen (B1n4.out) 6
     have v7 := bl_cell (B1n4.out) 7 _ rfl
     have fv7 := bl_frozen (B1n4.out) 7
     have v8 := bl_cell (B1n4.out) 8 _ rfl
     have fv8 := bl_frozen (B1n4.out) 8
     go_simp
     refine hKq.out _ _ (MK.out _ (Ks.up (P := V0.heap.size) (ks_set9 _ _ _ _ _ _ _ _ _) KQ (by omega))) (fun hN => ?_)
     clear v0 fv0 v1 fv1 v2 fv2 v3 fv3 v4 fv4 v5 fv5 v6 fv6 v7 fv7 v8 fv8
     have B1s := hid (bl_set9 B1n4.out (.int .i64 k1) (.int .i64 mn1) (.int .i64 mx1) (.int .i64 mm1) (.int .u64 (t1.a : Int)) (.int .u64 (t1.b : Int)) (.int .u64 (t1.c : Int)) (.int .u64 (t1.d : Int)) (.slice ad1 l1 c1))
     have F1s := hid (ks_set9 (w := U) (B := V0.heap.size) (.int .i64 k1) (.int .i64 mn1) (.int .i64 mx1) (.int .i64 mm1) (.int .u64 (t1.a : Int)) (.int .u64 (t1.b : Int)) (.int .u64 (t1.c : Int)) (.int .u64 (t1.d : Int)) (.slice ad1 l1 c1))
     have B2s := hid (bl_ks B2n4.out (by omega) F1s.out)
     clear hKq K hH KQ
     have hH := hN
     clear hN
     have KQ := hH.2.2.2.2.out
     try simp only [Act.put, List.setIfInBounds_toArray, List.set_cons_zero, List.set_cons_succ]
     refine wpAnyH_ready (rs := [9]) (by kernel_rfl) (by simp) ?_
     refine AllReadyH.cons (o := { dst := none, op := Op.store 27 (Operand.tmp 8) (Operand.tmp 19), type := 0, pos := "law.go:62", after := #[{ on := 7, ground := Ground.data }, { on := 5, ground := Ground.data }, { on := 8, ground := Ground.chain }, { on := 0, ground := Ground.phase }, { on := 1, ground := Ground.phase }, { on := 2, ground := Ground.phase }, { on := 3, ground := Ground.phase }, { on := 4, ground := Ground.phase }, { on := 5, ground := Ground.phase }, { on := 6, ground := Ground.phase }, { on := 7, ground := Ground.phase }, { on := 8, ground := Ground.phase }], guard := none }) rfl (fun K hKq => ?_) AllReadyH.nil
     have u0 := bl_cell (B2s.out) 0 _ rfl
     have fu0 := bl_frozen (B2s.out) 0
     have u1 := bl_cell (B2s.out) 1 _ rfl
     have fu1 := bl_frozen (B2s.out) 1
     have u2 := bl_cell (B2s.out) 2 _ rfl
     have fu2 := bl_frozen (B2s.out) 2
     have u3 := bl_cell (B2s.out) 3 _ rfl
     have fu3 := bl_frozen (B2s.out) 3
     have u4 := bl_cell (B2s.out) 4 _ rfl
     have fu4 := bl_frozen (B2s.out) 4
     have u5 := bl_cell (B2s.out) 5 _ rfl
     have fu5 := bl_frozen (B2s.out) 5
     have u6 := bl_cell (B2s.out) 6 _ rfl
     have fu6 := bl_frozen (B2s.out) 6
     have u7 := bl_cell (B2s.out) 7 _ rfl
     have fu7 := bl_frozen (B2s.out) 7
     have u8 := bl_cell (B2s.out) 8 _ rfl
     have fu8 := bl_frozen (B2s.out) 8
     go_simp
     refine hKq.out _ _ (MK.out _ (Ks.up (P := Y2.heap.size) (ks_set9 _ _ _ _ _ _ _ _ _) KQ (by omega))) (fun hN => ?_)
     clear u0 fu0 u1 fu1 u2 fu2 u3 fu3 u4 fu4 u5 fu5 u6 fu6 u7 fu7 u8 fu8
     clear hKq K hH KQ
     have hH := hN
     clear hN
     have KQ := hH.2.2.2.2.out
     try simp only [Act.put, List.setIfInBounds_toArray, List.set_cons_zero, List.set_cons_succ]
     refine wpAnyH_done (by kernel_rfl) ?_ _
     refine NoPanic.normal ?_
     go_wp2_with fail
     go_meet
     case rel => exact bmid_of (u1 := (V0.alloc rzo).drew) (u2 := Y1) (u3 := U) (by repeat (first | exact Kp.refl _ | refine Kp.alloc ?_ _ | refine Kp.drew ?_)) KP1.out (by repeat (first | exact Kp.refl _ | refine Kp.alloc ?_ _ | refine Kp.drew ?_)) KP2.out KU.out (by omega) (by omega) (by first | omega | (simp; omega) | simp) (by first | omega | (simp; omega) | simp) (by first | omega | (simp; omega) | simp) (by first | omega | (simp; omega) | simp) I1.out HR1.out HO1.out I2.out HR2.out HO2.out F1s.out (ks_set9 _ _ _ _ _ _ _ _ _) (bl_ks B1s.out (by omega) (ks_set9 _ _ _ _ _ _ _ _ _)) (bl_set9 B2s.out _ _ _ _ _ _ _ _ _)
    refine AllReadyH.cons (o := { dst := some 8, op := Op.alloc 27, type := 0, pos := "law.go:62", after := #[], guard := none }) rfl (fun K hKq => ?_) ?_
    ·
     go_simp
     refine hKq.out _ _ (MK.out _ (KQ.alloc _)) (fun hN => ?_)
     have B1n3 : Hid ((Y1.alloc rzo).heap[V0.heap.size]? = some rzo) := bl_alloc B1n2.out _
     have B2n3 : Hid ((Y1.alloc rzo).heap[Y1.heap.size]? = some rzo) := last_at _ _ _ (by simp)
     clear hKq K hH KQ
     have hH := hN
     clear hN
     have KQ := hH.2.2.2.2.out
     try simp only [Act.put, List.setIfInBounds_toArray, List.set_cons_zero, List.set_cons_succ]
     refine wpAnyH_ready (rs := [5]) (by kernel_rfl) (by simp) ?_
     refine AllReadyH.cons (o := { dst := some 19, op := Op.call { callee := Callee.value (Operand.func 13), args := #[Operand.tmp 17, Operand.tmp 18], argTypes := #[36, 4] }, type := 27, pos := "law.go:62", after := #[{ on := 3, ground := Ground.data }, { on := 4, ground := Ground.data }, { on := 2, ground := Ground.chain }], guard := none }) rfl (fun K hKq => ?_) AllReadyH.nil
     go_simp
     refine (MB.out _ KQ).mono ?_
     rintro e Y2 ⟨⟨T2, v2, rfl, hI, hR, hO, kp⟩⟩
     obtain ⟨k2, mn2, mx2, mm2, t2, ad2, l2, c2, rfl⟩ := hI.form
     have I2 := hid hI
     have KP2 := hid kp
     have HR2 := hid hR
     have HO2 := hid hO
     have hy2 := kp.size
     try simp at hy2
     have B1n4 : Hid (Y2.heap[V0.heap.size]? = some rzo) := bl_kp (w := (Y1.alloc rzo)) B1n3.out KP2.out
     have B2n4 : Hid (Y2.heap[Y1.heap.size]? = some rzo) := bl_kp (w := (Y1.alloc rzo)) B2n3.out KP2.out
     clear hI kp hR hO
     refine hKq.out _ _ (MK.out _ (KQ.trans KP2.out)) (fun hN => ?_)
     clear hKq K hH KQ
     have hH := hN
     clear hN
     have KQ := hH.2.2.2.2.out
     try simp only [Act.put, List.setIfInBounds_toArray, List.set_cons_zero, List.set_cons_succ]
     refine wpAnyH_ready (rs := [8]) (by kernel_rfl) (by simp) ?_
     refine AllReadyH.cons (o := { dst := none, op := Op.store 27 (Operand.tmp 7) (Operand.tmp 16), type := 0, pos := "law.go:62", after := #[{ on := 6, ground := Ground.data }, { on := 2, ground := Ground.data }, { on := 5, ground := Ground.chain }, { on := 0, ground := Ground.phase }, { on := 1, ground := Ground.phase }, { on := 2, ground := Ground.phase }, { on := 3, ground := Ground.textOnly Departure.lateStores }, { on := 4, ground := Ground.textOnly Departure.lateStores }, { on := 5, ground := Ground.textOnly Departure.lateStoresUnsure }, { on := 6, ground := Ground.phase }, { on := 7, ground := Ground.phase }], guard := none }) rfl (fun K hKq => ?_) AllReadyH.nil
     have v0 := bl_cell (B1n4.out) 0 _ rfl
     have fv0 := bl_frozen (B1n4.out) 0
     have v1 := bl_cell (B1n4.out) 1 _ rfl
     have fv1 := bl_frozen (B1n4.out) 1
     have v2 := bl_cell (B1n4.out) 2 _ rfl
     have fv2 := bl_frozen (B1n4.out) 2
     have v3 := bl_cell (B1n4.out) 3 _ rfl
     have fv3 := bl_frozen (B1n4.out) 3
     have v4 := bl_cell (B1n4.out) 4 _ rfl
     have fv4 := bl_frozen (B1n4.out) 4
     have v5 := bl_cell (B1n4.out) 5 _ rfl
     have fv5 := bl_frozen (B1n4.out) 5
     have v6 := bl_cell (B1n4.out) 6 _ rfl
     have fv6 := bl_frozen (B1n4.out) 6
     have v7 := bl_cell (B1n4.out) 7 _ rfl
     have fv7 := bl_frozen (B1n4.out) 7
     have v8 := bl_cell (B1n4.out) 8 _ rfl
     have fv8 := bl_frozen (B1n4.out) 8
     go_simp
     refine hKq.out _ _ (MK.out _ (Ks.up (P := V0.heap.size) (ks_set9 _ _ _ _ _ _ _ _ _) KQ (by omega))) (fun hN => ?_)
     clear v0 fv0 v1 fv1 v2 fv2 v3 fv3 v4 fv4 v5 fv5 v6 fv6 v7 fv7 v8 fv8
     have B1s := hid (bl_set9 B1n4.out (.int .i64 k1) (.int .i64 mn1) (.int .i64 mx1) (.int .i64 mm1) (.int .u64 (t1.a : Int)) (.int .u64 (t1.b : Int)) (.int .u64 (t1.c : Int)) (.int .u64 (t1.d : Int)) (.slice ad1 l1 c1))
     have F1s := hid (ks_set9 (w := Y2) (B := V0.heap.size) (.int .i64 k1) (.int .i64 mn1) (.int .i64 mx1) (.int .i64 mm1) (.int .u64 (t1.a : Int)) (.int .u64 (t1.b : Int)) (.int .u64 (t1.c : Int)) (.int .u64 (t1.d : Int)) (.slice ad1 l1 c1))
     have B2s := hid (bl_ks B2n4.out (by omega) F1s.out)
     clear hKq K hH KQ
     have hH := hN
     clear hN
     have KQ := hH.2.2.2.2.out
     try simp only [Act.put, List.setIfInBounds_toArray, List.set_cons_zero, List.set_cons_succ]
     refine wpAnyH_ready (rs := [9]) (by kernel_rfl) (by simp) ?_
     refine AllReadyH.cons (o := { dst := none, op := Op.store 27 (Operand.tmp 8) (Operand.tmp 19), type := 0, pos := "law.go:62", after := #[{ on := 7, ground := Ground.data }, { on := 5, ground := Ground.data }, { on := 8, ground := Ground.chain }, { on := 0, ground := Ground.phase }, { on := 1, ground := Ground.phase }, { on := 2, ground := Ground.phase }, { on := 3, ground := Ground.phase }, { on := 4, ground := Ground.phase }, { on := 5, ground := Ground.phase }, { on := 6, ground := Ground.phase }, { on := 7, ground := Ground.phase }, { on := 8, ground := Ground.phase }], guard := none }) rfl (fun K hKq => ?_) AllReadyH.nil
     have u0 := bl_cell (B2s.out) 0 _ rfl
     have fu0 := bl_frozen (B2s.out) 0
     have u1 := bl_cell (B2s.out) 1 _ rfl
     have fu1 := bl_frozen (B2s.out) 1
     have u2 := bl_cell (B2s.out) 2 _ rfl
     have fu2 := bl_frozen (B2s.out) 2
     have u3 := bl_cell (B2s.out) 3 _ rfl
     have fu3 := bl_frozen (B2s.out) 3
     have u4 := bl_cell (B2s.out) 4 _ rfl
     have fu4 := bl_frozen (B2s.out) 4
     have u5 := bl_cell (B2s.out) 5 _ rfl
     have fu5 := bl_frozen (B2s.out) 5
     have u6 := bl_cell (B2s.out) 6 _ rfl
     have fu6 := bl_frozen (B2s.out) 6
     have u7 := bl_cell (B2s.out) 7 _ rfl
     have fu7 := bl_frozen (B2s.out) 7
     have u8 := bl_cell (B2s.out) 8 _ rfl
     have fu8 := bl_frozen (B2s.out) 8
     go_simp
     refine hKq.out _ _ (MK.out _ (Ks.up (P := Y1.heap.size) (ks_set9 _ _ _ _ _ _ _ _ _) KQ (by omega))) (fun hN => ?_)
     clear u0 fu0 u1 fu1 u2 fu2 u3 fu3 u4 fu4 u5 fu5 u6 fu6 u7 fu7 u8 fu8
     clear hKq K hH KQ
     have hH := hN
     clear hN
     have KQ := hH.2.2.2.2.out
     try simp only [Act.put, List.setIfInBounds_toArray, List.set_cons_zero, List.set_cons_succ]
     refine wpAnyH_done (by kernel_rfl) ?_ _
     refine NoPanic.normal ?_
     go_wp2_with fail
     go_meet
     case rel => exact bmid_of (u1 := (V0.alloc rzo).drew) (u2 := (Y1.alloc rzo)) (u3 := Y2) (by repeat (first | exact Kp.refl _ | refine Kp.alloc ?_ _ | refine Kp.drew ?_)) KP1.out (by repeat (first | exact Kp.refl _ | refine Kp.alloc ?_ _ | refine Kp.drew ?_)) KP2.out (Kp.refl _) (by omega) (by omega) (by first | omega | (simp; omega) | simp) (by first | omega | (simp; omega) | simp) (by first | omega | (simp; omega) | simp) (by first | omega | (simp; omega) | simp) I1.out HR1.out HO1.out I2.out HR2.out HO2.out F1s.out (ks_set9 _ _ _ _ _ _ _ _ _) (bl_ks B1s.out (by omega) (ks_set9 _ _ _ _ _ _ _ _ _)) (bl_set9 B2s.out _ _ _ _ _ _ _ _ _)
    exact AllReadyH.nil
   refine AllReadyH.cons (o := { dst := some 8, op := Op.alloc 27, type := 0, pos := "law.go:62", after := #[], guard := none }) rfl (fun K hKq => ?_) ?_
   ·
    go_simp
    refine hKq.out _ _ (MK.out _ (KQ.alloc _)) (fun hN => ?_)
    have B1n2 : Hid (((V0.alloc rzo).alloc rzo).heap[V0.heap.size]? = some rzo) := bl_alloc B1n1.out _
    have B2n2 : Hid (((V0.alloc rzo).alloc rzo).heap[V0.heap.size + 1]? = some rzo) := last_at _ _ _ (by simp)
    clear hKq K hH KQ
    have hH := hN
    clear hN
    have KQ := hH.2.2.2.2.out
    try simp only [Act.put, List.setIfInBounds_toArray, List.set_cons_zero, List.set_cons_succ]
    refine wpAnyH_ready (rs := [2]) (by kernel_rfl) (by simp) ?_
    refine AllReadyH.cons (o := { dst := some 16, op := Op.call { callee := Callee.value (Operand.func 13), args := #[Operand.tmp 14, Operand.tmp 15], argTypes := #[36, 4] }, type := 27, pos := "law.go:62", after := #[{ on := 0, ground := Ground.data }, { on := 1, ground := Ground.data }], guard := none }) rfl (fun K hKq => ?_) AllReadyH.nil
    go_simp
    refine (MA.out _ KQ).mono ?_
    rintro e Y1 ⟨⟨T1, v1, rfl, hI, hR, hO, kp⟩⟩
    obtain ⟨k1, mn1, mx1, mm1, t1, ad1, l1, c1, rfl⟩ := hI.form
    have I1 := hid hI
    have KP1 := hid kp
    have HR1 := hid hR
    have HO1 := hid hO
    have hy1 := kp.size
    try simp at hy1
    have B1n3 : Hid (Y1.heap[V0.heap.size]? = some rzo) := bl_kp (w := ((V0.alloc rzo).alloc rzo).drew) B1n2.out KP1.out
    have B2n3 : Hid (Y1.heap[V0.heap.size + 1]? = some rzo) := bl_kp (w := ((V0.alloc rzo).alloc rzo).drew) B2n2.out KP1.out
    clear hI kp hR hO
    refine hKq.out _ _ (MK.out _ (KQ.trans KP1.out)) (fun hN => ?_)
    clear hKq K hH KQ
    have hH := hN
    clear hN
    have KQ := hH.2.2.2.2.out
    try simp only [Act.put, List.setIfInBounds_toArray, List.set_cons_zero, List.set_cons_succ]
    refine wpAnyH_ready (rs := [5]) (by kernel_rfl) (by simp) ?_
    refine AllReadyH.cons (o := { dst := some 19, op := Op.call { callee := Callee.value (Operand.func 13), args := #[Operand.tmp 17, Operand.tmp 18], argTypes := #[36, 4] }, type := 27, pos := "law.go:62", after := #[{ on := 3, ground := Ground.data }, { on := 4, ground := Ground.data }, { on := 2, ground := Ground.chain }], guard := none }) rfl (fun K hKq => ?_) AllReadyH.nil
    go_simp
    refine (MB.out _ KQ).mono ?_
    rintro e Y2 ⟨⟨T2, v2, rfl, hI, hR, hO, kp⟩⟩
    obtain ⟨k2, mn2, mx2, mm2, t2, ad2, l2, c2, rfl⟩ := hI.form
    have I2 := hid hI
    have KP2 := hid kp
    have HR2 := hid hR
    have HO2 := hid hO
    have hy2 := kp.size
    try simp at hy2
    have B1n4 : Hid (Y2.heap[V0.heap.size]? = some rzo) := bl_kp (w := Y1) B1n3.out KP2.out
    have B2n4 : Hid (Y2.heap[V0.heap.size + 1]? = some rzo) := bl_kp (w := Y1) B2n3.out KP2.out
    clear hI kp hR hO
    refine hKq.out _ _ (MK.out _ (KQ.trans KP2.out)) (fun hN => ?_)
    clear hKq K hH KQ
    have hH := hN
    clear hN
    have KQ := hH.2.2.2.2.out
    try simp only [Act.put, List.setIfInBounds_toArray, List.set_cons_zero, List.set_cons_succ]
    refine wpAnyH_ready (rs := [8]) (by kernel_rfl) (by simp) ?_
    refine AllReadyH.cons (o := { dst := none, op := Op.store 27 (Operand.tmp 7) (Operand.tmp 16), type := 0, pos := "law.go:62", after := #[{ on := 6, ground := Ground.data }, { on := 2, ground := Ground.data }, { on := 5, ground := Ground.chain }, { on := 0, ground := Ground.phase }, { on := 1, ground := Ground.phase }, { on := 2, ground := Ground.phase }, { on := 3, ground := Ground.textOnly Departure.lateStores }, { on := 4, ground := Ground.textOnly Departure.lateStores }, { on := 5, ground := Ground.textOnly Departure.lateStoresUnsure }, { on := 6, ground := Ground.phase }, { on := 7, ground := Ground.phase }], guard := none }) rfl (fun K hKq => ?_) AllReadyH.nil
    have v0 := bl_cell (B1n4.out) 0 _ rfl
    have fv0 := bl_frozen (B1n4.out) 0
    have v1 := bl_cell (B1n4.out) 1 _ rfl
    have fv1 := bl_frozen (B1n4.out) 1
    have v2 := bl_cell (B1n4.out) 2 _ rfl
    have fv2 := bl_frozen (B1n4.out) 2
    have v3 := bl_cell (B1n4.out) 3 _ rfl
    have fv3 := bl_frozen (B1n4.out) 3
    have v4 := bl_cell (B1n4.out) 4 _ rfl
    have fv4 := bl_frozen (B1n4.out) 4
    have v5 := bl_cell (B1n4.out) 5 _ rfl
    have fv5 := bl_frozen (B1n4.out) 5
    have v6 := bl_cell (B1n4.out) 6 _ rfl
    have fv6 := bl_frozen (B1n4.out) 6
    have v7 := bl_cell (B1n4.out) 7 _ rfl
    have fv7 := bl_frozen (B1n4.out) 7
    have v8 := bl_cell (B1n4.out) 8 _ rfl
    have fv8 := bl_frozen (B1n4.out) 8
    go_simp
    refine hKq.out _ _ (MK.out _ (Ks.up (P := V0.heap.size) (ks_set9 _ _ _ _ _ _ _ _ _) KQ (by omega))) (fun hN => ?_)
    clear v0 fv0 v1 fv1 v2 fv2 v3 fv3 v4 fv4 v5 fv5 v6 fv6 v7 fv7 v8 fv8
    have B1s := hid (bl_set9 B1n4.out (.int .i64 k1) (.int .i64 mn1) (.int .i64 mx1) (.int .i64 mm1) (.int .u64 (t1.a : Int)) (.int .u64 (t1.b : Int)) (.int .u64 (t1.c : Int)) (.int .u64 (t1.d : Int)) (.slice ad1 l1 c1))
    have F1s := hid (ks_set9 (w := Y2) (B := V0.heap.size) (.int .i64 k1) (.int .i64 mn1) (.int .i64 mx1) (.int .i64 mm1) (.int .u64 (t1.a : Int)) (.int .u64 (t1.b : Int)) (.int .u64 (t1.c : Int)) (.int .u64 (t1.d : Int)) (.slice ad1 l1 c1))
    have B2s := hid (bl_ks B2n4.out (by omega) F1s.out)
    clear hKq K hH KQ
    have hH := hN
    clear hN
    have KQ := hH.2.2.2.2.out
    try simp only [Act.put, List.setIfInBounds_toArray, List.set_cons_zero, List.set_cons_succ]
    refine wpAnyH_ready (rs := [9]) (by kernel_rfl) (by simp) ?_
    refine AllReadyH.cons (o := { dst := none, op := Op.store 27 (Operand.tmp 8) (Operand.tmp 19), type := 0, pos := "law.go:62", after := #[{ on := 7, ground := Ground.data }, { on := 5, ground := Ground.data }, { on := 8, ground := Ground.chain }, { on := 0, ground := Ground.phase }, { on := 1, ground := Ground.phase }, { on := 2, ground := Ground.phase }, { on := 3, ground := Ground.phase }, { on := 4, ground := Ground.phase }, { on := 5, ground := Ground.phase }, { on := 6, ground := Ground.phase }, { on := 7, ground := Ground.phase }, { on := 8, ground := Ground.phase }], guard := none }) rfl (fun K hKq => ?_) AllReadyH.nil
    have u0 := bl_cell (B2s.out) 0 _ rfl
    have fu0 := bl_frozen (B2s.out) 0
    have u1 := bl_cell (B2s.out) 1 _ rfl
    have fu1 := bl_frozen (B2s.out) 1
    have u2 := bl_cell (B2s.out) 2 _ rfl
    have fu2 := bl_frozen (B2s.out) 2
    have u3 := bl_cell (B2s.out) 3 _ rfl
    have fu3 := bl_frozen (B2s.out) 3
    have u4 := bl_cell (B2s.out) 4 _ rfl
    have fu4 := bl_frozen (B2s.out) 4
    have u5 := bl_cell (B2s.out) 5 _ rfl
    have fu5 := bl_frozen (B2s.out) 5
    have u6 := bl_cell (B2s.out) 6 _ rfl
    have fu6 := bl_frozen (B2s.out) 6
    have u7 := bl_cell (B2s.out) 7 _ rfl
    have fu7 := bl_frozen (B2s.out) 7
    have u8 := bl_cell (B2s.out) 8 _ rfl
    have fu8 := bl_frozen (B2s.out) 8
    go_simp
    refine hKq.out _ _ (MK.out _ (Ks.up (P := V0.heap.size + 1) (ks_set9 _ _ _ _ _ _ _ _ _) KQ (by omega))) (fun hN => ?_)
    clear u0 fu0 u1 fu1 u2 fu2 u3 fu3 u4 fu4 u5 fu5 u6 fu6 u7 fu7 u8 fu8
    clear hKq K hH KQ
    have hH := hN
    clear hN
    have KQ := hH.2.2.2.2.out
    try simp only [Act.put, List.setIfInBounds_toArray, List.set_cons_zero, List.set_cons_succ]
    refine wpAnyH_done (by kernel_rfl) ?_ _
    refine NoPanic.normal ?_
    go_wp2_with fail
    go_meet
    case rel => exact bmid_of (u1 := ((V0.alloc rzo).alloc rzo).drew) (u2 := Y1) (u3 := Y2) (by repeat (first | exact Kp.refl _ | refine Kp.alloc ?_ _ | refine Kp.drew ?_)) KP1.out (by repeat (first | exact Kp.refl _ | refine Kp.alloc ?_ _ | refine Kp.drew ?_)) KP2.out (Kp.refl _) (by omega) (by omega) (by first | omega | (simp; omega) | simp) (by first | omega | (simp; omega) | simp) (by first | omega | (simp; omega) | simp) (by first | omega | (simp; omega) | simp) I1.out HR1.out HO1.out I2.out HR2.out HO2.out F1s.out (ks_set9 _ _ _ _ _ _ _ _ _) (bl_ks B1s.out (by omega) (ks_set9 _ _ _ _ _ _ _ _ _)) (bl_set9 B2s.out _ _ _ _ _ _ _ _ _)
   exact AllReadyH.nil
  refine AllReadyH.cons (o := { dst := some 8, op := Op.alloc 27, type := 0, pos := "law.go:62", after := #[], guard := none }) rfl (fun K hKq => ?_) ?_
  ·
   go_simp
   refine hKq.out _ _ (MK.out _ (KQ.alloc _)) (fun hN => ?_)
   have B2n1 : Hid ((V0.alloc rzo).heap[V0.heap.size]? = some rzo) := last_at _ _ _ (by simp)
   clear hKq K hH KQ
   have hH := hN
   clear hN
   have KQ := hH.2.2.2.2.out
   try simp only [Act.put, List.setIfInBounds_toArray, List.set_cons_zero, List.set_cons_succ]
   refine wpAnyH_ready (rs := [2, 6]) (by kernel_rfl) (by simp) ?_
   refine AllReadyH.cons (o := { dst := some 16, op := Op.call { callee := Callee.value (Operand.func 13), args := #[Operand.tmp 14, Operand.tmp 15], argTypes := #[36, 4] }, type := 27, pos := "law.go:62", after := #[{ on := 0, ground := Ground.data }, { on := 1, ground := Ground.data }], guard := none }) rfl (fun K hKq => ?_) ?_
   ·
    go_simp
    refine (MA.out _ KQ).mono ?_
    rintro e Y1 ⟨⟨T1, v1, rfl, hI, hR, hO, kp⟩⟩
    obtain ⟨k1, mn1, mx1, mm1, t1, ad1, l1, c1, rfl⟩ := hI.form
    have I1 := hid hI
    have KP1 := hid kp
    have HR1 := hid hR
    have HO1 := hid hO
    have hy1 := kp.size
    try simp at hy1
    have B2n2 : Hid (Y1.heap[V0.heap.size]? = some rzo) := bl_kp (w := (V0.alloc rzo).drew) B2n1.out KP1.out
    clear hI kp hR hO
    refine hKq.out _ _ (MK.out _ (KQ.trans KP1.out)) (fun hN => ?_)
    clear hKq K hH KQ
    have hH := hN
    clear hN
    have KQ := hH.2.2.2.2.out
    try simp only [Act.put, List.setIfInBounds_toArray, List.set_cons_zero, List.set_cons_succ]
    refine wpAnyH_ready (rs := [5, 6]) (by kernel_rfl) (by simp) ?_
    refine AllReadyH.cons (o := { dst := some 19, op := Op.call { callee := Callee.value (Operand.func 13), args := #[Operand.tmp 17, Operand.tmp 18], argTypes := #[36, 4] }, type := 27, pos := "law.go:62", after := #[{ on := 3, ground := Ground.data }, { on := 4, ground := Ground.data }, { on := 2, ground := Ground.chain }], guard := none }) rfl (fun K hKq => ?_) ?_
    ·
     go_simp
     refine (MB.out _ KQ).mono ?_
     rintro e Y2 ⟨⟨T2, v2, rfl, hI, hR, hO, kp⟩⟩
     obtain ⟨k2, mn2, mx2, mm2, t2, ad2, l2, c2, rfl⟩ := hI.form
     have I2 := hid hI
     have KP2 := hid kp
     have HR2 := hid hR
     have HO2 := hid hO
     have hy2 := kp.size
     try simp at hy2
     have B2n3 : Hid (Y2.heap[V0.heap.size]? = some rzo) := bl_kp (w := Y1) B2n2.out KP2.out
     clear hI kp hR hO
     refine hKq.out _ _ (MK.out _ (KQ.trans KP2.out)) (fun hN => ?_)
     clear hKq K hH KQ
     have hH := hN
     clear hN
     have KQ := hH.2.2.2.2.out
     try simp only [Act.put, List.setIfInBounds_toArray, List.set_cons_zero, List.set_cons_succ]
     refine wpAnyH_ready (rs := [6]) (by kernel_rfl) (by simp) ?_
     refine AllReadyH.cons (o := { dst := some 7, op := Op.alloc 27, type := 0, pos := "law.go:62", after := #[], guard := none }) rfl (fun K hKq => ?_) AllReadyH.nil
     go_simp
     refine hKq.out _ _ (MK.out _ (KQ.alloc _)) (fun hN => ?_)
     have B2n4 : Hid ((Y2.alloc rzo).heap[V0.heap.size]? = some rzo) := bl_alloc B2n3.out _
     have B1n4 : Hid ((Y2.alloc rzo).heap[Y2.heap.size]? = some rzo) := last_at _ _ _ (by simp)
     clear hKq K hH KQ
     have hH := hN
     clear hN
     have KQ := hH.2.2.2.2.out
     try simp only [Act.put, List.setIfInBounds_toArray, List.set_cons_zero, List.set_cons_succ]
     refine wpAnyH_ready (rs := [8]) (by kernel_rfl) (by simp) ?_
     refine AllReadyH.cons (o := { dst := none, op := Op.store 27 (Operand.tmp 7) (Operand.tmp 16), type := 0, pos := "law.go:62", after := #[{ on := 6, ground := Ground.data }, { on := 2, ground := Ground.data }, { on := 5, ground := Ground.chain }, { on := 0, ground := Ground.phase }, { on := 1, ground := Ground.phase }, { on := 2, ground := Ground.phase }, { on := 3, ground := Ground.textOnly Departure.lateStores }, { on := 4, ground := Ground.textOnly Departure.lateStores }, { on := 5, ground := Ground.textOnly Departure.lateStoresUnsure }, { on := 6, ground := Ground.phase }, { on := 7, ground := Ground.phase }], guard := none }) rfl (fun K hKq => ?_) AllReadyH.nil
     obtain ⟨U, hU⟩ : ∃ U, (Y2.alloc rzo) = U := ⟨_, rfl⟩
     rw [hU] at hH KQ B1n4 B2n4 ⊢
     have KU : Hid (Kp Y2 U) := by subst hU; exact (by repeat (first | exact Kp.refl _ | refine Kp.alloc ?_ _ | refine Kp.drew ?_))
     clear hU
     have v0 := bl_cell (B1n4.out) 0 _ rfl
     have fv0 := bl_frozen (B1n4.out) 0
     have v1 := bl_cell (B1n4.out) 1 _ rfl
     have fv1 := bl_frozen (B1n4.out) 1
     have v2 := bl_cell (B1n4.out) 2 _ rfl
     have fv2 := bl_frozen (B1n4.out) 2
     have v3 := bl_cell (B1n4.out) 3 _ rfl
     have fv3 := bl_frozen (B1n4.out) 3
     have v4 := bl_cell (B1n4.out) 4 _ rfl
     have fv4 := bl_frozen (B1n4.out) 4
     have v5 := bl_cell (B1n4.out) 5 _ rfl
     have fv5 := bl_frozen (B1n4.out) 5
     have v6 := bl_cell (B1n4.out) 6 _ rfl
     have fv6 := bl_frozen (B1n4.out) 6
     have v7 := bl_cell (B1n4.out) 7 _ rfl
     have fv7 := bl_frozen (B1n4.out) 7
     have v8 := bl_cell (B1n4.out) 8 _ rfl
     have fv8 := bl_frozen (B1n4.out) 8
     go_simp
     refine hKq.out _ _ (MK.out _ (Ks.up (P := Y2.heap.size) (ks_set9 _ _ _ _ _ _ _ _ _) KQ (by omega))) (fun hN => ?_)
     clear v0 fv0 v1 fv1 v2 fv2 v3 fv3 v4 fv4 v5 fv5 v6 fv6 v7 fv7 v8 fv8
     have B1s := hid (bl_set9 B1n4.out (.int .i64 k1) (.int .i64 mn1) (.int .i64 mx1) (.int .i64 mm1) (.int .u64 (t1.a : Int)) (.int .u64 (t1.b : Int)) (.int .u64 (t1.c : Int)) (.int .u64 (t1.d : Int)) (.slice ad1 l1 c1))
     have F1s := hid (ks_set9 (w := U) (B := Y2.heap.size) (.int .i64 k1) (.int .i64 mn1) (.int .i64 mx1) (.int .i64 mm1) (.int .u64 (t1.a : Int)) (.int .u64 (t1.b : Int)) (.int .u64 (t1.c : Int)) (.int .u64 (t1.d : Int)) (.slice ad1 l1 c1))
     have B2s := hid (bl_ks B2n4.out (by omega) F1s.out)
     clear hKq K hH KQ
     have hH := hN
     clear hN
     have KQ := hH.2.2.2.2.out
     try simp only [Act.put, List.setIfInBounds_toArray, List.set_cons_zero, List.set_cons_succ]
     refine wpAnyH_ready (rs := [9]) (by kernel_rfl) (by simp) ?_
     refine AllReadyH.cons (o := { dst := none, op := Op.store 27 (Operand.tmp 8) (Operand.tmp 19), type := 0, pos := "law.go:62", after := #[{ on := 7, ground := Ground.data }, { on := 5, ground := Ground.data }, { on := 8, ground := Ground.chain }, { on := 0, ground := Ground.phase }, { on := 1, ground := Ground.phase }, { on := 2, ground := Ground.phase }, { on := 3, ground := Ground.phase }, { on := 4, ground := Ground.phase }, { on := 5, ground := Ground.phase }, { on := 6, ground := Ground.phase }, { on := 7, ground := Ground.phase }, { on := 8, ground := Ground.phase }], guard := none }) rfl (fun K hKq => ?_) AllReadyH.nil
     have u0 := bl_cell (B2s.out) 0 _ rfl
     have fu0 := bl_frozen (B2s.out) 0
     have u1 := bl_cell (B2s.out) 1 _ rfl
     have fu1 := bl_frozen (B2s.out) 1
     have u2 := bl_cell (B2s.out) 2 _ rfl
     have fu2 := bl_frozen (B2s.out) 2
     have u3 := bl_cell (B2s.out) 3 _ rfl
     have fu3 := bl_frozen (B2s.out) 3
     have u4 := bl_cell (B2s.out) 4 _ rfl
     have fu4 := bl_frozen (B2s.out) 4
     have u5 := bl_cell (B2s.out) 5 _ rfl
     have fu5 := bl_frozen (B2s.out) 5
     have u6 := bl_cell (B2s.out) 6 _ rfl
     have fu6 := bl_frozen (B2s.out) 6
     have u7 := bl_cell (B2s.out) 7 _ rfl
     have fu7 := bl_frozen (B2s.out) 7
     have u8 := bl_cell (B2s.out) 8 _ rfl
     have fu8 := bl_frozen (B2s.out) 8
     go_simp
     refine hKq.out _ _ (MK.out _ (Ks.up (P := V0.heap.size) (ks_set9 _ _ _ _ _ _ _ _ _) KQ (by omega))) (fun hN => ?_)
     clear u0 fu0 u1 fu1 u2 fu2 u3 fu3 u4 fu4 u5 fu5 u6 fu6 u7 fu7 u8 fu8
     clear hKq K hH KQ
     have hH := hN
     clear hN
     have KQ := hH.2.2.2.2.out
     try simp only [Act.put, List.setIfInBounds_toArray, List.set_cons_zero, List.set_cons_succ]
     refine wpAnyH_done (by kernel_rfl) ?_ _
     refine NoPanic.normal ?_
     go_wp2_with fail
     go_meet
     case rel => exact bmid_of (u1 := (V0.alloc rzo).drew) (u2 := Y1) (u3 := U) (by repeat (first | exact Kp.refl _ | refine Kp.alloc ?_ _ | refine Kp.drew ?_)) KP1.out (by repeat (first | exact Kp.refl _ | refine Kp.alloc ?_ _ | refine Kp.drew ?_)) KP2.out KU.out (by omega) (by omega) (by first | omega | (simp; omega) | simp) (by first | omega | (simp; omega) | simp) (by first | omega | (simp; omega) | simp) (by first | omega | (simp; omega) | simp) I1.out HR1.out HO1.out I2.out HR2.out HO2.out F1s.out (ks_set9 _ _ _ _ _ _ _ _ _) (bl_ks B1s.out (by omega) (ks_set9 _ _ _ _ _ _ _ _ _)) (bl_set9 B2s.out _ _ _ _ _ _ _ _ _)
    refine AllReadyH.cons (o := { dst := some 7, op := Op.alloc 27, type := 0, pos := "law.go:62", after := #[], guard := none }) rfl (fun K hKq => ?_) ?_
    ·
     go_simp
     refine hKq.out _ _ (MK.out _ (KQ.alloc _)) (fun hN => ?_)
     have B2n3 : Hid ((Y1.alloc rzo).heap[V0.heap.size]? = some rzo) := bl_alloc B2n2.out _
     have B1n3 : Hid ((Y1.alloc rzo).heap[Y1.heap.size]? = some rzo) := last_at _ _ _ (by simp)
     clear hKq K hH KQ
     have hH := hN
     clear hN
     have KQ := hH.2.2.2.2.out
     try simp only [Act.put, List.setIfInBounds_toArray, List.set_cons_zero, List.set_cons_succ]
     refine wpAnyH_ready (rs := [5]) (by kernel_rfl) (by simp) ?_
     refine AllReadyH.cons (o := { dst := some 19, op := Op.call { callee := Callee.value (Operand.func 13), args := #[Operand.tmp 17, Operand.tmp 18], argTypes := #[36, 4] }, type := 27, pos := "law.go:62", after := #[{ on := 3, ground := Ground.data }, { on := 4, ground := Ground.data }, { on := 2, ground := Ground.chain }], guard := none }) rfl (fun K hKq => ?_) AllReadyH.nil
     go_simp
     refine (MB.out _ KQ).mono ?_
     rintro e Y2 ⟨⟨T2, v2, rfl, hI, hR, hO, kp⟩⟩
     obtain ⟨k2, mn2, mx2, mm2, t2, ad2, l2, c2, rfl⟩ := hI.form
     have I2 := hid hI
     have KP2 := hid kp
     have HR2 := hid hR
     have HO2 := hid hO
     have hy2 := kp.size
     try simp at hy2
     have B1n4 : Hid (Y2.heap[Y1.heap.size]? = some rzo) := bl_kp (w := (Y1.alloc rzo)) B1n3.out KP2.out
     have B2n4 : Hid (Y2.heap[V0.heap.size]? = some rzo) := bl_kp (w := (Y1.alloc rzo)) B2n3.out KP2.out
     clear hI kp hR hO
     refine hKq.out _ _ (MK.out _ (KQ.trans KP2.out)) (fun hN => ?_)
     clear hKq K hH KQ
     have hH := hN
     clear hN
     have KQ := hH.2.2.2.2.out
     try simp only [Act.put, List.setIfInBounds_toArray, List.set_cons_zero, List.set_cons_succ]
     refine wpAnyH_ready (rs := [8]) (by kernel_rfl) (by simp) ?_
     refine AllReadyH.cons (o := { dst := none, op := Op.store 27 (Operand.tmp 7) (Operand.tmp 16), type := 0, pos := "law.go:62", after := #[{ on := 6, ground := Ground.data }, { on := 2, ground := Ground.data }, { on := 5, ground := Ground.chain }, { on := 0, ground := Ground.phase }, { on := 1, ground := Ground.phase }, { on := 2, ground := Ground.phase }, { on := 3, ground := Ground.textOnly Departure.lateStores }, { on := 4, ground := Ground.textOnly Departure.lateStores }, { on := 5, ground := Ground.textOnly Departure.lateStoresUnsure }, { on := 6, ground := Ground.phase }, { on := 7, ground := Ground.phase }], guard := none }) rfl (fun K hKq => ?_) AllReadyH.nil
     have v0 := bl_cell (B1n4.out) 0 _ rfl
     have fv0 := bl_frozen (B1n4.out) 0
     have v1 := bl_cell (B1n4.out) 1 _ rfl
     have fv1 := bl_frozen (B1n4.out) 1
     have v2 := bl_cell (B1n4.out) 2 _ rfl
     have fv2 := bl_frozen (B1n4.out) 2
     have v3 := bl_cell (B1n4.out) 3 _ rfl
     have fv3 := bl_frozen (B1n4.out) 3
     have v4 := bl_cell (B1n4.out) 4 _ rfl
     have fv4 := bl_frozen (B1n4.out) 4
     have v5 := bl_cell (B1n4.out) 5 _ rfl
     have fv5 := bl_frozen (B1n4.out) 5
     have v6 := bl_cell (B1n4.out) 6 _ rfl
     have fv6 := bl_frozen (B1n4.out) 6
     have v7 := bl_cell (B1n4.out) 7 _ rfl
     have fv7 := bl_frozen (B1n4.out) 7
     have v8 := bl_cell (B1n4.out) 8 _ rfl
     have fv8 := bl_frozen (B1n4.out) 8
     go_simp
     refine hKq.out _ _ (MK.out _ (Ks.up (P := Y1.heap.size) (ks_set9 _ _ _ _ _ _ _ _ _) KQ (by omega))) (fun hN => ?_)
     clear v0 fv0 v1 fv1 v2 fv2 v3 fv3 v4 fv4 v5 fv5 v6 fv6 v7 fv7 v8 fv8
     have B1s := hid (bl_set9 B1n4.out (.int .i64 k1) (.int .i64 mn1) (.int .i64 mx1) (.int .i64 mm1) (.int .u64 (t1.a : Int)) (.int .u64 (t1.b : Int)) (.int .u64 (t1.c : Int)) (.int .u64 (t1.d : Int)) (.slice ad1 l1 c1))
     have F1s := hid (ks_set9 (w := Y2) (B := Y1.heap.size) (.int .i64 k1) (.int .i64 mn1) (.int .i64 mx1) (.int .i64 mm1) (.int .u64 (t1.a : Int)) (.int .u64 (t1.b : Int)) (.int .u64 (t1.c : Int)) (.int .u64 (t1.d : Int)) (.slice ad1 l1 c1))
     have B2s := hid (bl_ks B2n4.out (by omega) F1s.out)
     clear hKq K hH KQ
     have hH := hN
     clear hN
     have KQ := hH.2.2.2.2.out
     try simp only [Act.put, List.setIfInBounds_toArray, List.set_cons_zero, List.set_cons_succ]
     refine wpAnyH_ready (rs := [9]) (by kernel_rfl) (by simp) ?_
     refine AllReadyH.cons (o := { dst := none, op := Op.store 27 (Operand.tmp 8) (Operand.tmp 19), type := 0, pos := "law.go:62", after := #[{ on := 7, ground := Ground.data }, { on := 5, ground := Ground.data }, { on := 8, ground := Ground.chain }, { on := 0, ground := Ground.phase }, { on := 1, ground := Ground.phase }, { on := 2, ground := Ground.phase }, { on := 3, ground := Ground.phase }, { on := 4, ground := Ground.phase }, { on := 5, ground := Ground.phase }, { on := 6, ground := Ground.phase }, { on := 7, ground := Ground.phase }, { on := 8, ground := Ground.phase }], guard := none }) rfl (fun K hKq => ?_) AllReadyH.nil
     have u0 := bl_cell (B2s.out) 0 _ rfl
     have fu0 := bl_frozen (B2s.out) 0
     have u1 := bl_cell (B2s.out) 1 _ rfl
     have fu1 := bl_frozen (B2s.out) 1
     have u2 := bl_cell (B2s.out) 2 _ rfl
     have fu2 := bl_frozen (B2s.out) 2
     have u3 := bl_cell (B2s.out) 3 _ rfl
     have fu3 := bl_frozen (B2s.out) 3
     have u4 := bl_cell (B2s.out) 4 _ rfl
     have fu4 := bl_frozen (B2s.out) 4
     have u5 := bl_cell (B2s.out) 5 _ rfl
     have fu5 := bl_frozen (B2s.out) 5
     have u6 := bl_cell (B2s.out) 6 _ rfl
     have fu6 := bl_frozen (B2s.out) 6
     have u7 := bl_cell (B2s.out) 7 _ rfl
     have fu7 := bl_frozen (B2s.out) 7
     have u8 := bl_cell (B2s.out) 8 _ rfl
     have fu8 := bl_frozen (B2s.out) 8
     go_simp
     refine hKq.out _ _ (MK.out _ (Ks.up (P := V0.heap.size) (ks_set9 _ _ _ _ _ _ _ _ _) KQ (by omega))) (fun hN => ?_)
     clear u0 fu0 u1 fu1 u2 fu2 u3 fu3 u4 fu4 u5 fu5 u6 fu6 u7 fu7 u8 fu8
     clear hKq K hH KQ
     have hH := hN
     clear hN
     have KQ := hH.2.2.2.2.out
     try simp only [Act.put, List.setIfInBounds_toArray, List.set_cons_zero, List.set_cons_succ]
     refine wpAnyH_done (by kernel_rfl) ?_ _
     refine NoPanic.normal ?_
     go_wp2_with fail
     go_meet
     case rel => exact bmid_of (u1 := (V0.alloc rzo).drew) (u2 := (Y1.alloc rzo)) (u3 := Y2) (by repeat (first | exact Kp.refl _ | refine Kp.alloc ?_ _ | refine Kp.drew ?_)) KP1.out (by repeat (first | exact Kp.refl _ | refine Kp.alloc ?_ _ | refine Kp.drew ?_)) KP2.out (Kp.refl _) (by omega) (by omega) (by first | omega | (simp; omega) | simp) (by first | omega | (simp; omega) | simp) (by first | omega | (simp; omega) | simp) (by first | omega | (simp; omega) | simp) I1.out HR1.out HO1.out I2.out HR2.out HO2.out F1s.out (ks_set9 _ _ _ _ _ _ _ _ _) (bl_ks B1s.out (by omega) (ks_set9 _ _ _ _ _ _ _ _ _)) (bl_set9 B2s.out _ _ _ _ _ _ _ _ _)
    exact AllReadyH.nil
   refine AllReadyH.cons (o := { dst := some 7, op := Op.alloc 27, type := 0, pos := "law.go:62", after := #[], guard := none }) rfl (fun K hKq => ?_) ?_
   ·
    go_simp
    refine hKq.out _ _ (MK.out _ (KQ.alloc _)) (fun hN => ?_)
    have B2n2 : Hid (((V0.alloc rzo).alloc rzo).heap[V0.heap.size]? = some rzo) := bl_alloc B2n1.out _
    have B1n2 : Hid (((V0.alloc rzo).alloc rzo).heap[V0.heap.size + 1]? = some rzo) := last_at _ _ _ (by simp)
    clear hKq K hH KQ
    have hH := hN
    clear hN
    have KQ := hH.2.2.2.2.out
    try simp only [Act.put, List.setIfInBounds_toArray, List.set_cons_zero, List.set_cons_succ]
    refine wpAnyH_ready (rs := [2]) (by kernel_rfl) (by simp) ?_
    refine AllReadyH.cons (o := { dst := some 16, op := Op.call { callee := Callee.value (Operand.func 13), args := #[Operand.tmp 14, Operand.tmp 15], argTypes := #[36, 4] }, type := 27, pos := "law.go:62", after := #[{ on := 0, ground := Ground.data }, { on := 1, ground := Ground.data }], guard := none }) rfl (fun K hKq => ?_) AllReadyH.nil
    go_simp
    refine (MA.out _ KQ).mono ?_
    rintro e Y1 ⟨⟨T1, v1, rfl, hI, hR, hO, kp⟩⟩
    obtain ⟨k1, mn1, mx1, mm1, t1, ad1, l1, c1, rfl⟩ := hI.form
    have I1 := hid hI
    have KP1 := hid kp
    have HR1 := hid hR
    have HO1 := hid hO
    have hy1 := kp.size
    try simp at hy1
    have B1n3 : Hid (Y1.heap[V0.heap.size + 1]? = some rzo) := bl_kp (w := ((V0.alloc rzo).alloc rzo).drew) B1n2.out KP1.out
    have B2n3 : Hid (Y1.heap[V0.heap.size]? = some rzo) := bl_kp (w := ((V0.alloc rzo).alloc rzo).drew) B2n2.out KP1.out
    clear hI kp hR hO
    refine hKq.out _ _ (MK.out _ (KQ.trans KP1.out)) (fun hN => ?_)
    clear hKq K hH KQ
    have hH := hN
    clear hN
    have KQ := hH.2.2.2.2.out
    try simp only [Act.put, List.setIfInBounds_toArray, List.set_cons_zero, List.set_cons_succ]
    refine wpAnyH_ready (rs := [5]) (by kernel_rfl) (by simp) ?_
    refine AllReadyH.cons (o := { dst := some 19, op := Op.call { callee := Callee.value (Operand.func 13), args := #[Operand.tmp 17, Operand.tmp 18], argTypes := #[36, 4] }, type := 27, pos := "law.go:62", after := #[{ on := 3, ground := Ground.data }, { on := 4, ground := Ground.data }, { on := 2, ground := Ground.chain }], guard := none }) rfl (fun K hKq => ?_) AllReadyH.nil
    go_simp
    refine (MB.out _ KQ).mono ?_
    rintro e Y2 ⟨⟨T2, v2, rfl, hI, hR, hO, kp⟩⟩
    obtain ⟨k2, mn2, mx2, mm2, t2, ad2, l2, c2, rfl⟩ := hI.form
    have I2 := hid hI
    have KP2 := hid kp
    have HR2 := hid hR
    have HO2 := hid hO
    have hy2 := kp.size
    try simp at hy2
    have B1n4 : Hid (Y2.heap[V0.heap.size + 1]? = some rzo) := bl_kp (w := Y1) B1n3.out KP2.out
    have B2n4 : Hid (Y2.heap[V0.heap.size]? = some rzo) := bl_kp (w := Y1) B2n3.out KP2.out
    clear hI kp hR hO
    refine hKq.out _ _ (MK.out _ (KQ.trans KP2.out)) (fun hN => ?_)
    clear hKq K hH KQ
    have hH := hN
    clear hN
    have KQ := hH.2.2.2.2.out
    try simp only [Act.put, List.setIfInBounds_toArray, List.set_cons_zero, List.set_cons_succ]
    refine wpAnyH_ready (rs := [8]) (by kernel_rfl) (by simp) ?_
    refine AllReadyH.cons (o := { dst := none, op := Op.store 27 (Operand.tmp 7) (Operand.tmp 16), type := 0, pos := "law.go:62", after := #[{ on := 6, ground := Ground.data }, { on := 2, ground := Ground.data }, { on := 5, ground := Ground.chain }, { on := 0, ground := Ground.phase }, { on := 1, ground := Ground.phase }, { on := 2, ground := Ground.phase }, { on := 3, ground := Ground.textOnly Departure.lateStores }, { on := 4, ground := Ground.textOnly Departure.lateStores }, { on := 5, ground := Ground.textOnly Departure.lateStoresUnsure }, { on := 6, ground := Ground.phase }, { on := 7, ground := Ground.phase }], guard := none }) rfl (fun K hKq => ?_) AllReadyH.nil
    have v0 := bl_cell (B1n4.out) 0 _ rfl
    have fv0 := bl_frozen (B1n4.out) 0
    have v1 := bl_cell (B1n4.out) 1 _ rfl
    have fv1 := bl_frozen (B1n4.out) 1
    have v2 := bl_cell (B1n4.out) 2 _ rfl
    have fv2 := bl_frozen (B1n4.out) 2
    have v3 := bl_cell (B1n4.out) 3 _ rfl
    have fv3 := bl_frozen (B1n4.out) 3
    have v4 := bl_cell (B1n4.out) 4 _ rfl
    have fv4 := bl_frozen (B1n4.out) 4
    have v5 := bl_cell (B1n4.out) 5 _ rfl
    have fv5 := bl_frozen (B1n4.out) 5
    have v6 := bl_cell (B1n4.out) 6 _ rfl
    have fv6 := bl_frozen (B1n4.out) 6
    have v7 := bl_cell (B1n4.out) 7 _ rfl
    have fv7 := bl_frozen (B1n4.out) 7
    have v8 := bl_cell (B1n4.out) 8 _ rfl
    have fv8 := bl_frozen (B1n4.out) 8
    go_simp
    refine hKq.out _ _ (MK.out _ (Ks.up (P := V0.heap.size + 1) (ks_set9 _ _ _ _ _ _ _ _ _) KQ (by omega))) (fun hN => ?_)
    clear v0 fv0 v1 fv1 v2 fv2 v3 fv3 v4 fv4 v5 fv5 v6 fv6 v7 fv7 v8 fv8
    have B1s := hid (bl_set9 B1n4.out (.int .i64 k1) (.int .i64 mn1) (.int .i64 mx1) (.int .i64 mm1) (.int .u64 (t1.a : Int)) (.int .u64 (t1.b : Int)) (.int .u64 (t1.c : Int)) (.int .u64 (t1.d : Int)) (.slice ad1 l1 c1))
    have F1s := hid (ks_set9 (w := Y2) (B := V0.heap.size + 1) (.int .i64 k1) (.int .i64 mn1) (.int .i64 mx1) (.int .i64 mm1) (.int .u64 (t1.a : Int)) (.int .u64 (t1.b : Int)) (.int .u64 (t1.c : Int)) (.int .u64 (t1.d : Int)) (.slice ad1 l1 c1))
    have B2s := hid (bl_ks B2n4.out (by omega) F1s.out)
    clear hKq K hH KQ
    have hH := hN
    clear hN
    have KQ := hH.2.2.2.2.out
    try simp only [Act.put, List.setIfInBounds_toArray, List.set_cons_zero, List.set_cons_succ]
    refine wpAnyH_ready (rs := [9]) (by kernel_rfl) (by simp) ?_
    refine AllReadyH.cons (o := { dst := none, op := Op.store 27 (Operand.tmp 8) (Operand.tmp 19), type := 0, pos := "law.go:62", after := #[{ on := 7, ground := Ground.data }, { on := 5, ground := Ground.data }, { on := 8, ground := Ground.chain }, { on := 0, ground := Ground.phase }, { on := 1, ground := Ground.phase }, { on := 2, ground := Ground.phase }, { on := 3, ground := Ground.phase }, { on := 4, ground := Ground.phase }, { on := 5, ground := Ground.phase }, { on := 6, ground := Ground.phase }, { on := 7, ground := Ground.phase }, { on := 8, ground := Ground.phase }], guard := none }) rfl (fun K hKq => ?_) AllReadyH.nil
    have u0 := bl_cell (B2s.out) 0 _ rfl
    have fu0 := bl_frozen (B2s.out) 0
    have u1 := bl_cell (B2s.out) 1 _ rfl
    have fu1 := bl_frozen (B2s.out) 1
    have u2 := bl_cell (B2s.out) 2 _ rfl
    have fu2 := bl_frozen (B2s.out) 2
    have u3 := bl_cell (B2s.out) 3 _ rfl
    have fu3 := bl_frozen (B2s.out) 3
    have u4 := bl_cell (B2s.out) 4 _ rfl
    have fu4 := bl_frozen (B2s.out) 4
    have u5 := bl_cell (B2s.out) 5 _ rfl
    have fu5 := bl_frozen (B2s.out) 5
    have u6 := bl_cell (B2s.out) 6 _ rfl
    have fu6 := bl_frozen (B2s.out) 6
    have u7 := bl_cell (B2s.out) 7 _ rfl
    have fu7 := bl_frozen (B2s.out) 7
    have u8 := bl_cell (B2s.out) 8 _ rfl
    have fu8 := bl_frozen (B2s.out) 8
    go_simp
    refine hKq.out _ _ (MK.out _ (Ks.up (P := V0.heap.size) (ks_set9 _ _ _ _ _ _ _ _ _) KQ (by omega))) (fun hN => ?_)
    clear u0 fu0 u1 fu1 u2 fu2 u3 fu3 u4 fu4 u5 fu5 u6 fu6 u7 fu7 u8 fu8
    clear hKq K hH KQ
    have hH := hN
    clear hN
    have KQ := hH.2.2.2.2.out
    try simp only [Act.put, List.setIfInBounds_toArray, List.set_cons_zero, List.set_cons_succ]
    refine wpAnyH_done (by kernel_rfl) ?_ _
    refine NoPanic.normal ?_
    go_wp2_with fail
    go_meet
    case rel => exact bmid_of (u1 := ((V0.alloc rzo).alloc rzo).drew) (u2 := Y1) (u3 := Y2) (by repeat (first | exact Kp.refl _ | refine Kp.alloc ?_ _ | refine Kp.drew ?_)) KP1.out (by repeat (first | exact Kp.refl _ | refine Kp.alloc ?_ _ | refine Kp.drew ?_)) KP2.out (Kp.refl _) (by omega) (by omega) (by first | omega | (simp; omega) | simp) (by first | omega | (simp; omega) | simp) (by first | omega | (simp; omega) | simp) (by first | omega | (simp; omega) | simp) I1.out HR1.out HO1.out I2.out HR2.out HO2.out F1s.out (ks_set9 _ _ _ _ _ _ _ _ _) (bl_ks B1s.out (by omega) (ks_set9 _ _ _ _ _ _ _ _ _)) (bl_set9 B2s.out _ _ _ _ _ _ _ _ _)
   exact AllReadyH.nil
  exact AllReadyH.nil
 case rest =>
 obtain ⟨⟨V1, V2, T1, T2, k1, mn1, mx1, mm1, t1, ad1, l1, c1, k2, mn2, mx2, mm2, t2, ad2, l2, c2, rfl, rfl, b1, b2, p1, p2, r1, x1, r2, x2, kv⟩⟩ := hcut
 rename World => U1
 clear MA MB
 have K_2 : Hid (Kp w U1) := K_1.out.trans kv
 have Z_2 : Hid ((∃ mz, U1.cell? ⟨0, 0, none⟩ = some (.int .i64 mz))) := cell0 Z_1.out kv
 clear A_1 A2_1 K_1 Z_1
 have R1 : Hid (U1.heap[V1]? = some (rxo k1 mn1 mx1 mm1 t1 (.slice ad1 l1 c1))) := b1
 have R2 : Hid (U1.heap[V2]? = some (rxo k2 mn2 mx2 mm2 t2 (.slice ad2 l2 c2))) := b2
 have PD1 : Hid (Pd U1 T1 k1 mn1 mx1 mm1 t1 ad1 l1 c1) := p1
 have PD2 : Hid (Pd U1 T2 k2 mn2 mx2 mm2 t2 ad2 l2 c2) := p2
 clear b1 b2 p1 p2 kv
 obtain ⟨S1, hS1⟩ : ∃ S, bs (printT ere T1) = S := ⟨_, rfl⟩
 obtain ⟨S2, hS2⟩ : ∃ S, bs (printT ere T2) = S := ⟨_, rfl⟩
 have hij := Trip.print_inj ere T1 T2 x1 x2 r1 r2
 rw [hS1, hS2] at hij
 have PR1 := hid (talk_print T1 ere x1 S1 hS1)
 have PR2 := hid (talk_print T2 ere x2 S2 hS2)
 have PA := hid (parse_at S1 ere T1 0 0 (hS1 ▸ print_size ere T1 x1) (hS1 ▸ Trip.print_trip ere T1 x1 r1))
 have RG := hid (talk_right T1 ere true x1 r1)
 have KS := hid (talk_ksame T1 T1 true x1 (sameR_refl T1))
 have HO1 := hid x1
 have HIJ := hid hij
 clear hS1 hS2 hij r1 r2 x1 x2
 go_upto_region 2 with fail
 go_cut [9, 10] (fun v v' wc => v = .string S1 ∧ v' = .string S2 ∧ Kp U1 wc)
 case first =>
  have Q0 : Kp U1 U1.drew := (Kp.refl _).drew
  have MK : Hid (∀ W, Kp U1 W → W.cell? ⟨V1, 0, none⟩ = some (.int .i64 k1) ∧ W.cell? ⟨V1, 1, none⟩ = some (.int .i64 mn1) ∧ W.cell? ⟨V1, 2, none⟩ = some (.int .i64 mx1) ∧ W.cell? ⟨V1, 3, none⟩ = some (.int .i64 mm1) ∧ W.cell? ⟨V1, 4, none⟩ = some (.int .u64 (t1.a : Int)) ∧ W.cell? ⟨V1, 5, none⟩ = some (.int .u64 (t1.b : Int)) ∧ W.cell? ⟨V1, 6, none⟩ = some (.int .u64 (t1.c : Int)) ∧ W.cell? ⟨V1, 7, none⟩ = some (.int .u64 (t1.d : Int)) ∧ W.cell? ⟨V1, 8, none⟩ = some (.slice ad1 l1 c1) ∧ W.cell? ⟨V2, 0, none⟩ = some (.int .i64 k2) ∧ W.cell? ⟨V2, 1, none⟩ = some (.int .i64 mn2) ∧ W.cell? ⟨V2, 2, none⟩ = some (.int .i64 mx2) ∧ W.cell? ⟨V2, 3, none⟩ = some (.int .i64 mm2) ∧ W.cell? ⟨V2, 4, none⟩ = some (.int .u64 (t2.a : Int)) ∧ W.cell? ⟨V2, 5, none⟩ = some (.int .u64 (t2.b : Int)) ∧ W.cell? ⟨V2, 6, none⟩ = some (.int .u64 (t2.c : Int)) ∧ W.cell? ⟨V2, 7, none⟩ = some (.int .u64 (t2.d : Int)) ∧ W.cell? ⟨V2, 8, none⟩ = some (.slice ad2 l2 c2) ∧ Hid (Kp U1 W)) := fun W k => ⟨bl_cell (bl_kp R1.out k) 0 _ rfl, bl_cell (bl_kp R1.out k) 1 _ rfl, bl_cell (bl_kp R1.out k) 2 _ rfl, bl_cell (bl_kp R1.out k) 3 _ rfl, bl_cell (bl_kp R1.out k) 4 _ rfl, bl_cell (bl_kp R1.out k) 5 _ rfl, bl_cell (bl_kp R1.out k) 6 _ rfl, bl_cell (bl_kp R1.out k) 7 _ rfl, bl_cell (bl_kp R1.out k) 8 _ rfl, bl_cell (bl_kp R2.out k) 0 _ rfl, bl_cell (bl_kp R2.out k) 1 _ rfl, bl_cell (bl_kp R2.out k) 2 _ rfl, bl_cell (bl_kp R2.out k) 3 _ rfl, bl_cell (bl_kp R2.out k) 4 _ rfl, bl_cell (bl_kp R2.out k) 5 _ rfl, bl_cell (bl_kp R2.out k) 6 _ rfl, bl_cell (bl_kp R2.out k) 7 _ rfl, bl_cell (bl_kp R2.out k) 8 _ rfl, k⟩
  refine wp_region_noPanic ?_
  refine wp_region_held_drew (S := (fun W => W.cell? ⟨V1, 0, none⟩ = some (.int .i64 k1) ∧ W.cell? ⟨V1, 1, none⟩ = some (.int .i64 mn1) ∧ W.cell? ⟨V1, 2, none⟩ = some (.int .i64 mx1) ∧ W.cell? ⟨V1, 3, none⟩ = some (.int .i64 mm1) ∧ W.cell? ⟨V1, 4, none⟩ = some (.int .u64 (t1.a : Int)) ∧ W.cell? ⟨V1, 5, none⟩ = some (.int .u64 (t1.b : Int)) ∧ W.cell? ⟨V1, 6, none⟩ = some (.int .u64 (t1.c : Int)) ∧ W.cell? ⟨V1, 7, none⟩ = some (.int .u64 (t1.d : Int)) ∧ W.cell? ⟨V1, 8, none⟩ = some (.slice ad1 l1 c1) ∧ W.cell? ⟨V2, 0, none⟩ = some (.int .i64 k2) ∧ W.cell? ⟨V2, 1, none⟩ = some (.int .i64 mn2) ∧ W.cell? ⟨V2, 2, none⟩ = some (.int .i64 mx2) ∧ W.cell? ⟨V2, 3, none⟩ = some (.int .i64 mm2) ∧ W.cell? ⟨V2, 4, none⟩ = some (.int .u64 (t2.a : Int)) ∧ W.cell? ⟨V2, 5, none⟩ = some (.int .u64 (t2.b : Int)) ∧ W.cell? ⟨V2, 6, none⟩ = some (.int .u64 (t2.c : Int)) ∧ W.cell? ⟨V2, 7, none⟩ = some (.int .u64 (t2.d : Int)) ∧ W.cell? ⟨V2, 8, none⟩ = some (.slice ad2 l2 c2) ∧ Hid (Kp U1 W))) (by kernel_rfl) ?_ (fun hH => ?_)
  ·
   exact MK.out _ Q0
  have KQ := Q0
  refine wpAnyH_take (i := 0) (oi := { dst := some 20, op := Op.load 27 (Operand.tmp 7), type := 27, pos := "law.go:63", after := #[], guard := none }) (v := ?v0f1) rfl (by kernel_rfl) (by kernel_rfl) (by kernel_rfl) (fun _ _ _ h => h) (Or.inl ⟨by rfl, ?hy0f1⟩) hH ?r0f1
  case hy0f1 => (intro W hSw; (try dsimp only at hSw); go_simp; try (with_reducible rfl))
  try simp only [Act.put, List.setIfInBounds_toArray, List.set_cons_zero, List.set_cons_succ]
  refine wpAnyH_take (i := 1) (oi := { dst := some 21, op := Op.move (Operand.tmp 2), type := 4, pos := "law.go:63", after := #[], guard := none }) (v := ?v1f2) rfl (by kernel_rfl) (by kernel_rfl) (by kernel_rfl) (fun _ _ _ h => h) (Or.inl ⟨by rfl, ?hy1f2⟩) hH ?r1f2
  case hy1f2 => (intro W hSw; (try dsimp only at hSw); go_simp; try (with_reducible rfl))
  try simp only [Act.put, List.setIfInBounds_toArray, List.set_cons_zero, List.set_cons_succ]
  refine wpAnyH_take (i := 3) (oi := { dst := some 23, op := Op.load 27 (Operand.tmp 8), type := 27, pos := "law.go:63", after := #[], guard := none }) (v := ?v3f3) rfl (by kernel_rfl) (by kernel_rfl) (by kernel_rfl) (fun _ _ _ h => h) (Or.inl ⟨by rfl, ?hy3f3⟩) hH ?r3f3
  case hy3f3 => (intro W hSw; (try dsimp only at hSw); go_simp; try (with_reducible rfl))
  try simp only [Act.put, List.setIfInBounds_toArray, List.set_cons_zero, List.set_cons_succ]
  refine wpAnyH_take (i := 4) (oi := { dst := some 24, op := Op.move (Operand.tmp 2), type := 4, pos := "law.go:63", after := #[], guard := none }) (v := ?v4f4) rfl (by kernel_rfl) (by kernel_rfl) (by kernel_rfl) (fun _ _ _ h => h) (Or.inl ⟨by rfl, ?hy4f4⟩) hH ?r4f4
  case hy4f4 => (intro W hSw; (try dsimp only at hSw); go_simp; try (with_reducible rfl))
  try simp only [Act.put, List.setIfInBounds_toArray, List.set_cons_zero, List.set_cons_succ]
  refine wpAnyH_ready (rs := [2]) (by kernel_rfl) (by simp) ?_
  refine AllReadyH.cons (o := { dst := some 22, op := Op.call { callee := Callee.value (Operand.func 10), args := #[Operand.tmp 20, Operand.tmp 21], argTypes := #[27, 4] }, type := 9, pos := "law.go:63", after := #[{ on := 0, ground := Ground.data }, { on := 1, ground := Ground.data }], guard := none }) rfl (fun K hKq => ?_) AllReadyH.nil
  go_simp
  refine (PR1.out _ (PD1.out.kp KQ)).mono ?_
  rintro e y1 ⟨rfl, kq⟩
  refine hKq.out _ _ (MK.out _ (KQ.trans kq)) (fun hN => ?_)
  clear kq
  clear hKq K hH KQ
  have hH := hN
  clear hN
  have KQ := hH.2.2.2.2.2.2.2.2.2.2.2.2.2.2.2.2.2.2.out
  try simp only [Act.put, List.setIfInBounds_toArray, List.set_cons_zero, List.set_cons_succ]
  refine wpAnyH_ready (rs := [5]) (by kernel_rfl) (by simp) ?_
  refine AllReadyH.cons (o := { dst := some 25, op := Op.call { callee := Callee.value (Operand.func 10), args := #[Operand.tmp 23, Operand.tmp 24], argTypes := #[27, 4] }, type := 9, pos := "law.go:63", after := #[{ on := 3, ground := Ground.data }, { on := 4, ground := Ground.data }, { on := 2, ground := Ground.chain }], guard := none }) rfl (fun K hKq => ?_) AllReadyH.nil
  go_simp
  refine (PR2.out _ (PD2.out.kp KQ)).mono ?_
  rintro e y2 ⟨rfl, kq⟩
  refine hKq.out _ _ (MK.out _ (KQ.trans kq)) (fun hN => ?_)
  clear kq
  clear hKq K hH KQ
  have hH := hN
  clear hN
  have KQ := hH.2.2.2.2.2.2.2.2.2.2.2.2.2.2.2.2.2.2.out
  try simp only [Act.put, List.setIfInBounds_toArray, List.set_cons_zero, List.set_cons_succ]
  refine wpAnyH_take (i := 6) (oi := { dst := some 9, op := Op.assign (Operand.tmp 22), type := 9, pos := "law.go:63", after := #[{ on := 2, ground := Ground.data }, { on := 5, ground := Ground.chain }, { on := 0, ground := Ground.phase }, { on := 1, ground := Ground.phase }, { on := 2, ground := Ground.phase }, { on := 3, ground := Ground.textOnly Departure.lateStores }, { on := 4, ground := Ground.textOnly Departure.lateStores }, { on := 5, ground := Ground.textOnly Departure.lateStoresUnsure }], guard := none }) (v := ?v6f5) rfl (by kernel_rfl) (by kernel_rfl) (by kernel_rfl) (fun _ _ _ h => h) (Or.inl ⟨by rfl, ?hy6f5⟩) hH ?r6f5
  case hy6f5 => (intro W hSw; (try dsimp only at hSw); go_simp; try (with_reducible rfl))
  try simp only [Act.put, List.setIfInBounds_toArray, List.set_cons_zero, List.set_cons_succ]
  refine wpAnyH_take (i := 7) (oi := { dst := some 10, op := Op.assign (Operand.tmp 25), type := 9, pos := "law.go:63", after := #[{ on := 5, ground := Ground.data }, { on := 6, ground := Ground.chain }, { on := 0, ground := Ground.phase }, { on := 1, ground := Ground.phase }, { on := 2, ground := Ground.phase }, { on := 3, ground := Ground.phase }, { on := 4, ground := Ground.phase }, { on := 5, ground := Ground.phase }, { on := 6, ground := Ground.phase }], guard := none }) (v := ?v7f6) rfl (by kernel_rfl) (by kernel_rfl) (by kernel_rfl) (fun _ _ _ h => h) (Or.inl ⟨by rfl, ?hy7f6⟩) hH ?r7f6
  case hy7f6 => (intro W hSw; (try dsimp only at hSw); go_simp; try (with_reducible rfl))
  try simp only [Act.put, List.setIfInBounds_toArray, List.set_cons_zero, List.set_cons_succ]
  refine wpAnyH_done (by kernel_rfl) ?_ _
  refine NoPanic.normal ?_
  go_wp2_with fail
  go_meet
  case rel => exact ⟨rfl, rfl, KQ⟩
 case rest =>
 obtain ⟨rfl, rfl, kv⟩ := hcut
 rename World => U2
 have K_3 : Hid (Kp w U2) := K_2.out.trans kv
 have Z_3 : Hid ((∃ mz, U2.cell? ⟨0, 0, none⟩ = some (.int .i64 mz))) := cell0 Z_2.out kv
 have R1_3 : Hid (U2.heap[V1]? = some (rxo k1 mn1 mx1 mm1 t1 (.slice ad1 l1 c1))) := bl_kp R1.out kv
 have R2_3 : Hid (U2.heap[V2]? = some (rxo k2 mn2 mx2 mm2 t2 (.slice ad2 l2 c2))) := bl_kp R2.out kv
 have PD1_3 : Hid (Pd U2 T1 k1 mn1 mx1 mm1 t1 ad1 l1 c1) := PD1.out.kp kv
 have PD2_3 : Hid (Pd U2 T2 k2 mn2 mx2 mm2 t2 ad2 l2 c2) := PD2.out.kp kv
 clear K_2 Z_2 R1 R2 PD1 PD2
 clear kv PR1 PR2
 go_wp2_with fail
 refine (PA.out _ Z_3.out).mono ?_
 rintro en Y3 ⟨k3, mn3, mx3, mm3, t3, ad3, l3, c3, rfl, pd, kv⟩
 have PD3 : Hid (Pd Y3 T1 k3 mn3 mx3 mm3 t3 ad3 l3 c3) := pd
 clear pd
 have K_4 : Hid (Kp w Y3) := K_3.out.trans kv
 have Z_4 : Hid ((∃ mz, Y3.cell? ⟨0, 0, none⟩ = some (.int .i64 mz))) := cell0 Z_3.out kv
 have R1_4 : Hid (Y3.heap[V1]? = some (rxo k1 mn1 mx1 mm1 t1 (.slice ad1 l1 c1))) := bl_kp R1_3.out kv
 have R2_4 : Hid (Y3.heap[V2]? = some (rxo k2 mn2 mx2 mm2 t2 (.slice ad2 l2 c2))) := bl_kp R2_3.out kv
 have PD1_4 : Hid (Pd Y3 T1 k1 mn1 mx1 mm1 t1 ad1 l1 c1) := PD1_3.out.kp kv
 have PD2_4 : Hid (Pd Y3 T2 k2 mn2 mx2 mm2 t2 ad2 l2 c2) := PD2_3.out.kp kv
 clear K_3 Z_3 R1_3 R2_3 PD1_3 PD2_3
 clear kv PA
 go_upto_region 4 with fail
 refine opq (fun U3 => Kp w U3 ∧ (∃ mz, U3.cell? ⟨0, 0, none⟩ = some (.int .i64 mz)) ∧ U3.heap[V1]? = some (rxo k1 mn1 mx1 mm1 t1 (.slice ad1 l1 c1)) ∧ U3.heap[V2]? = some (rxo k2 mn2 mx2 mm2 t2 (.slice ad2 l2 c2)) ∧ Pd U3 T1 k1 mn1 mx1 mm1 t1 ad1 l1 c1 ∧ Pd U3 T2 k2 mn2 mx2 mm2 t2 ad2 l2 c2 ∧ Pd U3 T1 k3 mn3 mx3 mm3 t3 ad3 l3 c3 ∧ U3.heap[Y3.heap.size]? = some (rxo k3 mn3 mx3 mm3 t3 (.slice ad3 l3 c3))) ⟨by exact K_4.out.trans (by repeat (first | exact Kp.refl _ | refine Kp.alloc ?_ _ | refine Kp.drew ?_ | refine Kp.drewN _ ?_)), by exact cell0 Z_4.out (by repeat (first | exact Kp.refl _ | refine Kp.alloc ?_ _ | refine Kp.drew ?_ | refine Kp.drewN _ ?_)), by exact bl_kp R1_4.out (by repeat (first | exact Kp.refl _ | refine Kp.alloc ?_ _ | refine Kp.drew ?_ | refine Kp.drewN _ ?_)), by exact bl_kp R2_4.out (by repeat (first | exact Kp.refl _ | refine Kp.alloc ?_ _ | refine Kp.drew ?_ | refine Kp.drewN _ ?_)), by exact PD1_4.out.kp (by repeat (first | exact Kp.refl _ | refine Kp.alloc ?_ _ | refine Kp.drew ?_ | refine Kp.drewN _ ?_)), by exact PD2_4.out.kp (by repeat (first | exact Kp.refl _ | refine Kp.alloc ?_ _ | refine Kp.drew ?_ | refine Kp.drewN _ ?_)), by exact PD3.out.kp (by repeat (first | exact Kp.refl _ | refine Kp.alloc ?_ _ | refine Kp.drew ?_ | refine Kp.drewN _ ?_)), by (first | exact last_at _ _ _ (by simp) | (refine bl_alloc ?_ _; first | exact last_at _ _ _ (by simp) | (refine bl_alloc ?_ _; first | exact last_at _ _ _ (by simp) | (refine bl_alloc ?_ _; exact last_at _ _ _ (by simp)))))⟩ ?_
 rintro U3 ⟨xK_5, xZ_5, xR1_5, xR2_5, xPD1_5, xPD2_5, xPD3_5, xR3_5⟩
 have K_5 : Hid (Kp w U3) := xK_5
 have Z_5 : Hid ((∃ mz, U3.cell? ⟨0, 0, none⟩ = some (.int .i64 mz))) := xZ_5
 have R1_5 : Hid (U3.heap[V1]? = some (rxo k1 mn1 mx1 mm1 t1 (.slice ad1 l1 c1))) := xR1_5
 have R2_5 : Hid (U3.heap[V2]? = some (rxo k2 mn2 mx2 mm2 t2 (.slice ad2 l2 c2))) := xR2_5
 have PD1_5 : Hid (Pd U3 T1 k1 mn1 mx1 mm1 t1 ad1 l1 c1) := xPD1_5
 have PD2_5 : Hid (Pd U3 T2 k2 mn2 mx2 mm2 t2 ad2 l2 c2) := xPD2_5
 have PD3_5 : Hid (Pd U3 T1 k3 mn3 mx3 mm3 t3 ad3 l3 c3) := xPD3_5
 have R3_5 : Hid (U3.heap[Y3.heap.size]? = some (rxo k3 mn3 mx3 mm3 t3 (.slice ad3 l3 c3))) := xR3_5
 clear xK_5 xZ_5 xR1_5 xR2_5 xPD1_5 xPD2_5 xPD3_5 xR3_5
 clear K_4 Z_4 R1_4 R2_4 PD1_4 PD2_4 PD3
 by_cases hS : S1 = S2
 ·
  have hT := HIJ.out.1 hS
  have hb : sameR T1 T2 = true := hT ▸ sameR_refl T1
  have KQ2 := hid (talk_ksame T1 T2 true HO1.out hb)
  have SQ2 := hid (talk_same T1 T2 true HO1.out hb)
  subst hS
  clear hT hb HIJ HO1
  have Q0 : Kp U3 U3.drew := (Kp.refl _).drew
  have MK : Hid (∀ W, Kp U3 W → W.cell? ⟨V1, 0, none⟩ = some (.int .i64 k1) ∧ W.cell? ⟨V1, 1, none⟩ = some (.int .i64 mn1) ∧ W.cell? ⟨V1, 2, none⟩ = some (.int .i64 mx1) ∧ W.cell? ⟨V1, 3, none⟩ = some (.int .i64 mm1) ∧ W.cell? ⟨V1, 4, none⟩ = some (.int .u64 (t1.a : Int)) ∧ W.cell? ⟨V1, 5, none⟩ = some (.int .u64 (t1.b : Int)) ∧ W.cell? ⟨V1, 6, none⟩ = some (.int .u64 (t1.c : Int)) ∧ W.cell? ⟨V1, 7, none⟩ = some (.int .u64 (t1.d : Int)) ∧ W.cell? ⟨V1, 8, none⟩ = some (.slice ad1 l1 c1) ∧ W.cell? ⟨V2, 0, none⟩ = some (.int .i64 k2) ∧ W.cell? ⟨V2, 1, none⟩ = some (.int .i64 mn2) ∧ W.cell? ⟨V2, 2, none⟩ = some (.int .i64 mx2) ∧ W.cell? ⟨V2, 3, none⟩ = some (.int .i64 mm2) ∧ W.cell? ⟨V2, 4, none⟩ = some (.int .u64 (t2.a : Int)) ∧ W.cell? ⟨V2, 5, none⟩ = some (.int .u64 (t2.b : Int)) ∧ W.cell? ⟨V2, 6, none⟩ = some (.int .u64 (t2.c : Int)) ∧ W.cell? ⟨V2, 7, none⟩ = some (.int .u64 (t2.d : Int)) ∧ W.cell? ⟨V2, 8, none⟩ = some (.slice ad2 l2 c2) ∧ W.cell? ⟨Y3.heap.size, 0, none⟩ = some (.int .i64 k3) ∧ W.cell? ⟨Y3.heap.size, 1, none⟩ = some (.int .i64 mn3) ∧ W.cell? ⟨Y3.heap.size, 2, none⟩ = some (.int .i64 mx3) ∧ W.cell? ⟨Y3.heap.size, 3, none⟩ = some (.int .i64 mm3) ∧ W.cell? ⟨Y3.heap.size, 4, none⟩ = some (.int .u64 (t3.a : Int)) ∧ W.cell? ⟨Y3.heap.size, 5, none⟩ = some (.int .u64 (t3.b : Int)) ∧ W.cell? ⟨Y3.heap.size, 6, none⟩ = some (.int .u64 (t3.c : Int)) ∧ W.cell? ⟨Y3.heap.size, 7, none⟩ = some (.int .u64 (t3.d : Int)) ∧ W.cell? ⟨Y3.heap.size, 8, none⟩ = some (.slice ad3 l3 c3) ∧ Hid (Kp U3 W)) := fun W k => ⟨bl_cell (bl_kp R1_5.out k) 0 _ rfl, bl_cell (bl_kp R1_5.out k) 1 _ rfl, bl_cell (bl_kp R1_5.out k) 2 _ rfl, bl_cell (bl_kp R1_5.out k) 3 _ rfl, bl_cell (bl_kp R1_5.out k) 4 _ rfl, bl_cell (bl_kp R1_5.out k) 5 _ rfl, bl_cell (bl_kp R1_5.out k) 6 _ rfl, bl_cell (bl_kp R1_5.out k) 7 _ rfl, bl_cell (bl_kp R1_5.out k) 8 _ rfl, bl_cell (bl_kp R2_5.out k) 0 _ rfl, bl_cell (bl_kp R2_5.out k) 1 _ rfl, bl_cell (bl_kp R2_5.out k) 2 _ rfl, bl_cell (bl_kp R2_5.out k) 3 _ rfl, bl_cell (bl_kp R2_5.out k) 4 _ rfl, bl_cell (bl_kp R2_5.out k) 5 _ rfl, bl_cell (bl_kp R2_5.out k) 6 _ rfl, bl_cell (bl_kp R2_5.out k) 7 _ rfl, bl_cell (bl_kp R2_5.out k) 8 _ rfl, bl_cell (bl_kp R3_5.out k) 0 _ rfl, bl_cell (bl_kp R3_5.out k) 1 _ rfl, bl_cell (bl_kp R3_5.out k) 2 _ rfl, bl_cell (bl_kp R3_5.out k) 3 _ rfl, bl_cell (bl_kp R3_5.out k) 4 _ rfl, bl_cell (bl_kp R3_5.out k) 5 _ rfl, bl_cell (bl_kp R3_5.out k) 6 _ rfl, bl_cell (bl_kp R3_5.out k) 7 _ rfl, bl_cell (bl_kp R3_5.out k) 8 _ rfl, k⟩
  refine wp_region_noPanic ?_
  refine wp_region_held_drew (S := (fun W => W.cell? ⟨V1, 0, none⟩ = some (.int .i64 k1) ∧ W.cell? ⟨V1, 1, none⟩ = some (.int .i64 mn1) ∧ W.cell? ⟨V1, 2, none⟩ = some (.int .i64 mx1) ∧ W.cell? ⟨V1, 3, none⟩ = some (.int .i64 mm1) ∧ W.cell? ⟨V1, 4, none⟩ = some (.int .u64 (t1.a : Int)) ∧ W.cell? ⟨V1, 5, none⟩ = some (.int .u64 (t1.b : Int)) ∧ W.cell? ⟨V1, 6, none⟩ = some (.int .u64 (t1.c : Int)) ∧ W.cell? ⟨V1, 7, none⟩ = some (.int .u64 (t1.d : Int)) ∧ W.cell? ⟨V1, 8, none⟩ = some (.slice ad1 l1 c1) ∧ W.cell? ⟨V2, 0, none⟩ = some (.int .i64 k2) ∧ W.cell? ⟨V2, 1, none⟩ = some (.int .i64 mn2) ∧ W.cell? ⟨V2, 2, none⟩ = some (.int .i64 mx2) ∧ W.cell? ⟨V2, 3, none⟩ = some (.int .i64 mm2) ∧ W.cell? ⟨V2, 4, none⟩ = some (.int .u64 (t2.a : Int)) ∧ W.cell? ⟨V2, 5, none⟩ = some (.int .u64 (t2.b : Int)) ∧ W.cell? ⟨V2, 6, none⟩ = some (.int .u64 (t2.c : Int)) ∧ W.cell? ⟨V2, 7, none⟩ = some (.int .u64 (t2.d : Int)) ∧ W.cell? ⟨V2, 8, none⟩ = some (.slice ad2 l2 c2) ∧ W.cell? ⟨Y3.heap.size, 0, none⟩ = some (.int .i64 k3) ∧ W.cell? ⟨Y3.heap.size, 1, none⟩ = some (.int .i64 mn3) ∧ W.cell? ⟨Y3.heap.size, 2, none⟩ = some (.int .i64 mx3) ∧ W.cell? ⟨Y3.heap.size, 3, none⟩ = some (.int .i64 mm3) ∧ W.cell? ⟨Y3.heap.size, 4, none⟩ = some (.int .u64 (t3.a : Int)) ∧ W.cell? ⟨Y3.heap.size, 5, none⟩ = some (.int .u64 (t3.b : Int)) ∧ W.cell? ⟨Y3.heap.size, 6, none⟩ = some (.int .u64 (t3.c : Int)) ∧ W.cell? ⟨Y3.heap.size, 7, none⟩ = some (.int .u64 (t3.d : Int)) ∧ W.cell? ⟨Y3.heap.size, 8, none⟩ = some (.slice ad3 l3 c3) ∧ Hid (Kp U3 W))) (by kernel_rfl) ?_ (fun hH => ?_)
  ·
   exact MK.out _ Q0
  have KQ := Q0
  refine wpAnyH_take (i := 0) (oi := { dst := some 33, op := Op.load 27 (Operand.tmp 7), type := 27, pos := "law.go:65", after := #[], guard := none }) (v := ?v0g1) rfl (by kernel_rfl) (by kernel_rfl) (by kernel_rfl) (fun _ _ _ h => h) (Or.inl ⟨by rfl, ?hy0g1⟩) hH ?r0g1
  case hy0g1 => (intro W hSw; (try dsimp only at hSw); go_simp; try (with_reducible rfl))
  try simp only [Act.put, List.setIfInBounds_toArray, List.set_cons_zero, List.set_cons_succ]
  refine wpAnyH_take (i := 1) (oi := { dst := some 34, op := Op.move (Operand.tmp 2), type := 4, pos := "law.go:65", after := #[], guard := none }) (v := ?v1g2) rfl (by kernel_rfl) (by kernel_rfl) (by kernel_rfl) (fun _ _ _ h => h) (Or.inl ⟨by rfl, ?hy1g2⟩) hH ?r1g2
  case hy1g2 => (intro W hSw; (try dsimp only at hSw); go_simp; try (with_reducible rfl))
  try simp only [Act.put, List.setIfInBounds_toArray, List.set_cons_zero, List.set_cons_succ]
  refine wpAnyH_ready (rs := [2]) (by kernel_rfl) (by simp) ?_
  refine AllReadyH.cons (o := { dst := some 35, op := Op.call { callee := Callee.value (Operand.func 15), args := #[Operand.tmp 33, Operand.tmp 34], argTypes := #[27, 4] }, type := 4, pos := "law.go:65", after := #[{ on := 0, ground := Ground.data }, { on := 1, ground := Ground.data }], guard := none }) rfl (fun K hKq => ?_) AllReadyH.nil
  go_simp
  refine (RG.out _ (PD1_5.out.kp KQ)).mono ?_
  rintro e y1 ⟨rfl, kq⟩
  refine hKq.out _ _ (MK.out _ (KQ.trans kq)) (fun hN => ?_)
  clear kq
  clear hKq K hH KQ
  have hH := hN
  clear hN
  have KQ := hH.2.2.2.2.2.2.2.2.2.2.2.2.2.2.2.2.2.2.2.2.2.2.2.2.2.2.2.out
  try simp only [Act.put, List.setIfInBounds_toArray, List.set_cons_zero, List.set_cons_succ]
  refine wpAnyH_take (i := 3) (oi := { dst := some 36, op := Op.move (Operand.tmp 35), type := 4, pos := "law.go:65", after := #[{ on := 2, ground := Ground.data }, { on := 2, ground := Ground.chain }], guard := none }) (v := ?v3g3) rfl (by kernel_rfl) (by kernel_rfl) (by kernel_rfl) (fun _ _ _ h => h) (Or.inl ⟨by rfl, ?hy3g3⟩) hH ?r3g3
  case hy3g3 => (intro W hSw; (try dsimp only at hSw); go_simp; try (with_reducible rfl))
  try simp only [Act.put, List.setIfInBounds_toArray, List.set_cons_zero, List.set_cons_succ]
  refine wpAnyH_take (i := 4) (oi := { dst := some 37, op := Op.move (Operand.tmp 13), type := 28, pos := "law.go:65", after := #[{ on := 3, ground := Ground.guard }], guard := some (3, true) }) (v := ?v4g4) rfl (by kernel_rfl) (by kernel_rfl) (by kernel_rfl) (fun _ _ _ h => h) (Or.inl ⟨by rfl, ?hy4g4⟩) hH ?r4g4
  case hy4g4 => (intro W hSw; (try dsimp only at hSw); go_simp; try (with_reducible rfl))
  try simp only [Act.put, List.setIfInBounds_toArray, List.set_cons_zero, List.set_cons_succ]
  refine wpAnyH_take (i := 5) (oi := { dst := some 38, op := Op.binOp BinOp.eql 28 (Operand.tmp 37) (Operand.const (Value.int IntKind.i64 0)) 28, type := 4, pos := "law.go:65", after := #[{ on := 4, ground := Ground.data }, { on := 3, ground := Ground.guard }], guard := some (3, true) }) (v := ?v5g5) rfl (by kernel_rfl) (by kernel_rfl) (by kernel_rfl) (fun _ _ _ h => h) (Or.inl ⟨by rfl, ?hy5g5⟩) hH ?r5g5
  case hy5g5 => (intro W hSw; (try dsimp only at hSw); go_simp; try (with_reducible rfl))
  try simp only [Act.put, List.setIfInBounds_toArray, List.set_cons_zero, List.set_cons_succ]
  refine wpAnyH_take (i := 6) (oi := { dst := some 39, op := Op.pick (Operand.tmp 36) (Operand.tmp 38) (Operand.const (Value.bool false)), type := 4, pos := "law.go:65", after := #[{ on := 3, ground := Ground.data }, { on := 5, ground := Ground.data }], guard := none }) (v := ?v6g6) rfl (by kernel_rfl) (by kernel_rfl) (by kernel_rfl) (fun _ _ _ h => h) (Or.inl ⟨by rfl, ?hy6g6⟩) hH ?r6g6
  case hy6g6 => (intro W hSw; (try dsimp only at hSw); go_simp; try (with_reducible rfl))
  try simp only [Act.put, List.setIfInBounds_toArray, List.set_cons_zero, List.set_cons_succ]
  refine wpAnyH_take (i := 7) (oi := { dst := some 40, op := Op.move (Operand.tmp 39), type := 4, pos := "law.go:65", after := #[{ on := 6, ground := Ground.data }, { on := 3, ground := Ground.chain }], guard := none }) (v := ?v7g7) rfl (by kernel_rfl) (by kernel_rfl) (by kernel_rfl) (fun _ _ _ h => h) (Or.inl ⟨by rfl, ?hy7g7⟩) hH ?r7g7
  case hy7g7 => (intro W hSw; (try dsimp only at hSw); go_simp; try (with_reducible rfl))
  try simp only [Act.put, List.setIfInBounds_toArray, List.set_cons_zero, List.set_cons_succ]
  refine wpAnyH_take (i := 8) (oi := { dst := some 41, op := Op.move (Operand.tmp 12), type := 3, pos := "law.go:65", after := #[{ on := 7, ground := Ground.guard }], guard := some (7, true) }) (v := ?v8g8) rfl (by kernel_rfl) (by kernel_rfl) (by kernel_rfl) (fun _ _ _ h => h) (Or.inl ⟨by rfl, ?hy8g8⟩) hH ?r8g8
  case hy8g8 => (intro W hSw; (try dsimp only at hSw); go_simp; try (with_reducible rfl))
  try simp only [Act.put, List.setIfInBounds_toArray, List.set_cons_zero, List.set_cons_succ]
  refine wpAnyH_take (i := 9) (oi := { dst := some 42, op := Op.binOp BinOp.eql 3 (Operand.tmp 41) (Operand.const (Value.int IntKind.i64 0)) 3, type := 4, pos := "law.go:65", after := #[{ on := 8, ground := Ground.data }, { on := 7, ground := Ground.guard }], guard := some (7, true) }) (v := ?v9g9) rfl (by kernel_rfl) (by kernel_rfl) (by kernel_rfl) (fun _ _ _ h => h) (Or.inl ⟨by rfl, ?hy9g9⟩) hH ?r9g9
  case hy9g9 => (intro W hSw; (try dsimp only at hSw); go_simp; try (with_reducible rfl))
  try simp only [Act.put, List.setIfInBounds_toArray, List.set_cons_zero, List.set_cons_succ]
  refine wpAnyH_take (i := 10) (oi := { dst := some 43, op := Op.pick (Operand.tmp 40) (Operand.tmp 42) (Operand.const (Value.bool false)), type := 4, pos := "law.go:65", after := #[{ on := 7, ground := Ground.data }, { on := 9, ground := Ground.data }], guard := none }) (v := ?v10g10) rfl (by kernel_rfl) (by kernel_rfl) (by kernel_rfl) (fun _ _ _ h => h) (Or.inl ⟨by rfl, ?hy10g10⟩) hH ?r10g10
  case hy10g10 => (intro W hSw; (try dsimp only at hSw); go_simp; try (with_reducible rfl))
  try simp only [Act.put, List.setIfInBounds_toArray, List.set_cons_zero, List.set_cons_succ]
  refine wpAnyH_take (i := 11) (oi := { dst := some 44, op := Op.move (Operand.tmp 43), type := 4, pos := "law.go:65", after := #[{ on := 10, ground := Ground.data }, { on := 7, ground := Ground.chain }], guard := none }) (v := ?v11g11) rfl (by kernel_rfl) (by kernel_rfl) (by kernel_rfl) (fun _ _ _ h => h) (Or.inl ⟨by rfl, ?hy11g11⟩) hH ?r11g11
  case hy11g11 => (intro W hSw; (try dsimp only at hSw); go_simp; try (with_reducible rfl))
  try simp only [Act.put, List.setIfInBounds_toArray, List.set_cons_zero, List.set_cons_succ]
  refine wpAnyH_take (i := 12) (oi := { dst := some 45, op := Op.load 27 (Operand.tmp 11), type := 27, pos := "law.go:65", after := #[{ on := 11, ground := Ground.guard }], guard := some (11, true) }) (v := ?v12g12) rfl (by kernel_rfl) (by kernel_rfl) (by kernel_rfl) (fun _ _ _ h => h) (Or.inl ⟨by rfl, ?hy12g12⟩) hH ?r12g12
  case hy12g12 => (intro W hSw; (try dsimp only at hSw); go_simp; try (with_reducible rfl))
  try simp only [Act.put, List.setIfInBounds_toArray, List.set_cons_zero, List.set_cons_succ]
  refine wpAnyH_take (i := 13) (oi := { dst := some 46, op := Op.load 27 (Operand.tmp 7), type := 27, pos := "law.go:65", after := #[{ on := 11, ground := Ground.guard }], guard := some (11, true) }) (v := ?v13g13) rfl (by kernel_rfl) (by kernel_rfl) (by kernel_rfl) (fun _ _ _ h => h) (Or.inl ⟨by rfl, ?hy13g13⟩) hH ?r13g13
  case hy13g13 => (intro W hSw; (try dsimp only at hSw); go_simp; try (with_reducible rfl))
  try simp only [Act.put, List.setIfInBounds_toArray, List.set_cons_zero, List.set_cons_succ]
  refine wpAnyH_ready (rs := [14]) (by kernel_rfl) (by simp) ?_
  refine AllReadyH.cons (o := { dst := some 47, op := Op.call { callee := Callee.value (Operand.func 20), args := #[Operand.tmp 45, Operand.tmp 46], argTypes := #[27, 27] }, type := 4, pos := "law.go:65", after := #[{ on := 12, ground := Ground.data }, { on := 13, ground := Ground.data }, { on := 11, ground := Ground.chain }, { on := 11, ground := Ground.guard }], guard := some (11, true) }) rfl (fun K hKq => ?_) AllReadyH.nil
  go_simp
  refine (KS.out _ (PD3_5.out.kp KQ) (PD1_5.out.kp KQ)).mono ?_
  rintro e y2 ⟨rfl, kq⟩
  refine hKq.out _ _ (MK.out _ (KQ.trans kq)) (fun hN => ?_)
  clear kq
  clear hKq K hH KQ
  have hH := hN
  clear hN
  have KQ := hH.2.2.2.2.2.2.2.2.2.2.2.2.2.2.2.2.2.2.2.2.2.2.2.2.2.2.2.out
  try simp only [Act.put, List.setIfInBounds_toArray, List.set_cons_zero, List.set_cons_succ]
  refine wpAnyH_take (i := 15) (oi := { dst := some 48, op := Op.pick (Operand.tmp 44) (Operand.tmp 47) (Operand.const (Value.bool false)), type := 4, pos := "law.go:65", after := #[{ on := 11, ground := Ground.data }, { on := 14, ground := Ground.data }], guard := none }) (v := ?v15g14) rfl (by kernel_rfl) (by kernel_rfl) (by kernel_rfl) (fun _ _ _ h => h) (Or.inl ⟨by rfl, ?hy15g14⟩) hH ?r15g14
  case hy15g14 => (intro W hSw; (try dsimp only at hSw); go_simp; try (with_reducible rfl))
  try simp only [Act.put, List.setIfInBounds_toArray, List.set_cons_zero, List.set_cons_succ]
  refine wpAnyH_take (i := 16) (oi := { dst := some 49, op := Op.move (Operand.tmp 48), type := 4, pos := "law.go:65", after := #[{ on := 15, ground := Ground.data }, { on := 14, ground := Ground.chain }], guard := none }) (v := ?v16g15) rfl (by kernel_rfl) (by kernel_rfl) (by kernel_rfl) (fun _ _ _ h => h) (Or.inl ⟨by rfl, ?hy16g15⟩) hH ?r16g15
  case hy16g15 => (intro W hSw; (try dsimp only at hSw); go_simp; try (with_reducible rfl))
  try simp only [Act.put, List.setIfInBounds_toArray, List.set_cons_zero, List.set_cons_succ]
  refine wpAnyH_take (i := 17) (oi := { dst := some 50, op := Op.move (Operand.tmp 9), type := 9, pos := "law.go:65", after := #[{ on := 16, ground := Ground.guard }], guard := some (16, true) }) (v := ?v17g16) rfl (by kernel_rfl) (by kernel_rfl) (by kernel_rfl) (fun _ _ _ h => h) (Or.inl ⟨by rfl, ?hy17g16⟩) hH ?r17g16
  case hy17g16 => (intro W hSw; (try dsimp only at hSw); go_simp; try (with_reducible rfl))
  try simp only [Act.put, List.setIfInBounds_toArray, List.set_cons_zero, List.set_cons_succ]
  refine wpAnyH_take (i := 18) (oi := { dst := some 51, op := Op.move (Operand.tmp 10), type := 9, pos := "law.go:65", after := #[{ on := 16, ground := Ground.guard }], guard := some (16, true) }) (v := ?v18g17) rfl (by kernel_rfl) (by kernel_rfl) (by kernel_rfl) (fun _ _ _ h => h) (Or.inl ⟨by rfl, ?hy18g17⟩) hH ?r18g17
  case hy18g17 => (intro W hSw; (try dsimp only at hSw); go_simp; try (with_reducible rfl))
  try simp only [Act.put, List.setIfInBounds_toArray, List.set_cons_zero, List.set_cons_succ]
  refine wpAnyH_take (i := 19) (oi := { dst := some 52, op := Op.binOp BinOp.eql 9 (Operand.tmp 50) (Operand.tmp 51) 9, type := 4, pos := "law.go:65", after := #[{ on := 17, ground := Ground.data }, { on := 18, ground := Ground.data }, { on := 16, ground := Ground.guard }], guard := some (16, true) }) (v := ?v19g18) rfl (by kernel_rfl) (by kernel_rfl) (by kernel_rfl) (fun _ _ _ h => h) (Or.inl ⟨by rfl, ?hy19g18⟩) hH ?r19g18
  case hy19g18 => (intro W hSw; (try dsimp only at hSw); go_simp; try (with_reducible rfl))
  try simp only [Act.put, List.setIfInBounds_toArray, List.set_cons_zero, List.set_cons_succ]
  refine wpAnyH_take (i := 20) (oi := { dst := some 53, op := Op.load 27 (Operand.tmp 7), type := 27, pos := "law.go:65", after := #[{ on := 16, ground := Ground.guard }], guard := some (16, true) }) (v := ?v20g19) rfl (by kernel_rfl) (by kernel_rfl) (by kernel_rfl) (fun _ _ _ h => h) (Or.inl ⟨by rfl, ?hy20g19⟩) hH ?r20g19
  case hy20g19 => (intro W hSw; (try dsimp only at hSw); go_simp; try (with_reducible rfl))
  try simp only [Act.put, List.setIfInBounds_toArray, List.set_cons_zero, List.set_cons_succ]
  refine wpAnyH_take (i := 21) (oi := { dst := some 54, op := Op.load 27 (Operand.tmp 8), type := 27, pos := "law.go:65", after := #[{ on := 16, ground := Ground.guard }], guard := some (16, true) }) (v := ?v21g20) rfl (by kernel_rfl) (by kernel_rfl) (by kernel_rfl) (fun _ _ _ h => h) (Or.inl ⟨by rfl, ?hy21g20⟩) hH ?r21g20
  case hy21g20 => (intro W hSw; (try dsimp only at hSw); go_simp; try (with_reducible rfl))
  try simp only [Act.put, List.setIfInBounds_toArray, List.set_cons_zero, List.set_cons_succ]
  refine wpAnyH_ready (rs := [22]) (by kernel_rfl) (by simp) ?_
  refine AllReadyH.cons (o := { dst := some 55, op := Op.call { callee := Callee.value (Operand.func 20), args := #[Operand.tmp 53, Operand.tmp 54], argTypes := #[27, 27] }, type := 4, pos := "law.go:65", after := #[{ on := 20, ground := Ground.data }, { on := 21, ground := Ground.data }, { on := 16, ground := Ground.chain }, { on := 16, ground := Ground.guard }], guard := some (16, true) }) rfl (fun K hKq => ?_) AllReadyH.nil
  go_simp
  refine (KQ2.out _ (PD1_5.out.kp KQ) (PD2_5.out.kp KQ)).mono ?_
  rintro e y3 ⟨rfl, kq⟩
  refine hKq.out _ _ (MK.out _ (KQ.trans kq)) (fun hN => ?_)
  clear kq
  clear hKq K hH KQ
  have hH := hN
  clear hN
  have KQ := hH.2.2.2.2.2.2.2.2.2.2.2.2.2.2.2.2.2.2.2.2.2.2.2.2.2.2.2.out
  try simp only [Act.put, List.setIfInBounds_toArray, List.set_cons_zero, List.set_cons_succ]
  refine wpAnyH_take (i := 23) (oi := { dst := some 56, op := Op.binOp BinOp.eql 4 (Operand.tmp 52) (Operand.tmp 55) 4, type := 4, pos := "law.go:65", after := #[{ on := 19, ground := Ground.data }, { on := 22, ground := Ground.data }, { on := 16, ground := Ground.guard }], guard := some (16, true) }) (v := ?v23g21) rfl (by kernel_rfl) (by kernel_rfl) (by kernel_rfl) (fun _ _ _ h => h) (Or.inl ⟨by rfl, ?hy23g21⟩) hH ?r23g21
  case hy23g21 => (intro W hSw; (try dsimp only at hSw); go_simp; try (with_reducible rfl))
  try simp only [Act.put, List.setIfInBounds_toArray, List.set_cons_zero, List.set_cons_succ]
  refine wpAnyH_take (i := 24) (oi := { dst := some 57, op := Op.pick (Operand.tmp 49) (Operand.tmp 56) (Operand.const (Value.bool false)), type := 4, pos := "law.go:65", after := #[{ on := 16, ground := Ground.data }, { on := 23, ground := Ground.data }], guard := none }) (v := ?v24g22) rfl (by kernel_rfl) (by kernel_rfl) (by kernel_rfl) (fun _ _ _ h => h) (Or.inl ⟨by rfl, ?hy24g22⟩) hH ?r24g22
  case hy24g22 => (intro W hSw; (try dsimp only at hSw); go_simp; try (with_reducible rfl))
  try simp only [Act.put, List.setIfInBounds_toArray, List.set_cons_zero, List.set_cons_succ]
  refine wpAnyH_take (i := 25) (oi := { dst := some 58, op := Op.move (Operand.tmp 57), type := 4, pos := "law.go:65", after := #[{ on := 24, ground := Ground.data }, { on := 22, ground := Ground.chain }], guard := none }) (v := ?v25g23) rfl (by kernel_rfl) (by kernel_rfl) (by kernel_rfl) (fun _ _ _ h => h) (Or.inl ⟨by rfl, ?hy25g23⟩) hH ?r25g23
  case hy25g23 => (intro W hSw; (try dsimp only at hSw); go_simp; try (with_reducible rfl))
  try simp only [Act.put, List.setIfInBounds_toArray, List.set_cons_zero, List.set_cons_succ]
  refine wpAnyH_take (i := 26) (oi := { dst := some 59, op := Op.load 27 (Operand.tmp 7), type := 27, pos := "law.go:65", after := #[{ on := 25, ground := Ground.guard }], guard := some (25, true) }) (v := ?v26g24) rfl (by kernel_rfl) (by kernel_rfl) (by kernel_rfl) (fun _ _ _ h => h) (Or.inl ⟨by rfl, ?hy26g24⟩) hH ?r26g24
  case hy26g24 => (intro W hSw; (try dsimp only at hSw); go_simp; try (with_reducible rfl))
  try simp only [Act.put, List.setIfInBounds_toArray, List.set_cons_zero, List.set_cons_succ]
  refine wpAnyH_take (i := 27) (oi := { dst := some 60, op := Op.load 27 (Operand.tmp 8), type := 27, pos := "law.go:65", after := #[{ on := 25, ground := Ground.guard }], guard := some (25, true) }) (v := ?v27g25) rfl (by kernel_rfl) (by kernel_rfl) (by kernel_rfl) (fun _ _ _ h => h) (Or.inl ⟨by rfl, ?hy27g25⟩) hH ?r27g25
  case hy27g25 => (intro W hSw; (try dsimp only at hSw); go_simp; try (with_reducible rfl))
  try simp only [Act.put, List.setIfInBounds_toArray, List.set_cons_zero, List.set_cons_succ]
  refine wpAnyH_take (i := 29) (oi := { dst := some 62, op := Op.load 27 (Operand.tmp 7), type := 27, pos := "law.go:65", after := #[{ on := 25, ground := Ground.guard }], guard := some (25, true) }) (v := ?v29g26) rfl (by kernel_rfl) (by kernel_rfl) (by kernel_rfl) (fun _ _ _ h => h) (Or.inl ⟨by rfl, ?hy29g26⟩) hH ?r29g26
  case hy29g26 => (intro W hSw; (try dsimp only at hSw); go_simp; try (with_reducible rfl))
  try simp only [Act.put, List.setIfInBounds_toArray, List.set_cons_zero, List.set_cons_succ]
  refine wpAnyH_take (i := 30) (oi := { dst := some 63, op := Op.load 27 (Operand.tmp 8), type := 27, pos := "law.go:65", after := #[{ on := 25, ground := Ground.guard }], guard := some (25, true) }) (v := ?v30g27) rfl (by kernel_rfl) (by kernel_rfl) (by kernel_rfl) (fun _ _ _ h => h) (Or.inl ⟨by rfl, ?hy30g27⟩) hH ?r30g27
  case hy30g27 => (intro W hSw; (try dsimp only at hSw); go_simp; try (with_reducible rfl))
  try simp only [Act.put, List.setIfInBounds_toArray, List.set_cons_zero, List.set_cons_succ]
  refine wpAnyH_ready (rs := [28]) (by kernel_rfl) (by simp) ?_
  refine AllReadyH.cons (o := { dst := some 61, op := Op.call { callee := Callee.value (Operand.func 16), args := #[Operand.tmp 59, Operand.tmp 60], argTypes := #[27, 27] }, type := 4, pos := "law.go:65", after := #[{ on := 26, ground := Ground.data }, { on := 27, ground := Ground.data }, { on := 25, ground := Ground.chain }, { on := 25, ground := Ground.guard }], guard := some (25, true) }) rfl (fun K hKq => ?_) AllReadyH.nil
  go_simp
  refine (SQ2.out _ (PD1_5.out.kp KQ) (PD2_5.out.kp KQ)).mono ?_
  rintro e y4 ⟨rfl, kq⟩
  refine hKq.out _ _ (MK.out _ (KQ.trans kq)) (fun hN => ?_)
  clear kq
  clear hKq K hH KQ
  have hH := hN
  clear hN
  have KQ := hH.2.2.2.2.2.2.2.2.2.2.2.2.2.2.2.2.2.2.2.2.2.2.2.2.2.2.2.out
  try simp only [Act.put, List.setIfInBounds_toArray, List.set_cons_zero, List.set_cons_succ]
  refine wpAnyH_ready (rs := [31]) (by kernel_rfl) (by simp) ?_
  refine AllReadyH.cons (o := { dst := some 64, op := Op.call { callee := Callee.value (Operand.func 20), args := #[Operand.tmp 62, Operand.tmp 63], argTypes := #[27, 27] }, type := 4, pos := "law.go:65", after := #[{ on := 29, ground := Ground.data }, { on := 30, ground := Ground.data }, { on := 28, ground := Ground.chain }, { on := 25, ground := Ground.guard }], guard := some (25, true) }) rfl (fun K hKq => ?_) AllReadyH.nil
  go_simp
  refine (KQ2.out _ (PD1_5.out.kp KQ) (PD2_5.out.kp KQ)).mono ?_
  rintro e y5 ⟨rfl, kq⟩
  refine hKq.out _ _ (MK.out _ (KQ.trans kq)) (fun hN => ?_)
  clear kq
  clear hKq K hH KQ
  have hH := hN
  clear hN
  have KQ := hH.2.2.2.2.2.2.2.2.2.2.2.2.2.2.2.2.2.2.2.2.2.2.2.2.2.2.2.out
  try simp only [Act.put, List.setIfInBounds_toArray, List.set_cons_zero, List.set_cons_succ]
  refine wpAnyH_take (i := 32) (oi := { dst := some 65, op := Op.binOp BinOp.eql 4 (Operand.tmp 61) (Operand.tmp 64) 4, type := 4, pos := "law.go:65", after := #[{ on := 28, ground := Ground.data }, { on := 31, ground := Ground.data }, { on := 25, ground := Ground.guard }], guard := some (25, true) }) (v := ?v32g28) rfl (by kernel_rfl) (by kernel_rfl) (by kernel_rfl) (fun _ _ _ h => h) (Or.inl ⟨by rfl, ?hy32g28⟩) hH ?r32g28
  case hy32g28 => (intro W hSw; (try dsimp only at hSw); go_simp; try (with_reducible rfl))
  try simp only [Act.put, List.setIfInBounds_toArray, List.set_cons_zero, List.set_cons_succ]
  refine wpAnyH_take (i := 33) (oi := { dst := some 66, op := Op.pick (Operand.tmp 58) (Operand.tmp 65) (Operand.const (Value.bool false)), type := 4, pos := "law.go:65", after := #[{ on := 25, ground := Ground.data }, { on := 32, ground := Ground.data }], guard := none }) (v := ?v33g29) rfl (by kernel_rfl) (by kernel_rfl) (by kernel_rfl) (fun _ _ _ h => h) (Or.inl ⟨by rfl, ?hy33g29⟩) hH ?r33g29
  case hy33g29 => (intro W hSw; (try dsimp only at hSw); go_simp; try (with_reducible rfl))
  try simp only [Act.put, List.setIfInBounds_toArray, List.set_cons_zero, List.set_cons_succ]
  refine wpAnyH_take (i := 34) (oi := { dst := some 67, op := Op.move (Operand.tmp 66), type := 4, pos := "law.go:65", after := #[{ on := 33, ground := Ground.data }, { on := 31, ground := Ground.chain }], guard := none }) (v := ?v34g30) rfl (by kernel_rfl) (by kernel_rfl) (by kernel_rfl) (fun _ _ _ h => h) (Or.inl ⟨by rfl, ?hy34g30⟩) hH ?r34g30
  case hy34g30 => (intro W hSw; (try dsimp only at hSw); go_simp; try (with_reducible rfl))
  try simp only [Act.put, List.setIfInBounds_toArray, List.set_cons_zero, List.set_cons_succ]
  refine wpAnyH_ready (rs := [35]) (by kernel_rfl) (by simp) ?_
  refine AllReadyH.cons (o := { dst := some 68, op := Op.call { callee := Callee.value (Operand.func 3), args := #[], argTypes := #[] }, type := 4, pos := "law.go:65", after := #[{ on := 34, ground := Ground.chain }, { on := 34, ground := Ground.guard }], guard := some (34, true) }) rfl (fun K hKq => ?_) AllReadyH.nil
  go_simp
  refine (runs_any _ (cell0 Z_5.out KQ)).mono ?_
  rintro e y6 ⟨rfl, kq⟩
  refine hKq.out _ _ (MK.out _ (KQ.trans kq)) (fun hN => ?_)
  clear kq
  clear hKq K hH KQ
  have hH := hN
  clear hN
  have KQ := hH.2.2.2.2.2.2.2.2.2.2.2.2.2.2.2.2.2.2.2.2.2.2.2.2.2.2.2.out
  try simp only [Act.put, List.setIfInBounds_toArray, List.set_cons_zero, List.set_cons_succ]
  refine wpAnyH_take (i := 36) (oi := { dst := some 69, op := Op.pick (Operand.tmp 67) (Operand.tmp 68) (Operand.const (Value.bool false)), type := 4, pos := "law.go:65", after := #[{ on := 34, ground := Ground.data }, { on := 35, ground := Ground.data }], guard := none }) (v := ?v36g31) rfl (by kernel_rfl) (by kernel_rfl) (by kernel_rfl) (fun _ _ _ h => h) (Or.inl ⟨by rfl, ?hy36g31⟩) hH ?r36g31
  case hy36g31 => (intro W hSw; (try dsimp only at hSw); go_simp; try (with_reducible rfl))
  try simp only [Act.put, List.setIfInBounds_toArray, List.set_cons_zero, List.set_cons_succ]
  refine wpAnyH_take (i := 37) (oi := { dst := some 6, op := Op.assign (Operand.tmp 69), type := 4, pos := "law.go:65", after := #[{ on := 36, ground := Ground.data }, { on := 35, ground := Ground.chain }, { on := 0, ground := Ground.phase }, { on := 1, ground := Ground.phase }, { on := 2, ground := Ground.phase }, { on := 3, ground := Ground.phase }, { on := 4, ground := Ground.phase }, { on := 5, ground := Ground.phase }, { on := 6, ground := Ground.phase }, { on := 7, ground := Ground.phase }, { on := 8, ground := Ground.phase }, { on := 9, ground := Ground.phase }, { on := 10, ground := Ground.phase }, { on := 11, ground := Ground.phase }, { on := 12, ground := Ground.phase }, { on := 13, ground := Ground.phase }, { on := 14, ground := Ground.phase }, { on := 15, ground := Ground.phase }, { on := 16, ground := Ground.phase }, { on := 17, ground := Ground.phase }, { on := 18, ground := Ground.phase }, { on := 19, ground := Ground.phase }, { on := 20, ground := Ground.phase }, { on := 21, ground := Ground.phase }, { on := 22, ground := Ground.phase }, { on := 23, ground := Ground.phase }, { on := 24, ground := Ground.phase }, { on := 25, ground := Ground.phase }, { on := 26, ground := Ground.phase }, { on := 27, ground := Ground.phase }, { on := 28, ground := Ground.phase }, { on := 29, ground := Ground.phase }, { on := 30, ground := Ground.phase }, { on := 31, ground := Ground.phase }, { on := 32, ground := Ground.phase }, { on := 33, ground := Ground.phase }, { on := 34, ground := Ground.phase }, { on := 35, ground := Ground.phase }, { on := 36, ground := Ground.phase }], guard := none }) (v := ?v37g32) rfl (by kernel_rfl) (by kernel_rfl) (by kernel_rfl) (fun _ _ _ h => h) (Or.inl ⟨by rfl, ?hy37g32⟩) hH ?r37g32
  case hy37g32 => (intro W hSw; (try dsimp only at hSw); go_simp; try (with_reducible rfl))
  try simp only [Act.put, List.setIfInBounds_toArray, List.set_cons_zero, List.set_cons_succ]
  refine wpAnyH_done (by kernel_rfl) ?_ _
  refine NoPanic.normal ?_
  go_wp2_with fail
  go_ret
  exact ⟨rfl, K_5.out.trans KQ⟩
 ·
  have hb : sameR T1 T2 = false := by
   cases hq : sameR T1 T2 with
   | false => rfl
   | true => exact absurd (HIJ.out.2 (sameR_eq T1 T2 hq)) hS
  have KQ2 := hid (talk_ksame T1 T2 false HO1.out hb)
  have SQ2 := hid (talk_same T1 T2 false HO1.out hb)
  have hSl : ¬ S1.toList = S2.toList := fun e => hS (by
   rw [ByteArray.toList_eq, ByteArray.toList_eq] at e
   cases S1
   cases S2
   exact congrArg ByteArray.mk (Array.toList_inj.1 e))
  have hSb : (S1.toList == S2.toList) = false := beq_false_of_ne hSl
  clear hb HIJ HO1
  have Q0 : Kp U3 U3.drew := (Kp.refl _).drew
  have MK : Hid (∀ W, Kp U3 W → W.cell? ⟨V1, 0, none⟩ = some (.int .i64 k1) ∧ W.cell? ⟨V1, 1, none⟩ = some (.int .i64 mn1) ∧ W.cell? ⟨V1, 2, none⟩ = some (.int .i64 mx1) ∧ W.cell? ⟨V1, 3, none⟩ = some (.int .i64 mm1) ∧ W.cell? ⟨V1, 4, none⟩ = some (.int .u64 (t1.a : Int)) ∧ W.cell? ⟨V1, 5, none⟩ = some (.int .u64 (t1.b : Int)) ∧ W.cell? ⟨V1, 6, none⟩ = some (.int .u64 (t1.c : Int)) ∧ W.cell? ⟨V1, 7, none⟩ = some (.int .u64 (t1.d : Int)) ∧ W.cell? ⟨V1, 8, none⟩ = some (.slice ad1 l1 c1) ∧ W.cell? ⟨V2, 0, none⟩ = some (.int .i64 k2) ∧ W.cell? ⟨V2, 1, none⟩ = some (.int .i64 mn2) ∧ W.cell? ⟨V2, 2, none⟩ = some (.int .i64 mx2) ∧ W.cell? ⟨V2, 3, none⟩ = some (.int .i64 mm2) ∧ W.cell? ⟨V2, 4, none⟩ = some (.int .u64 (t2.a : Int)) ∧ W.cell? ⟨V2, 5, none⟩ = some (.int .u64 (t2.b : Int)) ∧ W.cell? ⟨V2, 6, none⟩ = some (.int .u64 (t2.c : Int)) ∧ W.cell? ⟨V2, 7, none⟩ = some (.int .u64 (t2.d : Int)) ∧ W.cell? ⟨V2, 8, none⟩ = some (.slice ad2 l2 c2) ∧ W.cell? ⟨Y3.heap.size, 0, none⟩ = some (.int .i64 k3) ∧ W.cell? ⟨Y3.heap.size, 1, none⟩ = some (.int .i64 mn3) ∧ W.cell? ⟨Y3.heap.size, 2, none⟩ = some (.int .i64 mx3) ∧ W.cell? ⟨Y3.heap.size, 3, none⟩ = some (.int .i64 mm3) ∧ W.cell? ⟨Y3.heap.size, 4, none⟩ = some (.int .u64 (t3.a : Int)) ∧ W.cell? ⟨Y3.heap.size, 5, none⟩ = some (.int .u64 (t3.b : Int)) ∧ W.cell? ⟨Y3.heap.size, 6, none⟩ = some (.int .u64 (t3.c : Int)) ∧ W.cell? ⟨Y3.heap.size, 7, none⟩ = some (.int .u64 (t3.d : Int)) ∧ W.cell? ⟨Y3.heap.size, 8, none⟩ = some (.slice ad3 l3 c3) ∧ Hid (Kp U3 W)) := fun W k => ⟨bl_cell (bl_kp R1_5.out k) 0 _ rfl, bl_cell (bl_kp R1_5.out k) 1 _ rfl, bl_cell (bl_kp R1_5.out k) 2 _ rfl, bl_cell (bl_kp R1_5.out k) 3 _ rfl, bl_cell (bl_kp R1_5.out k) 4 _ rfl, bl_cell (bl_kp R1_5.out k) 5 _ rfl, bl_cell (bl_kp R1_5.out k) 6 _ rfl, bl_cell (bl_kp R1_5.out k) 7 _ rfl, bl_cell (bl_kp R1_5.out k) 8 _ rfl, bl_cell (bl_kp R2_5.out k) 0 _ rfl, bl_cell (bl_kp R2_5.out k) 1 _ rfl, bl_cell (bl_kp R2_5.out k) 2 _ rfl, bl_cell (bl_kp R2_5.out k) 3 _ rfl, bl_cell (bl_kp R2_5.out k) 4 _ rfl, bl_cell (bl_kp R2_5.out k) 5 _ rfl, bl_cell (bl_kp R2_5.out k) 6 _ rfl, bl_cell (bl_kp R2_5.out k) 7 _ rfl, bl_cell (bl_kp R2_5.out k) 8 _ rfl, bl_cell (bl_kp R3_5.out k) 0 _ rfl, bl_cell (bl_kp R3_5.out k) 1 _ rfl, bl_cell (bl_kp R3_5.out k) 2 _ rfl, bl_cell (bl_kp R3_5.out k) 3 _ rfl, bl_cell (bl_kp R3_5.out k) 4 _ rfl, bl_cell (bl_kp R3_5.out k) 5 _ rfl, bl_cell (bl_kp R3_5.out k) 6 _ rfl, bl_cell (bl_kp R3_5.out k) 7 _ rfl, bl_cell (bl_kp R3_5.out k) 8 _ rfl, k⟩
  refine wp_region_noPanic ?_
  refine wp_region_held_drew (S := (fun W => W.cell? ⟨V1, 0, none⟩ = some (.int .i64 k1) ∧ W.cell? ⟨V1, 1, none⟩ = some (.int .i64 mn1) ∧ W.cell? ⟨V1, 2, none⟩ = some (.int .i64 mx1) ∧ W.cell? ⟨V1, 3, none⟩ = some (.int .i64 mm1) ∧ W.cell? ⟨V1, 4, none⟩ = some (.int .u64 (t1.a : Int)) ∧ W.cell? ⟨V1, 5, none⟩ = some (.int .u64 (t1.b : Int)) ∧ W.cell? ⟨V1, 6, none⟩ = some (.int .u64 (t1.c : Int)) ∧ W.cell? ⟨V1, 7, none⟩ = some (.int .u64 (t1.d : Int)) ∧ W.cell? ⟨V1, 8, none⟩ = some (.slice ad1 l1 c1) ∧ W.cell? ⟨V2, 0, none⟩ = some (.int .i64 k2) ∧ W.cell? ⟨V2, 1, none⟩ = some (.int .i64 mn2) ∧ W.cell? ⟨V2, 2, none⟩ = some (.int .i64 mx2) ∧ W.cell? ⟨V2, 3, none⟩ = some (.int .i64 mm2) ∧ W.cell? ⟨V2, 4, none⟩ = some (.int .u64 (t2.a : Int)) ∧ W.cell? ⟨V2, 5, none⟩ = some (.int .u64 (t2.b : Int)) ∧ W.cell? ⟨V2, 6, none⟩ = some (.int .u64 (t2.c : Int)) ∧ W.cell? ⟨V2, 7, none⟩ = some (.int .u64 (t2.d : Int)) ∧ W.cell? ⟨V2, 8, none⟩ = some (.slice ad2 l2 c2) ∧ W.cell? ⟨Y3.heap.size, 0, none⟩ = some (.int .i64 k3) ∧ W.cell? ⟨Y3.heap.size, 1, none⟩ = some (.int .i64 mn3) ∧ W.cell? ⟨Y3.heap.size, 2, none⟩ = some (.int .i64 mx3) ∧ W.cell? ⟨Y3.heap.size, 3, none⟩ = some (.int .i64 mm3) ∧ W.cell? ⟨Y3.heap.size, 4, none⟩ = some (.int .u64 (t3.a : Int)) ∧ W.cell? ⟨Y3.heap.size, 5, none⟩ = some (.int .u64 (t3.b : Int)) ∧ W.cell? ⟨Y3.heap.size, 6, none⟩ = some (.int .u64 (t3.c : Int)) ∧ W.cell? ⟨Y3.heap.size, 7, none⟩ = some (.int .u64 (t3.d : Int)) ∧ W.cell? ⟨Y3.heap.size, 8, none⟩ = some (.slice ad3 l3 c3) ∧ Hid (Kp U3 W))) (by kernel_rfl) ?_ (fun hH => ?_)
  ·
   exact MK.out _ Q0
  have KQ := Q0
  refine wpAnyH_take (i := 0) (oi := { dst := some 33, op := Op.load 27 (Operand.tmp 7), type := 27, pos := "law.go:65", after := #[], guard := none }) (v := ?v0h1) rfl (by kernel_rfl) (by kernel_rfl) (by kernel_rfl) (fun _ _ _ h => h) (Or.inl ⟨by rfl, ?hy0h1⟩) hH ?r0h1
  case hy0h1 => (intro W hSw; (try dsimp only at hSw); go_simp; try (with_reducible rfl))
  try simp only [Act.put, List.setIfInBounds_toArray, List.set_cons_zero, List.set_cons_succ]
  refine wpAnyH_take (i := 1) (oi := { dst := some 34, op := Op.move (Operand.tmp 2), type := 4, pos := "law.go:65", after := #[], guard := none }) (v := ?v1h2) rfl (by kernel_rfl) (by kernel_rfl) (by kernel_rfl) (fun _ _ _ h => h) (Or.inl ⟨by rfl, ?hy1h2⟩) hH ?r1h2
  case hy1h2 => (intro W hSw; (try dsimp only at hSw); go_simp; try (with_reducible rfl))
  try simp only [Act.put, List.setIfInBounds_toArray, List.set_cons_zero, List.set_cons_succ]
  refine wpAnyH_ready (rs := [2]) (by kernel_rfl) (by simp) ?_
  refine AllReadyH.cons (o := { dst := some 35, op := Op.call { callee := Callee.value (Operand.func 15), args := #[Operand.tmp 33, Operand.tmp 34], argTypes := #[27, 4] }, type := 4, pos := "law.go:65", after := #[{ on := 0, ground := Ground.data }, { on := 1, ground := Ground.data }], guard := none }) rfl (fun K hKq => ?_) AllReadyH.nil
  go_simp
  refine (RG.out _ (PD1_5.out.kp KQ)).mono ?_
  rintro e y1 ⟨rfl, kq⟩
  refine hKq.out _ _ (MK.out _ (KQ.trans kq)) (fun hN => ?_)
  clear kq
  clear hKq K hH KQ
  have hH := hN
  clear hN
  have KQ := hH.2.2.2.2.2.2.2.2.2.2.2.2.2.2.2.2.2.2.2.2.2.2.2.2.2.2.2.out
  try simp only [Act.put, List.setIfInBounds_toArray, List.set_cons_zero, List.set_cons_succ]
  refine wpAnyH_take (i := 3) (oi := { dst := some 36, op := Op.move (Operand.tmp 35), type := 4, pos := "law.go:65", after := #[{ on := 2, ground := Ground.data }, { on := 2, ground := Ground.chain }], guard := none }) (v := ?v3h3) rfl (by kernel_rfl) (by kernel_rfl) (by kernel_rfl) (fun _ _ _ h => h) (Or.inl ⟨by rfl, ?hy3h3⟩) hH ?r3h3
  case hy3h3 => (intro W hSw; (try dsimp only at hSw); go_simp; try (with_reducible rfl))
  try simp only [Act.put, List.setIfInBounds_toArray, List.set_cons_zero, List.set_cons_succ]
  refine wpAnyH_take (i := 4) (oi := { dst := some 37, op := Op.move (Operand.tmp 13), type := 28, pos := "law.go:65", after := #[{ on := 3, ground := Ground.guard }], guard := some (3, true) }) (v := ?v4h4) rfl (by kernel_rfl) (by kernel_rfl) (by kernel_rfl) (fun _ _ _ h => h) (Or.inl ⟨by rfl, ?hy4h4⟩) hH ?r4h4
  case hy4h4 => (intro W hSw; (try dsimp only at hSw); go_simp; try (with_reducible rfl))
  try simp only [Act.put, List.setIfInBounds_toArray, List.set_cons_zero, List.set_cons_succ]
  refine wpAnyH_take (i := 5) (oi := { dst := some 38, op := Op.binOp BinOp.eql 28 (Operand.tmp 37) (Operand.const (Value.int IntKind.i64 0)) 28, type := 4, pos := "law.go:65", after := #[{ on := 4, ground := Ground.data }, { on := 3, ground := Ground.guard }], guard := some (3, true) }) (v := ?v5h5) rfl (by kernel_rfl) (by kernel_rfl) (by kernel_rfl) (fun _ _ _ h => h) (Or.inl ⟨by rfl, ?hy5h5⟩) hH ?r5h5
  case hy5h5 => (intro W hSw; (try dsimp only at hSw); go_simp; try (with_reducible rfl))
  try simp only [Act.put, List.setIfInBounds_toArray, List.set_cons_zero, List.set_cons_succ]
  refine wpAnyH_take (i := 6) (oi := { dst := some 39, op := Op.pick (Operand.tmp 36) (Operand.tmp 38) (Operand.const (Value.bool false)), type := 4, pos := "law.go:65", after := #[{ on := 3, ground := Ground.data }, { on := 5, ground := Ground.data }], guard := none }) (v := ?v6h6) rfl (by kernel_rfl) (by kernel_rfl) (by kernel_rfl) (fun _ _ _ h => h) (Or.inl ⟨by rfl, ?hy6h6⟩) hH ?r6h6
  case hy6h6 => (intro W hSw; (try dsimp only at hSw); go_simp; try (with_reducible rfl))
  try simp only [Act.put, List.setIfInBounds_toArray, List.set_cons_zero, List.set_cons_succ]
  refine wpAnyH_take (i := 7) (oi := { dst := some 40, op := Op.move (Operand.tmp 39), type := 4, pos := "law.go:65", after := #[{ on := 6, ground := Ground.data }, { on := 3, ground := Ground.chain }], guard := none }) (v := ?v7h7) rfl (by kernel_rfl) (by kernel_rfl) (by kernel_rfl) (fun _ _ _ h => h) (Or.inl ⟨by rfl, ?hy7h7⟩) hH ?r7h7
  case hy7h7 => (intro W hSw; (try dsimp only at hSw); go_simp; try (with_reducible rfl))
  try simp only [Act.put, List.setIfInBounds_toArray, List.set_cons_zero, List.set_cons_succ]
  refine wpAnyH_take (i := 8) (oi := { dst := some 41, op := Op.move (Operand.tmp 12), type := 3, pos := "law.go:65", after := #[{ on := 7, ground := Ground.guard }], guard := some (7, true) }) (v := ?v8h8) rfl (by kernel_rfl) (by kernel_rfl) (by kernel_rfl) (fun _ _ _ h => h) (Or.inl ⟨by rfl, ?hy8h8⟩) hH ?r8h8
  case hy8h8 => (intro W hSw; (try dsimp only at hSw); go_simp; try (with_reducible rfl))
  try simp only [Act.put, List.setIfInBounds_toArray, List.set_cons_zero, List.set_cons_succ]
  refine wpAnyH_take (i := 9) (oi := { dst := some 42, op := Op.binOp BinOp.eql 3 (Operand.tmp 41) (Operand.const (Value.int IntKind.i64 0)) 3, type := 4, pos := "law.go:65", after := #[{ on := 8, ground := Ground.data }, { on := 7, ground := Ground.guard }], guard := some (7, true) }) (v := ?v9h9) rfl (by kernel_rfl) (by kernel_rfl) (by kernel_rfl) (fun _ _ _ h => h) (Or.inl ⟨by rfl, ?hy9h9⟩) hH ?r9h9
  case hy9h9 => (intro W hSw; (try dsimp only at hSw); go_simp; try (with_reducible rfl))
  try simp only [Act.put, List.setIfInBounds_toArray, List.set_cons_zero, List.set_cons_succ]
  refine wpAnyH_take (i := 10) (oi := { dst := some 43, op := Op.pick (Operand.tmp 40) (Operand.tmp 42) (Operand.const (Value.bool false)), type := 4, pos := "law.go:65", after := #[{ on := 7, ground := Ground.data }, { on := 9, ground := Ground.data }], guard := none }) (v := ?v10h10) rfl (by kernel_rfl) (by kernel_rfl) (by kernel_rfl) (fun _ _ _ h => h) (Or.inl ⟨by rfl, ?hy10h10⟩) hH ?r10h10
  case hy10h10 => (intro W hSw; (try dsimp only at hSw); go_simp; try (with_reducible rfl))
  try simp only [Act.put, List.setIfInBounds_toArray, List.set_cons_zero, List.set_cons_succ]
  refine wpAnyH_take (i := 11) (oi := { dst := some 44, op := Op.move (Operand.tmp 43), type := 4, pos := "law.go:65", after := #[{ on := 10, ground := Ground.data }, { on := 7, ground := Ground.chain }], guard := none }) (v := ?v11h11) rfl (by kernel_rfl) (by kernel_rfl) (by kernel_rfl) (fun _ _ _ h => h) (Or.inl ⟨by rfl, ?hy11h11⟩) hH ?r11h11
  case hy11h11 => (intro W hSw; (try dsimp only at hSw); go_simp; try (with_reducible rfl))
  try simp only [Act.put, List.setIfInBounds_toArray, List.set_cons_zero, List.set_cons_succ]
  refine wpAnyH_take (i := 12) (oi := { dst := some 45, op := Op.load 27 (Operand.tmp 11), type := 27, pos := "law.go:65", after := #[{ on := 11, ground := Ground.guard }], guard := some (11, true) }) (v := ?v12h12) rfl (by kernel_rfl) (by kernel_rfl) (by kernel_rfl) (fun _ _ _ h => h) (Or.inl ⟨by rfl, ?hy12h12⟩) hH ?r12h12
  case hy12h12 => (intro W hSw; (try dsimp only at hSw); go_simp; try (with_reducible rfl))
  try simp only [Act.put, List.setIfInBounds_toArray, List.set_cons_zero, List.set_cons_succ]
  refine wpAnyH_take (i := 13) (oi := { dst := some 46, op := Op.load 27 (Operand.tmp 7), type := 27, pos := "law.go:65", after := #[{ on := 11, ground := Ground.guard }], guard := some (11, true) }) (v := ?v13h13) rfl (by kernel_rfl) (by kernel_rfl) (by kernel_rfl) (fun _ _ _ h => h) (Or.inl ⟨by rfl, ?hy13h13⟩) hH ?r13h13
  case hy13h13 => (intro W hSw; (try dsimp only at hSw); go_simp; try (with_reducible rfl))
  try simp only [Act.put, List.setIfInBounds_toArray, List.set_cons_zero, List.set_cons_succ]
  refine wpAnyH_ready (rs := [14]) (by kernel_rfl) (by simp) ?_
  refine AllReadyH.cons (o := { dst := some 47, op := Op.call { callee := Callee.value (Operand.func 20), args := #[Operand.tmp 45, Operand.tmp 46], argTypes := #[27, 27] }, type := 4, pos := "law.go:65", after := #[{ on := 12, ground := Ground.data }, { on := 13, ground := Ground.data }, { on := 11, ground := Ground.chain }, { on := 11, ground := Ground.guard }], guard := some (11, true) }) rfl (fun K hKq => ?_) AllReadyH.nil
  go_simp
  refine (KS.out _ (PD3_5.out.kp KQ) (PD1_5.out.kp KQ)).mono ?_
  rintro e y2 ⟨rfl, kq⟩
  refine hKq.out _ _ (MK.out _ (KQ.trans kq)) (fun hN => ?_)
  clear kq
  clear hKq K hH KQ
  have hH := hN
  clear hN
  have KQ := hH.2.2.2.2.2.2.2.2.2.2.2.2.2.2.2.2.2.2.2.2.2.2.2.2.2.2.2.out
  try simp only [Act.put, List.setIfInBounds_toArray, List.set_cons_zero, List.set_cons_succ]
  refine wpAnyH_take (i := 15) (oi := { dst := some 48, op := Op.pick (Operand.tmp 44) (Operand.tmp 47) (Operand.const (Value.bool false)), type := 4, pos := "law.go:65", after := #[{ on := 11, ground := Ground.data }, { on := 14, ground := Ground.data }], guard := none }) (v := ?v15h14) rfl (by kernel_rfl) (by kernel_rfl) (by kernel_rfl) (fun _ _ _ h => h) (Or.inl ⟨by rfl, ?hy15h14⟩) hH ?r15h14
  case hy15h14 => (intro W hSw; (try dsimp only at hSw); go_simp; try (with_reducible rfl))
  try simp only [Act.put, List.setIfInBounds_toArray, List.set_cons_zero, List.set_cons_succ]
  refine wpAnyH_take (i := 16) (oi := { dst := some 49, op := Op.move (Operand.tmp 48), type := 4, pos := "law.go:65", after := #[{ on := 15, ground := Ground.data }, { on := 14, ground := Ground.chain }], guard := none }) (v := ?v16h15) rfl (by kernel_rfl) (by kernel_rfl) (by kernel_rfl) (fun _ _ _ h => h) (Or.inl ⟨by rfl, ?hy16h15⟩) hH ?r16h15
  case hy16h15 => (intro W hSw; (try dsimp only at hSw); go_simp; try (with_reducible rfl))
  try simp only [Act.put, List.setIfInBounds_toArray, List.set_cons_zero, List.set_cons_succ]
  refine wpAnyH_take (i := 17) (oi := { dst := some 50, op := Op.move (Operand.tmp 9), type := 9, pos := "law.go:65", after := #[{ on := 16, ground := Ground.guard }], guard := some (16, true) }) (v := ?v17h16) rfl (by kernel_rfl) (by kernel_rfl) (by kernel_rfl) (fun _ _ _ h => h) (Or.inl ⟨by rfl, ?hy17h16⟩) hH ?r17h16
  case hy17h16 => (intro W hSw; (try dsimp only at hSw); go_simp; try (with_reducible rfl))
  try simp only [Act.put, List.setIfInBounds_toArray, List.set_cons_zero, List.set_cons_succ]
  refine wpAnyH_take (i := 18) (oi := { dst := some 51, op := Op.move (Operand.tmp 10), type := 9, pos := "law.go:65", after := #[{ on := 16, ground := Ground.guard }], guard := some (16, true) }) (v := ?v18h17) rfl (by kernel_rfl) (by kernel_rfl) (by kernel_rfl) (fun _ _ _ h => h) (Or.inl ⟨by rfl, ?hy18h17⟩) hH ?r18h17
  case hy18h17 => (intro W hSw; (try dsimp only at hSw); go_simp; try (with_reducible rfl))
  try simp only [Act.put, List.setIfInBounds_toArray, List.set_cons_zero, List.set_cons_succ]
  refine wpAnyH_take (i := 19) (oi := { dst := some 52, op := Op.binOp BinOp.eql 9 (Operand.tmp 50) (Operand.tmp 51) 9, type := 4, pos := "law.go:65", after := #[{ on := 17, ground := Ground.data }, { on := 18, ground := Ground.data }, { on := 16, ground := Ground.guard }], guard := some (16, true) }) (v := ?v19h18) rfl (by kernel_rfl) (by kernel_rfl) (by kernel_rfl) (fun _ _ _ h => h) (Or.inl ⟨by rfl, ?hy19h18⟩) hH ?r19h18
  case hy19h18 => (intro W hSw; (try dsimp only at hSw); go_simp; try (with_reducible rfl))
  try simp only [Act.put, List.setIfInBounds_toArray, List.set_cons_zero, List.set_cons_succ]
  refine wpAnyH_take (i := 20) (oi := { dst := some 53, op := Op.load 27 (Operand.tmp 7), type := 27, pos := "law.go:65", after := #[{ on := 16, ground := Ground.guard }], guard := some (16, true) }) (v := ?v20h19) rfl (by kernel_rfl) (by kernel_rfl) (by kernel_rfl) (fun _ _ _ h => h) (Or.inl ⟨by rfl, ?hy20h19⟩) hH ?r20h19
  case hy20h19 => (intro W hSw; (try dsimp only at hSw); go_simp; try (with_reducible rfl))
  try simp only [Act.put, List.setIfInBounds_toArray, List.set_cons_zero, List.set_cons_succ]
  refine wpAnyH_take (i := 21) (oi := { dst := some 54, op := Op.load 27 (Operand.tmp 8), type := 27, pos := "law.go:65", after := #[{ on := 16, ground := Ground.guard }], guard := some (16, true) }) (v := ?v21h20) rfl (by kernel_rfl) (by kernel_rfl) (by kernel_rfl) (fun _ _ _ h => h) (Or.inl ⟨by rfl, ?hy21h20⟩) hH ?r21h20
  case hy21h20 => (intro W hSw; (try dsimp only at hSw); go_simp; try (with_reducible rfl))
  try simp only [Act.put, List.setIfInBounds_toArray, List.set_cons_zero, List.set_cons_succ]
  refine wpAnyH_ready (rs := [22]) (by kernel_rfl) (by simp) ?_
  refine AllReadyH.cons (o := { dst := some 55, op := Op.call { callee := Callee.value (Operand.func 20), args := #[Operand.tmp 53, Operand.tmp 54], argTypes := #[27, 27] }, type := 4, pos := "law.go:65", after := #[{ on := 20, ground := Ground.data }, { on := 21, ground := Ground.data }, { on := 16, ground := Ground.chain }, { on := 16, ground := Ground.guard }], guard := some (16, true) }) rfl (fun K hKq => ?_) AllReadyH.nil
  go_simp
  refine (KQ2.out _ (PD1_5.out.kp KQ) (PD2_5.out.kp KQ)).mono ?_
  rintro e y3 ⟨rfl, kq⟩
  refine hKq.out _ _ (MK.out _ (KQ.trans kq)) (fun hN => ?_)
  clear kq
  clear hKq K hH KQ
  have hH := hN
  clear hN
  have KQ := hH.2.2.2.2.2.2.2.2.2.2.2.2.2.2.2.2.2.2.2.2.2.2.2.2.2.2.2.out
  try simp only [Act.put, List.setIfInBounds_toArray, List.set_cons_zero, List.set_cons_succ]
  refine wpAnyH_take (i := 23) (oi := { dst := some 56, op := Op.binOp BinOp.eql 4 (Operand.tmp 52) (Operand.tmp 55) 4, type := 4, pos := "law.go:65", after := #[{ on := 19, ground := Ground.data }, { on := 22, ground := Ground.data }, { on := 16, ground := Ground.guard }], guard := some (16, true) }) (v := ?v23h21) rfl (by kernel_rfl) (by kernel_rfl) (by kernel_rfl) (fun _ _ _ h => h) (Or.inl ⟨by rfl, ?hy23h21⟩) hH ?r23h21
  case hy23h21 => (intro W hSw; (try dsimp only at hSw); go_simp; try (with_reducible rfl))
  try simp only [Act.put, List.setIfInBounds_toArray, List.set_cons_zero, List.set_cons_succ]
  refine wpAnyH_take (i := 24) (oi := { dst := some 57, op := Op.pick (Operand.tmp 49) (Operand.tmp 56) (Operand.const (Value.bool false)), type := 4, pos := "law.go:65", after := #[{ on := 16, ground := Ground.data }, { on := 23, ground := Ground.data }], guard := none }) (v := ?v24h22) rfl (by kernel_rfl) (by kernel_rfl) (by kernel_rfl) (fun _ _ _ h => h) (Or.inl ⟨by rfl, ?hy24h22⟩) hH ?r24h22
  case hy24h22 => (intro W hSw; (try dsimp only at hSw); go_simp; try (with_reducible rfl))
  try simp only [Act.put, List.setIfInBounds_toArray, List.set_cons_zero, List.set_cons_succ]
  refine wpAnyH_take (i := 25) (oi := { dst := some 58, op := Op.move (Operand.tmp 57), type := 4, pos := "law.go:65", after := #[{ on := 24, ground := Ground.data }, { on := 22, ground := Ground.chain }], guard := none }) (v := ?v25h23) rfl (by kernel_rfl) (by kernel_rfl) (by kernel_rfl) (fun _ _ _ h => h) (Or.inl ⟨by rfl, ?hy25h23⟩) hH ?r25h23
  case hy25h23 => (intro W hSw; (try dsimp only at hSw); go_simp; try (with_reducible rfl))
  try simp only [Act.put, List.setIfInBounds_toArray, List.set_cons_zero, List.set_cons_succ]
  refine wpAnyH_take (i := 26) (oi := { dst := some 59, op := Op.load 27 (Operand.tmp 7), type := 27, pos := "law.go:65", after := #[{ on := 25, ground := Ground.guard }], guard := some (25, true) }) (v := ?v26h24) rfl (by kernel_rfl) (by kernel_rfl) (by kernel_rfl) (fun _ _ _ h => h) (Or.inl ⟨by rfl, ?hy26h24⟩) hH ?r26h24
  case hy26h24 => (intro W hSw; (try dsimp only at hSw); go_simp; try (with_reducible rfl))
  try simp only [Act.put, List.setIfInBounds_toArray, List.set_cons_zero, List.set_cons_succ]
  refine wpAnyH_take (i := 27) (oi := { dst := some 60, op := Op.load 27 (Operand.tmp 8), type := 27, pos := "law.go:65", after := #[{ on := 25, ground := Ground.guard }], guard := some (25, true) }) (v := ?v27h25) rfl (by kernel_rfl) (by kernel_rfl) (by kernel_rfl) (fun _ _ _ h => h) (Or.inl ⟨by rfl, ?hy27h25⟩) hH ?r27h25
  case hy27h25 => (intro W hSw; (try dsimp only at hSw); go_simp; try (with_reducible rfl))
  try simp only [Act.put, List.setIfInBounds_toArray, List.set_cons_zero, List.set_cons_succ]
  refine wpAnyH_take (i := 29) (oi := { dst := some 62, op := Op.load 27 (Operand.tmp 7), type := 27, pos := "law.go:65", after := #[{ on := 25, ground := Ground.guard }], guard := some (25, true) }) (v := ?v29h26) rfl (by kernel_rfl) (by kernel_rfl) (by kernel_rfl) (fun _ _ _ h => h) (Or.inl ⟨by rfl, ?hy29h26⟩) hH ?r29h26
  case hy29h26 => (intro W hSw; (try dsimp only at hSw); go_simp; try (with_reducible rfl))
  try simp only [Act.put, List.setIfInBounds_toArray, List.set_cons_zero, List.set_cons_succ]
  refine wpAnyH_take (i := 30) (oi := { dst := some 63, op := Op.load 27 (Operand.tmp 8), type := 27, pos := "law.go:65", after := #[{ on := 25, ground := Ground.guard }], guard := some (25, true) }) (v := ?v30h27) rfl (by kernel_rfl) (by kernel_rfl) (by kernel_rfl) (fun _ _ _ h => h) (Or.inl ⟨by rfl, ?hy30h27⟩) hH ?r30h27
  case hy30h27 => (intro W hSw; (try dsimp only at hSw); go_simp; try (with_reducible rfl))
  try simp only [Act.put, List.setIfInBounds_toArray, List.set_cons_zero, List.set_cons_succ]
  refine wpAnyH_ready (rs := [28]) (by kernel_rfl) (by simp) ?_
  refine AllReadyH.cons (o := { dst := some 61, op := Op.call { callee := Callee.value (Operand.func 16), args := #[Operand.tmp 59, Operand.tmp 60], argTypes := #[27, 27] }, type := 4, pos := "law.go:65", after := #[{ on := 26, ground := Ground.data }, { on := 27, ground := Ground.data }, { on := 25, ground := Ground.chain }, { on := 25, ground := Ground.guard }], guard := some (25, true) }) rfl (fun K hKq => ?_) AllReadyH.nil
  go_simp
  refine (SQ2.out _ (PD1_5.out.kp KQ) (PD2_5.out.kp KQ)).mono ?_
  rintro e y4 ⟨rfl, kq⟩
  refine hKq.out _ _ (MK.out _ (KQ.trans kq)) (fun hN => ?_)
  clear kq
  clear hKq K hH KQ
  have hH := hN
  clear hN
  have KQ := hH.2.2.2.2.2.2.2.2.2.2.2.2.2.2.2.2.2.2.2.2.2.2.2.2.2.2.2.out
  try simp only [Act.put, List.setIfInBounds_toArray, List.set_cons_zero, List.set_cons_succ]
  refine wpAnyH_ready (rs := [31]) (by kernel_rfl) (by simp) ?_
  refine AllReadyH.cons (o := { dst := some 64, op := Op.call { callee := Callee.value (Operand.func 20), args := #[Operand.tmp 62, Operand.tmp 63], argTypes := #[27, 27] }, type := 4, pos := "law.go:65", after := #[{ on := 29, ground := Ground.data }, { on := 30, ground := Ground.data }, { on := 28, ground := Ground.chain }, { on := 25, ground := Ground.guard }], guard := some (25, true) }) rfl (fun K hKq => ?_) AllReadyH.nil
  go_simp
  refine (KQ2.out _ (PD1_5.out.kp KQ) (PD2_5.out.kp KQ)).mono ?_
  rintro e y5 ⟨rfl, kq⟩
  refine hKq.out _ _ (MK.out _ (KQ.trans kq)) (fun hN => ?_)
  clear kq
  clear hKq K hH KQ
  have hH := hN
  clear hN
  have KQ := hH.2.2.2.2.2.2.2.2.2.2.2.2.2.2.2.2.2.2.2.2.2.2.2.2.2.2.2.out
  try simp only [Act.put, List.setIfInBounds_toArray, List.set_cons_zero, List.set_cons_succ]
  refine wpAnyH_take (i := 32) (oi := { dst := some 65, op := Op.binOp BinOp.eql 4 (Operand.tmp 61) (Operand.tmp 64) 4, type := 4, pos := "law.go:65", after := #[{ on := 28, ground := Ground.data }, { on := 31, ground := Ground.data }, { on := 25, ground := Ground.guard }], guard := some (25, true) }) (v := ?v32h28) rfl (by kernel_rfl) (by kernel_rfl) (by kernel_rfl) (fun _ _ _ h => h) (Or.inl ⟨by rfl, ?hy32h28⟩) hH ?r32h28
  case hy32h28 => (intro W hSw; (try dsimp only at hSw); go_simp; try (with_reducible rfl))
  try simp only [Act.put, List.setIfInBounds_toArray, List.set_cons_zero, List.set_cons_succ]
  refine wpAnyH_take (i := 33) (oi := { dst := some 66, op := Op.pick (Operand.tmp 58) (Operand.tmp 65) (Operand.const (Value.bool false)), type := 4, pos := "law.go:65", after := #[{ on := 25, ground := Ground.data }, { on := 32, ground := Ground.data }], guard := none }) (v := ?v33h29) rfl (by kernel_rfl) (by kernel_rfl) (by kernel_rfl) (fun _ _ _ h => h) (Or.inl ⟨by rfl, ?hy33h29⟩) hH ?r33h29
  case hy33h29 => (intro W hSw; (try dsimp only at hSw); go_simp; try (with_reducible rfl))
  try simp only [Act.put, List.setIfInBounds_toArray, List.set_cons_zero, List.set_cons_succ]
  refine wpAnyH_take (i := 34) (oi := { dst := some 67, op := Op.move (Operand.tmp 66), type := 4, pos := "law.go:65", after := #[{ on := 33, ground := Ground.data }, { on := 31, ground := Ground.chain }], guard := none }) (v := ?v34h30) rfl (by kernel_rfl) (by kernel_rfl) (by kernel_rfl) (fun _ _ _ h => h) (Or.inl ⟨by rfl, ?hy34h30⟩) hH ?r34h30
  case hy34h30 => (intro W hSw; (try dsimp only at hSw); go_simp; try (with_reducible rfl))
  try simp only [Act.put, List.setIfInBounds_toArray, List.set_cons_zero, List.set_cons_succ]
  refine wpAnyH_ready (rs := [35]) (by kernel_rfl) (by simp) ?_
  refine AllReadyH.cons (o := { dst := some 68, op := Op.call { callee := Callee.value (Operand.func 3), args := #[], argTypes := #[] }, type := 4, pos := "law.go:65", after := #[{ on := 34, ground := Ground.chain }, { on := 34, ground := Ground.guard }], guard := some (34, true) }) rfl (fun K hKq => ?_) AllReadyH.nil
  go_simp
  refine (runs_any _ (cell0 Z_5.out KQ)).mono ?_
  rintro e y6 ⟨rfl, kq⟩
  refine hKq.out _ _ (MK.out _ (KQ.trans kq)) (fun hN => ?_)
  clear kq
  clear hKq K hH KQ
  have hH := hN
  clear hN
  have KQ := hH.2.2.2.2.2.2.2.2.2.2.2.2.2.2.2.2.2.2.2.2.2.2.2.2.2.2.2.out
  try simp only [Act.put, List.setIfInBounds_toArray, List.set_cons_zero, List.set_cons_succ]
  refine wpAnyH_take (i := 36) (oi := { dst := some 69, op := Op.pick (Operand.tmp 67) (Operand.tmp 68) (Operand.const (Value.bool false)), type := 4, pos := "law.go:65", after := #[{ on := 34, ground := Ground.data }, { on := 35, ground := Ground.data }], guard := none }) (v := ?v36h31) rfl (by kernel_rfl) (by kernel_rfl) (by kernel_rfl) (fun _ _ _ h => h) (Or.inl ⟨by rfl, ?hy36h31⟩) hH ?r36h31
  case hy36h31 => (intro W hSw; (try dsimp only at hSw); go_simp; try (with_reducible rfl))
  try simp only [Act.put, List.setIfInBounds_toArray, List.set_cons_zero, List.set_cons_succ]
  refine wpAnyH_take (i := 37) (oi := { dst := some 6, op := Op.assign (Operand.tmp 69), type := 4, pos := "law.go:65", after := #[{ on := 36, ground := Ground.data }, { on := 35, ground := Ground.chain }, { on := 0, ground := Ground.phase }, { on := 1, ground := Ground.phase }, { on := 2, ground := Ground.phase }, { on := 3, ground := Ground.phase }, { on := 4, ground := Ground.phase }, { on := 5, ground := Ground.phase }, { on := 6, ground := Ground.phase }, { on := 7, ground := Ground.phase }, { on := 8, ground := Ground.phase }, { on := 9, ground := Ground.phase }, { on := 10, ground := Ground.phase }, { on := 11, ground := Ground.phase }, { on := 12, ground := Ground.phase }, { on := 13, ground := Ground.phase }, { on := 14, ground := Ground.phase }, { on := 15, ground := Ground.phase }, { on := 16, ground := Ground.phase }, { on := 17, ground := Ground.phase }, { on := 18, ground := Ground.phase }, { on := 19, ground := Ground.phase }, { on := 20, ground := Ground.phase }, { on := 21, ground := Ground.phase }, { on := 22, ground := Ground.phase }, { on := 23, ground := Ground.phase }, { on := 24, ground := Ground.phase }, { on := 25, ground := Ground.phase }, { on := 26, ground := Ground.phase }, { on := 27, ground := Ground.phase }, { on := 28, ground := Ground.phase }, { on := 29, ground := Ground.phase }, { on := 30, ground := Ground.phase }, { on := 31, ground := Ground.phase }, { on := 32, ground := Ground.phase }, { on := 33, ground := Ground.phase }, { on := 34, ground := Ground.phase }, { on := 35, ground := Ground.phase }, { on := 36, ground := Ground.phase }], guard := none }) (v := ?v37h32) rfl (by kernel_rfl) (by kernel_rfl) (by kernel_rfl) (fun _ _ _ h => h) (Or.inl ⟨by rfl, ?hy37h32⟩) hH ?r37h32
  case hy37h32 => (intro W hSw; (try dsimp only at hSw); go_simp; try (with_reducible rfl))
  try simp only [Act.put, List.setIfInBounds_toArray, List.set_cons_zero, List.set_cons_succ]
  refine wpAnyH_done (by kernel_rfl) ?_ _
  refine NoPanic.normal ?_
  go_wp2_with fail
  go_ret
  exact ⟨rfl, K_5.out.trans KQ⟩
end Go.Proofs.YtikmgckefbjbkaaGreatDoor

/-! ### OpenKeep -/

namespace Go.Proofs.YtikmgckefbjbkaaGreatDoor
open Go.ChangeShapes Go.WideShapes Go.ChangeAt Go.RowKit

theorem cells36 : Tryz.prog.cellsOf 36 = 2 := by kernel_rfl
theorem cellsNums : Tryz.prog.cellsOf 34 = 1 := by kernel_rfl
theorem list2 {α : Type} (l : List α) (h : (⟨l⟩ : Array α).size = 2) : ∃ a b, l = [a, b] := by
 match l, h with
 | [a, b], _ => exact ⟨a, b, rfl⟩
theorem open_nums {H : Type} {enc : TypeId × Value → H} {W : World} {n : Nat} {c : Value} {y : DataW H × List MemPlace}
  (h : DataW.trod enc Tryz.prog W 0 (fun _ => true) true n 34 [c] = some y) : ∃ a l k, c = .slice a l k ∧ Nums W W.heap.size a l := by
 rcases open_ints Tryz.underlying34 Tryz.underlying3 (by kernel_rfl) h with ⟨hcs, _⟩ | ⟨x, l, k, zs, hcs, _, hl, _, hz, _, hcell, _⟩
 ·
  injection hcs with hcs
  exact ⟨none, 0, 0, hcs, ⟨fun h => absurd h (by omega)⟩⟩
 ·
  injection hcs with hcs
  refine ⟨some x, l, k, hcs, ⟨fun h0 => ?_⟩⟩
  have hz : zs.length = k := by simpa using hz
  obtain ⟨b, off, rfl, hc⟩ := ints_at hcell (by omega)
  exact ⟨b, off, rfl, World.block_lt_of_cell? W _ (hc 0 (by omega)), fun i hi => ⟨_, hc i (by omega)⟩⟩
set_option maxRecDepth 100000 in
theorem open_keep {H : Type} {enc : TypeId × Value → H} {W : World} {base : Nat} {v : Value} {d : DataW H} {ps : List MemPlace}
  (hv : Value.okWide Tryz.prog W .any base 36 v) (h : DataW.Trod enc Tryz.prog W 0 (fun _ => true) true 36 v d ps) : ∃ aK lK cK aN lN cN, v = .agg #[.slice aK lK cK, .slice aN lN cN] ∧ Nums W W.heap.size aK lK ∧ Nums W W.heap.size aN lN := by
 obtain ⟨cs, rfl, hsz⟩ := okWide_struct Tryz.underlying36 hv
 rw [cells36] at hsz
 obtain ⟨l⟩ := cs
 obtain ⟨c0, c1, rfl⟩ := list2 l hsz
 obtain ⟨fuel, hf⟩ := h
 obtain ⟨y0, y1, m, _, _, h0, h1⟩ := trod_struct2 Tryz.underlying36 hf
 simp [Value.cells, cellsNums] at h0 h1
 obtain ⟨aK, lK, cK, rfl, nk⟩ := open_nums h0
 obtain ⟨aN, lN, cN, rfl, nn⟩ := open_nums h1
 exact ⟨aK, lK, cK, aN, lN, cN, rfl, nk, nn⟩
end Go.Proofs.YtikmgckefbjbkaaGreatDoor

/-! ### Wrap -/

namespace Go.Proofs.YtikmgckefbjbkaaGreatDoor
open Go.ChangeShapes Go.WideShapes Go.ChangeAt Go.RowKit

theorem and_shaped {H : Type} {enc : TypeId × Value → H} {a : Assume} {C : Checked} {os : Go.Os} {f : FuncId} {fn : Func} {s : ChangeSpec} {conds : List PathCond} {apart fresh handsOn again : Bool} {X : World → Array Value → Prop}
  (hX : ∀ (w w' : World) (args : Array Value), w.heap = w'.heap → X w args → X w' args)
  (own : ownKnob C.prog.godebug = none) (started : os.Started) (noInit : C.prog.inits.idxOf? f = none) (hfn : C.prog.funcs[f]? = some fn)
  (witness : ∃ (w : World) (tape : Tape) (i : Input), w.os = os ∧ (w.forCall tape i).Shaped C.prog ∧ i.vars = [] ∧ Input.okWide C.prog (w.forCall tape i) .any w.heap.size f i ∧
   ((s.pre enc C.prog fn conds apart (w.forCall tape i).memory i.args ∧ X (w.forCall tape i).memory i.args) ∧ sizedMet enc C.prog fn (OpenSpec.ofChange s) apart (w.forCall tape i).memory i.args) ∧ a.holds C.prog (lone (Frame.enter C.prog f i.args .normal) [] (w.forCall tape i)))
  (contract : ∀ (W : World) (base : Nat) (args : Array Value) (ds gs : List (DataW H)) (before : List MemPlace),
   (∀ (j : Nat) t v, fn.params[j]? = some t → args[j]? = some v → Value.okWide C.prog W .any base t v) →
   DataW.Whole enc C.prog fn.params.toList s.vars apart W args.toList ds gs before →
   conds.all (PathCond.test C.prog ⟨fn.params.toList, ds, s.plain.varTypes C.prog, gs⟩) = true →
   (DataW.weightsEach C.prog (fn.params.toList ++ s.plain.varTypes C.prog) (ds ++ gs)).all (· ≤ reachBytes) = true → X W args → W.ShapedOpen C.prog →
   Calls C.prog f args W fun e W' => ∃ v, e = .returned v ∧ s.post enc C.prog fn apart fresh handsOn again W args v W') :
  ReturnsInHanded a C os f .any (fun w args => (s.pre enc C.prog fn conds apart w args ∧ X w args) ∧ sizedMet enc C.prog fn (OpenSpec.ofChange s) apart w args) (s.post enc C.prog fn apart fresh handsOn again) := by
 refine returnsInHanded_of_calls own started noInit witness ?_
 intro w tape i _ hsh _ hok hpre hholds
 obtain ⟨_, _, _, fn', hfn', _, _, _, _, hval⟩ := hok
 have e : fn' = fn := Option.some.inj (hfn'.symm.trans hfn)
 subst e
 obtain ⟨⟨⟨ds, gs, before, hw, hc⟩, hx⟩, hz⟩ := hpre
 have hw' := DataW.Whole.of_heap (w' := w.forCall tape i) (by rfl) hw
 refine (contract (w.forCall tape i) w.heap.size i.args ds gs before hval hw' hc (hz.weights hw) (hX _ _ _ (by rfl) hx) hsh).mono fun e W' ⟨v, he, hp⟩ => ?_
 subst he
 exact ChangeSpec.post_blind hp

theorem own : ownKnob Tryz.prog.godebug = none := by kernel_rfl

/-- What every row of this seat lists. -/
abbrev laid3 : List (String × DataW Unit) := [("math/bits.deBruijn32tab", Rows.laid_math_bits_deBruijn32tab), ("math/bits.deBruijn64tab", Rows.laid_math_bits_deBruijn64tab), ("internal/strconv.uint64pow10", Rows.laid_internal_strconv_uint64pow10)]

/-- The door's own heap meets the condition. -/
theorem door_met (os : Go.Os) (args : Array Value) : laidMetH Tryz.prog laid3 ((World.doorLaid Tryz.prog 24 os).forCall (fun _ _ => 0) ⟨#[], args, []⟩).memory :=
 laidMetH_of_parts3 (fuel := 8) (laidMet_of_run' 8 (by kernel_rfl) (by kernel_rfl)) (by kernel_rfl) (by kernel_rfl)

/-- MaxLen holds a number. -/
theorem maxLen {W : World} (h : W.ShapedOpen Tryz.prog) : ∃ m, W.cell? ⟨0, 0, none⟩ = some (.int .i64 m) :=
 cell_of_shapedOpen_int (P := Tryz.prog) (g := 0) (t := 3) (zero := #[.int .i64 0]) h (of_decide_eq_true (by kernel_rfl)) (by kernel_rfl) rfl (by kernel_rfl) (by kernel_rfl) Tryz.underlying3
end Go.Proofs.YtikmgckefbjbkaaGreatDoor

/-! ### RxBackProof -/

namespace Go.Proofs.YtikmgckefbjbkaaGreatDoor.rxBack
open Go.ChangeShapes Go.WideShapes Go.ChangeAt Go.RowKit
open Go.ChangeMaps (open_string shut_string)
set_option linter.unusedVariables false

theorem laidOut : laidOutB Tryz.prog = true := by kernel_rfl
set_option maxRecDepth 100000 in
theorem lifted (os : Go.Os) (started : os.Started) (H : Type) (enc : TypeId × Value → H) :
  ReturnsInHanded {} Tryz.checked os 5 .any (fun w args => (Rows.rxBackSpec.pre enc Tryz.prog Tryz.f5 [] false w args ∧ laidMetH Tryz.prog laid3 w) ∧ sizedMet enc Tryz.prog Tryz.f5 (OpenSpec.ofChange Rows.rxBackSpec) false w args)
   (Rows.rxBackSpec.post enc Tryz.prog Tryz.f5 false true false false) := by
 refine and_shaped (C := Tryz.checked) (X := fun w _ => laidMetH Tryz.prog laid3 w) (fun _ _ _ hh h => h.of_heap hh) own started (by kernel_rfl) Tryz.func5
  (ChangeSpec.witness_shaped (enc := enc) (C := Tryz.checked) (os := os) (X := fun w _ => laidMetH Tryz.prog laid3 w) false (World.doorLaid Tryz.prog 24 os) #[.agg #[.slice none 0 0, .slice none 0 0], .agg #[.slice none 0 0, .slice none 0 0], .bool false] 8 rfl (World.shaped_of_RefB (by kernel_rfl) (by kernel_rfl)) (by kernel_rfl) (by kernel_rfl) (by kernel_rfl) (door_met os _)) ?_
 intro W base args ds gs before hval0 hW _ _ hL hsh
 have hval : ∀ (j : Nat) t v, Tryz.f5.params[j]? = some t → args[j]? = some v → Value.okWide Tryz.prog W .any base t v := hval0
 have hW' := hW
 obtain ⟨p, q, hA0, hV, rfl, hfz, hnd⟩ := hW
 have hA : DataW.TrodAll enc Tryz.prog W 0 (fun _ => true) true Tryz.f5.params.toList args.toList ds p := hA0
 rw [Tryz.params5] at hA hval
 obtain ⟨v0, vs0, d0, ds0, p0, q0, hargs, rfl, rfl, h0, r0⟩ := trodAll_cons hA
 obtain ⟨v1, vs1, d1, ds1, p1, q1, rfl, rfl, rfl, h1, r1⟩ := trodAll_cons r0
 obtain ⟨v2, vs2, d2, ds2, p2, q2, rfl, rfl, rfl, h2, r2⟩ := trodAll_cons r1
 obtain ⟨rfl, rfl, rfl⟩ := trodAll_nil r2
 obtain rfl : args = #[v0, v1, v2] := by cases args; simp_all
 obtain ⟨rfl, rfl⟩ := trodVars_none hV
 have k0 := h0
 have lt0 : ∀ x ∈ p0, x.block < W.heap.size := by obtain ⟨m, hm⟩ := k0; exact DataW.trod_lt m _ _ _ hm
 obtain ⟨aK0, lK0, cK0, aN0, lN0, cN0, rfl, nk0, nn0⟩ := open_keep (hval 0 36 v0 rfl rfl) k0
 have k1 := h1
 have lt1 : ∀ x ∈ p1, x.block < W.heap.size := by obtain ⟨m, hm⟩ := k1; exact DataW.trod_lt m _ _ _ hm
 obtain ⟨aK1, lK1, cK1, aN1, lN1, cN1, rfl, nk1, nn1⟩ := open_keep (hval 1 36 v1 rfl rfl) k1
 obtain ⟨a2, rfl, rfl, rfl⟩ := open_bool Tryz.underlying4 (hval 2 4 v2 rfl rfl) h2
 clear hA0 hval0
 refine (lawBack_any aK0 lK0 cK0 aN0 lN0 cN0 aK1 lK1 cK1 aN1 lN1 cN1 a2 W nk0 nn0 nk1 nn1 (maxLen hsh)).mono fun e W' ⟨he, bel⟩ => ?_
 subst he
 exact ⟨_, rfl, _, _, _, [], _, [], hW', trodAll_mk1 (shut_bool Tryz.underlying4 _), (trodAll_cons_mk (Below.trod laidOut (by kernel_rfl) (of_decide_eq_true (by kernel_rfl)) k0 bel lt0) (trodAll_cons_mk (Below.trod laidOut (by kernel_rfl) (of_decide_eq_true (by kernel_rfl)) k1 bel lt1) (trodAll_cons_mk (shut_bool Tryz.underlying4 a2) trodAll_mk0))), rfl, Below.frame bel _, fun h => by cases h⟩

theorem over : Rows.rxBackRow.holds Tryz.pinned (OpenSpec.ofChange Rows.rxBackSpec) :=
 OpenClaim.holds_of_wide 5 Tryz.f5 rfl rfl rfl rfl rfl rfl rfl ⟨rfl, rfl, rfl, rfl, rfl⟩ rfl rfl rfl rfl rfl (by kernel_rfl) Tryz.func5 (by kernel_rfl)
  (of_decide_eq_true (by kernel_rfl)) (by unfold Func.isWrapper; first | (rw [if_pos (by decide +kernel)]; kernel_rfl) | (rw [if_neg (by decide +kernel)]; exact ⟨rfl, rfl⟩))
  (fun os started H enc _ => lifted os started H enc)

theorem carded : Rows.RxBackCardSaid :=
 Claim7.holds_tied_plain_at .later [] [.data, .data, .data] true (true, "b0fe336dcdce6718dfc6eec349fd5cdbe898f712e022f33c787b29cefe3acb2a") false
  over (fun _ h => by cases h) (by kernel_rfl) (fun _ h => by cases h) rxBack_row_tie rfl ⟨rfl, rfl⟩ (by kernel_rfl) rfl
  (fun f fn hf hfn => by
   obtain rfl : f = 5 := Option.some.inj ((show Tryz.prog.funcNamed "gloss/glosslaw4.RxBack" = some 5 by kernel_rfl).symm.trans hf) |>.symm
   obtain rfl : fn = Tryz.f5 := (Option.some.inj (Tryz.func5.symm.trans hfn)).symm
   exact ⟨by kernel_rfl, fun j t ht => by
    rw [Tryz.params5] at ht
    have hm : t ∈ [36, 36, 4] := by simpa using Array.mem_of_getElem? ht
    have hall : ([36, 36, 4].all fun u => !Tryz.prog.wantsStandIn u) = true := by kernel_rfl
    exact (show Tryz.prog.wantsStandIn t = false by simpa using List.all_eq_true.1 hall t hm)⟩)
  (by kernel_rfl)

end Go.Proofs.YtikmgckefbjbkaaGreatDoor.rxBack
namespace Go.Proofs.YtikmgckefbjbkaaGreatDoor

theorem rxBack_holds : Rows.RxBackCardSaid := rxBack.carded

end Go.Proofs.YtikmgckefbjbkaaGreatDoor
