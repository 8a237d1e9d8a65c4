/-
  Texts of this claim: RdH, RdI, RdK.
-/
import Derived.Test.YtigdmebijbaofaaGreatDoorReadDM4
import Derived.Test.YtigdmebijbaofaaGreatDoorReadDM27
import Derived.Test.YtigdmebijbaofaaGreatDoorReadDM22
/-! ### RdH -/
namespace Go.Proofs.YtigdmebijbaofaaGreatDoor
set_option maxHeartbeats 2000000
set_option maxRecDepth 100000
open Go.RowKit
theorem bl_set11 {w : World} {B : Nat} {a0 a1 a2 a3 a4 a5 a6 a7 a8 a9 a10 : Value} {t : TypeId} (h : w.heap[B]? = some (.cells #[a0, a1, a2, a3, a4, a5, a6, a7, a8, a9, a10] t)) (x0 x1 x2 x3 x4 x5 x6 x7 x8 x9 x10 : Value) :
  (((((((((((w.setCell ⟨B, 0, none⟩ x0).setCell ⟨B, 1, none⟩ x1).setCell ⟨B, 2, none⟩ x2).setCell ⟨B, 3, none⟩ x3).setCell ⟨B, 4, none⟩ x4).setCell ⟨B, 5, none⟩ x5).setCell ⟨B, 6, none⟩ x6).setCell ⟨B, 7, none⟩ x7).setCell ⟨B, 8, none⟩ x8).setCell ⟨B, 9, none⟩ x9).setCell ⟨B, 10, none⟩ x10).heap[B]? = some (.cells #[x0, x1, x2, x3, x4, x5, x6, x7, x8, x9, x10] t) := by
 have h0 : (w.setCell ⟨B, 0, none⟩ x0).heap[B]? = some (.cells #[x0, a1, a2, a3, a4, a5, a6, a7, a8, a9, a10] t) := bl_put h x0
 have h1 : ((w.setCell ⟨B, 0, none⟩ x0).setCell ⟨B, 1, none⟩ x1).heap[B]? = some (.cells #[x0, x1, a2, a3, a4, a5, a6, a7, a8, a9, a10] t) := bl_put h0 x1
 have h2 : (((w.setCell ⟨B, 0, none⟩ x0).setCell ⟨B, 1, none⟩ x1).setCell ⟨B, 2, none⟩ x2).heap[B]? = some (.cells #[x0, x1, x2, a3, a4, a5, a6, a7, a8, a9, a10] t) := bl_put h1 x2
 have h3 : ((((w.setCell ⟨B, 0, none⟩ x0).setCell ⟨B, 1, none⟩ x1).setCell ⟨B, 2, none⟩ x2).setCell ⟨B, 3, none⟩ x3).heap[B]? = some (.cells #[x0, x1, x2, x3, a4, a5, a6, a7, a8, a9, a10] t) := bl_put h2 x3
 have h4 : (((((w.setCell ⟨B, 0, none⟩ x0).setCell ⟨B, 1, none⟩ x1).setCell ⟨B, 2, none⟩ x2).setCell ⟨B, 3, none⟩ x3).setCell ⟨B, 4, none⟩ x4).heap[B]? = some (.cells #[x0, x1, x2, x3, x4, a5, a6, a7, a8, a9, a10] t) := bl_put h3 x4
 have h5 : ((((((w.setCell ⟨B, 0, none⟩ x0).setCell ⟨B, 1, none⟩ x1).setCell ⟨B, 2, none⟩ x2).setCell ⟨B, 3, none⟩ x3).setCell ⟨B, 4, none⟩ x4).setCell ⟨B, 5, none⟩ x5).heap[B]? = some (.cells #[x0, x1, x2, x3, x4, x5, a6, a7, a8, a9, a10] t) := bl_put h4 x5
 have h6 : (((((((w.setCell ⟨B, 0, none⟩ x0).setCell ⟨B, 1, none⟩ x1).setCell ⟨B, 2, none⟩ x2).setCell ⟨B, 3, none⟩ x3).setCell ⟨B, 4, none⟩ x4).setCell ⟨B, 5, none⟩ x5).setCell ⟨B, 6, none⟩ x6).heap[B]? = some (.cells #[x0, x1, x2, x3, x4, x5, x6, a7, a8, a9, a10] t) := bl_put h5 x6
 have h7 : ((((((((w.setCell ⟨B, 0, none⟩ x0).setCell ⟨B, 1, none⟩ x1).setCell ⟨B, 2, none⟩ x2).setCell ⟨B, 3, none⟩ x3).setCell ⟨B, 4, none⟩ x4).setCell ⟨B, 5, none⟩ x5).setCell ⟨B, 6, none⟩ x6).setCell ⟨B, 7, none⟩ x7).heap[B]? = some (.cells #[x0, x1, x2, x3, x4, x5, x6, x7, a8, a9, a10] t) := bl_put h6 x7
 have h8 : (((((((((w.setCell ⟨B, 0, none⟩ x0).setCell ⟨B, 1, none⟩ x1).setCell ⟨B, 2, none⟩ x2).setCell ⟨B, 3, none⟩ x3).setCell ⟨B, 4, none⟩ x4).setCell ⟨B, 5, none⟩ x5).setCell ⟨B, 6, none⟩ x6).setCell ⟨B, 7, none⟩ x7).setCell ⟨B, 8, none⟩ x8).heap[B]? = some (.cells #[x0, x1, x2, x3, x4, x5, x6, x7, x8, a9, a10] t) := bl_put h7 x8
 have h9 : ((((((((((w.setCell ⟨B, 0, none⟩ x0).setCell ⟨B, 1, none⟩ x1).setCell ⟨B, 2, none⟩ x2).setCell ⟨B, 3, none⟩ x3).setCell ⟨B, 4, none⟩ x4).setCell ⟨B, 5, none⟩ x5).setCell ⟨B, 6, none⟩ x6).setCell ⟨B, 7, none⟩ x7).setCell ⟨B, 8, none⟩ x8).setCell ⟨B, 9, none⟩ x9).heap[B]? = some (.cells #[x0, x1, x2, x3, x4, x5, x6, x7, x8, x9, a10] t) := bl_put h8 x9
 have h10 : (((((((((((w.setCell ⟨B, 0, none⟩ x0).setCell ⟨B, 1, none⟩ x1).setCell ⟨B, 2, none⟩ x2).setCell ⟨B, 3, none⟩ x3).setCell ⟨B, 4, none⟩ x4).setCell ⟨B, 5, none⟩ x5).setCell ⟨B, 6, none⟩ x6).setCell ⟨B, 7, none⟩ x7).setCell ⟨B, 8, none⟩ x8).setCell ⟨B, 9, none⟩ x9).setCell ⟨B, 10, none⟩ x10).heap[B]? = some (.cells #[x0, x1, x2, x3, x4, x5, x6, x7, x8, x9, x10] t) := bl_put h9 x10
 exact h10
theorem ks_set11 {w : World} {B : Nat} (x0 x1 x2 x3 x4 x5 x6 x7 x8 x9 x10 : Value) : Ks B w (((((((((((w.setCell ⟨B, 0, none⟩ x0).setCell ⟨B, 1, none⟩ x1).setCell ⟨B, 2, none⟩ x2).setCell ⟨B, 3, none⟩ x3).setCell ⟨B, 4, none⟩ x4).setCell ⟨B, 5, none⟩ x5).setCell ⟨B, 6, none⟩ x6).setCell ⟨B, 7, none⟩ x7).setCell ⟨B, 8, none⟩ x8).setCell ⟨B, 9, none⟩ x9).setCell ⟨B, 10, none⟩ x10) := ((((((((((((Ks.refl B w).set 0 x0).set 1 x1).set 2 x2).set 3 x3).set 4 x4).set 5 x5).set 6 x6).set 7 x7).set 8 x8).set 9 x9).set 10 x10)
structure PA where
 k : Nat
 ln : Nat
 t : Rx
def PA.z : PA := ⟨0, 0, zR⟩
structure AIs (w : World) (ok : Nat → Prop) (a : Av) (p : PA) : Prop where
 k : a.k = (p.k : Int)
 ln : a.ln = (p.ln : Int)
 is : Is w ok p.t a.r.v
theorem AIs.zero (w : World) (ok : Nat → Prop) : AIs w ok Av.z PA.z := ⟨rfl, rfl, Is.leaf _ _ _ _ _ _ _⟩
theorem AIs.weak {w : World} {ok ok' : Nat → Prop} {a : Av} {p : PA} (h : AIs w ok a p) (k : ∀ b, ok b → b < w.heap.size → ok' b) : AIs w ok' a p := ⟨h.k, h.ln, h.is.weak k⟩
theorem AIs.kp {w w' : World} {ok : Nat → Prop} {a : Av} {p : PA} (h : AIs w ok a p) (k : Kp w w') : AIs w' ok a p := ⟨h.k, h.ln, h.is.kp k⟩
theorem AIs.ks {P : Nat} {w w' : World} {ok : Nat → Prop} {a : Av} {p : PA} (h : AIs w ok a p) (k : Ks P w w') (hP : ∀ b, ok b → b < w.heap.size → b ≠ P) : AIs w' ok a p := ⟨h.k, h.ln, h.is.ks k hP⟩
def lnR (n : Nat) : Bool := decide (1 ≤ n) && decide (n ≤ 9999)
def pLine (s : ByteArray) (i : Nat) : PA × Nat × Nat := if lnR (numN s i).1 then (⟨1, (numN s i).1, zR⟩, 0, (numN s i).2) else (PA.z, 1, i)
theorem adT_line_empty (n : Nat) (ere : Bool) : decide ((bs (adT 1 (n : Int) zR ere)).size = 0) = !lnR n := by
 rw [bs_size]
 unfold adT
 have hn : adR 1 (n : Int) zR ere = lnR n := by
  have hz : noR zR = true := by decide +kernel
  unfold adR lnR
  rw [hz]
  by_cases h1 : 1 ≤ n <;> by_cases h2 : n ≤ 9999 <;> simp [h1, h2] <;> omega
 rw [hn]
 cases lnR n with
 | false => rfl
 | true =>
  have : (dec n).length ≠ 0 := by
   unfold dec Lib.decDigits
   split <;> simp
  simp [this]
theorem line_any {w : World} {P : Nat} {s : ByteArray} {ere : Bool} {i o : Nat} (h : Rr w P s ere i o) (hi : i ≤ s.size) (hs : s.size ≤ 1000000) :
  Calls Tryz.prog 241 #[.pointer (some ⟨P, 0, none⟩)] w fun e w' => ∃ a : Av, e = .returned (.tuple #[a.v, .int .i64 (((pLine s i).2.1 : Nat) : Int)]) ∧ AIs w' (fun b => w.heap.size ≤ b) a (pLine s i).1 ∧ Rr w' P s ere (pLine s i).2.2 o ∧ Ks P w w' := by
 have R := hid h
 have hP : P < w.heap.size := h.lt
 clear h
 obtain ⟨x, hx⟩ : ∃ x, pLine s i = x := ⟨_, rfl⟩
 rw [hx]
 obtain ⟨n, j, hnj⟩ : ∃ n j, numN s i = (n, j) := ⟨_, _, rfl⟩
 have hl := numN_le s i hi
 rw [hnj] at hl
 have hn : n ≤ 10000 := hl.1
 obtain ⟨u, hu⟩ : ∃ u, lnR n = u := ⟨_, rfl⟩
 have HX : Hid ((if u = true then ((⟨1, n, zR⟩ : PA), 0, j) else (PA.z, 1, i)) = x) := by show _ = _; rw [← hx]; unfold pLine; rw [hnj]; dsimp only; rw [hu]
 have C1 : Hid (∀ w, Rr w P s ere i o → Calls Tryz.prog 246 #[.pointer (some ⟨P, 0, none⟩)] w fun e w' => e = .returned (.int .i64 (n : Int)) ∧ Rr w' P s ere j o ∧ Ks P w w') := fun w h => by have := numr_any h hi hs; rw [hnj] at this; exact this
 obtain ⟨X, hX⟩ : ∃ X, bs (adT 1 (n : Int) zR ere) = X := ⟨_, rfl⟩
 have EN : Hid (X.toList.isEmpty = !u) := by show _ = _; rw [str_nil, ← hX, adT_line_empty, hu]
 have C2 : Hid (∀ w, Tb w → Calls Tryz.prog 31 #[.agg #[.int .i64 1, .int .i64 (n : Int), .int .i64 0, .int .i64 0, .int .i64 0, .int .i64 0, .int .u64 0, .int .u64 0, .int .u64 0, .int .u64 0, .slice none 0 0], .bool ere] w fun e w' => e = .returned (.string X) ∧ Kp w w') := fun w t => by rw [← hX]; exact addr_any ⟨1, n, Rv.z⟩ zR ere zR_ok w (zR_is w) t
 clear hx hnj hl hu hX
 go_enter Tryz.func241, Tryz.ntmps241
 go_upto_region 1 with fail
 refine opq (fun V0 => Rr V0 P s ere i o ∧ V0.heap[w.heap.size]? = some (Av.o Av.z) ∧ Ks P w V0) ⟨by exact R.out.kp kpt, by (first | exact last_at _ _ _ (by simp) | (refine bl_alloc ?_ _; first | exact last_at _ _ _ (by simp) | (refine bl_alloc ?_ _; first | exact last_at _ _ _ (by simp) | (refine bl_alloc ?_ _; exact last_at _ _ _ (by simp))))), by exact (Kp.ks kpt (Nat.le_of_lt hP))⟩ ?_
 rintro V0 ⟨xR0, xB0, xK0⟩
 have R0 := hidT xR0
 have B0 := hidT xB0
 have K0 := hidT xK0
 clear xR0 xB0 xK0
 clear R
 have p2 := R0.out.cells.2.2.1
 go_wp2_with fail
 refine (C1.out _ R0.out).mono ?_
 rintro e w1 ⟨rfl, r1, k1⟩
 clear p2
 have R1 := hid r1
 have B1 := hid (bl_ks B0.out (by omega) k1)
 have K1 := hid (K0.out.trans k1)
 clear r1 k1 R0 B0 K0 C1
 obtain ⟨B2, hB2⟩ : ∃ B2, w1.heap.size = B2 := ⟨_, rfl⟩
 have hw1 : w.heap.size < B2 := by rw [← hB2]; exact bl_lt B1.out
 go_upto_region 3 with fail
 try rw [hB2]
 refine opq (fun V2 => Rr V2 P s ere j o ∧ V2.heap[B2]? = some (Av.o (⟨1, (n : Int), Rv.z⟩ : Av)) ∧ V2.heap[w.heap.size]? = some (Av.o Av.z) ∧ Ks P w V2) ⟨by exact R1.out.kp kpt, by subst hB2; (first | exact last_at _ _ _ (by simp) | (refine bl_alloc ?_ _; first | exact last_at _ _ _ (by simp) | (refine bl_alloc ?_ _; first | exact last_at _ _ _ (by simp) | (refine bl_alloc ?_ _; exact last_at _ _ _ (by simp))))), by exact bl_kp B1.out kpt, by exact (K1.out.kpt kpt hP)⟩ ?_
 rintro V2 ⟨xR2, xA2, xB3, xK2⟩
 have R2 := hidT xR2
 have A2 := hidT xA2
 have B3 := hidT xB3
 have K2 := hidT xK2
 clear xR2 xA2 xB3 xK2
 clear R1 B1 K1 hB2
 go_cut [19] (fun v wc => v = .bool (!u) ∧ Kp V2 wc)
 case first =>
  have en := EN.out
  have Q0 : Kp V2 V2.drew := (Kp.refl _).drew
  have MK : Hid (∀ W, Kp V2 W → W.cell? ⟨B2, 0, none⟩ = some (.int .i64 1) ∧ W.cell? ⟨B2, 1, none⟩ = some (.int .i64 (n : Int)) ∧ W.cell? ⟨B2, 2, none⟩ = some (.int .i64 0) ∧ W.cell? ⟨B2, 3, none⟩ = some (.int .i64 0) ∧ W.cell? ⟨B2, 4, none⟩ = some (.int .i64 0) ∧ W.cell? ⟨B2, 5, none⟩ = some (.int .i64 0) ∧ W.cell? ⟨B2, 6, none⟩ = some (.int .u64 0) ∧ W.cell? ⟨B2, 7, none⟩ = some (.int .u64 0) ∧ W.cell? ⟨B2, 8, none⟩ = some (.int .u64 0) ∧ W.cell? ⟨B2, 9, none⟩ = some (.int .u64 0) ∧ W.cell? ⟨B2, 10, none⟩ = some (.slice none 0 0) ∧ W.cell? ⟨P, 1, none⟩ = some (.bool ere) ∧ Hid (Kp V2 W)) := fun W k => ⟨bl_cell (bl_kp A2.out k) 0 _ rfl, bl_cell (bl_kp A2.out k) 1 _ rfl, bl_cell (bl_kp A2.out k) 2 _ rfl, bl_cell (bl_kp A2.out k) 3 _ rfl, bl_cell (bl_kp A2.out k) 4 _ rfl, bl_cell (bl_kp A2.out k) 5 _ rfl, bl_cell (bl_kp A2.out k) 6 _ rfl, bl_cell (bl_kp A2.out k) 7 _ rfl, bl_cell (bl_kp A2.out k) 8 _ rfl, bl_cell (bl_kp A2.out k) 9 _ rfl, bl_cell (bl_kp A2.out k) 10 _ rfl, (R2.out.kp k).cells.2.1, k⟩
  refine wp_region_noPanic ?_
  refine hdrew MK Q0 (fun hH => ?_)
  have KQ := Q0
  refine tk 0 (some 13) (.load 32 (.tmp 5)) 32 (v := ?v0e1) rfl ?h0e1 hH ?_
  case h0e1 => intro _ _; go_simp; try with_reducible rfl
  try simp only [ps]
  refine tk 1 (some 14) (.move (.tmp 0)) 161 (v := ?v1e2) rfl ?h1e2 hH ?_
  case h1e2 => intro _ _; go_simp; try with_reducible rfl
  try simp only [ps]
  refine tk 2 (some 15) (.nilCheck (.tmp 14)) 0 (v := ?v2e3) rfl ?h2e3 hH ?_
  case h2e3 => intro _ _; go_simp; try with_reducible rfl
  try simp only [ps]
  refine tk 3 (some 16) (.fieldAddr 123 (.tmp 15) 1) 0 (v := ?v3e4) rfl ?h3e4 hH ?_
  case h3e4 => intro _ _; go_simp; try with_reducible rfl
  try simp only [ps]
  refine tk 4 (some 17) (.load 4 (.tmp 16)) 4 (v := ?v4e5) rfl ?h4e5 hH ?_
  case h4e5 => intro _ _; go_simp; try with_reducible rfl
  try simp only [ps]
  refine wpAnyH_ready (rs := [5]) (by kernel_rfl) (by simp) ?_
  refine AllReadyH.cons (o := { dst := some 18, op := .call { callee := .value (.func 31), args := #[.tmp 13, .tmp 17], argTypes := #[32, 4] }, type := 9, pos := "address.go:43", after := _, guard := none }) rfl (fun K hKq => ?_) AllReadyH.nil
  go_simp
  refine (C2.out _ (R2.out.kp KQ).tb).mono ?_
  rintro e y1 ⟨rfl, kq⟩
  refine hKq.out _ _ (MK.out _ (KQ.trans kq)) (fun hN => ?_)
  clear kq
  clear hKq K hH KQ
  have hH := hN
  clear hN
  have KQ := hH.2.2.2.2.2.2.2.2.2.2.2.2.out
  try simp only [ps]
  refine tk 6 (some 19) (.binOp .eql 9 (.tmp 18) (.const (.string { data := #[] })) 9) 4 (v := ?v6e6) rfl ?h6e6 hH ?_
  case h6e6 => intro _ _; go_simp; try with_reducible rfl
  try simp only [ps]
  refine wpAnyH_done (by kernel_rfl) ?_ _
  refine NoPanic.normal ?_
  go_wp2_with fail
  go_meet
  case rel => exact ⟨by first | rfl | rw [en], KQ⟩
 case rest =>
  obtain ⟨rfl, k1⟩ := hcut
  rename World => w4
  have R4 := hid (R2.out.kp k1)
  have A4 := hid (bl_kp A2.out k1)
  have B4 := hid (bl_kp B3.out k1)
  have K4 := hid (K2.out.kpt k1 hP)
  clear k1 R2 A2 B3 K2 EN
  cases u with
  | true =>
   obtain rfl : ((⟨1, n, zR⟩ : PA), 0, j) = x := HX.out
   clear HX
   obtain ⟨a0, a1, a2, a3, a4, a5, a6, a7, a8, a9, a10⟩ := cells11 (A4.out)
   obtain ⟨b0, fb0, b1, fb1, b2, fb2, b3, fb3, b4, fb4, b5, fb5, b6, fb6, b7, fb7, b8, fb8, b9, fb9, b10, fb10⟩ := cellf11 (B4.out)
   go_wp2_with fail
   refine bodyPost_ret (v := .tuple #[Av.v (⟨1, (n : Int), Rv.z⟩ : Av), .int .i64 0]) (av_ret2 rfl _ _ _ (⟨1, (n : Int), Rv.z⟩ : Av) _ rfl rfl (bl_set11 B4.out _ _ _ _ _ _ _ _ _ _ _)) rfl ⟨(⟨1, (n : Int), Rv.z⟩ : Av), rfl, ⟨rfl, rfl, Is.leaf _ _ _ _ _ _ _⟩, R4.out.ks (ks_set11 _ _ _ _ _ _ _ _ _ _ _) hP, K4.out.off (ks_set11 _ _ _ _ _ _ _ _ _ _ _) (Nat.le_refl _) hP⟩
  | false =>
   obtain rfl : (PA.z, 1, i) = x := HX.out
   clear HX
   have p2 := R4.out.cells.2.2.1
   have fp2 := bl_frozen R4.out.b 2
   go_upto_region 5 with fail
   refine opq (fun V5 => Rr V5 P s ere i o ∧ V5.heap[w.heap.size]? = some (Av.o Av.z) ∧ Ks P w V5) ⟨by exact R4.out.at i, by exact bl_set B4.out (by omega) _, by exact K4.out.set 2 _⟩ ?_
   rintro V5 ⟨xR5, xB5, xK5⟩
   have R5 := hidT xR5
   have B5 := hidT xB5
   have K5 := hidT xK5
   clear xR5 xB5 xK5
   clear R4 B4 K4 p2 fp2
   obtain ⟨b0, fb0, b1, fb1, b2, fb2, b3, fb3, b4, fb4, b5, fb5, b6, fb6, b7, fb7, b8, fb8, b9, fb9, b10, fb10⟩ := cellf11 (B5.out)
   go_wp2_with fail
   refine bodyPost_ret (v := .tuple #[Av.v Av.z, .int .i64 1]) (av_ret2 rfl _ _ _ Av.z _ rfl rfl (bl_set11 B5.out _ _ _ _ _ _ _ _ _ _ _)) rfl ⟨Av.z, rfl, AIs.zero _ _, R5.out.ks (ks_set11 _ _ _ _ _ _ _ _ _ _ _) hP, K5.out.off (ks_set11 _ _ _ _ _ _ _ _ _ _ _) (Nat.le_refl _) hP⟩
def pAddr (s : ByteArray) (ere : Bool) (i : Nat) : PA × Nat × Nat :=
 if digN (ch s i) then pLine s i
 else if tkN s i 36 then (⟨2, 0, zR⟩, 0, i + 1)
 else if tkN s i 47 then
  if (pExpr s ere (i + 1)).2.1 = 0 then (⟨3, 0, (pExpr s ere (i + 1)).1⟩, 0, (pExpr s ere (i + 1)).2.2) else (PA.z, (pExpr s ere (i + 1)).2.1, (pExpr s ere (i + 1)).2.2)
 else (PA.z, 0, i)
theorem tk_lt {s : ByteArray} {i b : Nat} (h : tkN s i b = true) : i < s.size := by
 unfold tkN at h
 simp at h
 exact h.1
theorem pLine_le (s : ByteArray) (i : Nat) (hi : i ≤ s.size) : i ≤ (pLine s i).2.2 ∧ (pLine s i).2.2 ≤ s.size := by
 have h := numN_le s i hi
 unfold pLine
 split
 ·
  exact h.2
 ·
  exact ⟨Nat.le_refl _, hi⟩
theorem pAddr_le (s : ByteArray) (ere : Bool) (i : Nat) (hi : i ≤ s.size) : i ≤ (pAddr s ere i).2.2 ∧ (pAddr s ere i).2.2 ≤ s.size := by
 unfold pAddr
 split
 ·
  exact pLine_le s i hi
 ·
  split
  ·
   rename_i h
   have := tk_lt h
   exact ⟨Nat.le_succ _, this⟩
  ·
   split
   ·
    rename_i h
    have h1 := tk_lt h
    have h2 := pExpr_le s ere (i + 1) h1
    split
    ·
     exact ⟨Nat.le_trans (Nat.le_succ _) h2.1, h2.2⟩
    ·
     exact ⟨Nat.le_trans (Nat.le_succ _) h2.1, h2.2⟩
   ·
    exact ⟨Nat.le_refl _, hi⟩
theorem pAddr_ok (s : ByteArray) (ere : Bool) (i : Nat) : RxOk (pAddr s ere i).1.t := by
 unfold pAddr
 split
 ·
  unfold pLine
  split <;> exact zR_ok
 ·
  split
  ·
   exact zR_ok
  ·
   split
   ·
    split
    ·
     exact pExpr_ok s ere (i + 1)
    ·
     exact zR_ok
   ·
    exact zR_ok
theorem address_any {w : World} {P : Nat} {s : ByteArray} {ere : Bool} {i o : Nat} (h : Rr w P s ere i o) (hi : i ≤ s.size) (hs : s.size ≤ 1000000) :
  Calls Tryz.prog 223 #[.pointer (some ⟨P, 0, none⟩)] w fun e w' => ∃ a : Av, e = .returned (.tuple #[a.v, .int .i64 (((pAddr s ere i).2.1 : Nat) : Int)]) ∧ AIs w' (fun b => w.heap.size ≤ b) a (pAddr s ere i).1 ∧ Rr w' P s ere (pAddr s ere i).2.2 o ∧ Ks P w w' := by
 have R := hid h
 have hP : P < w.heap.size := h.lt
 clear h
 obtain ⟨x, hx⟩ : ∃ x, pAddr s ere i = x := ⟨_, rfl⟩
 rw [hx]
 obtain ⟨c, hc⟩ : ∃ c, ch s i = c := ⟨_, rfl⟩
 have C1 : Hid (∀ w, Rr w P s ere i o → Calls Tryz.prog 161 #[.pointer (some ⟨P, 0, none⟩)] w fun e w' => e = .returned (.int .u8 (c : Int)) ∧ Kp w w') := fun w h => by rw [← hc]; exact here_any h hi
 obtain ⟨d, hd⟩ : ∃ d, digN c = d := ⟨_, rfl⟩
 have C2 : Hid (∀ w, Calls Tryz.prog 240 #[.int .u8 (c : Int)] w fun e w' => e = .returned (.bool d) ∧ w' = w) := fun w => by rw [← hd]; exact dig_any c w
 have HX : Hid ((if d = true then pLine s i else if tkN s i 36 = true then (⟨2, 0, zR⟩, 0, i + 1) else if tkN s i 47 = true then if (pExpr s ere (i + 1)).2.1 = 0 then (⟨3, 0, (pExpr s ere (i + 1)).1⟩, 0, (pExpr s ere (i + 1)).2.2) else (PA.z, (pExpr s ere (i + 1)).2.1, (pExpr s ere (i + 1)).2.2) else (PA.z, 0, i)) = x) := by show _ = _; rw [← hx, ← hd, ← hc]; rfl
 clear hx hc hd
 go_enter Tryz.func223, Tryz.ntmps223
 go_upto_region 1 with fail
 refine opq (fun V0 => Rr V0 P s ere i o ∧ V0.heap[w.heap.size]? = some (Av.o Av.z) ∧ Ks P w V0) ⟨by exact R.out.kp kpt, by (first | exact last_at _ _ _ (by simp) | (refine bl_alloc ?_ _; first | exact last_at _ _ _ (by simp) | (refine bl_alloc ?_ _; first | exact last_at _ _ _ (by simp) | (refine bl_alloc ?_ _; exact last_at _ _ _ (by simp))))), by exact (Kp.ks kpt (Nat.le_of_lt hP))⟩ ?_
 rintro V0 ⟨xR0, xB0, xK0⟩
 have R0 := hidT xR0
 have B0 := hidT xB0
 have K0 := hidT xK0
 clear xR0 xB0 xK0
 clear R
 go_wp2_with fail
 refine (C1.out _ R0.out).mono ?_
 rintro e w1 ⟨rfl, k1⟩
 have R1 := hid (R0.out.kp k1)
 have B1 := hid (bl_kp B0.out k1)
 have K1 := hid (K0.out.kpt k1 hP)
 clear k1 R0 B0 K0 C1
 go_wp2_with fail
 refine (C2.out _).mono ?_
 rintro e w2 ⟨rfl, rfl⟩
 clear C2
 cases d with
 | true =>
  have EX : Hid (pLine s i = x) := HX.out
  clear HX
  go_wp2_with fail
  refine (line_any R1.out hi hs).mono ?_
  rintro e w3 ⟨a, rfl, ha, r1, k1⟩
  have R3 := hid (r1)
  have B3 := hid (bl_ks B1.out (by omega) k1)
  have K3 := hid (K1.out.trans k1)
  have A3 := hid (ha.weak (fun b hb _ => (Nat.lt_of_lt_of_le (bl_lt B1.out) hb : w.heap.size < b)))
  clear ha r1 k1 R1 B1 K1
  obtain ⟨b0, fb0, b1, fb1, b2, fb2, b3, fb3, b4, fb4, b5, fb5, b6, fb6, b7, fb7, b8, fb8, b9, fb9, b10, fb10⟩ := cellf11 (B3.out)
  go_wp2_with fail
  rw [← EX.out]
  refine bodyPost_ret (v := .tuple #[Av.v a, .int .i64 _]) (av_ret2 rfl _ _ _ a _ rfl rfl (bl_set11 B3.out _ _ _ _ _ _ _ _ _ _ _)) rfl ⟨a, rfl, (A3.out.ks (ks_set11 _ _ _ _ _ _ _ _ _ _ _) (fun b hb _ => by omega)).weak (fun b hb _ => Nat.le_of_lt hb), R3.out.ks (ks_set11 _ _ _ _ _ _ _ _ _ _ _) hP, K3.out.off (ks_set11 _ _ _ _ _ _ _ _ _ _ _) (Nat.le_refl _) hP⟩
 | false =>
  have HX1 : Hid ((if tkN s i 36 = true then ((⟨2, 0, zR⟩ : PA), 0, i + 1) else if tkN s i 47 = true then if (pExpr s ere (i + 1)).2.1 = 0 then (⟨3, 0, (pExpr s ere (i + 1)).1⟩, 0, (pExpr s ere (i + 1)).2.2) else (PA.z, (pExpr s ere (i + 1)).2.1, (pExpr s ere (i + 1)).2.2) else (PA.z, 0, i)) = x) := HX.out
  clear HX
  obtain ⟨q, hq⟩ : ∃ q, tkN s i 36 = q := ⟨_, rfl⟩
  have hti : tkI s i 36 = if q then i + 1 else i := by unfold tkI; rw [hq]
  have T1 := hid (fun w h => tk_any (w := w) (P := P) (ere := ere) (o := o) 36 h hi hs)
  rw [hq, hti] at T1
  rw [hq] at HX1
  clear hti hq
  go_wp2_with fail
  refine (T1.out _ R1.out).mono ?_
  rintro e w3 ⟨rfl, r1, k1⟩
  have R3 := hid (r1)
  have B3 := hid (bl_ks B1.out (by omega) k1)
  have K3 := hid (K1.out.trans k1)
  clear r1 k1 R1 B1 K1 T1
  cases q with
  | true =>
   obtain rfl : ((⟨2, 0, zR⟩ : PA), 0, i + 1) = x := HX1.out
   have R4 : Hid (Rr w3 P s ere (i + 1) o) := R3.out
   clear HX1 R3
   obtain ⟨b0, fb0, b1, fb1, b2, fb2, b3, fb3, b4, fb4, b5, fb5, b6, fb6, b7, fb7, b8, fb8, b9, fb9, b10, fb10⟩ := cellf11 (B3.out)
   go_wp2_with fail
   refine bodyPost_ret (v := .tuple #[Av.v (⟨2, 0, Rv.z⟩ : Av), .int .i64 0]) (av_ret2 rfl _ _ _ (⟨2, 0, Rv.z⟩ : Av) _ rfl rfl (bl_set11 B3.out _ _ _ _ _ _ _ _ _ _ _)) rfl ⟨(⟨2, 0, Rv.z⟩ : Av), rfl, ⟨rfl, rfl, Is.leaf _ _ _ _ _ _ _⟩, R4.out.ks (ks_set11 _ _ _ _ _ _ _ _ _ _ _) hP, K3.out.off (ks_set11 _ _ _ _ _ _ _ _ _ _ _) (Nat.le_refl _) hP⟩
  | false =>
   have HX2 : Hid ((if tkN s i 47 = true then if (pExpr s ere (i + 1)).2.1 = 0 then ((⟨3, 0, (pExpr s ere (i + 1)).1⟩ : PA), 0, (pExpr s ere (i + 1)).2.2) else (PA.z, (pExpr s ere (i + 1)).2.1, (pExpr s ere (i + 1)).2.2) else (PA.z, 0, i)) = x) := HX1.out
   have R4 : Hid (Rr w3 P s ere i o) := R3.out
   clear HX1 R3
   obtain ⟨q, hq⟩ : ∃ q, tkN s i 47 = q := ⟨_, rfl⟩
   have hti : tkI s i 47 = if q then i + 1 else i := by unfold tkI; rw [hq]
   have hlt : q = true → i + 1 ≤ s.size := fun h => tk_lt (hq.trans h)
   have T1 := hid (fun w h => tk_any (w := w) (P := P) (ere := ere) (o := o) 47 h hi hs)
   rw [hq, hti] at T1
   rw [hq] at HX2
   clear hti hq
   go_wp2_with fail
   refine (T1.out _ R4.out).mono ?_
   rintro e w5 ⟨rfl, r1, k1⟩
   have R5 := hid (r1)
   have B5 := hid (bl_ks B3.out (by omega) k1)
   have K5 := hid (K3.out.trans k1)
   clear r1 k1 R4 B3 K3 T1
   cases q with
   | false =>
    obtain rfl : (PA.z, 0, i) = x := HX2.out
    have R6 : Hid (Rr w5 P s ere i o) := R5.out
    clear HX2 R5
    obtain ⟨b0, fb0, b1, fb1, b2, fb2, b3, fb3, b4, fb4, b5, fb5, b6, fb6, b7, fb7, b8, fb8, b9, fb9, b10, fb10⟩ := cellf11 (B5.out)
    go_wp2_with fail
    refine bodyPost_ret (v := .tuple #[Av.v Av.z, .int .i64 0]) (av_ret2 rfl _ _ _ Av.z _ rfl rfl (bl_set11 B5.out _ _ _ _ _ _ _ _ _ _ _)) rfl ⟨Av.z, rfl, AIs.zero _ _, R6.out.ks (ks_set11 _ _ _ _ _ _ _ _ _ _ _) hP, K5.out.off (ks_set11 _ _ _ _ _ _ _ _ _ _ _) (Nat.le_refl _) hP⟩
   | true =>
    have R6 : Hid (Rr w5 P s ere (i + 1) o) := R5.out
    clear R5
    obtain ⟨T, m, j, hp⟩ : ∃ T m j, pExpr s ere (i + 1) = (T, m, j) := ⟨_, _, _, rfl⟩
    have HX3 : Hid ((if m = 0 then ((⟨3, 0, T⟩ : PA), 0, j) else (PA.z, m, j)) = x) := by have := HX2.out; rw [hp] at this; exact this
    have E1 := hid (fun w h => expr_any (w := w) (P := P) (ere := ere) (o := o) h (hlt rfl) hs)
    rw [hp] at E1
    clear HX2 hp hlt
    go_wp2_with fail
    refine (E1.out _ R6.out).mono ?_
    rintro e w7 ⟨r, rfl, hI, r1, k1⟩
    have R7 := hid (r1)
    have B7 := hid (bl_ks B5.out (by omega) k1)
    have K7 := hid (K5.out.trans k1)
    have I7 := hid (hI.weak (fun b hb _ => (Nat.lt_of_lt_of_le (bl_lt B5.out) hb : w.heap.size < b)))
    clear hI r1 k1 R6 B5 K5 E1
    obtain ⟨B2, hB2⟩ : ∃ B2, w7.heap.size = B2 := ⟨_, rfl⟩
    have hw1 : w.heap.size < B2 := by rw [← hB2]; exact bl_lt B7.out
    go_upto_region 7 with fail
    try rw [hB2]
    refine opq (fun V8 => Rr V8 P s ere j o ∧ V8.heap[B2]? = some r.o ∧ V8.heap[w.heap.size]? = some (Av.o Av.z) ∧ Is V8 (fun b => w.heap.size < b) T r.v ∧ Ks P w V8) ⟨by exact R7.out.kp kpt, by subst hB2; (first | exact last_at _ _ _ (by simp) | (refine bl_alloc ?_ _; first | exact last_at _ _ _ (by simp) | (refine bl_alloc ?_ _; first | exact last_at _ _ _ (by simp) | (refine bl_alloc ?_ _; exact last_at _ _ _ (by simp))))), by exact bl_kp B7.out kpt, by exact I7.out.kp kpt, by exact (K7.out.kpt kpt hP)⟩ ?_
    rintro V8 ⟨xR8, xA8, xB8, xI8, xK8⟩
    have R8 := hidT xR8
    have A8 := hidT xA8
    have B8 := hidT xB8
    have I8 := hidT xI8
    have K8 := hidT xK8
    clear xR8 xA8 xB8 xI8 xK8
    clear R7 B7 K7 I7 hB2
    by_cases hm : m = 0
    ·
     subst hm
     obtain rfl : ((⟨3, 0, T⟩ : PA), 0, j) = x := HX3.out
     clear HX3
     obtain ⟨a0, a1, a2, a3, a4, a5, a6, a7, a8⟩ := cells9 (A8.out)
     obtain ⟨b0, fb0, b1, fb1, b2, fb2, b3, fb3, b4, fb4, b5, fb5, b6, fb6, b7, fb7, b8, fb8, b9, fb9, b10, fb10⟩ := cellf11 (B8.out)
     go_wp2_with fail
     refine bodyPost_ret (v := .tuple #[Av.v (⟨3, 0, r⟩ : Av), .int .i64 0]) (av_ret2 rfl _ _ _ (⟨3, 0, r⟩ : Av) _ rfl rfl (bl_set11 B8.out _ _ _ _ _ _ _ _ _ _ _)) rfl ⟨(⟨3, 0, r⟩ : Av), rfl, ⟨rfl, rfl, (I8.out.ks (ks_set11 _ _ _ _ _ _ _ _ _ _ _) (fun b hb _ => by omega)).weak (fun b hb _ => Nat.le_of_lt hb)⟩, R8.out.ks (ks_set11 _ _ _ _ _ _ _ _ _ _ _) hP, K8.out.off (ks_set11 _ _ _ _ _ _ _ _ _ _ _) (Nat.le_refl _) hP⟩
    ·
     have gm : ((m : Int) != 0) = true := by simp; omega
     obtain rfl : (PA.z, m, j) = x := by have := HX3.out; rw [if_neg hm] at this; exact this
     clear HX3 hm I8 A8
     obtain ⟨b0, fb0, b1, fb1, b2, fb2, b3, fb3, b4, fb4, b5, fb5, b6, fb6, b7, fb7, b8, fb8, b9, fb9, b10, fb10⟩ := cellf11 (B8.out)
     go_wp2_with fail
     refine bodyPost_ret (v := .tuple #[Av.v Av.z, .int .i64 _]) (av_ret2 rfl _ _ _ Av.z _ rfl rfl (bl_set11 B8.out _ _ _ _ _ _ _ _ _ _ _)) rfl ⟨Av.z, rfl, AIs.zero _ _, R8.out.ks (ks_set11 _ _ _ _ _ _ _ _ _ _ _) hP, K8.out.off (ks_set11 _ _ _ _ _ _ _ _ _ _ _) (Nat.le_refl _) hP⟩
def pQuo (s : ByteArray) (i : Nat) : Nat × Bool × Nat := if tkN s i 47 then (47, true, i + 1) else if tkN s i 92 then (92, true, i + 1) else if tkN s i 110 then (10, true, i + 1) else (0, false, i)
def pRB (s : ByteArray) (i : Nat) : Nat × Bool × Nat := if tkN s i 92 then pQuo s (i + 1) else if ch s i = 10 then (0, false, i) else (ch s i, true, i + 1)
def rowF (s : ByteArray) : Nat → List UInt8 → Nat → ByteArray × Bool × Nat
 | 0, _, i => (bs [], false, i)
 | f + 1, l, i => if decide (i < s.size) && !(ch s i == 47) then (if (pRB s i).2.1 then rowF s f (l ++ [UInt8.ofNat (pRB s i).1]) (pRB s i).2.2 else (bs [], false, (pRB s i).2.2)) else (bs l, tkN s i 47, tkI s i 47)
def pRowS (s : ByteArray) (i : Nat) : ByteArray × Bool × Nat := rowF s (s.size + 1) [] i
theorem pQuo_le (s : ByteArray) (i : Nat) (hi : i ≤ s.size) : i ≤ (pQuo s i).2.2 ∧ (pQuo s i).2.2 ≤ s.size ∧ (pQuo s i).1 < 256 := by
 unfold pQuo
 split
 ·
  rename_i h
  exact ⟨Nat.le_succ _, tk_lt h, by show _ < 256; omega⟩
 ·
  split
  ·
   rename_i h
   exact ⟨Nat.le_succ _, tk_lt h, by show _ < 256; omega⟩
  ·
   split
   ·
    rename_i h
    exact ⟨Nat.le_succ _, tk_lt h, by show _ < 256; omega⟩
   ·
    exact ⟨Nat.le_refl _, hi, by show 0 < 256; omega⟩
theorem pRB_le (s : ByteArray) (i : Nat) (hi : i < s.size) : i ≤ (pRB s i).2.2 ∧ (pRB s i).2.2 ≤ s.size ∧ (pRB s i).1 < 256 ∧ ((pRB s i).2.1 = true → i < (pRB s i).2.2) := by
 unfold pRB
 split
 ·
  have h := pQuo_le s (i + 1) hi
  exact ⟨by omega, h.2.1, h.2.2, fun _ => h.1⟩
 ·
  split
  ·
   exact ⟨Nat.le_refl _, Nat.le_of_lt hi, by show 0 < 256; omega, fun h => by cases h⟩
  ·
   exact ⟨Nat.le_succ _, hi, ch_lt _ _, fun _ => Nat.lt_succ_self _⟩
theorem rowF_le (s : ByteArray) : ∀ f l i, i ≤ s.size → i ≤ (rowF s f l i).2.2 ∧ (rowF s f l i).2.2 ≤ s.size ∧ (rowF s f l i).1.size ≤ l.length + f
 | 0, l, i, hi => ⟨Nat.le_refl _, hi, Nat.zero_le _⟩
 | f + 1, l, i, hi => by
  unfold rowF
  split
  ·
   rename_i hc
   have hlt : i < s.size := by simp at hc; exact hc.1
   have h := pRB_le s i hlt
   split
   ·
    have h2 := rowF_le s f (l ++ [UInt8.ofNat (pRB s i).1]) (pRB s i).2.2 h.2.1
    rw [List.length_append, List.length_singleton] at h2
    exact ⟨Nat.le_trans h.1 h2.1, h2.2.1, by omega⟩
   ·
    exact ⟨h.1, h.2.1, Nat.zero_le _⟩
  ·
   have h := tkI_le s i 47 hi
   exact ⟨h.1, h.2, by show (bs l).size ≤ _; rw [bs_size]; omega⟩
theorem pRowS_le (s : ByteArray) (i : Nat) (hi : i ≤ s.size) : i ≤ (pRowS s i).2.2 ∧ (pRowS s i).2.2 ≤ s.size ∧ (pRowS s i).1.size ≤ s.size + 1 := by
 have := rowF_le s (s.size + 1) [] i hi
 rw [List.length_nil, Nat.zero_add] at this
 exact this
theorem quo_any {w : World} {P : Nat} {s : ByteArray} {ere : Bool} {i o : Nat} (h : Rr w P s ere i o) (hi : i ≤ s.size) (hs : s.size ≤ 1000000) :
  Calls Tryz.prog 255 #[.pointer (some ⟨P, 0, none⟩)] w fun e w' => e = .returned (.tuple #[.int .u8 (((pQuo s i).1 : Nat) : Int), .bool (pQuo s i).2.1]) ∧ Rr w' P s ere (pQuo s i).2.2 o ∧ Ks P w w' := by
 have R := hid h
 have hP : P < w.heap.size := h.lt
 clear h
 obtain ⟨x, hx⟩ : ∃ x, pQuo s i = x := ⟨_, rfl⟩
 rw [hx]
 have HX := hid hx
 unfold pQuo at HX
 clear hx
 go_enter Tryz.func255, Tryz.ntmps255
 obtain ⟨q, hq⟩ : ∃ q, tkN s i 47 = q := ⟨_, rfl⟩
 have htq : tkI s i 47 = if q then i + 1 else i := by unfold tkI; rw [hq]
 have hlq : q = true → i + 1 ≤ s.size := fun h => tk_lt (hq.trans h)
 have T1 := hid (fun w h => tk_any (w := w) (P := P) (s := s) (ere := ere) (o := o) (i := i) 47 h (by omega) hs)
 rw [hq, htq] at T1
 clear htq
 go_wp2_with fail
 refine (T1.out _ R.out).mono ?_
 rintro e w0 ⟨rfl, r1, k1⟩
 have R0 := hid (r1)
 have K0 := hid (k1)
 clear r1 k1 R  T1
 rw [hq] at HX
 clear hq
 cases q with
 | true =>
  obtain rfl : ((47, true, i + 1) : Nat × Bool × Nat) = x := HX.out
  have R9 : Hid (Rr w0 P s ere (i + 1) o) := R0.out
  go_wp2_with fail
  refine bodyPost_ret (results_tmp2 rfl _ _ _) rfl ⟨rfl, R9.out, K0.out⟩
 | false =>
  have R9 : Hid (Rr w0 P s ere i o) := R0.out
  clear R0 hlq
  have R0 := R9
  clear R9
  obtain ⟨q, hq⟩ : ∃ q, tkN s i 92 = q := ⟨_, rfl⟩
  have htq : tkI s i 92 = if q then i + 1 else i := by unfold tkI; rw [hq]
  have hlq : q = true → i + 1 ≤ s.size := fun h => tk_lt (hq.trans h)
  have T1 := hid (fun w h => tk_any (w := w) (P := P) (s := s) (ere := ere) (o := o) (i := i) 92 h (by omega) hs)
  rw [hq, htq] at T1
  clear htq
  go_wp2_with fail
  refine (T1.out _ R0.out).mono ?_
  rintro e w1 ⟨rfl, r1, k1⟩
  have R1 := hid (r1)
  have K1 := hid (K0.out.trans k1)
  clear r1 k1 R0 K0 T1
  rw [hq] at HX
  clear hq
  cases q with
  | true =>
   obtain rfl : ((92, true, i + 1) : Nat × Bool × Nat) = x := HX.out
   have R9 : Hid (Rr w1 P s ere (i + 1) o) := R1.out
   go_wp2_with fail
   refine bodyPost_ret (results_tmp2 rfl _ _ _) rfl ⟨rfl, R9.out, K1.out⟩
  | false =>
   have R9 : Hid (Rr w1 P s ere i o) := R1.out
   clear R1 hlq
   have R1 := R9
   clear R9
   obtain ⟨q, hq⟩ : ∃ q, tkN s i 110 = q := ⟨_, rfl⟩
   have htq : tkI s i 110 = if q then i + 1 else i := by unfold tkI; rw [hq]
   have hlq : q = true → i + 1 ≤ s.size := fun h => tk_lt (hq.trans h)
   have T1 := hid (fun w h => tk_any (w := w) (P := P) (s := s) (ere := ere) (o := o) (i := i) 110 h (by omega) hs)
   rw [hq, htq] at T1
   clear htq
   go_wp2_with fail
   refine (T1.out _ R1.out).mono ?_
   rintro e w2 ⟨rfl, r1, k1⟩
   have R2 := hid (r1)
   have K2 := hid (K1.out.trans k1)
   clear r1 k1 R1 K1 T1
   rw [hq] at HX
   clear hq
   cases q with
   | true =>
    obtain rfl : ((10, true, i + 1) : Nat × Bool × Nat) = x := HX.out
    have R9 : Hid (Rr w2 P s ere (i + 1) o) := R2.out
    go_wp2_with fail
    refine bodyPost_ret (results_tmp2 rfl _ _ _) rfl ⟨rfl, R9.out, K2.out⟩
   | false =>
    have R9 : Hid (Rr w2 P s ere i o) := R2.out
    clear R2 hlq
    have R2 := R9
    clear R9
    obtain rfl : ((0, false, i) : Nat × Bool × Nat) = x := HX.out
    go_wp2_with fail
    refine bodyPost_ret (results_tmp2 rfl _ _ _) rfl ⟨rfl, R2.out, K2.out⟩
theorem rb_any {w : World} {P : Nat} {s : ByteArray} {ere : Bool} {i o : Nat} (h : Rr w P s ere i o) (hi : i < s.size) (hs : s.size ≤ 1000000) :
  Calls Tryz.prog 247 #[.pointer (some ⟨P, 0, none⟩)] w fun e w' => e = .returned (.tuple #[.int .u8 (((pRB s i).1 : Nat) : Int), .bool (pRB s i).2.1]) ∧ Rr w' P s ere (pRB s i).2.2 o ∧ Ks P w w' := by
 have R := hid h
 have hP : P < w.heap.size := h.lt
 clear h
 obtain ⟨x, hx⟩ : ∃ x, pRB s i = x := ⟨_, rfl⟩
 rw [hx]
 obtain ⟨c, hc⟩ : ∃ c, ch s i = c := ⟨_, rfl⟩
 have HX : Hid ((if tkN s i 92 then pQuo s (i + 1) else if c = 10 then (0, false, i) else (c, true, i + 1)) = x) := by show _ = _; rw [← hx, ← hc]; rfl
 have C1 : Hid (∀ w, Rr w P s ere i o → Calls Tryz.prog 161 #[.pointer (some ⟨P, 0, none⟩)] w fun e w' => e = .returned (.int .u8 (c : Int)) ∧ Kp w w') := fun w h => by rw [← hc]; exact here_any h (Nat.le_of_lt hi)
 clear hx hc
 go_enter Tryz.func247, Tryz.ntmps247
 obtain ⟨q, hq⟩ : ∃ q, tkN s i 92 = q := ⟨_, rfl⟩
 have htq : tkI s i 92 = if q then i + 1 else i := by unfold tkI; rw [hq]
 have hlq : q = true → i + 1 ≤ s.size := fun h => tk_lt (hq.trans h)
 have T1 := hid (fun w h => tk_any (w := w) (P := P) (s := s) (ere := ere) (o := o) (i := i) 92 h (by omega) hs)
 rw [hq, htq] at T1
 clear htq
 go_wp2_with fail
 refine (T1.out _ R.out).mono ?_
 rintro e w0 ⟨rfl, r1, k1⟩
 have R0 := hid (r1)
 have K0 := hid (k1)
 clear r1 k1 R  T1
 rw [hq] at HX
 clear hq
 cases q with
 | true =>
  have EX : Hid (pQuo s (i + 1) = x) := HX.out
  have R1 : Hid (Rr w0 P s ere (i + 1) o) := R0.out
  clear HX R0
  go_wp2_with fail
  refine (quo_any R1.out hi hs).mono ?_
  rintro e w2 ⟨rfl, r1, k1⟩
  have R2 := hid (r1)
  have K2 := hid (K0.out.trans k1)
  clear r1 k1 R1 K0
  rw [EX.out]
  rw [EX.out] at R2
  go_wp2_with fail
  refine bodyPost_ret (results_tmp2 rfl _ _ _) rfl ⟨rfl, R2.out, K2.out⟩
 | false =>
  have HX1 : Hid ((if c = 10 then ((0, false, i) : Nat × Bool × Nat) else (c, true, i + 1)) = x) := HX.out
  have R1 : Hid (Rr w0 P s ere i o) := R0.out
  clear HX R0
  go_wp2_with fail
  refine (C1.out _ R1.out).mono ?_
  rintro e w2 ⟨rfl, k1⟩
  have R2 := hid (R1.out.kp k1)
  have K2 := hid (K0.out.kpt k1 hP)
  clear k1 R1 K0
  by_cases h10 : c = 10
  ·
   subst h10
   obtain rfl : ((0, false, i) : Nat × Bool × Nat) = x := HX1.out
   go_wp2_with fail
   refine bodyPost_ret (results_tmp2 rfl _ _ _) rfl ⟨rfl, R2.out, K2.out⟩
  ·
   have g10 : ((c : Int) == 10) = false := by simp; omega
   obtain rfl : ((c, true, i + 1) : Nat × Bool × Nat) = x := by have := HX1.out; rw [if_neg h10] at this; exact this
   have p2 := R2.out.cells.2.2.1
   have fp2 := bl_frozen R2.out.b 2
   have gi : IntKind.i64.wrap ((i : Int) + 1) = (i : Int) + 1 := by rw [IntKind.wrap_i64]; omega
   clear HX1 h10
   go_wp2_with fail
   refine bodyPost_ret (results_tmp2 rfl _ _ _) rfl ⟨rfl, R2.out.at (i + 1), K2.out.set 2 _⟩
theorem rowr_any {w : World} {P : Nat} {s : ByteArray} {ere : Bool} {i o : Nat} (h : Rr w P s ere i o) (hi : i ≤ s.size) (hs : s.size ≤ 1000000) :
  Calls Tryz.prog 227 #[.pointer (some ⟨P, 0, none⟩)] w fun e w' => e = .returned (.tuple #[.string (pRowS s i).1, .bool (pRowS s i).2.1]) ∧ Rr w' P s ere (pRowS s i).2.2 o ∧ Ks P w w' := by
 have R := hid h
 have hP : P < w.heap.size := h.lt
 clear h
 obtain ⟨x, hx⟩ : ∃ x, pRowS s i = x := ⟨_, rfl⟩
 rw [hx]
 have HX := hid hx
 clear hx
 obtain ⟨i0, hi0, hz0, hz1, hz2⟩ := info5
 go_enter Tryz.func227, Tryz.ntmps227
 go_wp2_with fail
 go_loopg [4] (s.size + 1) (fun k v wr => ∃ (l : List UInt8) (j : Nat), j ≤ s.size ∧ s.size < k + j ∧ l.length ≤ j ∧ rowF s k l j = x ∧ Ob w.heap.size l v wr ∧ Rr wr P s ere j o ∧ Ks P w wr)
 case atStart => exact ⟨[], i, hi, by omega, by simp, HX.out, Ob.nil _ _, R.out, Ks.refl _ _⟩
 case round =>
  obtain ⟨l, j, hj, hk, hl, hp, hO, hR, hK⟩ := hrel
  obtain ⟨k, rfl⟩ : ∃ k, gk = k + 1 := ⟨gk - 1, by omega⟩
  have R1 := hid hR
  have K1 := hid hK
  have O1 := hid hO
  have HP := hid hp
  clear hR hK hp R HX hO
  obtain ⟨c, hc⟩ : ∃ c, ch s j = c := ⟨_, rfl⟩
  have HC := hid hc
  clear hc
  have H0 : Hid (∀ w, Rr w P s ere j o → Calls Tryz.prog 161 #[.pointer (some ⟨P, 0, none⟩)] w fun e w' => e = .returned (.int .u8 (c : Int)) ∧ Kp w w') := fun w h => by rw [← HC.out]; exact here_any h hj
  obtain ⟨u, hu⟩ : ∃ u, (decide (j < s.size) && !(c == 47)) = u := ⟨_, rfl⟩
  have HU := hid hu
  clear hu
  go_upto_region 2 with fail
  go_cut [14] (fun v wc => v = .bool u ∧ Kp wr wc)
  case first =>
   by_cases he : j = s.size
   ·
    obtain rfl : false = u := by have := HU.out; rw [decide_eq_false (by omega)] at this; exact this
    go_wp2_with fail
    refine (over_any R1.out).mono ?_
    rintro e w2 ⟨rfl, k1⟩
    have K2 := hid (k1)
    clear k1
    rw [decide_eq_true he]
    go_wp2_with fail
    go_meet
    case rel => exact ⟨rfl, K2.out⟩
   ·
    obtain rfl : (!(c == 47)) = u := by have := HU.out; rw [decide_eq_true (by omega), Bool.true_and] at this; exact this
    go_wp2_with fail
    refine (over_any R1.out).mono ?_
    rintro e w2 ⟨rfl, k1⟩
    have K2 := hid (k1)
    have R2 := hid (R1.out.kp k1)
    clear k1
    rw [decide_eq_false he]
    go_wp2_with fail
    refine (H0.out _ R2.out).mono ?_
    rintro e w3 ⟨rfl, k1⟩
    have K3 := hid (K2.out.trans k1)
    clear k1
    by_cases h47 : c = 47
    ·
     have g47 : ((c : Int) != 47) = false := by simp; omega
     go_wp2_with fail
     go_meet
     case rel => exact ⟨by simp [h47], K3.out⟩
    ·
     have g47 : ((c : Int) != 47) = true := by simp; omega
     go_wp2_with fail
     go_meet
     case rel => exact ⟨by simp [h47], K3.out⟩
  case rest =>
   obtain ⟨rfl, k1⟩ := hcut
   rename World => w4
   have R4 := hid (R1.out.kp k1)
   have K4 := hid (K1.out.kpt k1 hP)
   have O4 := hid (O1.out.kp k1)
   clear k1 R1 K1 O1 H0
   cases u with
   | true =>
    have hu2 : j < s.size ∧ c ≠ 47 := by have := HU.out; simpa using this
    have hlt := hu2.1
    have EX : Hid ((if (pRB s j).2.1 then rowF s k (l ++ [UInt8.ofNat (pRB s j).1]) (pRB s j).2.2 else (bs [], false, (pRB s j).2.2)) = x) := by
     show _ = _
     rw [← HP.out]
     conv => { rhs; unfold rowF }
     rw [if_pos (show (decide (j < s.size) && !(ch s j == 47)) = true by rw [HC.out]; exact HU.out)]
    obtain ⟨b, ok, j2, hb⟩ : ∃ b ok j2, pRB s j = (b, ok, j2) := ⟨_, _, _, rfl⟩
    have hbl := pRB_le s j hlt
    rw [hb] at hbl
    obtain ⟨hb1, hb2, hb3, hb4⟩ : j ≤ j2 ∧ j2 ≤ s.size ∧ b < 256 ∧ (ok = true → j < j2) := hbl
    have E1 := hid (fun w h => rb_any (w := w) (P := P) (ere := ere) (o := o) h hlt hs)
    rw [hb] at E1
    have EX2 : Hid ((if ok then rowF s k (l ++ [UInt8.ofNat b]) j2 else (bs [], false, j2)) = x) := by have := EX.out; rw [hb] at this; exact this
    clear hb EX HP HU HC hu2
    go_wp2_with fail
    refine (E1.out _ R4.out).mono ?_
    rintro e w5 ⟨rfl, r1, k1⟩
    have R5 := hid (r1)
    have K5 := hid (K4.out.trans k1)
    have O5 := hid (O4.out.ks k1 hP)
    clear r1 k1 R4 K4 O4 E1
    cases ok with
    | false =>
     obtain rfl : ((bs [], false, j2) : ByteArray × Bool × Nat) = x := EX2.out
     have R6 : Hid (Rr w5 P s ere j2 o) := R5.out
     go_wp2_with fail
     refine bodyPost_ret (results_tmp2 rfl _ _ _) rfl ⟨rfl, R6.out, K5.out⟩
    | true =>
     have EX3 : Hid (rowF s k (l ++ [UInt8.ofNat b]) j2 = x) := EX2.out
     have hj2 := hb4 rfl
     have R6 : Hid (Rr w5 P s ere j2 o) := R5.out
     clear EX2 R5
     have hszA := K5.out.size
     go_wp2_with (at_builtin; refine wpList_append_own _ rfl _ _ 59 rfl w.heap.size 5 i0 (.int .u8 0) 1 1 Tryz.underlying59 hi0 hz0 hz1 hz2 rfl (by decide) _ _ _ rfl (O5.out.own.alloc _) ⟨w5.heap.size, 0, none⟩ 1 1 [.int .u8 (b : Int)] rfl rfl ?c1 ?c2 ?c3 ?c4 ?c5 ?_)
     case c1 =>
      intro j u hj
      match j, hj with
      | 0, hj => simp at hj; subst hj; simp [Addr.add]
     case c2 => intro u hu; simp at hu; subst hu; rfl
     case c3 => unfold maxLen; omega
     case c4 => omega
     case c5 => simp; omega
     intro v2 W2 hown hgrow _
     have hlt2 : ∀ k, Value.ownBlock _ = some k → w.heap.size ≤ k ∧ k ≤ w5.heap.size := fun k hk => ⟨(O5.out.own.lt k hk).1, Nat.le_of_lt (O5.out.own.lt k hk).2⟩
     have O7 : Hid (Ob w.heap.size (l ++ [UInt8.ofNat b]) v2 W2) := ⟨by rw [bytes_push _ _ (by omega), List.length_append, List.length_singleton]; exact hown⟩
     have R7 := hid ((R6.out.kp ((Kp.refl _).alloc _)).grown hgrow (fun k hk => ⟨Nat.lt_of_lt_of_le hP (hlt2 k hk).1, Nat.le_trans (hlt2 k hk).2 (by simp)⟩))
     have K7 := hid ((K5.out.kpt ((Kp.refl _).alloc _) hP).grow hgrow (fun k hk => ⟨(hlt2 k hk).1, Nat.le_trans (hlt2 k hk).2 (by simp)⟩) (Nat.le_refl _) hP)
     clear hown hgrow hlt2 hszA
     go_wp2_with fail
     go_roundg k
     case measure => omega
     case rel => exact ⟨l ++ [UInt8.ofNat b], j2, by omega, by omega, by rw [List.length_append, List.length_singleton]; omega, EX3.out, O7.out, R7.out, K7.out⟩
   | false =>
    have EX : Hid ((bs l, tkN s j 47, tkI s j 47) = x) := by
     show _ = _
     rw [← HP.out]
     conv => { rhs; unfold rowF }
     rw [if_neg (show ¬ (decide (j < s.size) && !(ch s j == 47)) = true by rw [HC.out, HU.out]; decide)]
    obtain rfl := EX.out
    have TK1 := hid (fun w h => tk_any (w := w) (P := P) (s := s) (ere := ere) (o := o) (i := j) 47 h hj hs)
    have R5 := hid (R4.out.kp ((Kp.refl _).drew))
    clear EX HP HC HU
    go_upto_region 7 with fail
    have Q0 : Ks P w4 w4.drew := (Ks.refl _ _).drew
    have MK : Hid (∀ W, Ks P w4 W → Hid (Ks P w4 W)) := fun W k => k
    refine wp_region_noPanic ?_
    refine hdrew MK Q0 (fun hH => ?_)
    have KQ := Q0
    refine tk 0 (some 26) (.move (.tmp 4)) 59 (v := ?v0e1) rfl ?h0e1 hH ?_
    case h0e1 => intro _ _; go_simp; try with_reducible rfl
    try simp only [ps]
    refine tk 2 (some 28) (.move (.tmp 0)) 161 (v := ?v2e2) rfl ?h2e2 hH ?_
    case h2e2 => intro _ _; go_simp; try with_reducible rfl
    try simp only [ps]
    refine wpAnyH_ready (rs := [1, 3]) (by kernel_rfl) (by simp) ?_
    refine AllReadyH.cons (o := { dst := some 27, op := .convert 59 9 (.tmp 26), type := 9, pos := "asked.go:143", after := _, guard := none }) rfl (fun K hKq => ?_) ?_
    ·
     have cf := (O4.out.ks KQ hP).str
     go_simp
     refine hKq.out _ _ (MK.out _ KQ) (fun hN => ?_)
     clear cf
     clear hKq K hH KQ
     have hH := hN
     clear hN
     have KQ := hH.out
     try simp only [ps]
     refine wpAnyH_ready (rs := [3]) (by kernel_rfl) (by simp) ?_
     refine AllReadyH.cons (o := { dst := some 29, op := .call { callee := .value (.func 195), args := #[.tmp 28, .const (.int .u8 47)], argTypes := #[161, 5] }, type := 4, pos := "asked.go:143", after := _, guard := none }) rfl (fun K hKq => ?_) AllReadyH.nil
     go_simp
     refine (TK1.out _ R5.out).mono ?_
     rintro e y2 ⟨rfl, r1, kq⟩
     have RF := hid r1
     refine hKq.out _ _ (MK.out _ (KQ.trans kq)) (fun hN => ?_)
     clear r1 kq
     clear hKq K hH KQ
     have hH := hN
     clear hN
     have KQ := hH.out
     try simp only [ps]
     refine tk 4 (some 2) (.assign (.tmp 27)) 9 (v := ?v4e3) rfl ?h4e3 hH ?_
     case h4e3 => intro _ _; go_simp; try with_reducible rfl
     try simp only [ps]
     refine tk 5 (some 3) (.assign (.tmp 29)) 4 (v := ?v5e4) rfl ?h5e4 hH ?_
     case h5e4 => intro _ _; go_simp; try with_reducible rfl
     try simp only [ps]
     refine wpAnyH_done (by kernel_rfl) ?_ _
     refine NoPanic.normal ?_
     go_wp2_with fail
     refine bodyPost_ret (results_tmp2 rfl _ _ _) rfl ⟨rfl, RF.out, K4.out.trans KQ⟩
    refine AllReadyH.cons (o := { dst := some 29, op := .call { callee := .value (.func 195), args := #[.tmp 28, .const (.int .u8 47)], argTypes := #[161, 5] }, type := 4, pos := "asked.go:143", after := _, guard := none }) rfl (fun K hKq => ?_) ?_
    ·
     go_simp
     refine (TK1.out _ R5.out).mono ?_
     rintro e y1 ⟨rfl, r1, kq⟩
     have RF := hid r1
     refine hKq.out _ _ (MK.out _ (KQ.trans kq)) (fun hN => ?_)
     clear r1 kq
     clear hKq K hH KQ
     have hH := hN
     clear hN
     have KQ := hH.out
     try simp only [ps]
     refine wpAnyH_ready (rs := [1]) (by kernel_rfl) (by simp) ?_
     refine AllReadyH.cons (o := { dst := some 27, op := .convert 59 9 (.tmp 26), type := 9, pos := "asked.go:143", after := _, guard := none }) rfl (fun K hKq => ?_) AllReadyH.nil
     have cf := (O4.out.ks KQ hP).str
     go_simp
     refine hKq.out _ _ (MK.out _ KQ) (fun hN => ?_)
     clear cf
     clear hKq K hH KQ
     have hH := hN
     clear hN
     have KQ := hH.out
     try simp only [ps]
     refine tk 4 (some 2) (.assign (.tmp 27)) 9 (v := ?v4e5) rfl ?h4e5 hH ?_
     case h4e5 => intro _ _; go_simp; try with_reducible rfl
     try simp only [ps]
     refine tk 5 (some 3) (.assign (.tmp 29)) 4 (v := ?v5e6) rfl ?h5e6 hH ?_
     case h5e6 => intro _ _; go_simp; try with_reducible rfl
     try simp only [ps]
     refine wpAnyH_done (by kernel_rfl) ?_ _
     refine NoPanic.normal ?_
     go_wp2_with fail
     refine bodyPost_ret (results_tmp2 rfl _ _ _) rfl ⟨rfl, RF.out, K4.out.trans KQ⟩
    exact AllReadyH.nil
end Go.Proofs.YtigdmebijbaofaaGreatDoor
