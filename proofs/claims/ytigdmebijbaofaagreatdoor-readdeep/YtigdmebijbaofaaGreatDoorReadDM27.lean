/-
  Texts of this claim: RdF, RdG, RdT, RdJ.
-/
import Derived.Test.YtigdmebijbaofaaGreatDoorReadDM4
import Derived.Test.YtigdmebijbaofaaGreatDoorReadDM26
import Derived.Test.YtigdmebijbaofaaGreatDoorReadDM20
import Derived.Test.YtigdmebijbaofaaGreatDoorReadDM21
import Derived.Test.YtigdmebijbaofaaGreatDoorReadDM7
import Derived.Lib.BufferRead
import Derived.Shelf.Strconv.Clone
import Derived.Test.YtigdmebijbaofaaGreatDoorReadDM6
/-! ### RdF -/
namespace Go.Proofs.YtigdmebijbaofaaGreatDoor
set_option maxHeartbeats 2000000
set_option maxRecDepth 100000
open Go.RowKit
def pExpr (s : ByteArray) (ere : Bool) (i : Nat) : Rx × Nat × Nat :=
 if partB slE s i then
  if (pParse (partT slE s i) ere).2.2 = 0 ∧ wrtR ere (pParse (partT slE s i) ere).1 = true then ((pParse (partT slE s i) ere).1, 0, partI slE s i)
  else (zR, if (pParse (partT slE s i) ere).2.2 = 2 then 2 else 1, i + (pParse (partT slE s i) ere).2.1)
 else (zR, 1, partI slE s i)
theorem pParse_le (t : ByteArray) (ere : Bool) : (pParse t ere).2.1 ≤ t.size := by
 by_cases h : (pParse t ere).2.2 = 0
 ·
  rw [((Sound.parse_sound t ere).1 h).1]; exact Nat.zero_le _
 ·
  exact ((Sound.parse_sound t ere).2 h).2.1
theorem pParse_ok (t : ByteArray) (ere : Bool) : RxOk (pParse t ere).1 := by
 by_cases h : (pParse t ere).2.2 = 0
 ·
  exact ((Sound.parse_sound t ere).1 h).2.2
 ·
  rw [((Sound.parse_sound t ere).2 h).2.2]; exact zR_ok
theorem pExpr_ok (s : ByteArray) (ere : Bool) (i : Nat) : RxOk (pExpr s ere i).1 := by
 have h3 := pParse_ok (partT slE s i) ere
 unfold pExpr
 generalize partI slE s i = j at *
 generalize pParse (partT slE s i) ere = p at *
 obtain ⟨T, n, m⟩ := p
 generalize partB slE s i = q at *
 dsimp only at h3 ⊢
 cases q
 ·
  exact zR_ok
 ·
  rw [if_pos rfl]
  split
  ·
   exact h3
  ·
   exact zR_ok
theorem pExpr_le (s : ByteArray) (ere : Bool) (i : Nat) (hi : i ≤ s.size) : i ≤ (pExpr s ere i).2.2 ∧ (pExpr s ere i).2.2 ≤ s.size := by
 have h1 := partI_le slE s i hi
 have h2 := partT_le slE s i hi
 have h3 := pParse_le (partT slE s i) ere
 unfold pExpr
 generalize partI slE s i = j at *
 generalize pParse (partT slE s i) ere = p at *
 obtain ⟨T, n, m⟩ := p
 generalize partT slE s i = t at *
 generalize partB slE s i = q at *
 dsimp only at h3 ⊢
 cases q
 ·
  exact h1
 ·
  rw [if_pos rfl]
  split
  ·
   exact h1
  ·
   exact ⟨by show i ≤ i + n; omega, by show i + n ≤ s.size; omega⟩
theorem expr_any {w : World} {P : Nat} {s : ByteArray} {ere : Bool} {i o : Nat} (h : Rr w P s ere i o) (hi : i ≤ s.size) (hs : s.size ≤ 1000000) :
  Calls Tryz.prog 224 #[.pointer (some ⟨P, 0, none⟩)] w fun e w' => ∃ r : Rv, e = .returned (.tuple #[r.v, .int .i64 (((pExpr s ere i).2.1 : Nat) : Int)]) ∧ Is w' (fun b => w.heap.size ≤ b) (pExpr s ere i).1 r.v ∧ Rr w' P s ere (pExpr s ere i).2.2 o ∧ Ks P w w' := by
 have R := hid h
 have hP : P < w.heap.size := h.lt
 clear h
 obtain ⟨x, hx⟩ : ∃ x, pExpr s ere i = x := ⟨_, rfl⟩
 rw [hx]
 obtain ⟨t, ht⟩ : ∃ t, partT slE s i = t := ⟨_, rfl⟩
 obtain ⟨q, hq⟩ : ∃ q, partB slE s i = q := ⟨_, rfl⟩
 obtain ⟨j, hj⟩ : ∃ j, partI slE s i = j := ⟨_, rfl⟩
 have htl : t.size ≤ s.size - i := by rw [← ht]; exact partT_le slE s i hi
 have C1 : Hid (∀ w, Rr w P s ere i o → Calls Tryz.prog 242 #[.pointer (some ⟨P, 0, none⟩), .func (.func 243) #[] #[]] w fun e w' => e = .returned (.tuple #[.string t, .bool q]) ∧ Rr w' P s ere j o ∧ Ks P w w') := fun w h => by rw [← ht, ← hq, ← hj]; exact partE_any h hi hs
 obtain ⟨T, n, m, hp⟩ : ∃ T n m, pParse t ere = (T, n, m) := ⟨_, _, _, rfl⟩
 have hn : n ≤ t.size := by have := pParse_le t ere; rw [hp] at this; exact this
 have hO : RxOk T := by have := pParse_ok t ere; rw [hp] at this; exact this
 have C2 : Hid (∀ w, (∃ m, w.cell? ⟨1, 0, none⟩ = some (.int .i64 m)) → Calls Tryz.prog 21 #[.string t, .bool ere] w fun e w' => ∃ v, e = .returned (.tuple #[v, .int .i64 (n : Int), .int .i64 (m : Int)]) ∧ Is w' (fun b => w.heap.size ≤ b) T v ∧ Kp w w') := fun w h => by
  refine (parse_any t ere w h (by omega)).mono ?_
  intro e w' hx
  have := hx.ex
  rw [hp] at this
  exact this
 obtain ⟨S, hS⟩ : ∃ S, bs (printT ere T) = S := ⟨_, rfl⟩
 have C3 := hid (talk_print T ere hO S hS)
 obtain ⟨z, hz⟩ : ∃ z, decide (S.size = 0) = z := ⟨_, rfl⟩
 have EN := hid ((str_nil S).trans hz)
 have HX : Hid ((if q = true then (if m = 0 ∧ z = false then (T, 0, j) else (zR, if m = 2 then 2 else 1, i + n)) else (zR, 1, j)) = x) := by
  show _ = _
  rw [← hx]
  unfold pExpr
  rw [hq, hj, ht, hp]
  dsimp only
  rw [print_ne ere T S hS, hz]
  cases z <;> simp
 have HO := hid hO
 clear hx ht hq hj hp hS hz hO
 go_enter Tryz.func224, Tryz.ntmps224
 go_upto_region 1 with fail
 refine opq (fun V0 => Rr V0 P s ere i o ∧ V0.heap[w.heap.size]? = some rzo ∧ Ks P w V0) ⟨by exact R.out.kp kpt, by (first | exact last_at _ _ _ (by simp) | (refine bl_alloc ?_ _; first | exact last_at _ _ _ (by simp) | (refine bl_alloc ?_ _; first | exact last_at _ _ _ (by simp) | (refine bl_alloc ?_ _; exact last_at _ _ _ (by simp))))), by exact (Kp.ks kpt (Nat.le_of_lt hP))⟩ ?_
 rintro V0 ⟨xR0, xB0, xK0⟩
 have R0 := hidT xR0
 have B0 := hidT xB0
 have K0 := hidT xK0
 clear xR0 xB0 xK0
 clear R
 have p2 := R0.out.cells.2.2.1
 go_wp2_with fail
 refine (C1.out _ R0.out).mono ?_
 rintro e w1 ⟨rfl, r1, k1⟩
 clear p2
 have R1 := hid r1
 have B1 := hid (bl_ks B0.out (by omega) k1)
 have K1 := hid (K0.out.trans k1)
 clear r1 k1 R0 B0 K0 C1
 cases q with
 | false =>
  obtain rfl : (zR, 1, j) = x := HX.out
  obtain ⟨b0, fb0, b1, fb1, b2, fb2, b3, fb3, b4, fb4, b5, fb5, b6, fb6, b7, fb7, b8, fb8⟩ := cellf9 (B1.out)
  go_wp2_with fail
  refine bodyPost_ret (v := .tuple #[rz, .int .i64 1]) (rx_ret2 rfl _ _ _ _ _ rfl rfl (bl_set9 B1.out _ _ _ _ _ _ _ _ _) rfl) rfl ⟨Rv.z, rfl, Is.leaf _ _ _ _ _ _ _, R1.out.ks (ks_set9 _ _ _ _ _ _ _ _ _) hP, K1.out.off (ks_set9 _ _ _ _ _ _ _ _ _) (Nat.le_refl _) hP⟩
 | true =>
  have HX2 : Hid ((if m = 0 ∧ z = false then (T, 0, j) else (zR, if m = 2 then 2 else 1, i + n)) = x) := HX.out
  clear HX
  have p1 := R1.out.cells.2.1
  go_wp2_with fail
  refine (C2.out _ R1.out.v).mono ?_
  rintro e w2 ⟨v, rfl, hI, k1⟩
  obtain ⟨k, mn, mx, mm, tt, ad, l, c, rfl⟩ := hI.form
  obtain ⟨r, hr⟩ : ∃ r : Rv, (⟨k, mn, mx, mm, tt, ad, l, c⟩ : Rv) = r := ⟨_, rfl⟩
  obtain rfl : r.k = k := by rw [← hr]
  obtain rfl : r.mn = mn := by rw [← hr]
  obtain rfl : r.mx = mx := by rw [← hr]
  obtain rfl : r.m = mm := by rw [← hr]
  obtain rfl : r.t = tt := by rw [← hr]
  obtain rfl : r.ad = ad := by rw [← hr]
  obtain rfl : r.l = l := by rw [← hr]
  obtain rfl : r.c = c := by rw [← hr]
  clear hr p1 C2
  have hsz1 := bl_lt B1.out
  have I2 := hid (hI.weak (fun b hb _ => (Nat.lt_of_lt_of_le hsz1 hb : w.heap.size < b)))
  have R2 := hid (R1.out.kp k1)
  have B2' := hid (bl_kp B1.out k1)
  have K2 := hid (K1.out.kpt k1 hP)
  clear hI k1 R1 B1 K1 hsz1
  go_upto_region 6 with fail
  obtain ⟨B2, hB2⟩ : ∃ B2, w2.heap.size = B2 := ⟨_, rfl⟩
  rw [hB2]
  have hsz2 := K2.out.size
  refine opq (fun V3 => Rr V3 P s ere j o ∧ V3.heap[B2]? = some r.o ∧ V3.heap[w.heap.size]? = some rzo ∧ Is V3 (fun b => w.heap.size < b) T r.v ∧ Ks P w V3) ⟨by exact R2.out.kp kpt, by subst hB2; (first | exact last_at _ _ _ (by simp) | (refine bl_alloc ?_ _; first | exact last_at _ _ _ (by simp) | (refine bl_alloc ?_ _; first | exact last_at _ _ _ (by simp) | (refine bl_alloc ?_ _; exact last_at _ _ _ (by simp))))), by exact bl_kp B2'.out kpt, by exact I2.out.kp kpt, by exact (K2.out.kpt kpt hP)⟩ ?_
  rintro V3 ⟨xR3, xA3, xB3, xI3, xK3⟩
  have R3 := hidT xR3
  have A3 := hidT xA3
  have B3 := hidT xB3
  have I3 := hidT xI3
  have K3 := hidT xK3
  clear xR3 xA3 xB3 xI3 xK3
  have hPB : Hid (P < B2 ∧ w.heap.size ≤ B2) := ⟨by omega, by omega⟩
  clear R2 B2' K2 I2 hB2 hsz2
  have D3 : Hid (Pd V3 T r.k r.mn r.mx r.m r.t r.ad r.l r.c) := ⟨I3.out.weak (fun _ _ _ => trivial)⟩
  obtain ⟨u, hu⟩ : ∃ u, (decide (m = 0) && !z) = u := ⟨_, rfl⟩
  have HU := hid hu
  clear hu
  go_cut [42] (fun v wc => v = .bool u ∧ Kp V3 wc)
  case first =>
   by_cases hm : m = 0
   ·
    subst hm
    obtain rfl : (!z) = u := by have := HU.out; simpa using this
    have en := EN.out
    have Q0 : Kp V3 V3.drew := (Kp.refl _).drew
    have MK : Hid (∀ W, Kp V3 W → W.cell? ⟨B2, 0, none⟩ = some (.int .i64 r.k) ∧ W.cell? ⟨B2, 1, none⟩ = some (.int .i64 r.mn) ∧ W.cell? ⟨B2, 2, none⟩ = some (.int .i64 r.mx) ∧ W.cell? ⟨B2, 3, none⟩ = some (.int .i64 r.m) ∧ W.cell? ⟨B2, 4, none⟩ = some (.int .u64 (r.t.a : Int)) ∧ W.cell? ⟨B2, 5, none⟩ = some (.int .u64 (r.t.b : Int)) ∧ W.cell? ⟨B2, 6, none⟩ = some (.int .u64 (r.t.c : Int)) ∧ W.cell? ⟨B2, 7, none⟩ = some (.int .u64 (r.t.d : Int)) ∧ W.cell? ⟨B2, 8, none⟩ = some (.slice r.ad r.l r.c) ∧ W.cell? ⟨P, 1, none⟩ = some (.bool ere) ∧ Hid (Kp V3 W)) := fun W k => ⟨bl_cell (bl_kp A3.out k) 0 _ rfl, bl_cell (bl_kp A3.out k) 1 _ rfl, bl_cell (bl_kp A3.out k) 2 _ rfl, bl_cell (bl_kp A3.out k) 3 _ rfl, bl_cell (bl_kp A3.out k) 4 _ rfl, bl_cell (bl_kp A3.out k) 5 _ rfl, bl_cell (bl_kp A3.out k) 6 _ rfl, bl_cell (bl_kp A3.out k) 7 _ rfl, bl_cell (bl_kp A3.out k) 8 _ rfl, (R3.out.kp k).cells.2.1, k⟩
    refine wp_region_noPanic ?_
    refine hdrew MK Q0 (fun hH => ?_)
    have KQ := Q0
    refine tk 0 (some 32) (.move (.tmp 9)) 28 (v := ?v0e1) rfl ?h0e1 hH ?_
    case h0e1 => intro _ _; go_simp; try with_reducible rfl
    try simp only [ps]
    refine tk 1 (some 33) (.binOp .eql 28 (.tmp 32) (.const (.int .i64 0)) 28) 4 (v := ?v1e2) rfl ?h1e2 hH ?_
    case h1e2 => intro _ _; go_simp; try with_reducible rfl
    try simp only [ps]
    refine tk 2 (some 34) (.move (.tmp 33)) 4 (v := ?v2e3) rfl ?h2e3 hH ?_
    case h2e3 => intro _ _; go_simp; try with_reducible rfl
    try simp only [ps]
    refine tk 3 (some 35) (.load 27 (.tmp 7)) 27 (v := ?v3e4) rfl ?h3e4 hH ?_
    case h3e4 => intro _ _; go_simp; try with_reducible rfl
    try simp only [ps]
    refine tk 4 (some 36) (.move (.tmp 0)) 161 (v := ?v4e5) rfl ?h4e5 hH ?_
    case h4e5 => intro _ _; go_simp; try with_reducible rfl
    try simp only [ps]
    refine tk 5 (some 37) (.nilCheck (.tmp 36)) 0 (v := ?v5e6) rfl ?h5e6 hH ?_
    case h5e6 => intro _ _; go_simp; try with_reducible rfl
    try simp only [ps]
    refine tk 6 (some 38) (.fieldAddr 123 (.tmp 37) 1) 0 (v := ?v6e7) rfl ?h6e7 hH ?_
    case h6e7 => intro _ _; go_simp; try with_reducible rfl
    try simp only [ps]
    refine tk 7 (some 39) (.load 4 (.tmp 38)) 4 (v := ?v7e8) rfl ?h7e8 hH ?_
    case h7e8 => intro _ _; go_simp; try with_reducible rfl
    try simp only [ps]
    refine wpAnyH_ready (rs := [8]) (by kernel_rfl) (by simp) ?_
    refine AllReadyH.cons (o := { dst := some 40, op := .call { callee := .value (.func 37), args := #[.tmp 35, .tmp 39], argTypes := #[27, 4] }, type := 9, pos := "address.go:58", after := _, guard := some (2, true) }) rfl (fun K hKq => ?_) AllReadyH.nil
    go_simp
    refine (C3.out _ (D3.out.kp KQ)).mono ?_
    rintro e y1 ⟨rfl, kq⟩
    refine hKq.out _ _ (MK.out _ (KQ.trans kq)) (fun hN => ?_)
    clear kq
    clear hKq K hH KQ
    have hH := hN
    clear hN
    have KQ := hH.2.2.2.2.2.2.2.2.2.2.out
    try simp only [ps]
    refine tk 9 (some 41) (.binOp .neq 9 (.tmp 40) (.const (.string { data := #[] })) 9) 4 (v := ?v9e9) rfl ?h9e9 hH ?_
    case h9e9 => intro _ _; go_simp; try with_reducible rfl
    try simp only [ps]
    refine tk 10 (some 42) (.pick (.tmp 34) (.tmp 41) (.const (.bool false))) 4 (v := ?v10e10) rfl ?h10e10 hH ?_
    case h10e10 => intro _ _; go_simp; try with_reducible rfl
    try simp only [ps]
    refine wpAnyH_done (by kernel_rfl) ?_ _
    refine NoPanic.normal ?_
    go_wp2_with fail
    go_meet
    case rel => exact ⟨by first | rfl | (congr 1; cases z <;> simp_all) | simp [en], KQ⟩
   ·
    have gm : ((m : Int) == 0) = false := by simp; omega
    obtain rfl : false = u := by have := HU.out; simpa [hm] using this
    clear hm HU
    go_quiet (fail)
    go_wp2_with fail
    go_meet
    case rel => exact ⟨rfl, (Kp.refl _).drewN _⟩
  case rest =>
   obtain ⟨rfl, k1⟩ := hcut
   rename World => w4
   have R4 := hid (R3.out.kp k1)
   have A4 := hid (bl_kp A3.out k1)
   have B4 := hid (bl_kp B3.out k1)
   have I4 := hid (I3.out.kp k1)
   have K4 := hid (K3.out.kpt k1 hP)
   clear k1 R3 A3 B3 I3 K3 D3 EN
   cases u with
   | true =>
    obtain rfl : (T, 0, j) = x := by
     have := HX2.out
     rw [if_pos (by have := HU.out; simp at this; exact this)] at this
     exact this
    clear HX2 HU
    obtain ⟨a0, a1, a2, a3, a4, a5, a6, a7, a8⟩ := cells9 (A4.out)
    obtain ⟨b0, fb0, b1, fb1, b2, fb2, b3, fb3, b4, fb4, b5, fb5, b6, fb6, b7, fb7, b8, fb8⟩ := cellf9 (B4.out)
    go_wp2_with fail
    refine bodyPost_ret (v := .tuple #[r.v, .int .i64 0]) (rx_ret2 rfl _ _ _ _ _ rfl rfl (bl_set9 B4.out _ _ _ _ _ _ _ _ _) rfl) rfl ⟨r, rfl, (I4.out.ks (ks_set9 _ _ _ _ _ _ _ _ _) (fun b hb _ => by omega)).weak (fun b hb _ => Nat.le_of_lt hb), R4.out.ks (ks_set9 _ _ _ _ _ _ _ _ _) hP, K4.out.off (ks_set9 _ _ _ _ _ _ _ _ _) (Nat.le_refl _) hP⟩
   | false =>
    have HX3 : Hid ((zR, if m = 2 then 2 else 1, i + n) = x) := by
     have := HX2.out
     rw [if_neg (by have := HU.out; simp at this; exact fun h => by simp_all)] at this
     exact this
    clear HX2 HU A4 I4
    have p2 := R4.out.cells.2.2.1
    have fp2 := bl_frozen R4.out.b 2
    have gi : IntKind.i64.wrap ((i : Int) + (n : Int)) = (i : Int) + (n : Int) := by rw [IntKind.wrap_i64]; omega
    go_upto_region 9 with fail
    refine opq (fun V5 => Rr V5 P s ere (i + n) o ∧ V5.heap[w.heap.size]? = some rzo ∧ Ks P w V5) ⟨by exact R4.out.at (i + n), by exact bl_set B4.out (by omega) _, by exact K4.out.set 2 _⟩ ?_
    rintro V5 ⟨xR5, xB5, xK5⟩
    have R5 := hidT xR5
    have B5 := hidT xB5
    have K5 := hidT xK5
    clear xR5 xB5 xK5
    clear R4 B4 K4 p2 fp2
    by_cases h2 : m = 2
    ·
     subst h2
     obtain rfl : (zR, 2, i + n) = x := HX3.out
     clear HX3
     obtain ⟨b0, fb0, b1, fb1, b2, fb2, b3, fb3, b4, fb4, b5, fb5, b6, fb6, b7, fb7, b8, fb8⟩ := cellf9 (B5.out)
     go_wp2_with fail
     refine bodyPost_ret (v := .tuple #[rz, .int .i64 2]) (rx_ret2 rfl _ _ _ _ _ rfl rfl (bl_set9 B5.out _ _ _ _ _ _ _ _ _) rfl) rfl ⟨Rv.z, rfl, Is.leaf _ _ _ _ _ _ _, R5.out.ks (ks_set9 _ _ _ _ _ _ _ _ _) hP, K5.out.off (ks_set9 _ _ _ _ _ _ _ _ _) (Nat.le_refl _) hP⟩
    ·
     have gm : ((m : Int) == 2) = false := by simp; omega
     obtain rfl : (zR, 1, i + n) = x := by have := HX3.out; rw [if_neg h2] at this; exact this
     clear HX3 h2
     obtain ⟨b0, fb0, b1, fb1, b2, fb2, b3, fb3, b4, fb4, b5, fb5, b6, fb6, b7, fb7, b8, fb8⟩ := cellf9 (B5.out)
     go_wp2_with fail
     refine bodyPost_ret (v := .tuple #[rz, .int .i64 1]) (rx_ret2 rfl _ _ _ _ _ rfl rfl (bl_set9 B5.out _ _ _ _ _ _ _ _ _) rfl) rfl ⟨Rv.z, rfl, Is.leaf _ _ _ _ _ _ _, R5.out.ks (ks_set9 _ _ _ _ _ _ _ _ _) hP, K5.out.off (ks_set9 _ _ _ _ _ _ _ _ _) (Nat.le_refl _) hP⟩
abbrev Av.cs (a : Av) : List Value := [.int .i64 a.k, .int .i64 a.ln, .int .i64 a.r.k, .int .i64 a.r.mn, .int .i64 a.r.mx, .int .i64 a.r.m, .int .u64 (a.r.t.a : Int), .int .u64 (a.r.t.b : Int), .int .u64 (a.r.t.c : Int), .int .u64 (a.r.t.d : Int), .slice a.r.ad a.r.l a.r.c]
abbrev Rv.cs (r : Rv) : List Value := [.int .i64 r.k, .int .i64 r.mn, .int .i64 r.mx, .int .i64 r.m, .int .u64 (r.t.a : Int), .int .u64 (r.t.b : Int), .int .u64 (r.t.c : Int), .int .u64 (r.t.d : Int), .slice r.ad r.l r.c]
theorem wpList_store_ca {ops : Array Oper} {rest : List Oper} {op : Oper} {a : Act} {W : World} {Q : Exit → Act → World → Prop} {x y : Operand} (hgd : op.guard = none) (ho : op.op = .store 32 x y) {B : Nat} (hx : a.eval x = .pointer (some ⟨B, 0, none⟩))
  (v : Av) (hy : a.eval y = v.v) {c : Cv} (h : W.heap[B]? = some c.o)
  (hk : ∀ w', w'.heap[B]? = some (Cv.o { c with a := v }) → Ks B W w' → wpList Tryz.prog ops Q rest (a.put op.dst undef) w') : wpList Tryz.prog ops Q (op :: rest) a W :=
 wpList_store_blk hgd ho hx v.cs hy h (by show 0 + 11 ≤ 40; omega) (by kernel_rfl) rfl (fun w' h' k' => hk w' (by simp only [putL, List.setIfInBounds_toArray, List.set_cons_zero, List.set_cons_succ] at h'; exact h') k')
theorem wpList_store_cb {ops : Array Oper} {rest : List Oper} {op : Oper} {a : Act} {W : World} {Q : Exit → Act → World → Prop} {x y : Operand} (hgd : op.guard = none) (ho : op.op = .store 32 x y) {B : Nat} (hx : a.eval x = .pointer (some ⟨B, 11, none⟩))
  (v : Av) (hy : a.eval y = v.v) {c : Cv} (h : W.heap[B]? = some c.o)
  (hk : ∀ w', w'.heap[B]? = some (Cv.o { c with b := v }) → Ks B W w' → wpList Tryz.prog ops Q rest (a.put op.dst undef) w') : wpList Tryz.prog ops Q (op :: rest) a W :=
 wpList_store_blk hgd ho hx v.cs hy h (by show 11 + 11 ≤ 40; omega) (by kernel_rfl) rfl (fun w' h' k' => hk w' (by simp only [putL, List.setIfInBounds_toArray, List.set_cons_zero, List.set_cons_succ] at h'; exact h') k')
theorem wpList_store_cr {ops : Array Oper} {rest : List Oper} {op : Oper} {a : Act} {W : World} {Q : Exit → Act → World → Prop} {x y : Operand} (hgd : op.guard = none) (ho : op.op = .store 27 x y) {B : Nat} (hx : a.eval x = .pointer (some ⟨B, 25, none⟩))
  (v : Rv) (hy : a.eval y = v.v) {c : Cv} (h : W.heap[B]? = some c.o)
  (hk : ∀ w', w'.heap[B]? = some (Cv.o { c with r := v }) → Ks B W w' → wpList Tryz.prog ops Q rest (a.put op.dst undef) w') : wpList Tryz.prog ops Q (op :: rest) a W :=
 wpList_store_blk hgd ho hx v.cs hy h (by show 25 + 9 ≤ 40; omega) (by kernel_rfl) rfl (fun w' h' k' => hk w' (by simp only [putL, List.setIfInBounds_toArray, List.set_cons_zero, List.set_cons_succ] at h'; exact h') k')
theorem av_ret2 {fn : Func} {p u : Tmp} (h : fn.results = #[.cell p 32, .tmp u]) (tmps : Array Value) (w : World) (S : Nat) (a : Av) (x : Value) (hp : tmps.getD p undef = .pointer (some ⟨S, 0, none⟩)) (hu : tmps.getD u undef = x) (hA : w.heap[S]? = some a.o) : (results fn tmps).run Tryz.prog w = .ok (.tuple #[a.v, x]) w := by
 rw [results_cell_tmp h, hp, hu]
 have := run_loadVar_row (P := Tryz.prog) w S 32 32 _ (0, 0) _ hA Tryz.underlying32 rfl (by show _ = some 11; kernel_rfl)
 simp [asAddr, Result.andThen, this]
theorem cv_ret2 {fn : Func} {p u : Tmp} (h : fn.results = #[.cell p 37, .tmp u]) (tmps : Array Value) (w : World) (S : Nat) (a : Cv) (x : Value) (hp : tmps.getD p undef = .pointer (some ⟨S, 0, none⟩)) (hu : tmps.getD u undef = x) (hA : w.heap[S]? = some a.o) : (results fn tmps).run Tryz.prog w = .ok (.tuple #[a.v, x]) w := by
 rw [results_cell_tmp h, hp, hu]
 have := run_loadVar_row (P := Tryz.prog) w S 37 37 _ (0, 0) _ hA Tryz.underlying37 rfl (by show _ = some 40; kernel_rfl)
 simp [asAddr, Result.andThen, this]
def specT (c : Nat) : Bool := decide (c = 38) || decide (c = 47) || decide (c = 92)
def qEsc (t : ByteArray) : Pc × Nat :=
 if t.size = 0 then (⟨0, ⟨#[]⟩⟩, 0)
 else if decide (49 ≤ ch t 0) && decide (ch t 0 ≤ 57) then (⟨(ch t 0 : Int) - 48, ⟨#[]⟩⟩, 2)
 else if ch t 0 = 110 then (⟨-1, ⟨#[10]⟩⟩, 2)
 else if specT (ch t 0) then (⟨-1, t.extract 0 1⟩, 2)
 else (⟨0, ⟨#[]⟩⟩, 0)
def qNext (t : ByteArray) : Pc × Nat :=
 if ch t 0 = 92 then qEsc (t.extract 1 t.size)
 else if ch t 0 = 38 then (⟨0, ⟨#[]⟩⟩, 1)
 else if ch t 0 = 47 ∨ ch t 0 = 10 then (⟨0, ⟨#[]⟩⟩, 0)
 else (⟨-1, t.extract 0 1⟩, 1)
abbrev Pc.o (p : Pc) : Obj := .cells #[.int .i64 p.g, .string p.s] 34
abbrev Pc.v (p : Pc) : Value := .agg #[.int .i64 p.g, .string p.s]
theorem pc_ret2 {fn : Func} {p u : Tmp} (h : fn.results = #[.cell p 34, .tmp u]) (tmps : Array Value) (w : World) (S : Nat) (a : Pc) (x : Value) (hp : tmps.getD p undef = .pointer (some ⟨S, 0, none⟩)) (hu : tmps.getD u undef = x) (hA : w.heap[S]? = some a.o) : (results fn tmps).run Tryz.prog w = .ok (.tuple #[a.v, x]) w := by
 rw [results_cell_tmp h, hp, hu]
 have := run_loadVar_row (P := Tryz.prog) w S 34 34 _ (0, 0) _ hA Tryz.underlying34 rfl (by show _ = some 2; kernel_rfl)
 simp [asAddr, Result.andThen, this]
theorem bl_set2 {w : World} {B : Nat} {a0 a1 : Value} {t : TypeId} (h : w.heap[B]? = some (.cells #[a0, a1] t)) (x0 x1 : Value) : ((w.setCell ⟨B, 0, none⟩ x0).setCell ⟨B, 1, none⟩ x1).heap[B]? = some (.cells #[x0, x1] t) := by
 have h0 : (w.setCell ⟨B, 0, none⟩ x0).heap[B]? = some (.cells #[x0, a1] t) := bl_put h x0
 exact bl_put h0 x1
theorem ks_set2 {w : World} {B : Nat} (x0 x1 : Value) : Ks B w ((w.setCell ⟨B, 0, none⟩ x0).setCell ⟨B, 1, none⟩ x1) := ((Ks.refl B w).set 0 x0).set 1 x1
theorem qEsc_le (t : ByteArray) : (qEsc t).1.s.size ≤ 1 ∧ (qEsc t).2 ≤ 2 ∧ ((qEsc t).2 ≠ 0 → 1 ≤ t.size) := by
 unfold qEsc
 split
 ·
  exact ⟨Nat.zero_le _, by show 0 ≤ 2; omega, fun h => absurd rfl h⟩
 ·
  rename_i h0
  split
  ·
   exact ⟨Nat.zero_le _, Nat.le_refl _, fun _ => by omega⟩
  ·
   split
   ·
    exact ⟨Nat.le_refl _, Nat.le_refl _, fun _ => by omega⟩
   ·
    split
    ·
     exact ⟨by show (t.extract 0 1).size ≤ 1; rw [ByteArray.size_extract]; omega, Nat.le_refl _, fun _ => by omega⟩
    ·
     exact ⟨Nat.zero_le _, by show 0 ≤ 2; omega, fun h => absurd rfl h⟩
theorem qNext_le (t : ByteArray) (h1 : 1 ≤ t.size) : (qNext t).1.s.size ≤ 1 ∧ (qNext t).2 ≤ t.size := by
 unfold qNext
 split
 ·
  have h := qEsc_le (t.extract 1 t.size)
  refine ⟨h.1, ?_⟩
  have hz : (t.extract 1 t.size).size = t.size - 1 := by rw [ByteArray.size_extract]; omega
  by_cases h0 : (qEsc (t.extract 1 t.size)).2 = 0
  ·
   omega
  ·
   have := h.2.2 h0
   omega
 ·
  split
  ·
   exact ⟨Nat.zero_le _, h1⟩
  ·
   split
   ·
    exact ⟨Nat.zero_le _, Nat.zero_le _⟩
   ·
    exact ⟨by show (t.extract 0 1).size ≤ 1; rw [ByteArray.size_extract]; omega, h1⟩
theorem esc_any (t : ByteArray) (ht : t.size ≤ 1000000) (w : World) : Calls Tryz.prog 262 #[.string t] w fun e w' => e = .returned (.tuple #[(qEsc t).1.v, .int .i64 (((qEsc t).2 : Nat) : Int)]) ∧ Kp w w' := by
 obtain ⟨x, hx⟩ : ∃ x, qEsc t = x := ⟨_, rfl⟩
 rw [hx]
 have HX := hid hx
 unfold qEsc at HX
 clear hx
 by_cases h0 : t.size = 0
 ·
  have en : t.toList.isEmpty = true := by rw [str_nil, decide_eq_true h0]
  obtain rfl : ((⟨0, ⟨#[]⟩⟩ : Pc), 0) = x := by have := HX.out; rw [if_pos h0] at this; exact this
  clear HX h0
  go_enter Tryz.func262, Tryz.ntmps262
  go_upto_region 1 with fail
  refine opq (fun V0 => V0.heap[w.heap.size]? = some (Pc.o (⟨0, ⟨#[]⟩⟩ : Pc)) ∧ Kp w V0) ⟨by (first | exact last_at _ _ _ (by simp) | (refine bl_alloc ?_ _; first | exact last_at _ _ _ (by simp) | (refine bl_alloc ?_ _; first | exact last_at _ _ _ (by simp) | (refine bl_alloc ?_ _; exact last_at _ _ _ (by simp))))), by exact kpt⟩ ?_
  rintro V0 ⟨xB0, xK0⟩
  have B0 := hidT xB0
  have K0 := hidT xK0
  clear xB0 xK0
  obtain ⟨b0, fb0, b1, fb1⟩ := cellf2 (B0.out)
  go_wp2_with fail
  refine bodyPost_ret (v := .tuple #[Pc.v (⟨0, ⟨#[]⟩⟩ : Pc), .int .i64 0]) (pc_ret2 rfl _ _ _ (⟨0, ⟨#[]⟩⟩ : Pc) _ rfl rfl (bl_set2 B0.out _ _)) rfl ⟨rfl, (ks_set2 _ _).up K0.out (Nat.le_refl _)⟩
 ·
  have en : t.toList.isEmpty = false := by rw [str_nil, decide_eq_false h0]
  have ec : ∀ w, (Instr.index 9 (.string t) (.int .i64 0)).run Tryz.prog w = .ok (.int .u8 (ch t 0 : Nat)) w := run_ch t 0 (by omega)
  obtain ⟨c, hc⟩ : ∃ c, ch t 0 = c := ⟨_, rfl⟩
  have hc256 : c < 256 := by rw [← hc]; exact ch_lt _ _
  rw [hc] at ec
  have HX1 : Hid ((if decide (49 ≤ c) && decide (c ≤ 57) then ((⟨(c : Int) - 48, ⟨#[]⟩⟩ : Pc), 2) else if c = 110 then (⟨-1, ⟨#[10]⟩⟩, 2) else if specT c then (⟨-1, t.extract 0 1⟩, 2) else (⟨0, ⟨#[]⟩⟩, 0)) = x) := by have := HX.out; rw [if_neg h0, hc] at this; exact this
  have es : ∀ w, (Instr.slice 9 (.string t) none (some (.int .i64 1)) none).run Tryz.prog w = .ok (.string (t.extract 0 1)) w := fun w => run_to t 1 (by omega) w
  have C1 := hid (fun w => tspecial_any c w)
  clear HX h0 hc
  go_enter Tryz.func262, Tryz.ntmps262
  go_upto_region 1 with fail
  refine opq (fun V0 => V0.heap[w.heap.size]? = some (Pc.o (⟨0, ⟨#[]⟩⟩ : Pc)) ∧ Kp w V0) ⟨by (first | exact last_at _ _ _ (by simp) | (refine bl_alloc ?_ _; first | exact last_at _ _ _ (by simp) | (refine bl_alloc ?_ _; first | exact last_at _ _ _ (by simp) | (refine bl_alloc ?_ _; exact last_at _ _ _ (by simp))))), by exact kpt⟩ ?_
  rintro V0 ⟨xB0, xK0⟩
  have B0 := hidT xB0
  have K0 := hidT xK0
  clear xB0 xK0
  by_cases h1 : 49 ≤ c
  ·
   have g1 : (49 : Int) ≤ (c : Int) := by omega
   by_cases h2 : c ≤ 57
   ·
    have g2 : (c : Int) ≤ 57 := by omega
    have g3 : IntKind.u8.wrap ((c : Int) - 48) = (c : Int) - 48 := by rw [IntKind.wrap_u8']; omega
    have g4 : IntKind.i64.wrap ((c : Int) - 48) = (c : Int) - 48 := by rw [IntKind.wrap_i64]; omega
    obtain rfl : ((⟨(c : Int) - 48, ⟨#[]⟩⟩ : Pc), 2) = x := by have := HX1.out; rw [decide_eq_true h1, decide_eq_true h2] at this; exact this
    clear HX1 h1 h2
    obtain ⟨b0, fb0, b1, fb1⟩ := cellf2 (B0.out)
    go_wp2_with fail
    refine bodyPost_ret (v := .tuple #[Pc.v (⟨(c : Int) - 48, ⟨#[]⟩⟩ : Pc), .int .i64 2]) (pc_ret2 rfl _ _ _ (⟨(c : Int) - 48, ⟨#[]⟩⟩ : Pc) _ rfl rfl (bl_set2 B0.out _ _)) rfl ⟨rfl, (ks_set2 _ _).up K0.out (Nat.le_refl _)⟩
   ·
    have g2 : ¬ (c : Int) ≤ 57 := by omega
    have HX2 : Hid ((if c = 110 then ((⟨-1, ⟨#[10]⟩⟩ : Pc), 2) else if specT c then (⟨-1, t.extract 0 1⟩, 2) else (⟨0, ⟨#[]⟩⟩, 0)) = x) := by have := HX1.out; rw [decide_eq_false h2, Bool.and_false, if_neg (by decide)] at this; exact this
    clear HX1 h1 h2
    by_cases h110 : c = 110
    ·
     subst h110
     obtain rfl : ((⟨-1, ⟨#[10]⟩⟩ : Pc), 2) = x := HX2.out
     obtain ⟨b0, fb0, b1, fb1⟩ := cellf2 (B0.out)
     go_wp2_with fail
     refine bodyPost_ret (v := .tuple #[Pc.v (⟨-1, ⟨#[10]⟩⟩ : Pc), .int .i64 2]) (pc_ret2 rfl _ _ _ (⟨-1, ⟨#[10]⟩⟩ : Pc) _ rfl rfl (bl_set2 B0.out _ _)) rfl ⟨rfl, (ks_set2 _ _).up K0.out (Nat.le_refl _)⟩
    ·
     have g5 : ((c : Int) == 110) = false := by simp; omega
     have HX3 : Hid ((if specT c then ((⟨-1, t.extract 0 1⟩ : Pc), 2) else (⟨0, ⟨#[]⟩⟩, 0)) = x) := by have := HX2.out; rw [if_neg h110] at this; exact this
     clear HX2 h110
     obtain ⟨q, hq⟩ : ∃ q, specT c = q := ⟨_, rfl⟩
     have C2 : Hid (∀ w, Calls Tryz.prog 210 #[.int .u8 (c : Int)] w fun e w' => e = .returned (.bool q) ∧ w' = w) := fun w => by rw [← hq]; exact C1.out w
     rw [hq] at HX3
     clear hq C1
     go_wp2_with fail
     refine (C2.out _).mono ?_
     rintro e w1 ⟨rfl, rfl⟩
     cases q with
     | true =>
      obtain rfl : ((⟨-1, t.extract 0 1⟩ : Pc), 2) = x := HX3.out
      obtain ⟨b0, fb0, b1, fb1⟩ := cellf2 (B0.out)
      go_wp2_with fail
      refine bodyPost_ret (v := .tuple #[Pc.v (⟨-1, t.extract 0 1⟩ : Pc), .int .i64 2]) (pc_ret2 rfl _ _ _ (⟨-1, t.extract 0 1⟩ : Pc) _ rfl rfl (bl_set2 B0.out _ _)) rfl ⟨rfl, (ks_set2 _ _).up K0.out (Nat.le_refl _)⟩
     | false =>
      obtain rfl : ((⟨0, ⟨#[]⟩⟩ : Pc), 0) = x := HX3.out
      obtain ⟨b0, fb0, b1, fb1⟩ := cellf2 (B0.out)
      go_wp2_with fail
      refine bodyPost_ret (v := .tuple #[Pc.v (⟨0, ⟨#[]⟩⟩ : Pc), .int .i64 0]) (pc_ret2 rfl _ _ _ (⟨0, ⟨#[]⟩⟩ : Pc) _ rfl rfl (bl_set2 B0.out _ _)) rfl ⟨rfl, (ks_set2 _ _).up K0.out (Nat.le_refl _)⟩
  ·
   have g1 : ¬ (49 : Int) ≤ (c : Int) := by omega
   have HX2 : Hid ((if c = 110 then ((⟨-1, ⟨#[10]⟩⟩ : Pc), 2) else if specT c then (⟨-1, t.extract 0 1⟩, 2) else (⟨0, ⟨#[]⟩⟩, 0)) = x) := by have := HX1.out; rw [decide_eq_false h1, Bool.false_and, if_neg (by decide)] at this; exact this
   clear HX1
   by_cases h110 : c = 110
   ·
    omega
   ·
    have g5 : ((c : Int) == 110) = false := by simp; omega
    have HX3 : Hid ((if specT c then ((⟨-1, t.extract 0 1⟩ : Pc), 2) else (⟨0, ⟨#[]⟩⟩, 0)) = x) := by have := HX2.out; rw [if_neg h110] at this; exact this
    clear HX2 h110
    obtain ⟨q, hq⟩ : ∃ q, specT c = q := ⟨_, rfl⟩
    have C2 : Hid (∀ w, Calls Tryz.prog 210 #[.int .u8 (c : Int)] w fun e w' => e = .returned (.bool q) ∧ w' = w) := fun w => by rw [← hq]; exact C1.out w
    rw [hq] at HX3
    clear hq C1
    go_wp2_with fail
    refine (C2.out _).mono ?_
    rintro e w1 ⟨rfl, rfl⟩
    cases q with
    | true =>
     obtain rfl : ((⟨-1, t.extract 0 1⟩ : Pc), 2) = x := HX3.out
     obtain ⟨b0, fb0, b1, fb1⟩ := cellf2 (B0.out)
     go_wp2_with fail
     refine bodyPost_ret (v := .tuple #[Pc.v (⟨-1, t.extract 0 1⟩ : Pc), .int .i64 2]) (pc_ret2 rfl _ _ _ (⟨-1, t.extract 0 1⟩ : Pc) _ rfl rfl (bl_set2 B0.out _ _)) rfl ⟨rfl, (ks_set2 _ _).up K0.out (Nat.le_refl _)⟩
    | false =>
     obtain rfl : ((⟨0, ⟨#[]⟩⟩ : Pc), 0) = x := HX3.out
     obtain ⟨b0, fb0, b1, fb1⟩ := cellf2 (B0.out)
     go_wp2_with fail
     refine bodyPost_ret (v := .tuple #[Pc.v (⟨0, ⟨#[]⟩⟩ : Pc), .int .i64 0]) (pc_ret2 rfl _ _ _ (⟨0, ⟨#[]⟩⟩ : Pc) _ rfl rfl (bl_set2 B0.out _ _)) rfl ⟨rfl, (ks_set2 _ _).up K0.out (Nat.le_refl _)⟩
theorem next252_any (t : ByteArray) (h1 : 1 ≤ t.size) (ht : t.size ≤ 1000000) (w : World) : Calls Tryz.prog 252 #[.string t] w fun e w' => e = .returned (.tuple #[(qNext t).1.v, .int .i64 (((qNext t).2 : Nat) : Int)]) ∧ Kp w w' := by
 obtain ⟨x, hx⟩ : ∃ x, qNext t = x := ⟨_, rfl⟩
 rw [hx]
 have HX := hid hx
 unfold qNext at HX
 clear hx
 have ec : ∀ w, (Instr.index 9 (.string t) (.int .i64 0)).run Tryz.prog w = .ok (.int .u8 (ch t 0 : Nat)) w := run_ch t 0 (by omega)
 obtain ⟨c, hc⟩ : ∃ c, ch t 0 = c := ⟨_, rfl⟩
 have hc256 : c < 256 := by rw [← hc]; exact ch_lt _ _
 rw [hc] at ec HX
 have es : ∀ w, (Instr.slice 9 (.string t) none (some (.int .i64 1)) none).run Tryz.prog w = .ok (.string (t.extract 0 1)) w := fun w => run_to t 1 (by omega) w
 have es2 : ∀ w, (Instr.slice 9 (.string t) (some (.int .i64 1)) none none).run Tryz.prog w = .ok (.string (t.extract 1 t.size)) w := fun w => run_from t 1 (by omega) w
 obtain ⟨u, hu⟩ : ∃ u, t.extract 1 t.size = u := ⟨_, rfl⟩
 have hus : u.size ≤ 1000000 := by rw [← hu, ByteArray.size_extract]; omega
 rw [hu] at es2 HX
 have C1 := hid (fun w => esc_any u hus w)
 clear hc hu
 go_enter Tryz.func252, Tryz.ntmps252
 go_upto_region 1 with fail
 refine opq (fun V0 => V0.heap[w.heap.size]? = some (Pc.o (⟨0, ⟨#[]⟩⟩ : Pc)) ∧ Kp w V0) ⟨by (first | exact last_at _ _ _ (by simp) | (refine bl_alloc ?_ _; first | exact last_at _ _ _ (by simp) | (refine bl_alloc ?_ _; first | exact last_at _ _ _ (by simp) | (refine bl_alloc ?_ _; exact last_at _ _ _ (by simp))))), by exact kpt⟩ ?_
 rintro V0 ⟨xB0, xK0⟩
 have B0 := hidT xB0
 have K0 := hidT xK0
 clear xB0 xK0
 by_cases h92 : c = 92
 ·
  subst h92
  have HX1 : Hid (qEsc u = x) := HX.out
  rw [HX1.out] at C1
  clear HX
  go_wp2_with fail
  refine (C1.out _).mono ?_
  rintro e w1 ⟨rfl, k1⟩
  have B1 := hid (bl_kp B0.out k1)
  have K2 := hid (K0.out.trans k1)
  clear k1 B0 K0
  obtain ⟨b0, fb0, b1, fb1⟩ := cellf2 (B1.out)
  go_wp2_with fail
  refine bodyPost_ret (v := .tuple #[Pc.v x.1, .int .i64 _]) (pc_ret2 rfl _ _ _ x.1 _ rfl rfl (bl_set2 B1.out _ _)) rfl ⟨rfl, (ks_set2 _ _).up K2.out (Nat.le_refl _)⟩
 ·
  have g1 : ((c : Int) == 92) = false := by simp; omega
  by_cases h38 : c = 38
  ·
   subst h38
   obtain rfl : ((⟨0, ⟨#[]⟩⟩ : Pc), 1) = x := HX.out
   obtain ⟨b0, fb0, b1, fb1⟩ := cellf2 (B0.out)
   go_wp2_with fail
   refine bodyPost_ret (v := .tuple #[Pc.v (⟨0, ⟨#[]⟩⟩ : Pc), .int .i64 1]) (pc_ret2 rfl _ _ _ (⟨0, ⟨#[]⟩⟩ : Pc) _ rfl rfl (bl_set2 B0.out _ _)) rfl ⟨rfl, (ks_set2 _ _).up K0.out (Nat.le_refl _)⟩
  ·
   have g2 : ((c : Int) == 38) = false := by simp; omega
   by_cases h47 : c = 47
   ·
    subst h47
    obtain rfl : ((⟨0, ⟨#[]⟩⟩ : Pc), 0) = x := HX.out
    obtain ⟨b0, fb0, b1, fb1⟩ := cellf2 (B0.out)
    go_wp2_with fail
    refine bodyPost_ret (v := .tuple #[Pc.v (⟨0, ⟨#[]⟩⟩ : Pc), .int .i64 0]) (pc_ret2 rfl _ _ _ (⟨0, ⟨#[]⟩⟩ : Pc) _ rfl rfl (bl_set2 B0.out _ _)) rfl ⟨rfl, (ks_set2 _ _).up K0.out (Nat.le_refl _)⟩
   ·
    have g3 : ((c : Int) == 47) = false := by simp; omega
    by_cases h10 : c = 10
    ·
     subst h10
     obtain rfl : ((⟨0, ⟨#[]⟩⟩ : Pc), 0) = x := HX.out
     obtain ⟨b0, fb0, b1, fb1⟩ := cellf2 (B0.out)
     go_wp2_with fail
     refine bodyPost_ret (v := .tuple #[Pc.v (⟨0, ⟨#[]⟩⟩ : Pc), .int .i64 0]) (pc_ret2 rfl _ _ _ (⟨0, ⟨#[]⟩⟩ : Pc) _ rfl rfl (bl_set2 B0.out _ _)) rfl ⟨rfl, (ks_set2 _ _).up K0.out (Nat.le_refl _)⟩
    ·
     have g4 : ((c : Int) == 10) = false := by simp; omega
     obtain rfl : ((⟨-1, t.extract 0 1⟩ : Pc), 1) = x := by have := HX.out; rw [if_neg h92, if_neg h38, if_neg (by simp [h47, h10])] at this; exact this
     clear HX h92 h38 h47 h10
     obtain ⟨b0, fb0, b1, fb1⟩ := cellf2 (B0.out)
     go_wp2_with fail
     refine bodyPost_ret (v := .tuple #[Pc.v (⟨-1, t.extract 0 1⟩ : Pc), .int .i64 1]) (pc_ret2 rfl _ _ _ (⟨-1, t.extract 0 1⟩ : Pc) _ rfl rfl (bl_set2 B0.out _ _)) rfl ⟨rfl, (ks_set2 _ _).up K0.out (Nat.le_refl _)⟩
def Tryz.lays316_ren : Go.Shelf.Ren := ⟨fun | 316 => 200 | n => n, fun | 0 => 0 | 3 => 3 | 4 => 4 | 5 => 5 | 9 => 9 | 37 => 59 | 127 => 165 | n => n, fun | n => n⟩
theorem Tryz.lays316 : Go.Proofs.Lays.n316 Tryz.prog Tryz.lays316_ren := {
 mixed := by kernel_rfl
 f316 := Tryz.func200.trans (congrArg some (by kernel_rfl))
 t0 := Tryz.underlying0
 a0 := Tryz.isAgg0
 z0 := Tryz.sizeOf0
 v0 := Tryz.zeroValue0
 t3 := Tryz.underlying3
 a3 := Tryz.isAgg3
 z3 := Tryz.sizeOf3
 v3 := Tryz.zeroValue3
 t4 := Tryz.underlying4
 a4 := Tryz.isAgg4
 z4 := Tryz.sizeOf4
 v4 := Tryz.zeroValue4
 t9 := Tryz.underlying9
 a9 := Tryz.isAgg9
 z9 := Tryz.sizeOf9
 v9 := Tryz.zeroValue9
 t37 := Tryz.underlying59
 a37 := Tryz.isAgg59
 z37 := Tryz.sizeOf59
 v37 := Tryz.zeroValue59
 t127 := Tryz.underlying165
 a127 := Tryz.isAgg165
 z127 := Tryz.sizeOf165
 v127 := Tryz.zeroValue165 }
theorem Tryz.laysM316 : Go.Proofs.LaysM.n316 Tryz.prog Tryz.lays316_ren := { Tryz.lays316 with
 t5 := Tryz.underlying5
 a5 := Tryz.isAgg5
 z5 := Tryz.sizeOf5
 v5 := Tryz.zeroValue5
 i0 := by kernel_rfl
 i3 := by kernel_rfl
 i4 := by kernel_rfl
 i5 := by kernel_rfl
 i9 := by kernel_rfl
 i37 := by kernel_rfl
 i127 := by kernel_rfl }
theorem clone_any (s : ByteArray) (hs : s.size ≤ 1000000) (w : World) : Calls Tryz.prog 167 #[.string s] w fun e w' => e = .returned (.string s) ∧ Kp w w' := by
 go_enter Tryz.func167, Tryz.ntmps167
 go_wp2_with fail
 refine (Any.stringslite_Clone Tryz.laysM316 s _ (by omega)).mono ?_
 rintro e w1 ⟨rfl, k1⟩
 go_wp2_with fail
 go_ret
 exact ⟨rfl, k1⟩
theorem grown_ks {w w' : World} {k : Nat} (g : w.grownBy w' (some k)) (hk : k ≤ w.heap.size) : Ks k w w' :=
 ⟨⟨g.os, g.tape, g.output, g.size, fun b hb => g.block b (by omega) (fun e => by injection e with e; omega)⟩, fun b hb hne => g.block b hb (fun e => by injection e with e; exact hne e)⟩
theorem grown_kp {w w' : World} (g : w.grownBy w' none) : Kp w w' := ⟨g.os, g.tape, g.output, g.size, fun b hb => g.block b hb (fun e => by cases e)⟩
theorem Ks.gwn {P : Nat} {w w' : World} (k : Ks P w w') : w.grownBy w' (some P) := ⟨k.lo.os, k.lo.tape, k.lo.output, k.size, fun b hb hne => k.block b hb (fun e => hne (by rw [e]))⟩
structure Ob (R : Nat) (l : List UInt8) (v : Value) (w : World) : Prop where
 own : w.ownsRow R 5 1 v l.length (Lib.byteCells l)
theorem Ob.nil (R : Nat) (w : World) : Ob R [] (.slice none 0 0) w := ⟨World.ownsRow_nil w R 5 1⟩
theorem Ob.kp {R : Nat} {l : List UInt8} {v : Value} {w w' : World} (h : Ob R l v w) (k : Kp w w') : Ob R l v w' := ⟨h.own.kept (k.grown none) (by cases v.ownBlock <;> simp)⟩
theorem Ob.ks {R P : Nat} {l : List UInt8} {v : Value} {w w' : World} (h : Ob R l v w) (k : Ks P w w') (hP : P < R) : Ob R l v w' :=
 ⟨h.own.kept k.gwn (.inr fun e => by have := (h.own.lt P e).1; omega)⟩
theorem Rr.grown {w w' : World} {P : Nat} {s : ByteArray} {ere : Bool} {i o : Nat} {row : Option Nat} (h : Rr w P s ere i o) (g : w.grownBy w' row) (hr : ∀ k, row = some k → P < k ∧ k ≤ w.heap.size) : Rr w' P s ere i o := by
 cases row with
 | none => exact h.kp (grown_kp g)
 | some k => exact h.ks (grown_ks g (hr k rfl).2) (hr k rfl).1
theorem Ks.grow {P R : Nat} {w0 w w' : World} {row : Option Nat} (h : Ks P w0 w) (g : w.grownBy w' row) (hr : ∀ k, row = some k → R ≤ k ∧ k ≤ w.heap.size) (hR : w0.heap.size ≤ R) (hP : P < w0.heap.size) : Ks P w0 w' := by
 cases row with
 | none => exact h.kp (grown_kp g) (Nat.le_trans (Nat.le_of_lt hP) h.size)
 | some k => exact h.off (grown_ks g (hr k rfl).2) (Nat.le_trans hR (hr k rfl).1) hP
theorem Ob.str {R : Nat} {l : List UInt8} {v : Value} {w : World} (h : Ob R l v w) : (convert 59 9 v).run Tryz.prog w = .ok (.string (bs l)) w := by
 rcases h.own.2 with ⟨rfl, h0⟩ | ⟨g, cap, cur, rfl, hb, hg, hc, hm, hs, ht⟩
 ·
  obtain rfl : l = [] := List.eq_nil_of_length_eq_zero h0
  exact Lib.run_convert_nil_bytes (P := Tryz.prog) w 59 9 5 0 Tryz.underlying59 Tryz.underlying5 Tryz.underlying9
 ·
  refine run_convert_bytes_back (P := Tryz.prog) w 59 9 5 ⟨g, 0, none⟩ cap l Tryz.underlying59 Tryz.underlying5 Tryz.underlying9 (fun j hj => ?_)
  exact h.own.cells rfl j _ (by simp [Lib.byteCells, hj])
theorem bytes_push (l : List UInt8) (b : Nat) (hb : b < 256) : Lib.byteCells (l ++ [UInt8.ofNat b]) = Lib.byteCells l ++ [.int .u8 (b : Int)] := by
 simp [Lib.byteCells]
 omega
end Go.Proofs.YtigdmebijbaofaaGreatDoor
