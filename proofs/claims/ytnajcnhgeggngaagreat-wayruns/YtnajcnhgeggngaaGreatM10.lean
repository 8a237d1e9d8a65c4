/-
  Texts of this claim: Rep2, Found, Group, WOk, Asm, Over, Spts, Stt0, Stt, Gro.
-/
import Derived.Test.YtnajcnhgeggngaaGreatM9
import Derived.Test.YtnajcnhgeggngaaGreatM8
import Derived.Test.YtnajcnhgeggngaaGreatM5
import Derived.Lib.AppendZeros

/-! ### Rep2 -/

namespace Go.Proofs.YtnajcnhgeggngaaGreat.Way
set_option maxHeartbeats 2000000
set_option maxRecDepth 100000
open Go.RowKit Go.Proofs.YtnajcnhgeggngaaGreat

structure BehD (s : ByteArray) (bol : Bool) (P : Nat) (M : Nat → Option Memo) (O : Nat → Prop) (base R B h : Nat) (zs : List Sp) (lv : Value) (sn : Option Nat) (w : World) (e : Ending) (w' : World) : Prop where
 ex : e = .returned (.tuple #[]) ∧ ∃ S' lv' pl' sn', RepW s bol P M O base R B h zs S' lv' pl' sn' w' ∧ Kx (fun b => M b ≠ none ∨ repB R B lv sn b) w w'
theorem bl_set8 {w : World} {B : Nat} {a0 a1 a2 a3 a4 a5 a6 a7 : Value} {t : TypeId} (h : w.heap[B]? = some (.cells #[a0, a1, a2, a3, a4, a5, a6, a7] t)) (x0 x1 x2 x3 x4 x5 x6 x7 : Value) :
  ((((((((w.setCell ⟨B, 0, none⟩ x0).setCell ⟨B, 1, none⟩ x1).setCell ⟨B, 2, none⟩ x2).setCell ⟨B, 3, none⟩ x3).setCell ⟨B, 4, none⟩ x4).setCell ⟨B, 5, none⟩ x5).setCell ⟨B, 6, none⟩ x6).setCell ⟨B, 7, none⟩ x7).heap[B]? = some (.cells #[x0, x1, x2, x3, x4, x5, x6, x7] t) := by
 have h0 : (w.setCell ⟨B, 0, none⟩ x0).heap[B]? = some (.cells #[x0, a1, a2, a3, a4, a5, a6, a7] t) := bl_put h x0
 have h1 : ((w.setCell ⟨B, 0, none⟩ x0).setCell ⟨B, 1, none⟩ x1).heap[B]? = some (.cells #[x0, x1, a2, a3, a4, a5, a6, a7] t) := bl_put h0 x1
 have h2 : (((w.setCell ⟨B, 0, none⟩ x0).setCell ⟨B, 1, none⟩ x1).setCell ⟨B, 2, none⟩ x2).heap[B]? = some (.cells #[x0, x1, x2, a3, a4, a5, a6, a7] t) := bl_put h1 x2
 have h3 : ((((w.setCell ⟨B, 0, none⟩ x0).setCell ⟨B, 1, none⟩ x1).setCell ⟨B, 2, none⟩ x2).setCell ⟨B, 3, none⟩ x3).heap[B]? = some (.cells #[x0, x1, x2, x3, a4, a5, a6, a7] t) := bl_put h2 x3
 have h4 : (((((w.setCell ⟨B, 0, none⟩ x0).setCell ⟨B, 1, none⟩ x1).setCell ⟨B, 2, none⟩ x2).setCell ⟨B, 3, none⟩ x3).setCell ⟨B, 4, none⟩ x4).heap[B]? = some (.cells #[x0, x1, x2, x3, x4, a5, a6, a7] t) := bl_put h3 x4
 have h5 : ((((((w.setCell ⟨B, 0, none⟩ x0).setCell ⟨B, 1, none⟩ x1).setCell ⟨B, 2, none⟩ x2).setCell ⟨B, 3, none⟩ x3).setCell ⟨B, 4, none⟩ x4).setCell ⟨B, 5, none⟩ x5).heap[B]? = some (.cells #[x0, x1, x2, x3, x4, x5, a6, a7] t) := bl_put h4 x5
 have h6 : (((((((w.setCell ⟨B, 0, none⟩ x0).setCell ⟨B, 1, none⟩ x1).setCell ⟨B, 2, none⟩ x2).setCell ⟨B, 3, none⟩ x3).setCell ⟨B, 4, none⟩ x4).setCell ⟨B, 5, none⟩ x5).setCell ⟨B, 6, none⟩ x6).heap[B]? = some (.cells #[x0, x1, x2, x3, x4, x5, x6, a7] t) := bl_put h5 x6
 have h7 : ((((((((w.setCell ⟨B, 0, none⟩ x0).setCell ⟨B, 1, none⟩ x1).setCell ⟨B, 2, none⟩ x2).setCell ⟨B, 3, none⟩ x3).setCell ⟨B, 4, none⟩ x4).setCell ⟨B, 5, none⟩ x5).setCell ⟨B, 6, none⟩ x6).setCell ⟨B, 7, none⟩ x7).heap[B]? = some (.cells #[x0, x1, x2, x3, x4, x5, x6, x7] t) := bl_put h6 x7
 exact h7
theorem ks_set8 {w : World} {B : Nat} (x0 x1 x2 x3 x4 x5 x6 x7 : Value) : Ks B w ((((((((w.setCell ⟨B, 0, none⟩ x0).setCell ⟨B, 1, none⟩ x1).setCell ⟨B, 2, none⟩ x2).setCell ⟨B, 3, none⟩ x3).setCell ⟨B, 4, none⟩ x4).setCell ⟨B, 5, none⟩ x5).setCell ⟨B, 6, none⟩ x6).setCell ⟨B, 7, none⟩ x7) :=
 (((((((((Ks.refl B w).set 0 x0).set 1 x1).set 2 x2).set 3 x3).set 4 x4).set 5 x5).set 6 x6).set 7 x7)
theorem wrep_any (s : ByteArray) (bol : Bool) (M : Nat → Option Memo) (O : Nat → Prop) (k low high nn : Int) (t : W4) (P : Nat) (kv : Value) (rd st h : Nat) (kn so : Option Nat) (hh : h < 8) (x : Sp) (w : World) (hP : w.heap[P]? = some (pto k low high nn t kv rd st h kn so)) (hM : MemOk M O w) (hO : ∀ b, O b → b < w.heap.size) (zs : List Sp)
  (HB : ∀ R B W1, Kp w W1 → w.heap.size ≤ R → w.heap.size ≤ B → RepW s bol P M O W1.heap.size R B h [] [] (.slice none 0 0) 0 none W1 → Calls Tryz.prog 110 #[.pointer (some ⟨R, 0, none⟩), .int .i64 0, spv x] W1 fun e w' => BehD s bol P M O W1.heap.size R B h zs (.slice none 0 0) none W1 e w') :
  Calls Tryz.prog 85 #[wkv s bol, ptv P, spv x] w fun e w' => WaysD zs (okB M O) (fun w' => Km M w w' ∧ MemOk M O w') e w' := by
 have HP := hid hP
 have HM := hid hM
 have HO := hid hO
 have HD := hid HB
 clear hP hM hO HB
 go_enter Tryz.func85, Tryz.ntmps85
 go_upto_region 1 with fail
 refine opq (fun W0 => W0.heap[w.heap.size]? = some (.cells #[.string s, .bool bol] 70) ∧ W0.heap[(w.heap.size + 1)]? = some (spo x) ∧ W0.heap[P]? = some (pto k low high nn t kv rd st h kn so) ∧ Kp w W0) ⟨by exact bl_alloc (last_of _ _) _, by exact last_at _ _ _ (by simp), by exact bl_kp HP.out kpt, by exact kpt⟩ ?_
 rintro W0 ⟨xT0, xX0, xP0, xK0⟩
 have T0 := hid xT0
 have X0 := hid xX0
 have P0 := hid xP0
 have K0 := hid xK0
 clear xT0 xX0 xP0 xK0
 clear HP
 go_cut [7] (fun v wc => ∃ R B, v = .pointer (some ⟨R, 0, none⟩) ∧ W0.heap.size ≤ R ∧ W0.heap.size ≤ B ∧ R ≠ B ∧ wc.heap[R]? = some (roB s bol P B h (.slice none 0 0) 0 none) ∧ TurnsAt wc B [] ∧ Kp W0 wc)
 case first =>
  have Q0 : Kp W0 W0.drew := (Kp.refl _).drew
  have MK : Hid (∀ W, Kp W0 W → W.cell? ⟨w.heap.size, 0, none⟩ = some (.string s) ∧ W.cell? ⟨w.heap.size, 1, none⟩ = some (.bool bol) ∧ W.cell? ⟨P, 11, none⟩ = some (.int .u8 (h : Int)) ∧ Hid (Kp W0 W)) := fun W k => ⟨bl_cell (bl_kp T0.out k) 0 _ rfl, bl_cell (bl_kp T0.out k) 1 _ rfl, bl_cell (bl_kp P0.out k) 11 _ rfl, k⟩
  refine wp_region_noPanic ?_
  refine hdrewZ 10 MK Q0 (fun hH => ?_)
  have KQ := Q0
  refine zk 10 0 [] (some 8) (Op.load 70 (Operand.tmp 3)) 70 (v := ?v0a1) rfl ?h0a1 hH ?_
  case h0a1 => intro _ _; go_simp; try with_reducible rfl
  try simp only [ps]
  refine zk 10 1 [] (some 9) (Op.move (Operand.tmp 1)) 71 (v := ?v1a2) rfl ?h1a2 hH ?_
  case h1a2 => intro _ _; go_simp; try with_reducible rfl
  try simp only [ps]
  refine zk 10 3 [] (some 11) (Op.move (Operand.tmp 1)) 71 (v := ?v3a3) rfl ?h3a3 hH ?_
  case h3a3 => intro _ _; go_simp; try with_reducible rfl
  try simp only [ps]
  refine zk 10 4 [] (some 12) (Op.nilCheck (Operand.tmp 11)) 0 (v := ?v4a4) rfl ?h4a4 hH ?_
  case h4a4 => intro _ _; go_simp; try with_reducible rfl
  try simp only [ps]
  refine zk 10 5 [] (some 13) (Op.fieldAddr 130 (Operand.tmp 12) 7) 0 (v := ?v5a5) rfl ?h5a5 hH ?_
  case h5a5 => intro _ _; go_simp; try with_reducible rfl
  try simp only [ps]
  refine zk 10 6 [] (some 14) (Op.load 75 (Operand.tmp 13)) 75 (v := ?v6a6) rfl ?h6a6 hH ?_
  case h6a6 => intro _ _; go_simp; try with_reducible rfl
  try simp only [ps]
  refine zk 10 7 [] (some 15) (Op.build 177 #[(0, Operand.tmp 14)]) 177 (v := ?v7a7) rfl ?h7a7 hH ?_
  case h7a7 => intro _ _; go_simp; try with_reducible rfl
  try simp only [ps]
  refine anyZ_ready (rs := [2, 9]) (by kernel_rfl) (by simp) ?_
  refine AllZ.cons (o := { dst := some 10, op := Op.makeMap 180 none, type := 180, pos := "repeat.go:21", after := #[], guard := none }) rfl (fun K hKq => ?_) ?_
  ·
   go_simp
   change K _ ((W0.alloc (.map #[] 0)).drew)
   obtain ⟨U1, hU1⟩ : ∃ U, W0.alloc (.map #[] 0) = U := ⟨_, rfl⟩
   have k1 : Kp W0 U1 := by rw [← hU1]; exact (Kp.refl W0).alloc _
   have ky1 : Kp W0 U1 := by rw [← hU1]; exact (Kp.refl _).alloc _
   have MB1 : Hid (TurnsAt U1 W0.heap.size []) := by rw [← hU1]; exact TurnsAt.made _
   rw [hU1]
   clear hU1 ky1
   refine hKq.out _ _ (MK.out _ k1.drew) (fun hN => ?_)
   clear hKq K hH KQ
   have hH := hN
   clear hN
   have KQ := hH.2.2.2.out
   try simp only [ps]
   refine zk 10 8 [] (some 16) (Op.build 182 #[(0, Operand.tmp 8), (1, Operand.tmp 9), (2, Operand.tmp 10), (3, Operand.tmp 15)]) 182 (v := ?v8a8) rfl ?h8a8 hH ?_
   case h8a8 => intro _ _; go_simp; try with_reducible rfl
   try simp only [ps]
   refine anyZ_ready (rs := [9]) (by kernel_rfl) (by simp) ?_
   refine AllZ.cons (o := { dst := some 7, op := Op.alloc 182, type := 0, pos := "repeat.go:21", after := #[], guard := none }) rfl (fun K hKq => ?_) AllZ.nil
   go_simp
   change K _ ((U1.alloc (.cells #[.string ⟨#[]⟩, .bool false, .pointer none, .map none, .int .u8 0, .slice none 0 0, .int .u64 0, .map none] 182)).drew)
   obtain ⟨U2, hU2⟩ : ∃ U, U1.alloc (.cells #[.string ⟨#[]⟩, .bool false, .pointer none, .map none, .int .u8 0, .slice none 0 0, .int .u64 0, .map none] 182) = U := ⟨_, rfl⟩
   have k2 : Kp W0 U2 := by rw [← hU2]; exact k1.alloc _
   have ky2 : Kp U1 U2 := by rw [← hU2]; exact (Kp.refl _).alloc _
   have KC2 : Hid (U2.heap[U1.heap.size]? = some (.cells #[.string ⟨#[]⟩, .bool false, .pointer none, .map none, .int .u8 0, .slice none 0 0, .int .u64 0, .map none] 182)) := by rw [← hU2]; exact last_of _ _
   have MB2 : Hid (TurnsAt U2 W0.heap.size []) := MB1.out.same (ky2.block _ MB1.out.lt)
   rw [hU2]
   clear hU2 ky2
   refine hKq.out _ _ (MK.out _ k2.drew) (fun hN => ?_)
   clear hKq K hH KQ
   have hH := hN
   clear hN
   have KQ := hH.2.2.2.out
   try simp only [ps]
   refine anyZ_ready (rs := [10]) (by kernel_rfl) (by simp) ?_
   refine AllZ.last (o := { dst := none, op := Op.store 182 (Operand.tmp 7) (Operand.tmp 16), type := 0, pos := "repeat.go:21", after := #[{ on := 9, ground := Ground.data }, { on := 8, ground := Ground.data }, { on := 0, ground := Ground.phase }, { on := 1, ground := Ground.phase }, { on := 2, ground := Ground.phase }, { on := 3, ground := Ground.phase }, { on := 4, ground := Ground.phase }, { on := 5, ground := Ground.phase }, { on := 6, ground := Ground.phase }, { on := 7, ground := Ground.phase }, { on := 8, ground := Ground.phase }, { on := 9, ground := Ground.phase }], guard := none }) rfl (Or.inl rfl) (fun K hKq => ?_) AllZ.nil
   have hne : U1.heap.size ≠ W0.heap.size := by have := MB1.out.lt; omega
   obtain ⟨q0, fq0, q1, fq1, q2, fq2, q3, fq3, q4, fq4, q5, fq5, q6, fq6, q7, fq7⟩ := cellf8 (KC2.out)
   go_simp
   refine hKq.out _ _ ?_
   clear q0 fq0 q1 fq1 q2 fq2 q3 fq3 q4 fq4 q5 fq5 q6 fq6 q7 fq7
   clear hKq K
   try simp only [ps]
   refine anyZ_done (by kernel_rfl) ?_ _
   refine NoPanic.normal ?_
   go_wp2_with fail
   go_meet
   case rel => exact ⟨U1.heap.size, W0.heap.size, rfl, k1.size, Nat.le_refl _, hne, bl_drew (bl_set8 KC2.out _ _ _ _ _ _ _ _), MB2.out.same ((ks_set8 (B := U1.heap.size) _ _ _ _ _ _ _ _).drew.block _ MB2.out.lt hne.symm), Ks.up (ks_set8 (B := U1.heap.size) _ _ _ _ _ _ _ _).drew k2 (k1.size)⟩
  refine AllZ.cons (o := { dst := some 7, op := Op.alloc 182, type := 0, pos := "repeat.go:21", after := #[], guard := none }) rfl (fun K hKq => ?_) ?_
  ·
   go_simp
   change K _ ((W0.alloc (.cells #[.string ⟨#[]⟩, .bool false, .pointer none, .map none, .int .u8 0, .slice none 0 0, .int .u64 0, .map none] 182)).drew)
   obtain ⟨U1, hU1⟩ : ∃ U, W0.alloc (.cells #[.string ⟨#[]⟩, .bool false, .pointer none, .map none, .int .u8 0, .slice none 0 0, .int .u64 0, .map none] 182) = U := ⟨_, rfl⟩
   have k1 : Kp W0 U1 := by rw [← hU1]; exact (Kp.refl W0).alloc _
   have ky1 : Kp W0 U1 := by rw [← hU1]; exact (Kp.refl _).alloc _
   have KC1 : Hid (U1.heap[W0.heap.size]? = some (.cells #[.string ⟨#[]⟩, .bool false, .pointer none, .map none, .int .u8 0, .slice none 0 0, .int .u64 0, .map none] 182)) := by rw [← hU1]; exact last_of _ _
   rw [hU1]
   clear hU1 ky1
   refine hKq.out _ _ (MK.out _ k1.drew) (fun hN => ?_)
   clear hKq K hH KQ
   have hH := hN
   clear hN
   have KQ := hH.2.2.2.out
   try simp only [ps]
   refine anyZ_ready (rs := [2]) (by kernel_rfl) (by simp) ?_
   refine AllZ.cons (o := { dst := some 10, op := Op.makeMap 180 none, type := 180, pos := "repeat.go:21", after := #[], guard := none }) rfl (fun K hKq => ?_) AllZ.nil
   go_simp
   change K _ ((U1.alloc (.map #[] 0)).drew)
   obtain ⟨U2, hU2⟩ : ∃ U, U1.alloc (.map #[] 0) = U := ⟨_, rfl⟩
   have k2 : Kp W0 U2 := by rw [← hU2]; exact k1.alloc _
   have ky2 : Kp U1 U2 := by rw [← hU2]; exact (Kp.refl _).alloc _
   have MB2 : Hid (TurnsAt U2 U1.heap.size []) := by rw [← hU2]; exact TurnsAt.made _
   have KC2 : Hid (U2.heap[W0.heap.size]? = some (.cells #[.string ⟨#[]⟩, .bool false, .pointer none, .map none, .int .u8 0, .slice none 0 0, .int .u64 0, .map none] 182)) := bl_kp KC1.out ky2
   rw [hU2]
   clear hU2 ky2
   refine hKq.out _ _ (MK.out _ k2.drew) (fun hN => ?_)
   clear hKq K hH KQ
   have hH := hN
   clear hN
   have KQ := hH.2.2.2.out
   try simp only [ps]
   refine zk 10 8 [] (some 16) (Op.build 182 #[(0, Operand.tmp 8), (1, Operand.tmp 9), (2, Operand.tmp 10), (3, Operand.tmp 15)]) 182 (v := ?v8a9) rfl ?h8a9 hH ?_
   case h8a9 => intro _ _; go_simp; try with_reducible rfl
   try simp only [ps]
   refine anyZ_ready (rs := [10]) (by kernel_rfl) (by simp) ?_
   refine AllZ.last (o := { dst := none, op := Op.store 182 (Operand.tmp 7) (Operand.tmp 16), type := 0, pos := "repeat.go:21", after := #[{ on := 9, ground := Ground.data }, { on := 8, ground := Ground.data }, { on := 0, ground := Ground.phase }, { on := 1, ground := Ground.phase }, { on := 2, ground := Ground.phase }, { on := 3, ground := Ground.phase }, { on := 4, ground := Ground.phase }, { on := 5, ground := Ground.phase }, { on := 6, ground := Ground.phase }, { on := 7, ground := Ground.phase }, { on := 8, ground := Ground.phase }, { on := 9, ground := Ground.phase }], guard := none }) rfl (Or.inl rfl) (fun K hKq => ?_) AllZ.nil
   have hne : W0.heap.size ≠ U1.heap.size := by have := bl_lt KC1.out; omega
   obtain ⟨q0, fq0, q1, fq1, q2, fq2, q3, fq3, q4, fq4, q5, fq5, q6, fq6, q7, fq7⟩ := cellf8 (KC2.out)
   go_simp
   refine hKq.out _ _ ?_
   clear q0 fq0 q1 fq1 q2 fq2 q3 fq3 q4 fq4 q5 fq5 q6 fq6 q7 fq7
   clear hKq K
   try simp only [ps]
   refine anyZ_done (by kernel_rfl) ?_ _
   refine NoPanic.normal ?_
   go_wp2_with fail
   go_meet
   case rel => exact ⟨W0.heap.size, U1.heap.size, rfl, Nat.le_refl _, k1.size, hne, bl_drew (bl_set8 KC2.out _ _ _ _ _ _ _ _), MB2.out.same ((ks_set8 (B := W0.heap.size) _ _ _ _ _ _ _ _).drew.block _ MB2.out.lt hne.symm), Ks.up (ks_set8 (B := W0.heap.size) _ _ _ _ _ _ _ _).drew k2 (Nat.le_refl _)⟩
  exact AllZ.nil
 case rest =>
 obtain ⟨R, B, rfl, hR, hB, hne, hb, ht, hk⟩ := hcut
 rename World => W1
 have K1 := hid (K0.out.trans hk)
 have HR := hid (Nat.le_trans K0.out.size hR)
 have HBb := hid (Nat.le_trans K0.out.size hB)
 have RW := hid (RepW.new HM.out hh (K0.out.trans hk) (Nat.le_trans K0.out.size hR) (Nat.le_trans K0.out.size hB) hne hb ht)
 have X1 := hid (bl_kp X0.out hk)
 clear hR hB hne hb ht hk hh T0 X0 P0 K0
 obtain ⟨x0, x1, x2, x3, x4, x5, x6⟩ := cells7 (X1.out)
 go_wp2_with fail
 clear x0 x1 x2 x3 x4 x5 x6
 refine (HD.out R B W1 K1.out HR.out HBb.out RW.out).mono ?_
 rintro e y hd
 obtain ⟨rfl, S', lv', pl', sn', hr, hk⟩ := hd.ex
 have RC := hid hr
 have KC := hid hk
 clear hd hr hk
 have r5 := bl_cell (RC.out.b) 5 _ rfl
 go_wp2_with fail
 go_ret
 exact ⟨_, rfl, RC.out.spl (fun b o => Nat.lt_of_lt_of_le (HO.out b o) K1.out.size), Kx.past2 (S := fun b => M b ≠ none) (Kp.kx K1.out) KC.out (fun b hb e => by
  rcases e with e | (e | e | e) | e
  ·
   exact e
  ·
   have := HR.out; omega
  ·
   cases e
  ·
   cases e
  ·
   have := HBb.out; omega), RC.out.mem⟩
end Go.Proofs.YtnajcnhgeggngaaGreat.Way

/-! ### Found -/

namespace Go.Proofs.YtnajcnhgeggngaaGreat.Way
set_option maxHeartbeats 2000000
set_option maxRecDepth 100000
open Go.RowKit Go.Proofs.YtnajcnhgeggngaaGreat

structure FQ (Q : Ending → World → Prop) (e : Ending) (w' : World) : Prop where
 q : Q e w'
theorem found3_any (s : ByteArray) (bol : Bool) (low high n : Int) (t : W4) (P : Nat) (kv : Value) (rd st h : Nat) (kn so : Option Nat) (x : Sp) (w : World) (hP : w.heap[P]? = some (pto 3 low high n t kv rd st h kn so)) (Q : Ending → World → Prop) (HC : ∀ W, Kp w W → Calls Tryz.prog 83 #[wkv s bol, ptv P, spv x] W fun e w' => Q e w' ∧ ∃ v, e = .returned v) :
  Calls Tryz.prog 54 #[wkv s bol, ptv P, spv x] w fun e w' => FQ Q e w' := by
 have HP := hid hP
 have HD := hid HC
 clear hP HC
 go_enter Tryz.func54, Tryz.ntmps54
 go_upto_region 1 with fail
 refine opq (fun W0 => W0.heap[w.heap.size]? = some (.cells #[.string s, .bool bol] 70) ∧ W0.heap[(w.heap.size + 1)]? = some (spo x) ∧ W0.heap[P]? = some (pto 3 low high n t kv rd st h kn so) ∧ Kp w W0) ⟨by exact bl_alloc (last_of _ _) _, by exact last_at _ _ _ (by simp), by exact bl_kp HP.out kpt, by exact kpt⟩ ?_
 rintro W0 ⟨xT0, xX0, xP0, xK0⟩
 have T0 := hid xT0
 have X0 := hid xX0
 have P0 := hid xP0
 have K0 := hid xK0
 clear xT0 xX0 xP0 xK0
 have b0 := bl_cell (T0.out) 0 _ rfl
 have b1 := bl_cell (T0.out) 1 _ rfl
 obtain ⟨x0, x1, x2, x3, x4, x5, x6⟩ := cells7 (X0.out)
 obtain ⟨p0, p1, p2, p3, p4, p5, p6, p7, p8, p9, p10, p11, p12, p13⟩ := cells14 (P0.out)
 go_wp2_with fail
 refine (HD.out W0 K0.out).mono ?_
 rintro e y ⟨hq, v, rfl⟩
 have HQ := hid hq
 clear hq b0 b1 x0 x1 x2 x3 x4 x5 x6 p0 p1 p2 p3 p4 p5 p6 p7 p8 p9 p10 p11 p12 p13
 go_wp2_with fail
 go_ret
 exact ⟨HQ.out⟩
theorem found5_any (s : ByteArray) (bol : Bool) (low high n : Int) (t : W4) (P : Nat) (kv : Value) (rd st h : Nat) (kn so : Option Nat) (x : Sp) (w : World) (hP : w.heap[P]? = some (pto 5 low high n t kv rd st h kn so)) (Q : Ending → World → Prop) (HC : ∀ W, Kp w W → Calls Tryz.prog 84 #[wkv s bol, ptv P, spv x] W fun e w' => Q e w' ∧ ∃ v, e = .returned v) :
  Calls Tryz.prog 54 #[wkv s bol, ptv P, spv x] w fun e w' => FQ Q e w' := by
 have HP := hid hP
 have HD := hid HC
 clear hP HC
 go_enter Tryz.func54, Tryz.ntmps54
 go_upto_region 1 with fail
 refine opq (fun W0 => W0.heap[w.heap.size]? = some (.cells #[.string s, .bool bol] 70) ∧ W0.heap[(w.heap.size + 1)]? = some (spo x) ∧ W0.heap[P]? = some (pto 5 low high n t kv rd st h kn so) ∧ Kp w W0) ⟨by exact bl_alloc (last_of _ _) _, by exact last_at _ _ _ (by simp), by exact bl_kp HP.out kpt, by exact kpt⟩ ?_
 rintro W0 ⟨xT0, xX0, xP0, xK0⟩
 have T0 := hid xT0
 have X0 := hid xX0
 have P0 := hid xP0
 have K0 := hid xK0
 clear xT0 xX0 xP0 xK0
 have b0 := bl_cell (T0.out) 0 _ rfl
 have b1 := bl_cell (T0.out) 1 _ rfl
 obtain ⟨x0, x1, x2, x3, x4, x5, x6⟩ := cells7 (X0.out)
 obtain ⟨p0, p1, p2, p3, p4, p5, p6, p7, p8, p9, p10, p11, p12, p13⟩ := cells14 (P0.out)
 go_wp2_with fail
 refine (HD.out W0 K0.out).mono ?_
 rintro e y ⟨hq, v, rfl⟩
 have HQ := hid hq
 clear hq b0 b1 x0 x1 x2 x3 x4 x5 x6 p0 p1 p2 p3 p4 p5 p6 p7 p8 p9 p10 p11 p12 p13
 go_wp2_with fail
 go_ret
 exact ⟨HQ.out⟩
theorem found4_any (s : ByteArray) (bol : Bool) (low high n : Int) (t : W4) (P : Nat) (kv : Value) (rd st h : Nat) (kn so : Option Nat) (x : Sp) (w : World) (hP : w.heap[P]? = some (pto 4 low high n t kv rd st h kn so)) (Q : Ending → World → Prop) (HC : ∀ W, Kp w W → Calls Tryz.prog 85 #[wkv s bol, ptv P, spv x] W fun e w' => Q e w' ∧ ∃ v, e = .returned v) :
  Calls Tryz.prog 54 #[wkv s bol, ptv P, spv x] w fun e w' => FQ Q e w' := by
 have HP := hid hP
 have HD := hid HC
 clear hP HC
 go_enter Tryz.func54, Tryz.ntmps54
 go_upto_region 1 with fail
 refine opq (fun W0 => W0.heap[w.heap.size]? = some (.cells #[.string s, .bool bol] 70) ∧ W0.heap[(w.heap.size + 1)]? = some (spo x) ∧ W0.heap[P]? = some (pto 4 low high n t kv rd st h kn so) ∧ Kp w W0) ⟨by exact bl_alloc (last_of _ _) _, by exact last_at _ _ _ (by simp), by exact bl_kp HP.out kpt, by exact kpt⟩ ?_
 rintro W0 ⟨xT0, xX0, xP0, xK0⟩
 have T0 := hid xT0
 have X0 := hid xX0
 have P0 := hid xP0
 have K0 := hid xK0
 clear xT0 xX0 xP0 xK0
 have b0 := bl_cell (T0.out) 0 _ rfl
 have b1 := bl_cell (T0.out) 1 _ rfl
 obtain ⟨x0, x1, x2, x3, x4, x5, x6⟩ := cells7 (X0.out)
 obtain ⟨p0, p1, p2, p3, p4, p5, p6, p7, p8, p9, p10, p11, p12, p13⟩ := cells14 (P0.out)
 go_wp2_with fail
 refine (HD.out W0 K0.out).mono ?_
 rintro e y ⟨hq, v, rfl⟩
 have HQ := hid hq
 clear hq b0 b1 x0 x1 x2 x3 x4 x5 x6 p0 p1 p2 p3 p4 p5 p6 p7 p8 p9 p10 p11 p12 p13
 go_wp2_with fail
 go_ret
 exact ⟨HQ.out⟩
theorem found2_any (s : ByteArray) (bol : Bool) (M : Nat → Option Memo) (O : Nat → Prop) (low high n : Int) (t : W4) (P : Nat) (kv : Value) (rd st h : Nat) (kn so : Option Nat) (x : Sp) (w : World) (hP : w.heap[P]? = some (pto 2 low high n t kv rd st h kn so)) (hMP : M P = none) (hM : MemOk M O w) (zs : List Sp) (HC : ∀ W, Kp w W → Calls Tryz.prog 82 #[wkv s bol, kv, spv x] W fun e w' => WaysD zs (okB M O) (fun w' => Km M W w' ∧ MemOk M O w') e w') :
  Calls Tryz.prog 54 #[wkv s bol, ptv P, spv x] w fun e w' => WaysD zs (okB M O) (fun w' => Km M w w' ∧ MemOk M O w') e w' := by
 have HP := hid hP
 have HD := hid HC
 have HMP := hid (show ¬ M P ≠ none from fun e => e hMP)
 have HMT := hid (show ¬ M w.heap.size ≠ none from fun e => e (hM.lt (Nat.le_refl _)))
 have HMX := hid (show ¬ M (w.heap.size + 1) ≠ none from fun e => e (hM.lt (Nat.le_succ _)))
 clear hP HC hMP hM
 go_enter Tryz.func54, Tryz.ntmps54
 go_upto_region 1 with fail
 refine opq (fun W0 => W0.heap[w.heap.size]? = some (.cells #[.string s, .bool bol] 70) ∧ W0.heap[(w.heap.size + 1)]? = some (spo x) ∧ W0.heap[P]? = some (pto 2 low high n t kv rd st h kn so) ∧ Kp w W0) ⟨by exact bl_alloc (last_of _ _) _, by exact last_at _ _ _ (by simp), by exact bl_kp HP.out kpt, by exact kpt⟩ ?_
 rintro W0 ⟨xT0, xX0, xP0, xK0⟩
 have T0 := hid xT0
 have X0 := hid xX0
 have P0 := hid xP0
 have K0 := hid xK0
 clear xT0 xX0 xP0 xK0
 obtain ⟨p0, p1, p2, p3, p4, p5, p6, p7, p8, p9, p10, p11, p12, p13⟩ := cells14 (P0.out)
 have Q1 := hid ((Kp.refl W0).drew)
 go_upto_region 3 with fail
 clear p0 p1 p2 p3 p4 p5 p6 p7 p8 p9 p10 p11 p12 p13
 have Q0 : Kx (fun b => M b ≠ none) W0 W0.drew := (Kx.refl _ _).drew
 have MK : Hid (∀ W, Kx (fun b => M b ≠ none) W0 W → W.cell? ⟨w.heap.size, 0, none⟩ = some (.string s) ∧ W.cell? ⟨w.heap.size, 1, none⟩ = some (.bool bol) ∧ W.cell? ⟨(w.heap.size + 1), 0, none⟩ = some (.int .i8 x.a) ∧ W.cell? ⟨(w.heap.size + 1), 1, none⟩ = some (.int .i8 x.f0) ∧ W.cell? ⟨(w.heap.size + 1), 2, none⟩ = some (.int .i8 x.t0) ∧ W.cell? ⟨(w.heap.size + 1), 3, none⟩ = some (.int .i8 x.f1) ∧ W.cell? ⟨(w.heap.size + 1), 4, none⟩ = some (.int .i8 x.t1) ∧ W.cell? ⟨(w.heap.size + 1), 5, none⟩ = some (.int .i8 x.f2) ∧ W.cell? ⟨(w.heap.size + 1), 6, none⟩ = some (.int .i8 x.t2) ∧ W.cell? ⟨P, 8, none⟩ = some (kv) ∧ Hid (Kx (fun b => M b ≠ none) W0 W)) := fun W k => ⟨bl_cell (bl_kx T0.out k HMT.out) 0 _ rfl, bl_cell (bl_kx T0.out k HMT.out) 1 _ rfl, bl_cell (bl_kx X0.out k HMX.out) 0 _ rfl, bl_cell (bl_kx X0.out k HMX.out) 1 _ rfl, bl_cell (bl_kx X0.out k HMX.out) 2 _ rfl, bl_cell (bl_kx X0.out k HMX.out) 3 _ rfl, bl_cell (bl_kx X0.out k HMX.out) 4 _ rfl, bl_cell (bl_kx X0.out k HMX.out) 5 _ rfl, bl_cell (bl_kx X0.out k HMX.out) 6 _ rfl, bl_cell (bl_kx P0.out k HMP.out) 8 _ rfl, k⟩
 refine wp_region_noPanic ?_
 refine hdrew MK Q0 (fun hH => ?_)
 have KQ := Q0
 refine tk 0 (some 13) (Op.load 70 (Operand.tmp 3)) 70 (v := ?v0a1) rfl ?h0a1 hH ?_
 case h0a1 => intro _ _; go_simp; try with_reducible rfl
 try simp only [ps]
 refine tk 1 (some 14) (Op.move (Operand.tmp 1)) 71 (v := ?v1a2) rfl ?h1a2 hH ?_
 case h1a2 => intro _ _; go_simp; try with_reducible rfl
 try simp only [ps]
 refine tk 2 (some 15) (Op.nilCheck (Operand.tmp 14)) 0 (v := ?v2a3) rfl ?h2a3 hH ?_
 case h2a3 => intro _ _; go_simp; try with_reducible rfl
 try simp only [ps]
 refine tk 3 (some 16) (Op.fieldAddr 130 (Operand.tmp 15) 5) 0 (v := ?v3a4) rfl ?h3a4 hH ?_
 case h3a4 => intro _ _; go_simp; try with_reducible rfl
 try simp only [ps]
 refine tk 4 (some 17) (Op.load 124 (Operand.tmp 16)) 124 (v := ?v4a5) rfl ?h4a5 hH ?_
 case h4a5 => intro _ _; go_simp; try with_reducible rfl
 try simp only [ps]
 refine tk 5 (some 18) (Op.load 83 (Operand.tmp 5)) 83 (v := ?v5a6) rfl ?h5a6 hH ?_
 case h5a6 => intro _ _; go_simp; try with_reducible rfl
 try simp only [ps]
 refine wpAnyH_ready (rs := [6]) (by kernel_rfl) (by simp) ?_
 refine AllReadyH.cons (o := { dst := some 19, op := Op.call { callee := Callee.value (Operand.func 82), args := #[Operand.tmp 13, Operand.tmp 17, Operand.tmp 18], argTypes := #[70, 124, 83] }, type := 68, pos := "walk.go:40", after := #[{ on := 0, ground := Ground.data }, { on := 4, ground := Ground.data }, { on := 5, ground := Ground.data }], guard := none }) rfl (fun K hKq => ?_) AllReadyH.nil
 go_simp
 refine (HD.out _ (K0.out.trans Q1.out)).mono ?_
 rintro e y ⟨⟨v, rfl, hv, hk, hm⟩⟩
 have HV := hid hv
 have HK2 := hid hk
 have HM2 := hid hm
 clear hv hk hm
 refine hKq.out _ _ (MK.out _ ((Kp.kx Q1.out).trans HK2.out)) (fun hN => ?_)
 clear hKq K hH KQ
 have hH := hN
 clear hN
 have KQ := hH.2.2.2.2.2.2.2.2.2.2.out
 try simp only [ps]
 refine tk 7 (some 6) (Op.assign (Operand.tmp 19)) 68 (v := ?v7a7) rfl ?h7a7 hH ?_
 case h7a7 => intro _ _; go_simp; try with_reducible rfl
 try simp only [ps]
 refine wpAnyH_done (by kernel_rfl) ?_ _
 refine NoPanic.normal ?_
 go_wp2_with fail
 go_ret
 exact ⟨_, rfl, HV.out, (Kp.kx (K0.out.trans Q1.out)).trans HK2.out, HM2.out⟩
end Go.Proofs.YtnajcnhgeggngaaGreat.Way

/-! ### Group -/

namespace Go.Proofs.YtnajcnhgeggngaaGreat.Way
set_option maxHeartbeats 2000000
set_option maxRecDepth 100000
open Go.RowKit Go.Proofs.YtnajcnhgeggngaaGreat

theorem Sp.Ok.put {n : Int} {x y : Sp} (hx : x.Ok) (hn : n = 1 ∨ n = 2 ∨ n = 3) (hy : y.Ok) (hxy : x.a ≤ y.a) : (y.put n x.a y.a).Ok := by
 have h1 := hx.a0
 have h2 := hy.a1
 have hs : Spn x.a y.a := Or.inr ⟨by omega, by omega, by omega⟩
 rcases hn with rfl | rfl | rfl
 ·
  exact ⟨hy.a0, hy.a1, hs, hy.s1, hy.s2⟩
 ·
  exact ⟨hy.a0, hy.a1, hy.s0, hs, hy.s2⟩
 ·
  exact ⟨hy.a0, hy.a1, hy.s0, hy.s1, hs⟩
theorem wgroup1_any (s : ByteArray) (bol : Bool) (_ : s.size ≤ 60) (M : Nat → Option Memo) (k low high : Int) (t : W4) (P : Nat) (kn so : Option Nat) (rd st h : Nat) (kid : Pt) (ks : List Pt) (HS : WSaid s bol M kid) (O : Nat → Prop) (x : Sp) (hx : x.Ok) (hN : x.In s.size) (w : World) (hO : ∀ b, O b → b < w.heap.size) (hM : MemOk M O w) (hP : PtAt w (okB M O) (.mk k low high 1 t P kn so rd st h (kid :: ks))) :
  Calls Tryz.prog 84 #[wkv s bol, ptv P, spv x] w fun e w' => WaysD ((ways s.data.toList bol kid x).map (fun y => y.put 1 x.a y.a)) (okB M O) (fun w' => Km M w w' ∧ MemOk M O w') e w' := by
 unfold PtAt at hP
 obtain ⟨hok, ⟨ad, c, hblk, hcap, hat⟩, hpts⟩ := hP
 unfold PtsAt at hpts
 obtain ⟨L, hL⟩ : ∃ L, (kid :: ks).length = L := ⟨_, rfl⟩
 have hL0 : 0 < L := by rw [← hL]; simp
 obtain ⟨bb, rfl, hbok, hbl, hce⟩ := hat (by simp)
 rw [hL] at hblk hcap
 have HKID := hid hpts.1
 have CBw := hid (hce 0 kid rfl)
 have HBLw := hid hbl
 have HMB := hid (show ¬ M bb ≠ none from fun e => e hbok.2)
 have HMP := hid (show ¬ M P ≠ none from fun e => e hok.2)
 have HX := hid hx
 have HN := hid hN
 have HO := hid hO
 have HM := hid hM
 have HP := hid hblk
 have HGD := hid (HS.good x hx hN)
 have WSw := hid (fun (W : World) (k0 : Kp w W) => HS.all O x W hx hN (fun b hb => Nat.lt_of_lt_of_le (hO b hb) k0.size) (hpts.1.kp k0) (hM.keep (S := fun _ => False) (Kp.kx k0) (fun _ _ e => e.elim) (fun _ _ e => e) hM.own))
 obtain ⟨zs, hzs⟩ : ∃ zs, ways s.data.toList bol kid x = zs := ⟨_, rfl⟩
 have hfew := HS.few x hx hN
 rw [hzs] at WSw HGD hfew ⊢
 obtain ⟨Z, hZ⟩ : ∃ Z, zs.length = Z := ⟨_, rfl⟩
 have HZL := hid hZ
 rw [hZ] at hfew
 have HZF := hid hfew
 clear hok hblk hat hpts hL hbok hbl hce hx hN hO hM HS hzs hZ hfew
 go_enter Tryz.func84, Tryz.ntmps84
 go_upto_region 2 with fail
 refine opq (fun W0 => W0.heap[w.heap.size]? = some (.cells #[.string s, .bool bol] 70) ∧ W0.heap[(w.heap.size + 1)]? = some (spo x) ∧ W0.heap[P]? = some (pto k low high 1 t (.slice (some ⟨bb, 0, none⟩) L c) rd st h kn so) ∧ Kp w W0) ⟨by exact bl_alloc (last_of _ _) _, by exact last_at _ _ _ (by simp), by exact bl_kp HP.out kpt, by exact kpt⟩ ?_
 rintro W0 ⟨xT0, xX0, xP0, xK0⟩
 have T0 := hid xT0
 have X0 := hid xX0
 have P0 := hid xP0
 have K0 := hid xK0
 clear xT0 xX0 xP0 xK0
 have CB := hid ((cell_same (K0.out.block _ HBLw.out) _).trans CBw.out)
 have HBL := hid (Nat.lt_of_lt_of_le HBLw.out K0.out.size)
 have WS := hid (fun (W : World) (k : Kp W0 W) => WSw.out W (K0.out.trans k))
 have HMT := hid (show ¬ M w.heap.size ≠ none from fun e => e (HM.out.lt (Nat.le_refl _)))
 have HMX := hid (show ¬ M (w.heap.size + 1) ≠ none from fun e => e (HM.out.lt (Nat.le_succ _)))
 have Q1 := hid (((Kp.refl W0).drew))
 clear CBw HBLw WSw HP
 go_cut [18, 19, 20] (fun v l i wc => ∃ ad2 c2, v = .slice ad2 Z c2 ∧ l = .int .i64 (Z : Int) ∧ i = .int .i64 0 ∧ Z ≤ c2 ∧ SpL wc (okB M O) (.slice ad2 Z c2) zs ∧ Kx (fun b => M b ≠ none) W0 wc ∧ MemOk M O wc)
 case first =>
  have Q0 : Kx (fun b => M b ≠ none) W0 W0.drew := (Kx.refl _ _).drew
  have MK : Hid (∀ W, Kx (fun b => M b ≠ none) W0 W → W.cell? ⟨w.heap.size, 0, none⟩ = some (.string s) ∧ W.cell? ⟨w.heap.size, 1, none⟩ = some (.bool bol) ∧ W.cell? ⟨(w.heap.size + 1), 0, none⟩ = some (.int .i8 x.a) ∧ W.cell? ⟨(w.heap.size + 1), 1, none⟩ = some (.int .i8 x.f0) ∧ W.cell? ⟨(w.heap.size + 1), 2, none⟩ = some (.int .i8 x.t0) ∧ W.cell? ⟨(w.heap.size + 1), 3, none⟩ = some (.int .i8 x.f1) ∧ W.cell? ⟨(w.heap.size + 1), 4, none⟩ = some (.int .i8 x.t1) ∧ W.cell? ⟨(w.heap.size + 1), 5, none⟩ = some (.int .i8 x.f2) ∧ W.cell? ⟨(w.heap.size + 1), 6, none⟩ = some (.int .i8 x.t2) ∧ W.cell? ⟨P, 8, none⟩ = some (.slice (some ⟨bb, 0, none⟩) L c) ∧ W.cell? ⟨bb, 0, none⟩ = some (ptv kid.P) ∧ Hid (Kx (fun b => M b ≠ none) W0 W)) := fun W k => ⟨bl_cell (bl_kx T0.out k HMT.out) 0 _ rfl, bl_cell (bl_kx T0.out k HMT.out) 1 _ rfl, bl_cell (bl_kx X0.out k HMX.out) 0 _ rfl, bl_cell (bl_kx X0.out k HMX.out) 1 _ rfl, bl_cell (bl_kx X0.out k HMX.out) 2 _ rfl, bl_cell (bl_kx X0.out k HMX.out) 3 _ rfl, bl_cell (bl_kx X0.out k HMX.out) 4 _ rfl, bl_cell (bl_kx X0.out k HMX.out) 5 _ rfl, bl_cell (bl_kx X0.out k HMX.out) 6 _ rfl, bl_cell (bl_kx P0.out k HMP.out) 8 _ rfl, (cell_same (k.block _ HBL.out HMB.out) _).trans CB.out, k⟩
  refine wp_region_noPanic ?_
  refine hdrew MK Q0 (fun hH => ?_)
  have KQ := Q0
  refine tk 0 (some 10) (Op.load 70 (Operand.tmp 3)) 70 (v := ?v0a1) rfl ?h0a1 hH ?_
  case h0a1 => intro _ _; go_simp; try with_reducible rfl
  try simp only [ps]
  refine tk 1 (some 11) (Op.move (Operand.tmp 1)) 71 (v := ?v1a2) rfl ?h1a2 hH ?_
  case h1a2 => intro _ _; go_simp; try with_reducible rfl
  try simp only [ps]
  refine tk 2 (some 12) (Op.nilCheck (Operand.tmp 11)) 0 (v := ?v2a3) rfl ?h2a3 hH ?_
  case h2a3 => intro _ _; go_simp; try with_reducible rfl
  try simp only [ps]
  refine tk 3 (some 13) (Op.fieldAddr 130 (Operand.tmp 12) 5) 0 (v := ?v3a4) rfl ?h3a4 hH ?_
  case h3a4 => intro _ _; go_simp; try with_reducible rfl
  try simp only [ps]
  refine tk 4 (some 14) (Op.load 124 (Operand.tmp 13)) 124 (v := ?v4a5) rfl ?h4a5 hH ?_
  case h4a5 => intro _ _; go_simp; try with_reducible rfl
  try simp only [ps]
  refine tk 5 (some 15) (Op.indexAddr 124 (Operand.tmp 14) (Operand.const (Value.int IntKind.i64 0))) 0 (v := ?v5a6) rfl ?h5a6 hH ?_
  case h5a6 => intro _ _; go_simp; try with_reducible rfl
  try simp only [ps]
  refine tk 6 (some 16) (Op.load 71 (Operand.tmp 15)) 71 (v := ?v6a7) rfl ?h6a7 hH ?_
  case h6a7 => intro _ _; go_simp; try with_reducible rfl
  try simp only [ps]
  refine tk 7 (some 17) (Op.load 83 (Operand.tmp 5)) 83 (v := ?v7a8) rfl ?h7a8 hH ?_
  case h7a8 => intro _ _; go_simp; try with_reducible rfl
  try simp only [ps]
  refine tk 10 (some 20) (Op.move (Operand.const (Value.int IntKind.i64 0))) 3 (v := ?v10a9) rfl ?h10a9 hH ?_
  case h10a9 => intro _ _; go_simp; try with_reducible rfl
  try simp only [ps]
  refine wpAnyH_ready (rs := [8]) (by kernel_rfl) (by simp) ?_
  refine AllReadyH.cons (o := { dst := some 18, op := Op.call { callee := Callee.value (Operand.func 34), args := #[Operand.tmp 10, Operand.tmp 16, Operand.tmp 17], argTypes := #[70, 71, 83] }, type := 68, pos := "walk.go:98", after := #[{ on := 0, ground := Ground.data }, { on := 6, ground := Ground.data }, { on := 7, ground := Ground.data }], guard := none }) rfl (fun K hKq => ?_) AllReadyH.nil
  go_simp
  refine (WS.out _ Q1.out).mono ?_
  rintro e y2 ⟨⟨v, rfl, hv, hk, hm⟩⟩
  obtain ⟨ad2, c2, hvv, hlc, hce⟩ := hv.ex
  rw [HZL.out] at hvv hlc
  subst hvv
  have HV := hid hv
  have HK2 := hid hk
  have HM2 := hid hm
  clear hv hk hm hce
  refine hKq.out _ _ (MK.out _ ((Kp.kx Q1.out).trans HK2.out)) (fun hN => ?_)
  clear hKq K hH KQ
  have hH := hN
  clear hN
  have KQ := hH.2.2.2.2.2.2.2.2.2.2.2.out
  try simp only [ps]
  refine tk 9 (some 19) (Op.call { callee := Callee.builtin Builtin.len, args := #[Operand.tmp 18], argTypes := #[68] }) 3 (v := ?v9a10) rfl ?h9a10 hH ?_
  case h9a10 => intro _ _; go_simp; try with_reducible rfl
  try simp only [ps]
  refine wpAnyH_done (by kernel_rfl) ?_ _
  refine NoPanic.normal ?_
  go_wp2_with fail
  go_meet
  case rel => exact ⟨ad2, c2, rfl, rfl, rfl, hlc, HV.out, (Kp.kx Q1.out).trans HK2.out, HM2.out⟩
 case rest =>
 obtain ⟨ad2, c2, rfl, rfl, rfl, hzc, hsl, hkx, hmc⟩ := hcut
 rename World => wc
 have S1 := hid hsl
 have X1 := hid (bl_kx X0.out hkx HMX.out)
 have P1 := hid (bl_kx P0.out hkx HMP.out)
 have M1 := hid hmc
 have K1 := hid ((Kp.kx K0.out).trans hkx)
 have SO := hid (show ∀ b, O b → b < wc.heap.size from fun b o => Nat.lt_of_lt_of_le (HO.out b o) K1.out.size)
 clear hsl hkx hmc X0 P0 T0 K0 WS HMT HMX HMP HMB CB HBL Q1 HKID HO HM
 go_wp2_with fail
 go_loopg [7, 20] Z (fun gg v i wr => ∃ (q : Nat), q + gg = Z ∧ i = .int .i64 (q : Int) ∧ SpR wc.heap.size wr v ((zs.take q).map (fun y => y.put 1 x.a y.a)) ∧ Kx (fun _ => False) wc wr)
 case atStart => exact ⟨0, by omega, rfl, SpR.nil _ _, Kx.refl _ _⟩
 case round =>
  obtain ⟨q, hq, rfl, hR, hK⟩ := hrel
  have R6 := hid hR
  have K6 := hid hK
  have X6 := hid (bl_kx X1.out hK id)
  have P6 := hid (bl_kx P1.out hK id)
  have S6 := hid (S1.out.keep (ok' := okB M O) hK.size (fun b hb hl => ⟨hb, hK.block b hl id⟩))
  obtain ⟨rad, rc, hvv, -⟩ := hR.form
  obtain ⟨N0, hN0⟩ : ∃ N0, ((zs.take q).map (fun y => y.put 1 x.a y.a)).length = N0 := ⟨_, rfl⟩
  rw [hN0] at hvv
  subst hvv
  clear hR hK hN0
  by_cases hlt : q < Z
  ·
   have gkw : IntKind.i64.wrap ((q : Int) + 1) = (q : Int) + 1 := by have := HZF.out; rw [IntKind.wrap_i64]; omega
   have ga : (q : Int) < (Z : Int) := by omega
   have g0 : (0 : Int) ≤ (q : Int) := by omega
   obtain ⟨y, hy⟩ : ∃ y, zs[q]? = some y := ⟨_, List.getElem?_eq_getElem (by rw [HZL.out]; exact hlt)⟩
   obtain ⟨ad3, c3, hv2, _, hc2⟩ := S6.out.ex
   injection hv2 with e1 e2 e3
   obtain ⟨b2, hbb, _, hbl, hce⟩ := hc2 (by rw [HZL.out]; omega)
   rw [← e1] at hbb
   subst hbb
   have hsp := hce q y hy
   have HY := hid (HGD.out y (List.mem_of_getElem? hy))
   have HTK : Hid ((zs.take (q + 1)).map (fun y => y.put 1 x.a y.a) = (zs.take q).map (fun y => y.put 1 x.a y.a) ++ [y.put 1 x.a y.a]) := by
    show _ = _
    rw [List.take_succ_eq_append_getElem (by rw [HZL.out]; exact hlt), List.map_append, (List.getElem?_eq_some_iff.1 hy).2]
    rfl
   have HLEN := hid (show ((zs.take q).map (fun y => y.put 1 x.a y.a)).length ≤ 5000000000000 by rw [List.length_map, List.length_take]; have := HZF.out; omega)
   have x0 := hsp.c0
   have x1 := hsp.c1
   have x2 := hsp.c2
   have x3 := hsp.c3
   have x4 := hsp.c4
   have x5 := hsp.c5
   have x6 := hsp.c6
   clear hsp hce hy e1 e2 e3 hc2
   obtain ⟨ys, hys⟩ : ∃ ys, (zs.take q).map (fun y => y.put 1 x.a y.a) = ys := ⟨_, rfl⟩
   rw [hys] at R6 HTK HLEN
   clear hys
   go_upto_region 5 with fail
   refine opq (fun W6 => W6.heap[wr.heap.size]? = some (spo y) ∧ W6.heap[(w.heap.size + 1)]? = some (spo x) ∧ W6.heap[P]? = some (pto k low high 1 t (.slice (some ⟨bb, 0, none⟩) L c) rd st h kn so) ∧ SpR wc.heap.size W6 (.slice rad N0 rc) ys ∧ Kx (fun _ => False) wc W6) ⟨by exact last_of _ _, by exact bl_alloc X6.out _, by exact bl_alloc P6.out _, by exact R6.out.kp ((Kp.refl _).alloc _), by exact K6.out.alloc _⟩ ?_
   rintro W6 ⟨xY7, xX7, xP7, xR7, xK7⟩
   have Y7 := hid xY7
   have X7 := hid xX7
   have P7 := hid xP7
   have R7 := hid xR7
   have K7 := hid xK7
   clear xY7 xX7 xP7 xR7 xK7
   have HRY := hid (show ∀ b, (Value.slice rad N0 rc).ownBlock = some b → wc.heap.size ≤ b ∧ b < wr.heap.size from fun b e => R6.out.block b e)
   have HSW := hid K6.out.size
   clear x0 x1 x2 x3 x4 x5 x6 X6 P6 R6 S6 K6
   obtain ⟨z, hz⟩ : ∃ z, y.put 1 x.a y.a = z := ⟨_, rfl⟩
   have HZOK := hid (show z.Ok by rw [← hz]; exact HX.out.put ((Or.inl rfl)) HY.out.1 HY.out.2.2)
   have HZE : Hid (spo (y.put 1 x.a y.a) = spo z) := by show _ = _; rw [hz]
   rw [hz] at HTK
   clear hz
   have gkn : IntKind.i64.wrap 0 = 0 := by rw [IntKind.wrap_i64]; omega
   go_cut [] (fun we => we.heap[wr.heap.size]? = some (spo z) ∧ Ks wr.heap.size W6 we)
   case first =>
    have Q0 : Kp W6 W6.drew := (Kp.refl _).drew
    have MK : Hid (∀ W, Kp W6 W → W.cell? ⟨P, 3, none⟩ = some (.int .i64 1) ∧ W.cell? ⟨(w.heap.size + 1), 0, none⟩ = some (.int .i8 x.a) ∧ W.cell? ⟨wr.heap.size, 0, none⟩ = some (.int .i8 y.a) ∧ Hid (Kp W6 W)) := fun W k => ⟨bl_cell (bl_kp P7.out k) 3 _ rfl, bl_cell (bl_kp X7.out k) 0 _ rfl, bl_cell (bl_kp Y7.out k) 0 _ rfl, k⟩
    refine wp_region_noPanic ?_
    refine hdrewZ 12 MK Q0 (fun hH => ?_)
    have KQ := Q0
    refine zk 12 0 [] (some 24) (Op.move (Operand.tmp 1)) 71 (v := ?v0b1) rfl ?h0b1 hH ?_
    case h0b1 => intro _ _; go_simp; try with_reducible rfl
    try simp only [ps]
    refine zk 12 1 [] (some 25) (Op.nilCheck (Operand.tmp 24)) 0 (v := ?v1b2) rfl ?h1b2 hH ?_
    case h1b2 => intro _ _; go_simp; try with_reducible rfl
    try simp only [ps]
    refine zk 12 2 [] (some 26) (Op.fieldAddr 130 (Operand.tmp 25) 3) 0 (v := ?v2b3) rfl ?h2b3 hH ?_
    case h2b3 => intro _ _; go_simp; try with_reducible rfl
    try simp only [ps]
    refine zk 12 3 [] (some 27) (Op.load 3 (Operand.tmp 26)) 3 (v := ?v3b4) rfl ?h3b4 hH ?_
    case h3b4 => intro _ _; go_simp; try with_reducible rfl
    try simp only [ps]
    refine zk 12 4 [] (some 28) (Op.binOp BinOp.sub 3 (Operand.tmp 27) (Operand.const (Value.int IntKind.i64 1)) 3) 3 (v := ?v4b5) rfl ?h4b5 hH ?_
    case h4b5 => intro _ _; go_simp; try with_reducible rfl
    try simp only [ps]
    refine zk 12 5 [] (some 29) (Op.fieldAddr 83 (Operand.tmp 5) 0) 0 (v := ?v5b6) rfl ?h5b6 hH ?_
    case h5b6 => intro _ _; go_simp; try with_reducible rfl
    try simp only [ps]
    refine zk 12 6 [] (some 30) (Op.load 78 (Operand.tmp 29)) 78 (v := ?v6b7) rfl ?h6b7 hH ?_
    case h6b7 => intro _ _; go_simp; try with_reducible rfl
    try simp only [ps]
    refine zk 12 7 [] (some 31) (Op.fieldAddr 83 (Operand.tmp 9) 0) 0 (v := ?v7b8) rfl ?h7b8 hH ?_
    case h7b8 => intro _ _; go_simp; try with_reducible rfl
    try simp only [ps]
    refine zk 12 8 [] (some 32) (Op.load 78 (Operand.tmp 31)) 78 (v := ?v8b9) rfl ?h8b9 hH ?_
    case h8b9 => intro _ _; go_simp; try with_reducible rfl
    try simp only [ps]
    refine zk 12 9 [] (some 33) (Op.build 80 #[(0, Operand.tmp 30), (1, Operand.tmp 32)]) 80 (v := ?v9b10) rfl ?h9b10 hH ?_
    case h9b10 => intro _ _; go_simp; try with_reducible rfl
    try simp only [ps]
    refine zk 12 10 [11] (some 34) (Op.fieldAddr 83 (Operand.tmp 9) 1) 0 (v := ?v10b11) rfl ?h10b11 hH ?_
    case h10b11 => intro _ _; go_simp; try with_reducible rfl
    try simp only [ps]
    refine zk 12 11 [] (some 35) (Op.indexAddr 81 (Operand.tmp 34) (Operand.tmp 28)) 0 (v := ?v11b12) rfl ?h11b12 hH ?_
    case h11b12 => intro _ _; go_simp; try with_reducible rfl
    try simp only [ps]
    refine anyZ_ready (rs := [12]) (by kernel_rfl) (by simp) ?_
    refine AllZ.last (o := { dst := none, op := Op.store 80 (Operand.tmp 35) (Operand.tmp 33), type := 0, pos := "walk.go:99", after := #[{ on := 11, ground := Ground.data }, { on := 9, ground := Ground.data }, { on := 0, ground := Ground.phase }, { on := 1, ground := Ground.phase }, { on := 2, ground := Ground.phase }, { on := 3, ground := Ground.phase }, { on := 4, ground := Ground.phase }, { on := 5, ground := Ground.phase }, { on := 6, ground := Ground.phase }, { on := 7, ground := Ground.phase }, { on := 8, ground := Ground.phase }, { on := 9, ground := Ground.phase }], guard := none }) rfl (Or.inl rfl) (fun K hKq => ?_) AllZ.nil
    have l1 := bl_cell (bl_drew Y7.out) 1 _ rfl
    have l2 := bl_cell (bl_drew Y7.out) 2 _ rfl
    have fl1 := bl_frozen (bl_drew Y7.out) 1
    have fl2 := bl_frozen (bl_drew Y7.out) 2
    have m2 := bl_cell Y7.out 2 _ rfl
    have fm2 := bl_frozen Y7.out 2
    go_simp
    refine hKq.out _ _ ?_
    clear l1 l2 fl1 fl2 m2 fm2
    clear hKq K
    try simp only [ps]
    refine anyZ_done (by kernel_rfl) ?_ _
    refine NoPanic.normal ?_
    go_wp2_with fail
    go_meet
    case rel => exact ⟨by rw [← HZE.out]; exact bl_put (bl_put Y7.out _) _, (((Ks.refl _ _).set _ _).set _ _).drew⟩

   case rest =>
   obtain ⟨hu4, hk4⟩ := hcut
   rename World => W7
   have Y8 := hid hu4
   have R8 := hid (R7.out.turn (w' := W7) (fun b hb hl => hk4.block b hl (by have := (HRY.out b hb).2; omega)))
   have K8 := hid (hk4.up (Kx.kp K7.out) HSW.out)
   have A8 := hid (R8.out.kp ((Kp.refl W7).alloc (spo z)))
   clear hu4 hk4 Y7 X7 P7 R7 K7
   obtain ⟨y0, y1, y2, y3, y4, y5, y6⟩ := cells7 (Y8.out)
   go_wp2_with (at_builtin; go_must (refine wpList_append_sp (W7.alloc (spo z)) (by rfl) _ _ (by rfl) wc.heap.size (.slice rad N0 rc) ys z (by rfl) W7.heap.size (by rfl) A8 HZOK ?h1 ?h2 ?h3 ?_))
   case h1 => exact last_of _ _
   case h2 => exact HLEN.out
   case h3 => have := K8.out.size; simp; omega
   intro v' w' md
   have MD := hid md
   clear md y0 y1 y2 y3 y4 y5 y6
   obtain ⟨rad', rc', hv', -⟩ := MD.out.row.form
   obtain ⟨N1, hN1⟩ : ∃ N1, (ys ++ [z]).length = N1 := ⟨_, rfl⟩
   rw [hN1] at hv'
   subst hv'
   clear hN1
   go_wp2_with fail
   go_roundg (gk - 1)
   case measure => omega
   case rel => exact ⟨q + 1, by omega, by go_num, by rw [HTK.out]; exact MD.out.row, ((Kp.kx (K8.out.alloc _)).grown MD.out.grown (fun k e hk => by have := (HRY.out k e).1; omega))⟩
  ·
   have ga : ¬ (q : Int) < (Z : Int) := by omega
   have HE : Hid ((zs.take q).map (fun y => y.put 1 x.a y.a) = zs.map (fun y => y.put 1 x.a y.a)) := by
    show _ = _
    rw [List.take_of_length_le (by rw [HZL.out]; omega)]
   go_wp2_with fail
   go_ret
   exact ⟨_, rfl, by rw [← HE.out]; exact R6.out.spl (fun b e => ⟨fun o => by have := (R6.out.block b e).1; have := SO.out b o; omega, M1.out.lt (R6.out.block b e).1⟩), K1.out.trans (Kp.kx (Kx.kp K6.out)), M1.out.keep (S := fun _ => False) K6.out (fun _ _ e => e.elim) (fun _ _ e => e) M1.out.own⟩
theorem wgroup2_any (s : ByteArray) (bol : Bool) (_ : s.size ≤ 60) (M : Nat → Option Memo) (k low high : Int) (t : W4) (P : Nat) (kn so : Option Nat) (rd st h : Nat) (kid : Pt) (ks : List Pt) (HS : WSaid s bol M kid) (O : Nat → Prop) (x : Sp) (hx : x.Ok) (hN : x.In s.size) (w : World) (hO : ∀ b, O b → b < w.heap.size) (hM : MemOk M O w) (hP : PtAt w (okB M O) (.mk k low high 2 t P kn so rd st h (kid :: ks))) :
  Calls Tryz.prog 84 #[wkv s bol, ptv P, spv x] w fun e w' => WaysD ((ways s.data.toList bol kid x).map (fun y => y.put 2 x.a y.a)) (okB M O) (fun w' => Km M w w' ∧ MemOk M O w') e w' := by
 unfold PtAt at hP
 obtain ⟨hok, ⟨ad, c, hblk, hcap, hat⟩, hpts⟩ := hP
 unfold PtsAt at hpts
 obtain ⟨L, hL⟩ : ∃ L, (kid :: ks).length = L := ⟨_, rfl⟩
 have hL0 : 0 < L := by rw [← hL]; simp
 obtain ⟨bb, rfl, hbok, hbl, hce⟩ := hat (by simp)
 rw [hL] at hblk hcap
 have HKID := hid hpts.1
 have CBw := hid (hce 0 kid rfl)
 have HBLw := hid hbl
 have HMB := hid (show ¬ M bb ≠ none from fun e => e hbok.2)
 have HMP := hid (show ¬ M P ≠ none from fun e => e hok.2)
 have HX := hid hx
 have HN := hid hN
 have HO := hid hO
 have HM := hid hM
 have HP := hid hblk
 have HGD := hid (HS.good x hx hN)
 have WSw := hid (fun (W : World) (k0 : Kp w W) => HS.all O x W hx hN (fun b hb => Nat.lt_of_lt_of_le (hO b hb) k0.size) (hpts.1.kp k0) (hM.keep (S := fun _ => False) (Kp.kx k0) (fun _ _ e => e.elim) (fun _ _ e => e) hM.own))
 obtain ⟨zs, hzs⟩ : ∃ zs, ways s.data.toList bol kid x = zs := ⟨_, rfl⟩
 have hfew := HS.few x hx hN
 rw [hzs] at WSw HGD hfew ⊢
 obtain ⟨Z, hZ⟩ : ∃ Z, zs.length = Z := ⟨_, rfl⟩
 have HZL := hid hZ
 rw [hZ] at hfew
 have HZF := hid hfew
 clear hok hblk hat hpts hL hbok hbl hce hx hN hO hM HS hzs hZ hfew
 go_enter Tryz.func84, Tryz.ntmps84
 go_upto_region 2 with fail
 refine opq (fun W0 => W0.heap[w.heap.size]? = some (.cells #[.string s, .bool bol] 70) ∧ W0.heap[(w.heap.size + 1)]? = some (spo x) ∧ W0.heap[P]? = some (pto k low high 2 t (.slice (some ⟨bb, 0, none⟩) L c) rd st h kn so) ∧ Kp w W0) ⟨by exact bl_alloc (last_of _ _) _, by exact last_at _ _ _ (by simp), by exact bl_kp HP.out kpt, by exact kpt⟩ ?_
 rintro W0 ⟨xT0, xX0, xP0, xK0⟩
 have T0 := hid xT0
 have X0 := hid xX0
 have P0 := hid xP0
 have K0 := hid xK0
 clear xT0 xX0 xP0 xK0
 have CB := hid ((cell_same (K0.out.block _ HBLw.out) _).trans CBw.out)
 have HBL := hid (Nat.lt_of_lt_of_le HBLw.out K0.out.size)
 have WS := hid (fun (W : World) (k : Kp W0 W) => WSw.out W (K0.out.trans k))
 have HMT := hid (show ¬ M w.heap.size ≠ none from fun e => e (HM.out.lt (Nat.le_refl _)))
 have HMX := hid (show ¬ M (w.heap.size + 1) ≠ none from fun e => e (HM.out.lt (Nat.le_succ _)))
 have Q1 := hid (((Kp.refl W0).drew))
 clear CBw HBLw WSw HP
 go_cut [18, 19, 20] (fun v l i wc => ∃ ad2 c2, v = .slice ad2 Z c2 ∧ l = .int .i64 (Z : Int) ∧ i = .int .i64 0 ∧ Z ≤ c2 ∧ SpL wc (okB M O) (.slice ad2 Z c2) zs ∧ Kx (fun b => M b ≠ none) W0 wc ∧ MemOk M O wc)
 case first =>
  have Q0 : Kx (fun b => M b ≠ none) W0 W0.drew := (Kx.refl _ _).drew
  have MK : Hid (∀ W, Kx (fun b => M b ≠ none) W0 W → W.cell? ⟨w.heap.size, 0, none⟩ = some (.string s) ∧ W.cell? ⟨w.heap.size, 1, none⟩ = some (.bool bol) ∧ W.cell? ⟨(w.heap.size + 1), 0, none⟩ = some (.int .i8 x.a) ∧ W.cell? ⟨(w.heap.size + 1), 1, none⟩ = some (.int .i8 x.f0) ∧ W.cell? ⟨(w.heap.size + 1), 2, none⟩ = some (.int .i8 x.t0) ∧ W.cell? ⟨(w.heap.size + 1), 3, none⟩ = some (.int .i8 x.f1) ∧ W.cell? ⟨(w.heap.size + 1), 4, none⟩ = some (.int .i8 x.t1) ∧ W.cell? ⟨(w.heap.size + 1), 5, none⟩ = some (.int .i8 x.f2) ∧ W.cell? ⟨(w.heap.size + 1), 6, none⟩ = some (.int .i8 x.t2) ∧ W.cell? ⟨P, 8, none⟩ = some (.slice (some ⟨bb, 0, none⟩) L c) ∧ W.cell? ⟨bb, 0, none⟩ = some (ptv kid.P) ∧ Hid (Kx (fun b => M b ≠ none) W0 W)) := fun W k => ⟨bl_cell (bl_kx T0.out k HMT.out) 0 _ rfl, bl_cell (bl_kx T0.out k HMT.out) 1 _ rfl, bl_cell (bl_kx X0.out k HMX.out) 0 _ rfl, bl_cell (bl_kx X0.out k HMX.out) 1 _ rfl, bl_cell (bl_kx X0.out k HMX.out) 2 _ rfl, bl_cell (bl_kx X0.out k HMX.out) 3 _ rfl, bl_cell (bl_kx X0.out k HMX.out) 4 _ rfl, bl_cell (bl_kx X0.out k HMX.out) 5 _ rfl, bl_cell (bl_kx X0.out k HMX.out) 6 _ rfl, bl_cell (bl_kx P0.out k HMP.out) 8 _ rfl, (cell_same (k.block _ HBL.out HMB.out) _).trans CB.out, k⟩
  refine wp_region_noPanic ?_
  refine hdrew MK Q0 (fun hH => ?_)
  have KQ := Q0
  refine tk 0 (some 10) (Op.load 70 (Operand.tmp 3)) 70 (v := ?v0a1) rfl ?h0a1 hH ?_
  case h0a1 => intro _ _; go_simp; try with_reducible rfl
  try simp only [ps]
  refine tk 1 (some 11) (Op.move (Operand.tmp 1)) 71 (v := ?v1a2) rfl ?h1a2 hH ?_
  case h1a2 => intro _ _; go_simp; try with_reducible rfl
  try simp only [ps]
  refine tk 2 (some 12) (Op.nilCheck (Operand.tmp 11)) 0 (v := ?v2a3) rfl ?h2a3 hH ?_
  case h2a3 => intro _ _; go_simp; try with_reducible rfl
  try simp only [ps]
  refine tk 3 (some 13) (Op.fieldAddr 130 (Operand.tmp 12) 5) 0 (v := ?v3a4) rfl ?h3a4 hH ?_
  case h3a4 => intro _ _; go_simp; try with_reducible rfl
  try simp only [ps]
  refine tk 4 (some 14) (Op.load 124 (Operand.tmp 13)) 124 (v := ?v4a5) rfl ?h4a5 hH ?_
  case h4a5 => intro _ _; go_simp; try with_reducible rfl
  try simp only [ps]
  refine tk 5 (some 15) (Op.indexAddr 124 (Operand.tmp 14) (Operand.const (Value.int IntKind.i64 0))) 0 (v := ?v5a6) rfl ?h5a6 hH ?_
  case h5a6 => intro _ _; go_simp; try with_reducible rfl
  try simp only [ps]
  refine tk 6 (some 16) (Op.load 71 (Operand.tmp 15)) 71 (v := ?v6a7) rfl ?h6a7 hH ?_
  case h6a7 => intro _ _; go_simp; try with_reducible rfl
  try simp only [ps]
  refine tk 7 (some 17) (Op.load 83 (Operand.tmp 5)) 83 (v := ?v7a8) rfl ?h7a8 hH ?_
  case h7a8 => intro _ _; go_simp; try with_reducible rfl
  try simp only [ps]
  refine tk 10 (some 20) (Op.move (Operand.const (Value.int IntKind.i64 0))) 3 (v := ?v10a9) rfl ?h10a9 hH ?_
  case h10a9 => intro _ _; go_simp; try with_reducible rfl
  try simp only [ps]
  refine wpAnyH_ready (rs := [8]) (by kernel_rfl) (by simp) ?_
  refine AllReadyH.cons (o := { dst := some 18, op := Op.call { callee := Callee.value (Operand.func 34), args := #[Operand.tmp 10, Operand.tmp 16, Operand.tmp 17], argTypes := #[70, 71, 83] }, type := 68, pos := "walk.go:98", after := #[{ on := 0, ground := Ground.data }, { on := 6, ground := Ground.data }, { on := 7, ground := Ground.data }], guard := none }) rfl (fun K hKq => ?_) AllReadyH.nil
  go_simp
  refine (WS.out _ Q1.out).mono ?_
  rintro e y2 ⟨⟨v, rfl, hv, hk, hm⟩⟩
  obtain ⟨ad2, c2, hvv, hlc, hce⟩ := hv.ex
  rw [HZL.out] at hvv hlc
  subst hvv
  have HV := hid hv
  have HK2 := hid hk
  have HM2 := hid hm
  clear hv hk hm hce
  refine hKq.out _ _ (MK.out _ ((Kp.kx Q1.out).trans HK2.out)) (fun hN => ?_)
  clear hKq K hH KQ
  have hH := hN
  clear hN
  have KQ := hH.2.2.2.2.2.2.2.2.2.2.2.out
  try simp only [ps]
  refine tk 9 (some 19) (Op.call { callee := Callee.builtin Builtin.len, args := #[Operand.tmp 18], argTypes := #[68] }) 3 (v := ?v9a10) rfl ?h9a10 hH ?_
  case h9a10 => intro _ _; go_simp; try with_reducible rfl
  try simp only [ps]
  refine wpAnyH_done (by kernel_rfl) ?_ _
  refine NoPanic.normal ?_
  go_wp2_with fail
  go_meet
  case rel => exact ⟨ad2, c2, rfl, rfl, rfl, hlc, HV.out, (Kp.kx Q1.out).trans HK2.out, HM2.out⟩
 case rest =>
 obtain ⟨ad2, c2, rfl, rfl, rfl, hzc, hsl, hkx, hmc⟩ := hcut
 rename World => wc
 have S1 := hid hsl
 have X1 := hid (bl_kx X0.out hkx HMX.out)
 have P1 := hid (bl_kx P0.out hkx HMP.out)
 have M1 := hid hmc
 have K1 := hid ((Kp.kx K0.out).trans hkx)
 have SO := hid (show ∀ b, O b → b < wc.heap.size from fun b o => Nat.lt_of_lt_of_le (HO.out b o) K1.out.size)
 clear hsl hkx hmc X0 P0 T0 K0 WS HMT HMX HMP HMB CB HBL Q1 HKID HO HM
 go_wp2_with fail
 go_loopg [7, 20] Z (fun gg v i wr => ∃ (q : Nat), q + gg = Z ∧ i = .int .i64 (q : Int) ∧ SpR wc.heap.size wr v ((zs.take q).map (fun y => y.put 2 x.a y.a)) ∧ Kx (fun _ => False) wc wr)
 case atStart => exact ⟨0, by omega, rfl, SpR.nil _ _, Kx.refl _ _⟩
 case round =>
  obtain ⟨q, hq, rfl, hR, hK⟩ := hrel
  have R6 := hid hR
  have K6 := hid hK
  have X6 := hid (bl_kx X1.out hK id)
  have P6 := hid (bl_kx P1.out hK id)
  have S6 := hid (S1.out.keep (ok' := okB M O) hK.size (fun b hb hl => ⟨hb, hK.block b hl id⟩))
  obtain ⟨rad, rc, hvv, -⟩ := hR.form
  obtain ⟨N0, hN0⟩ : ∃ N0, ((zs.take q).map (fun y => y.put 2 x.a y.a)).length = N0 := ⟨_, rfl⟩
  rw [hN0] at hvv
  subst hvv
  clear hR hK hN0
  by_cases hlt : q < Z
  ·
   have gkw : IntKind.i64.wrap ((q : Int) + 1) = (q : Int) + 1 := by have := HZF.out; rw [IntKind.wrap_i64]; omega
   have ga : (q : Int) < (Z : Int) := by omega
   have g0 : (0 : Int) ≤ (q : Int) := by omega
   obtain ⟨y, hy⟩ : ∃ y, zs[q]? = some y := ⟨_, List.getElem?_eq_getElem (by rw [HZL.out]; exact hlt)⟩
   obtain ⟨ad3, c3, hv2, _, hc2⟩ := S6.out.ex
   injection hv2 with e1 e2 e3
   obtain ⟨b2, hbb, _, hbl, hce⟩ := hc2 (by rw [HZL.out]; omega)
   rw [← e1] at hbb
   subst hbb
   have hsp := hce q y hy
   have HY := hid (HGD.out y (List.mem_of_getElem? hy))
   have HTK : Hid ((zs.take (q + 1)).map (fun y => y.put 2 x.a y.a) = (zs.take q).map (fun y => y.put 2 x.a y.a) ++ [y.put 2 x.a y.a]) := by
    show _ = _
    rw [List.take_succ_eq_append_getElem (by rw [HZL.out]; exact hlt), List.map_append, (List.getElem?_eq_some_iff.1 hy).2]
    rfl
   have HLEN := hid (show ((zs.take q).map (fun y => y.put 2 x.a y.a)).length ≤ 5000000000000 by rw [List.length_map, List.length_take]; have := HZF.out; omega)
   have x0 := hsp.c0
   have x1 := hsp.c1
   have x2 := hsp.c2
   have x3 := hsp.c3
   have x4 := hsp.c4
   have x5 := hsp.c5
   have x6 := hsp.c6
   clear hsp hce hy e1 e2 e3 hc2
   obtain ⟨ys, hys⟩ : ∃ ys, (zs.take q).map (fun y => y.put 2 x.a y.a) = ys := ⟨_, rfl⟩
   rw [hys] at R6 HTK HLEN
   clear hys
   go_upto_region 5 with fail
   refine opq (fun W6 => W6.heap[wr.heap.size]? = some (spo y) ∧ W6.heap[(w.heap.size + 1)]? = some (spo x) ∧ W6.heap[P]? = some (pto k low high 2 t (.slice (some ⟨bb, 0, none⟩) L c) rd st h kn so) ∧ SpR wc.heap.size W6 (.slice rad N0 rc) ys ∧ Kx (fun _ => False) wc W6) ⟨by exact last_of _ _, by exact bl_alloc X6.out _, by exact bl_alloc P6.out _, by exact R6.out.kp ((Kp.refl _).alloc _), by exact K6.out.alloc _⟩ ?_
   rintro W6 ⟨xY7, xX7, xP7, xR7, xK7⟩
   have Y7 := hid xY7
   have X7 := hid xX7
   have P7 := hid xP7
   have R7 := hid xR7
   have K7 := hid xK7
   clear xY7 xX7 xP7 xR7 xK7
   have HRY := hid (show ∀ b, (Value.slice rad N0 rc).ownBlock = some b → wc.heap.size ≤ b ∧ b < wr.heap.size from fun b e => R6.out.block b e)
   have HSW := hid K6.out.size
   clear x0 x1 x2 x3 x4 x5 x6 X6 P6 R6 S6 K6
   obtain ⟨z, hz⟩ : ∃ z, y.put 2 x.a y.a = z := ⟨_, rfl⟩
   have HZOK := hid (show z.Ok by rw [← hz]; exact HX.out.put ((Or.inr (Or.inl rfl))) HY.out.1 HY.out.2.2)
   have HZE : Hid (spo (y.put 2 x.a y.a) = spo z) := by show _ = _; rw [hz]
   rw [hz] at HTK
   clear hz
   have gkn : IntKind.i64.wrap 1 = 1 := by rw [IntKind.wrap_i64]; omega
   go_cut [] (fun we => we.heap[wr.heap.size]? = some (spo z) ∧ Ks wr.heap.size W6 we)
   case first =>
    have Q0 : Kp W6 W6.drew := (Kp.refl _).drew
    have MK : Hid (∀ W, Kp W6 W → W.cell? ⟨P, 3, none⟩ = some (.int .i64 2) ∧ W.cell? ⟨(w.heap.size + 1), 0, none⟩ = some (.int .i8 x.a) ∧ W.cell? ⟨wr.heap.size, 0, none⟩ = some (.int .i8 y.a) ∧ Hid (Kp W6 W)) := fun W k => ⟨bl_cell (bl_kp P7.out k) 3 _ rfl, bl_cell (bl_kp X7.out k) 0 _ rfl, bl_cell (bl_kp Y7.out k) 0 _ rfl, k⟩
    refine wp_region_noPanic ?_
    refine hdrewZ 12 MK Q0 (fun hH => ?_)
    have KQ := Q0
    refine zk 12 0 [] (some 24) (Op.move (Operand.tmp 1)) 71 (v := ?v0b1) rfl ?h0b1 hH ?_
    case h0b1 => intro _ _; go_simp; try with_reducible rfl
    try simp only [ps]
    refine zk 12 1 [] (some 25) (Op.nilCheck (Operand.tmp 24)) 0 (v := ?v1b2) rfl ?h1b2 hH ?_
    case h1b2 => intro _ _; go_simp; try with_reducible rfl
    try simp only [ps]
    refine zk 12 2 [] (some 26) (Op.fieldAddr 130 (Operand.tmp 25) 3) 0 (v := ?v2b3) rfl ?h2b3 hH ?_
    case h2b3 => intro _ _; go_simp; try with_reducible rfl
    try simp only [ps]
    refine zk 12 3 [] (some 27) (Op.load 3 (Operand.tmp 26)) 3 (v := ?v3b4) rfl ?h3b4 hH ?_
    case h3b4 => intro _ _; go_simp; try with_reducible rfl
    try simp only [ps]
    refine zk 12 4 [] (some 28) (Op.binOp BinOp.sub 3 (Operand.tmp 27) (Operand.const (Value.int IntKind.i64 1)) 3) 3 (v := ?v4b5) rfl ?h4b5 hH ?_
    case h4b5 => intro _ _; go_simp; try with_reducible rfl
    try simp only [ps]
    refine zk 12 5 [] (some 29) (Op.fieldAddr 83 (Operand.tmp 5) 0) 0 (v := ?v5b6) rfl ?h5b6 hH ?_
    case h5b6 => intro _ _; go_simp; try with_reducible rfl
    try simp only [ps]
    refine zk 12 6 [] (some 30) (Op.load 78 (Operand.tmp 29)) 78 (v := ?v6b7) rfl ?h6b7 hH ?_
    case h6b7 => intro _ _; go_simp; try with_reducible rfl
    try simp only [ps]
    refine zk 12 7 [] (some 31) (Op.fieldAddr 83 (Operand.tmp 9) 0) 0 (v := ?v7b8) rfl ?h7b8 hH ?_
    case h7b8 => intro _ _; go_simp; try with_reducible rfl
    try simp only [ps]
    refine zk 12 8 [] (some 32) (Op.load 78 (Operand.tmp 31)) 78 (v := ?v8b9) rfl ?h8b9 hH ?_
    case h8b9 => intro _ _; go_simp; try with_reducible rfl
    try simp only [ps]
    refine zk 12 9 [] (some 33) (Op.build 80 #[(0, Operand.tmp 30), (1, Operand.tmp 32)]) 80 (v := ?v9b10) rfl ?h9b10 hH ?_
    case h9b10 => intro _ _; go_simp; try with_reducible rfl
    try simp only [ps]
    refine zk 12 10 [11] (some 34) (Op.fieldAddr 83 (Operand.tmp 9) 1) 0 (v := ?v10b11) rfl ?h10b11 hH ?_
    case h10b11 => intro _ _; go_simp; try with_reducible rfl
    try simp only [ps]
    refine zk 12 11 [] (some 35) (Op.indexAddr 81 (Operand.tmp 34) (Operand.tmp 28)) 0 (v := ?v11b12) rfl ?h11b12 hH ?_
    case h11b12 => intro _ _; go_simp; try with_reducible rfl
    try simp only [ps]
    refine anyZ_ready (rs := [12]) (by kernel_rfl) (by simp) ?_
    refine AllZ.last (o := { dst := none, op := Op.store 80 (Operand.tmp 35) (Operand.tmp 33), type := 0, pos := "walk.go:99", after := #[{ on := 11, ground := Ground.data }, { on := 9, ground := Ground.data }, { on := 0, ground := Ground.phase }, { on := 1, ground := Ground.phase }, { on := 2, ground := Ground.phase }, { on := 3, ground := Ground.phase }, { on := 4, ground := Ground.phase }, { on := 5, ground := Ground.phase }, { on := 6, ground := Ground.phase }, { on := 7, ground := Ground.phase }, { on := 8, ground := Ground.phase }, { on := 9, ground := Ground.phase }], guard := none }) rfl (Or.inl rfl) (fun K hKq => ?_) AllZ.nil
    have l3 := bl_cell (bl_drew Y7.out) 3 _ rfl
    have l4 := bl_cell (bl_drew Y7.out) 4 _ rfl
    have fl3 := bl_frozen (bl_drew Y7.out) 3
    have fl4 := bl_frozen (bl_drew Y7.out) 4
    have m4 := bl_cell Y7.out 4 _ rfl
    have fm4 := bl_frozen Y7.out 4
    go_simp
    refine hKq.out _ _ ?_
    clear l3 l4 fl3 fl4 m4 fm4
    clear hKq K
    try simp only [ps]
    refine anyZ_done (by kernel_rfl) ?_ _
    refine NoPanic.normal ?_
    go_wp2_with fail
    go_meet
    case rel => exact ⟨by rw [← HZE.out]; exact bl_put (bl_put Y7.out _) _, (((Ks.refl _ _).set _ _).set _ _).drew⟩

   case rest =>
   obtain ⟨hu4, hk4⟩ := hcut
   rename World => W7
   have Y8 := hid hu4
   have R8 := hid (R7.out.turn (w' := W7) (fun b hb hl => hk4.block b hl (by have := (HRY.out b hb).2; omega)))
   have K8 := hid (hk4.up (Kx.kp K7.out) HSW.out)
   have A8 := hid (R8.out.kp ((Kp.refl W7).alloc (spo z)))
   clear hu4 hk4 Y7 X7 P7 R7 K7
   obtain ⟨y0, y1, y2, y3, y4, y5, y6⟩ := cells7 (Y8.out)
   go_wp2_with (at_builtin; go_must (refine wpList_append_sp (W7.alloc (spo z)) (by rfl) _ _ (by rfl) wc.heap.size (.slice rad N0 rc) ys z (by rfl) W7.heap.size (by rfl) A8 HZOK ?h1 ?h2 ?h3 ?_))
   case h1 => exact last_of _ _
   case h2 => exact HLEN.out
   case h3 => have := K8.out.size; simp; omega
   intro v' w' md
   have MD := hid md
   clear md y0 y1 y2 y3 y4 y5 y6
   obtain ⟨rad', rc', hv', -⟩ := MD.out.row.form
   obtain ⟨N1, hN1⟩ : ∃ N1, (ys ++ [z]).length = N1 := ⟨_, rfl⟩
   rw [hN1] at hv'
   subst hv'
   clear hN1
   go_wp2_with fail
   go_roundg (gk - 1)
   case measure => omega
   case rel => exact ⟨q + 1, by omega, by go_num, by rw [HTK.out]; exact MD.out.row, ((Kp.kx (K8.out.alloc _)).grown MD.out.grown (fun k e hk => by have := (HRY.out k e).1; omega))⟩
  ·
   have ga : ¬ (q : Int) < (Z : Int) := by omega
   have HE : Hid ((zs.take q).map (fun y => y.put 2 x.a y.a) = zs.map (fun y => y.put 2 x.a y.a)) := by
    show _ = _
    rw [List.take_of_length_le (by rw [HZL.out]; omega)]
   go_wp2_with fail
   go_ret
   exact ⟨_, rfl, by rw [← HE.out]; exact R6.out.spl (fun b e => ⟨fun o => by have := (R6.out.block b e).1; have := SO.out b o; omega, M1.out.lt (R6.out.block b e).1⟩), K1.out.trans (Kp.kx (Kx.kp K6.out)), M1.out.keep (S := fun _ => False) K6.out (fun _ _ e => e.elim) (fun _ _ e => e) M1.out.own⟩
theorem wgroup3_any (s : ByteArray) (bol : Bool) (_ : s.size ≤ 60) (M : Nat → Option Memo) (k low high : Int) (t : W4) (P : Nat) (kn so : Option Nat) (rd st h : Nat) (kid : Pt) (ks : List Pt) (HS : WSaid s bol M kid) (O : Nat → Prop) (x : Sp) (hx : x.Ok) (hN : x.In s.size) (w : World) (hO : ∀ b, O b → b < w.heap.size) (hM : MemOk M O w) (hP : PtAt w (okB M O) (.mk k low high 3 t P kn so rd st h (kid :: ks))) :
  Calls Tryz.prog 84 #[wkv s bol, ptv P, spv x] w fun e w' => WaysD ((ways s.data.toList bol kid x).map (fun y => y.put 3 x.a y.a)) (okB M O) (fun w' => Km M w w' ∧ MemOk M O w') e w' := by
 unfold PtAt at hP
 obtain ⟨hok, ⟨ad, c, hblk, hcap, hat⟩, hpts⟩ := hP
 unfold PtsAt at hpts
 obtain ⟨L, hL⟩ : ∃ L, (kid :: ks).length = L := ⟨_, rfl⟩
 have hL0 : 0 < L := by rw [← hL]; simp
 obtain ⟨bb, rfl, hbok, hbl, hce⟩ := hat (by simp)
 rw [hL] at hblk hcap
 have HKID := hid hpts.1
 have CBw := hid (hce 0 kid rfl)
 have HBLw := hid hbl
 have HMB := hid (show ¬ M bb ≠ none from fun e => e hbok.2)
 have HMP := hid (show ¬ M P ≠ none from fun e => e hok.2)
 have HX := hid hx
 have HN := hid hN
 have HO := hid hO
 have HM := hid hM
 have HP := hid hblk
 have HGD := hid (HS.good x hx hN)
 have WSw := hid (fun (W : World) (k0 : Kp w W) => HS.all O x W hx hN (fun b hb => Nat.lt_of_lt_of_le (hO b hb) k0.size) (hpts.1.kp k0) (hM.keep (S := fun _ => False) (Kp.kx k0) (fun _ _ e => e.elim) (fun _ _ e => e) hM.own))
 obtain ⟨zs, hzs⟩ : ∃ zs, ways s.data.toList bol kid x = zs := ⟨_, rfl⟩
 have hfew := HS.few x hx hN
 rw [hzs] at WSw HGD hfew ⊢
 obtain ⟨Z, hZ⟩ : ∃ Z, zs.length = Z := ⟨_, rfl⟩
 have HZL := hid hZ
 rw [hZ] at hfew
 have HZF := hid hfew
 clear hok hblk hat hpts hL hbok hbl hce hx hN hO hM HS hzs hZ hfew
 go_enter Tryz.func84, Tryz.ntmps84
 go_upto_region 2 with fail
 refine opq (fun W0 => W0.heap[w.heap.size]? = some (.cells #[.string s, .bool bol] 70) ∧ W0.heap[(w.heap.size + 1)]? = some (spo x) ∧ W0.heap[P]? = some (pto k low high 3 t (.slice (some ⟨bb, 0, none⟩) L c) rd st h kn so) ∧ Kp w W0) ⟨by exact bl_alloc (last_of _ _) _, by exact last_at _ _ _ (by simp), by exact bl_kp HP.out kpt, by exact kpt⟩ ?_
 rintro W0 ⟨xT0, xX0, xP0, xK0⟩
 have T0 := hid xT0
 have X0 := hid xX0
 have P0 := hid xP0
 have K0 := hid xK0
 clear xT0 xX0 xP0 xK0
 have CB := hid ((cell_same (K0.out.block _ HBLw.out) _).trans CBw.out)
 have HBL := hid (Nat.lt_of_lt_of_le HBLw.out K0.out.size)
 have WS := hid (fun (W : World) (k : Kp W0 W) => WSw.out W (K0.out.trans k))
 have HMT := hid (show ¬ M w.heap.size ≠ none from fun e => e (HM.out.lt (Nat.le_refl _)))
 have HMX := hid (show ¬ M (w.heap.size + 1) ≠ none from fun e => e (HM.out.lt (Nat.le_succ _)))
 have Q1 := hid (((Kp.refl W0).drew))
 clear CBw HBLw WSw HP
 go_cut [18, 19, 20] (fun v l i wc => ∃ ad2 c2, v = .slice ad2 Z c2 ∧ l = .int .i64 (Z : Int) ∧ i = .int .i64 0 ∧ Z ≤ c2 ∧ SpL wc (okB M O) (.slice ad2 Z c2) zs ∧ Kx (fun b => M b ≠ none) W0 wc ∧ MemOk M O wc)
 case first =>
  have Q0 : Kx (fun b => M b ≠ none) W0 W0.drew := (Kx.refl _ _).drew
  have MK : Hid (∀ W, Kx (fun b => M b ≠ none) W0 W → W.cell? ⟨w.heap.size, 0, none⟩ = some (.string s) ∧ W.cell? ⟨w.heap.size, 1, none⟩ = some (.bool bol) ∧ W.cell? ⟨(w.heap.size + 1), 0, none⟩ = some (.int .i8 x.a) ∧ W.cell? ⟨(w.heap.size + 1), 1, none⟩ = some (.int .i8 x.f0) ∧ W.cell? ⟨(w.heap.size + 1), 2, none⟩ = some (.int .i8 x.t0) ∧ W.cell? ⟨(w.heap.size + 1), 3, none⟩ = some (.int .i8 x.f1) ∧ W.cell? ⟨(w.heap.size + 1), 4, none⟩ = some (.int .i8 x.t1) ∧ W.cell? ⟨(w.heap.size + 1), 5, none⟩ = some (.int .i8 x.f2) ∧ W.cell? ⟨(w.heap.size + 1), 6, none⟩ = some (.int .i8 x.t2) ∧ W.cell? ⟨P, 8, none⟩ = some (.slice (some ⟨bb, 0, none⟩) L c) ∧ W.cell? ⟨bb, 0, none⟩ = some (ptv kid.P) ∧ Hid (Kx (fun b => M b ≠ none) W0 W)) := fun W k => ⟨bl_cell (bl_kx T0.out k HMT.out) 0 _ rfl, bl_cell (bl_kx T0.out k HMT.out) 1 _ rfl, bl_cell (bl_kx X0.out k HMX.out) 0 _ rfl, bl_cell (bl_kx X0.out k HMX.out) 1 _ rfl, bl_cell (bl_kx X0.out k HMX.out) 2 _ rfl, bl_cell (bl_kx X0.out k HMX.out) 3 _ rfl, bl_cell (bl_kx X0.out k HMX.out) 4 _ rfl, bl_cell (bl_kx X0.out k HMX.out) 5 _ rfl, bl_cell (bl_kx X0.out k HMX.out) 6 _ rfl, bl_cell (bl_kx P0.out k HMP.out) 8 _ rfl, (cell_same (k.block _ HBL.out HMB.out) _).trans CB.out, k⟩
  refine wp_region_noPanic ?_
  refine hdrew MK Q0 (fun hH => ?_)
  have KQ := Q0
  refine tk 0 (some 10) (Op.load 70 (Operand.tmp 3)) 70 (v := ?v0a1) rfl ?h0a1 hH ?_
  case h0a1 => intro _ _; go_simp; try with_reducible rfl
  try simp only [ps]
  refine tk 1 (some 11) (Op.move (Operand.tmp 1)) 71 (v := ?v1a2) rfl ?h1a2 hH ?_
  case h1a2 => intro _ _; go_simp; try with_reducible rfl
  try simp only [ps]
  refine tk 2 (some 12) (Op.nilCheck (Operand.tmp 11)) 0 (v := ?v2a3) rfl ?h2a3 hH ?_
  case h2a3 => intro _ _; go_simp; try with_reducible rfl
  try simp only [ps]
  refine tk 3 (some 13) (Op.fieldAddr 130 (Operand.tmp 12) 5) 0 (v := ?v3a4) rfl ?h3a4 hH ?_
  case h3a4 => intro _ _; go_simp; try with_reducible rfl
  try simp only [ps]
  refine tk 4 (some 14) (Op.load 124 (Operand.tmp 13)) 124 (v := ?v4a5) rfl ?h4a5 hH ?_
  case h4a5 => intro _ _; go_simp; try with_reducible rfl
  try simp only [ps]
  refine tk 5 (some 15) (Op.indexAddr 124 (Operand.tmp 14) (Operand.const (Value.int IntKind.i64 0))) 0 (v := ?v5a6) rfl ?h5a6 hH ?_
  case h5a6 => intro _ _; go_simp; try with_reducible rfl
  try simp only [ps]
  refine tk 6 (some 16) (Op.load 71 (Operand.tmp 15)) 71 (v := ?v6a7) rfl ?h6a7 hH ?_
  case h6a7 => intro _ _; go_simp; try with_reducible rfl
  try simp only [ps]
  refine tk 7 (some 17) (Op.load 83 (Operand.tmp 5)) 83 (v := ?v7a8) rfl ?h7a8 hH ?_
  case h7a8 => intro _ _; go_simp; try with_reducible rfl
  try simp only [ps]
  refine tk 10 (some 20) (Op.move (Operand.const (Value.int IntKind.i64 0))) 3 (v := ?v10a9) rfl ?h10a9 hH ?_
  case h10a9 => intro _ _; go_simp; try with_reducible rfl
  try simp only [ps]
  refine wpAnyH_ready (rs := [8]) (by kernel_rfl) (by simp) ?_
  refine AllReadyH.cons (o := { dst := some 18, op := Op.call { callee := Callee.value (Operand.func 34), args := #[Operand.tmp 10, Operand.tmp 16, Operand.tmp 17], argTypes := #[70, 71, 83] }, type := 68, pos := "walk.go:98", after := #[{ on := 0, ground := Ground.data }, { on := 6, ground := Ground.data }, { on := 7, ground := Ground.data }], guard := none }) rfl (fun K hKq => ?_) AllReadyH.nil
  go_simp
  refine (WS.out _ Q1.out).mono ?_
  rintro e y2 ⟨⟨v, rfl, hv, hk, hm⟩⟩
  obtain ⟨ad2, c2, hvv, hlc, hce⟩ := hv.ex
  rw [HZL.out] at hvv hlc
  subst hvv
  have HV := hid hv
  have HK2 := hid hk
  have HM2 := hid hm
  clear hv hk hm hce
  refine hKq.out _ _ (MK.out _ ((Kp.kx Q1.out).trans HK2.out)) (fun hN => ?_)
  clear hKq K hH KQ
  have hH := hN
  clear hN
  have KQ := hH.2.2.2.2.2.2.2.2.2.2.2.out
  try simp only [ps]
  refine tk 9 (some 19) (Op.call { callee := Callee.builtin Builtin.len, args := #[Operand.tmp 18], argTypes := #[68] }) 3 (v := ?v9a10) rfl ?h9a10 hH ?_
  case h9a10 => intro _ _; go_simp; try with_reducible rfl
  try simp only [ps]
  refine wpAnyH_done (by kernel_rfl) ?_ _
  refine NoPanic.normal ?_
  go_wp2_with fail
  go_meet
  case rel => exact ⟨ad2, c2, rfl, rfl, rfl, hlc, HV.out, (Kp.kx Q1.out).trans HK2.out, HM2.out⟩
 case rest =>
 obtain ⟨ad2, c2, rfl, rfl, rfl, hzc, hsl, hkx, hmc⟩ := hcut
 rename World => wc
 have S1 := hid hsl
 have X1 := hid (bl_kx X0.out hkx HMX.out)
 have P1 := hid (bl_kx P0.out hkx HMP.out)
 have M1 := hid hmc
 have K1 := hid ((Kp.kx K0.out).trans hkx)
 have SO := hid (show ∀ b, O b → b < wc.heap.size from fun b o => Nat.lt_of_lt_of_le (HO.out b o) K1.out.size)
 clear hsl hkx hmc X0 P0 T0 K0 WS HMT HMX HMP HMB CB HBL Q1 HKID HO HM
 go_wp2_with fail
 go_loopg [7, 20] Z (fun gg v i wr => ∃ (q : Nat), q + gg = Z ∧ i = .int .i64 (q : Int) ∧ SpR wc.heap.size wr v ((zs.take q).map (fun y => y.put 3 x.a y.a)) ∧ Kx (fun _ => False) wc wr)
 case atStart => exact ⟨0, by omega, rfl, SpR.nil _ _, Kx.refl _ _⟩
 case round =>
  obtain ⟨q, hq, rfl, hR, hK⟩ := hrel
  have R6 := hid hR
  have K6 := hid hK
  have X6 := hid (bl_kx X1.out hK id)
  have P6 := hid (bl_kx P1.out hK id)
  have S6 := hid (S1.out.keep (ok' := okB M O) hK.size (fun b hb hl => ⟨hb, hK.block b hl id⟩))
  obtain ⟨rad, rc, hvv, -⟩ := hR.form
  obtain ⟨N0, hN0⟩ : ∃ N0, ((zs.take q).map (fun y => y.put 3 x.a y.a)).length = N0 := ⟨_, rfl⟩
  rw [hN0] at hvv
  subst hvv
  clear hR hK hN0
  by_cases hlt : q < Z
  ·
   have gkw : IntKind.i64.wrap ((q : Int) + 1) = (q : Int) + 1 := by have := HZF.out; rw [IntKind.wrap_i64]; omega
   have ga : (q : Int) < (Z : Int) := by omega
   have g0 : (0 : Int) ≤ (q : Int) := by omega
   obtain ⟨y, hy⟩ : ∃ y, zs[q]? = some y := ⟨_, List.getElem?_eq_getElem (by rw [HZL.out]; exact hlt)⟩
   obtain ⟨ad3, c3, hv2, _, hc2⟩ := S6.out.ex
   injection hv2 with e1 e2 e3
   obtain ⟨b2, hbb, _, hbl, hce⟩ := hc2 (by rw [HZL.out]; omega)
   rw [← e1] at hbb
   subst hbb
   have hsp := hce q y hy
   have HY := hid (HGD.out y (List.mem_of_getElem? hy))
   have HTK : Hid ((zs.take (q + 1)).map (fun y => y.put 3 x.a y.a) = (zs.take q).map (fun y => y.put 3 x.a y.a) ++ [y.put 3 x.a y.a]) := by
    show _ = _
    rw [List.take_succ_eq_append_getElem (by rw [HZL.out]; exact hlt), List.map_append, (List.getElem?_eq_some_iff.1 hy).2]
    rfl
   have HLEN := hid (show ((zs.take q).map (fun y => y.put 3 x.a y.a)).length ≤ 5000000000000 by rw [List.length_map, List.length_take]; have := HZF.out; omega)
   have x0 := hsp.c0
   have x1 := hsp.c1
   have x2 := hsp.c2
   have x3 := hsp.c3
   have x4 := hsp.c4
   have x5 := hsp.c5
   have x6 := hsp.c6
   clear hsp hce hy e1 e2 e3 hc2
   obtain ⟨ys, hys⟩ : ∃ ys, (zs.take q).map (fun y => y.put 3 x.a y.a) = ys := ⟨_, rfl⟩
   rw [hys] at R6 HTK HLEN
   clear hys
   go_upto_region 5 with fail
   refine opq (fun W6 => W6.heap[wr.heap.size]? = some (spo y) ∧ W6.heap[(w.heap.size + 1)]? = some (spo x) ∧ W6.heap[P]? = some (pto k low high 3 t (.slice (some ⟨bb, 0, none⟩) L c) rd st h kn so) ∧ SpR wc.heap.size W6 (.slice rad N0 rc) ys ∧ Kx (fun _ => False) wc W6) ⟨by exact last_of _ _, by exact bl_alloc X6.out _, by exact bl_alloc P6.out _, by exact R6.out.kp ((Kp.refl _).alloc _), by exact K6.out.alloc _⟩ ?_
   rintro W6 ⟨xY7, xX7, xP7, xR7, xK7⟩
   have Y7 := hid xY7
   have X7 := hid xX7
   have P7 := hid xP7
   have R7 := hid xR7
   have K7 := hid xK7
   clear xY7 xX7 xP7 xR7 xK7
   have HRY := hid (show ∀ b, (Value.slice rad N0 rc).ownBlock = some b → wc.heap.size ≤ b ∧ b < wr.heap.size from fun b e => R6.out.block b e)
   have HSW := hid K6.out.size
   clear x0 x1 x2 x3 x4 x5 x6 X6 P6 R6 S6 K6
   obtain ⟨z, hz⟩ : ∃ z, y.put 3 x.a y.a = z := ⟨_, rfl⟩
   have HZOK := hid (show z.Ok by rw [← hz]; exact HX.out.put ((Or.inr (Or.inr rfl))) HY.out.1 HY.out.2.2)
   have HZE : Hid (spo (y.put 3 x.a y.a) = spo z) := by show _ = _; rw [hz]
   rw [hz] at HTK
   clear hz
   have gkn : IntKind.i64.wrap 2 = 2 := by rw [IntKind.wrap_i64]; omega
   go_cut [] (fun we => we.heap[wr.heap.size]? = some (spo z) ∧ Ks wr.heap.size W6 we)
   case first =>
    have Q0 : Kp W6 W6.drew := (Kp.refl _).drew
    have MK : Hid (∀ W, Kp W6 W → W.cell? ⟨P, 3, none⟩ = some (.int .i64 3) ∧ W.cell? ⟨(w.heap.size + 1), 0, none⟩ = some (.int .i8 x.a) ∧ W.cell? ⟨wr.heap.size, 0, none⟩ = some (.int .i8 y.a) ∧ Hid (Kp W6 W)) := fun W k => ⟨bl_cell (bl_kp P7.out k) 3 _ rfl, bl_cell (bl_kp X7.out k) 0 _ rfl, bl_cell (bl_kp Y7.out k) 0 _ rfl, k⟩
    refine wp_region_noPanic ?_
    refine hdrewZ 12 MK Q0 (fun hH => ?_)
    have KQ := Q0
    refine zk 12 0 [] (some 24) (Op.move (Operand.tmp 1)) 71 (v := ?v0b1) rfl ?h0b1 hH ?_
    case h0b1 => intro _ _; go_simp; try with_reducible rfl
    try simp only [ps]
    refine zk 12 1 [] (some 25) (Op.nilCheck (Operand.tmp 24)) 0 (v := ?v1b2) rfl ?h1b2 hH ?_
    case h1b2 => intro _ _; go_simp; try with_reducible rfl
    try simp only [ps]
    refine zk 12 2 [] (some 26) (Op.fieldAddr 130 (Operand.tmp 25) 3) 0 (v := ?v2b3) rfl ?h2b3 hH ?_
    case h2b3 => intro _ _; go_simp; try with_reducible rfl
    try simp only [ps]
    refine zk 12 3 [] (some 27) (Op.load 3 (Operand.tmp 26)) 3 (v := ?v3b4) rfl ?h3b4 hH ?_
    case h3b4 => intro _ _; go_simp; try with_reducible rfl
    try simp only [ps]
    refine zk 12 4 [] (some 28) (Op.binOp BinOp.sub 3 (Operand.tmp 27) (Operand.const (Value.int IntKind.i64 1)) 3) 3 (v := ?v4b5) rfl ?h4b5 hH ?_
    case h4b5 => intro _ _; go_simp; try with_reducible rfl
    try simp only [ps]
    refine zk 12 5 [] (some 29) (Op.fieldAddr 83 (Operand.tmp 5) 0) 0 (v := ?v5b6) rfl ?h5b6 hH ?_
    case h5b6 => intro _ _; go_simp; try with_reducible rfl
    try simp only [ps]
    refine zk 12 6 [] (some 30) (Op.load 78 (Operand.tmp 29)) 78 (v := ?v6b7) rfl ?h6b7 hH ?_
    case h6b7 => intro _ _; go_simp; try with_reducible rfl
    try simp only [ps]
    refine zk 12 7 [] (some 31) (Op.fieldAddr 83 (Operand.tmp 9) 0) 0 (v := ?v7b8) rfl ?h7b8 hH ?_
    case h7b8 => intro _ _; go_simp; try with_reducible rfl
    try simp only [ps]
    refine zk 12 8 [] (some 32) (Op.load 78 (Operand.tmp 31)) 78 (v := ?v8b9) rfl ?h8b9 hH ?_
    case h8b9 => intro _ _; go_simp; try with_reducible rfl
    try simp only [ps]
    refine zk 12 9 [] (some 33) (Op.build 80 #[(0, Operand.tmp 30), (1, Operand.tmp 32)]) 80 (v := ?v9b10) rfl ?h9b10 hH ?_
    case h9b10 => intro _ _; go_simp; try with_reducible rfl
    try simp only [ps]
    refine zk 12 10 [11] (some 34) (Op.fieldAddr 83 (Operand.tmp 9) 1) 0 (v := ?v10b11) rfl ?h10b11 hH ?_
    case h10b11 => intro _ _; go_simp; try with_reducible rfl
    try simp only [ps]
    refine zk 12 11 [] (some 35) (Op.indexAddr 81 (Operand.tmp 34) (Operand.tmp 28)) 0 (v := ?v11b12) rfl ?h11b12 hH ?_
    case h11b12 => intro _ _; go_simp; try with_reducible rfl
    try simp only [ps]
    refine anyZ_ready (rs := [12]) (by kernel_rfl) (by simp) ?_
    refine AllZ.last (o := { dst := none, op := Op.store 80 (Operand.tmp 35) (Operand.tmp 33), type := 0, pos := "walk.go:99", after := #[{ on := 11, ground := Ground.data }, { on := 9, ground := Ground.data }, { on := 0, ground := Ground.phase }, { on := 1, ground := Ground.phase }, { on := 2, ground := Ground.phase }, { on := 3, ground := Ground.phase }, { on := 4, ground := Ground.phase }, { on := 5, ground := Ground.phase }, { on := 6, ground := Ground.phase }, { on := 7, ground := Ground.phase }, { on := 8, ground := Ground.phase }, { on := 9, ground := Ground.phase }], guard := none }) rfl (Or.inl rfl) (fun K hKq => ?_) AllZ.nil
    have l5 := bl_cell (bl_drew Y7.out) 5 _ rfl
    have l6 := bl_cell (bl_drew Y7.out) 6 _ rfl
    have fl5 := bl_frozen (bl_drew Y7.out) 5
    have fl6 := bl_frozen (bl_drew Y7.out) 6
    have m6 := bl_cell Y7.out 6 _ rfl
    have fm6 := bl_frozen Y7.out 6
    go_simp
    refine hKq.out _ _ ?_
    clear l5 l6 fl5 fl6 m6 fm6
    clear hKq K
    try simp only [ps]
    refine anyZ_done (by kernel_rfl) ?_ _
    refine NoPanic.normal ?_
    go_wp2_with fail
    go_meet
    case rel => exact ⟨by rw [← HZE.out]; exact bl_put (bl_put Y7.out _) _, (((Ks.refl _ _).set _ _).set _ _).drew⟩

   case rest =>
   obtain ⟨hu4, hk4⟩ := hcut
   rename World => W7
   have Y8 := hid hu4
   have R8 := hid (R7.out.turn (w' := W7) (fun b hb hl => hk4.block b hl (by have := (HRY.out b hb).2; omega)))
   have K8 := hid (hk4.up (Kx.kp K7.out) HSW.out)
   have A8 := hid (R8.out.kp ((Kp.refl W7).alloc (spo z)))
   clear hu4 hk4 Y7 X7 P7 R7 K7
   obtain ⟨y0, y1, y2, y3, y4, y5, y6⟩ := cells7 (Y8.out)
   go_wp2_with (at_builtin; go_must (refine wpList_append_sp (W7.alloc (spo z)) (by rfl) _ _ (by rfl) wc.heap.size (.slice rad N0 rc) ys z (by rfl) W7.heap.size (by rfl) A8 HZOK ?h1 ?h2 ?h3 ?_))
   case h1 => exact last_of _ _
   case h2 => exact HLEN.out
   case h3 => have := K8.out.size; simp; omega
   intro v' w' md
   have MD := hid md
   clear md y0 y1 y2 y3 y4 y5 y6
   obtain ⟨rad', rc', hv', -⟩ := MD.out.row.form
   obtain ⟨N1, hN1⟩ : ∃ N1, (ys ++ [z]).length = N1 := ⟨_, rfl⟩
   rw [hN1] at hv'
   subst hv'
   clear hN1
   go_wp2_with fail
   go_roundg (gk - 1)
   case measure => omega
   case rel => exact ⟨q + 1, by omega, by go_num, by rw [HTK.out]; exact MD.out.row, ((Kp.kx (K8.out.alloc _)).grown MD.out.grown (fun k e hk => by have := (HRY.out k e).1; omega))⟩
  ·
   have ga : ¬ (q : Int) < (Z : Int) := by omega
   have HE : Hid ((zs.take q).map (fun y => y.put 3 x.a y.a) = zs.map (fun y => y.put 3 x.a y.a)) := by
    show _ = _
    rw [List.take_of_length_le (by rw [HZL.out]; omega)]
   go_wp2_with fail
   go_ret
   exact ⟨_, rfl, by rw [← HE.out]; exact R6.out.spl (fun b e => ⟨fun o => by have := (R6.out.block b e).1; have := SO.out b o; omega, M1.out.lt (R6.out.block b e).1⟩), K1.out.trans (Kp.kx (Kx.kp K6.out)), M1.out.keep (S := fun _ => False) K6.out (fun _ _ e => e.elim) (fun _ _ e => e) M1.out.own⟩
end Go.Proofs.YtnajcnhgeggngaaGreat.Way

/-! ### WOk -/

namespace Go.Proofs.YtnajcnhgeggngaaGreat.Way
set_option maxHeartbeats 2000000
set_option maxRecDepth 100000
open Go.RowKit Go.Proofs.YtnajcnhgeggngaaGreat Go.Maps

theorem foldl_inv {α β : Type} {G : β → Prop} {F : β → α → β} : ∀ (l : List α) (s : β), G s → (∀ s y, y ∈ l → G s → G (F s y)) → G (l.foldl F s)
 | [], _, h, _ => h
 | a :: l, s, h, hF => foldl_inv l (F s a) (hF s a (List.mem_cons_self ..) h) (fun s y hy => hF s y (List.mem_cons_of_mem _ hy))
theorem addL_nd {h : Nat} {l : List Sp} {x : Sp} (hl : (l.map (Sp.only h)).Nodup) : ((addL h l x).map (Sp.only h)).Nodup := by
 unfold addL
 split
 ·
  exact hl
 ·
  rename_i hn
  rw [List.map_append, List.nodup_append]
  refine ⟨hl, List.pairwise_singleton _ _, fun a ha b hb e => hn ?_⟩
  rw [List.map_cons, List.map_nil, List.mem_singleton] at hb
  obtain ⟨y, hy, rfl⟩ := List.mem_map.1 ha
  rw [List.any_eq_true]
  exact ⟨y, hy, by rw [e, hb]; exact beq_self_eq_true _⟩
theorem walkF_nd {W : Sp → List Sp} {rd h : Nat} {acc : List Sp} {x : Sp} (ha : (acc.map (Sp.only h)).Nodup) : ((walkF W rd h acc x).map (Sp.only h)).Nodup :=
 foldl_inv (G := fun (a : List Sp) => (a.map (Sp.only h)).Nodup) _ _ ha (fun _ _ _ hs => addL_nd hs)
def Good (N : Nat) (lo : Int) (l : List Sp) : Prop := ∀ y ∈ l, y.Ok ∧ y.In N ∧ lo ≤ y.a
theorem Good.few {N h : Nat} {lo : Int} {l : List Sp} (hg : Good N lo l) (hn : (l.map (Sp.only h)).Nodup) : l.length ≤ 4398046511104 := few_spots h l (fun y hy => (hg y hy).1) hn
def GoodW (N : Nat) (W : Sp → List Sp) : Prop := ∀ x : Sp, x.Ok → x.In N → ∀ y ∈ W x, y.Ok ∧ y.In N ∧ x.a ≤ y.a
theorem cat_good {L : List UInt8} {bol : Bool} {N : Nat} {lo : Int} : ∀ (kids : List Pt) (l : List Sp), (∀ (j : Nat) q, kids[j]? = some q → GoodW N (ways L bol q)) → Good N lo l → l.length ≤ 4398046511104 → Good N lo (catW L bol kids l) ∧ (catW L bol kids l).length ≤ 4398046511104
 | [], l, _, hl, hf => by unfold catW; exact ⟨hl, hf⟩
 | p :: ps, l, hk, hl, _ => by
  unfold catW
  have h1 : Good N lo (l.foldl (walkF (ways L bol p) p.rd p.hd) []) := walks_good (hk 0 p rfl) l hl (fun y hy => by cases hy)
  have h2 : ((l.foldl (walkF (ways L bol p) p.rd p.hd) []).map (Sp.only p.hd)).Nodup := foldl_inv (G := fun (a : List Sp) => (a.map (Sp.only p.hd)).Nodup) _ _ List.nodup_nil (fun _ _ _ hs => walkF_nd hs)
  exact cat_good ps _ (fun j q hj => hk (j + 1) q hj) h1 (h1.few h2)
theorem alt_good {L : List UInt8} {bol : Bool} {N h : Nat} {x : Sp} (hx : x.Ok) (hN : x.In N) : ∀ (kids : List Pt) (acc : List Sp), (∀ (j : Nat) q, kids[j]? = some q → GoodW N (ways L bol q)) → Good N x.a acc → (acc.map (Sp.only h)).Nodup → Good N x.a (altW L bol h kids x acc) ∧ ((altW L bol h kids x acc).map (Sp.only h)).Nodup
 | [], acc, _, ha, hn => by unfold altW; exact ⟨ha, hn⟩
 | p :: ps, acc, hk, ha, hn => by
  unfold altW
  exact alt_good hx hN ps _ (fun j q hj => hk (j + 1) q hj) (walkF_good (hk 0 p rfl) ⟨hx, hN, Int.le_refl _⟩ ha) (walkF_nd hn)
def GB (N : Nat) (lo : Int) (h : Nat) (st : List Turn × List Sp) : Prop := Good N lo st.2 ∧ (st.2.map (Sp.only h)).Nodup
theorem beh_good {N h : Nat} {lo low : Int} {NX : Int → Sp → List Turn → List Sp × List Turn} (hNX : ∀ n (x : Sp) bg, x.Ok → x.In N → ∀ y ∈ (NX n x bg).1, y.Ok ∧ y.In N ∧ x.a ≤ y.a) : ∀ (f : Nat) (n : Int) (x : Sp) (st : List Turn × List Sp), x.Ok → x.In N → lo ≤ x.a → GB N lo h st → GB N lo h (behindP NX low h f n x st)
 | 0, _, _, _, _, _, _, hs => hs
 | f + 1, n, x, st, hx, hN, hl, hs => by
  have h1 : GB N lo h ((NX n x st.1).1.foldl (fun s y => if n < low ∨ ¬ y.a = x.a then behindP NX low h f (n + 1) y s else s) ((NX n x st.1).2, st.2)) := foldl_inv (G := GB N lo h) _ _ hs (fun s y hy hs => by
   obtain ⟨a1, a2, a3⟩ := hNX n x st.1 hx hN y hy
   split
   ·
    exact beh_good hNX f (n + 1) y s a1 a2 (Int.le_trans hl a3) hs
   ·
    exact hs)
  unfold behindP
  simp only
  split
  ·
   exact h1
  ·
   exact ⟨addL_good h1.1 ⟨hx, hN, hl⟩, addL_nd h1.2⟩
theorem rep_good {N h : Nat} {W : Sp → List Sp} {lf : Bool} {krd khd rdp : Nat} {low high : Int} (hW : GoodW N W) {x : Sp} (hx : x.Ok) (hN : x.In N) : GB N x.a h (behindP (nextP lf W krd khd rdp low high) low h 90 0 x ([], [])) :=
 beh_good (fun _ _ _ hx hN => next_good hW hx hN) 90 0 x ([], []) hx hN (Int.le_refl _) ⟨(fun y hy => by cases hy), List.nodup_nil⟩
theorem put_in {N : Nat} {n : Int} {x y : Sp} (hN : y.In N) : (y.put n x.a y.a).In N := by
 unfold Sp.put
 split
 ·
  exact ⟨hN.a, hN.a, hN.t1, hN.t2⟩
 ·
  split
  ·
   exact ⟨hN.a, hN.t0, hN.a, hN.t2⟩
  ·
   exact ⟨hN.a, hN.t0, hN.t1, hN.a⟩
theorem put_a (n f t : Int) (y : Sp) : (y.put n f t).a = y.a := by
 unfold Sp.put
 split
 ·
  rfl
 ·
  split <;> rfl
theorem ways_leaf {L : List UInt8} {bol : Bool} {k low high n : Int} {t : W4} {P rd st hd : Nat} {kn so : Option Nat} {kids : List Pt} (hl : leafK k = true) (x : Sp) : ways L bol (.mk k low high n t P kn so rd st hd kids) x = leafP L bol k n t x := by
 unfold leafK at hl
 have h2 : ¬ k = 2 := fun e => by subst e; cases hl
 have h3 : ¬ k = 3 := fun e => by subst e; cases hl
 have h5 : ¬ k = 5 := fun e => by subst e; cases hl
 have h4 : ¬ k = 4 := fun e => by subst e; cases hl
 unfold ways
 rw [if_neg h2, if_neg h3, if_neg h5, if_neg h4]
theorem leaf_good {L : List UInt8} {bol : Bool} {k n : Int} {t : W4} (h60 : L.length ≤ 60) : GoodW L.length (leafP L bol k n t) := by
 intro x hx hN y hy
 unfold leafP at hy
 split at hy
 ·
  rename_i m hm
  obtain ⟨h0, h1⟩ := step_le hx hN hm
  rw [List.mem_singleton.1 hy]
  obtain ⟨a1, a2⟩ := moved_good h60 hx hN h0 h1
  exact ⟨a1, a2, by show x.a ≤ x.a + m; omega⟩
 ·
  cases hy
theorem leaf_few (L : List UInt8) (bol : Bool) (k n : Int) (t : W4) (x : Sp) : (leafP L bol k n t x).length ≤ 1 := by
 unfold leafP
 split <;> simp
theorem hc_of {f : FuncId} {args : Array Value} {zs : List Sp} {ok : Nat → Prop} {M : Nat → Option Memo} {O : Nat → Prop} {w W : World} (k0 : Kp w W) (h : Calls Tryz.prog f args W fun e w' => WaysD zs ok (fun w' => Km M W w' ∧ MemOk M O w') e w') : Calls Tryz.prog f args W fun e w' => WaysD zs ok (fun w' => Km M w w' ∧ MemOk M O w') e w' ∧ ∃ v, e = .returned v := by
 refine h.mono ?_
 rintro e w' ⟨v, rfl, hv, hk, hm⟩
 exact ⟨⟨v, rfl, hv, (Kp.kx k0).trans hk, hm⟩, v, rfl⟩
theorem memok_kp {M : Nat → Option Memo} {O : Nat → Prop} {w W : World} (hM : MemOk M O w) (k0 : Kp w W) : MemOk M O W := hM.keep (S := fun _ => False) (Kp.kx k0) (fun _ _ e => e.elim) (fun _ _ e => e) hM.own
theorem waysl_any (s : ByteArray) (bol : Bool) (h60 : s.size ≤ 60) (M : Nat → Option Memo) (k low high n : Int) (t : W4) (P : Nat) (kn so : Option Nat) (rd st h : Nat) (kids : List Pt) (hlf : leafK k = true) (hk : LeafOk k n t) (O : Nat → Prop) (x : Sp) (hx : x.Ok) (hN : x.In s.size) (w : World) (hO : ∀ b, O b → b < w.heap.size) (hM : MemOk M O w) (hP : PtAt w (okB M O) (.mk k low high n t P kn so rd st h kids)) :
  Calls Tryz.prog 34 #[wkv s bol, ptv P, spv x] w fun e w' => WaysD (leafP s.data.toList bol k n t x) (okB M O) (fun w' => Km M w w' ∧ MemOk M O w') e w' := by
 obtain ⟨kv, hblk, hok⟩ : ∃ kv, w.heap[P]? = some (pto k low high n t kv rd st h kn so) ∧ M P = none := by
  unfold PtAt at hP
  obtain ⟨h1, ⟨ad, c, h2, _⟩, _⟩ := hP
  exact ⟨_, h2, h1.2⟩
 have HLF := hid hlf
 have HB := hid hblk
 have HM := hid hM
 have HO := hid hO
 have FD := hid (fun (W : World) (k0 : Kp w W) => wleaf_any k low high n t kv rd st h kn so P s bol x W (bl_kp hblk k0) h60 hx hN hk)
 have HLE := hid (leaf_any k low high n t kv rd st h kn so P)
 clear hlf hx hN hO hM hP hblk hok hk
 go_enter Tryz.func34, Tryz.ntmps34
 go_upto_region 1 with fail
 refine opq (fun W0 => W0.heap[w.heap.size]? = some (.cells #[.string s, .bool bol] 70) ∧ W0.heap[(w.heap.size + 1)]? = some (spo x) ∧ W0.heap[P]? = some (pto k low high n t kv rd st h kn so) ∧ Kp w W0) ⟨by exact bl_alloc (last_of _ _) _, by exact last_at _ _ _ (by simp), by exact bl_kp HB.out kpt, by exact kpt⟩ ?_
 rintro W0 ⟨xT0, xX0, xP0, xK0⟩
 have T0 := hid xT0
 have X0 := hid xX0
 have P0 := hid xP0
 have K0 := hid xK0
 clear xT0 xX0 xP0 xK0
 clear HB
 go_wp2_with fail
 refine (HLE.out _ P0.out).mono ?_
 rintro e w1 ⟨rfl, hw⟩
 rw [hw, HLF.out]
 clear HLE hw w1
 have b0 := bl_cell (T0.out) 0 _ rfl
 have b1 := bl_cell (T0.out) 1 _ rfl
 obtain ⟨x0, x1, x2, x3, x4, x5, x6⟩ := cells7 (X0.out)
 go_wp2_with fail
 refine (FD.out W0 K0.out).mono ?_
 rintro e y ⟨⟨v, rfl, hv, hk⟩⟩
 have HV := hid hv
 have K1 := hid (K0.out.trans hk)
 clear hv hk b0 b1 x0 x1 x2 x3 x4 x5 x6
 go_wp2_with fail
 go_ret
 exact ⟨_, rfl, HV.out.keep (Nat.le_refl _) (fun b hb _ => ⟨⟨fun o => by have := HO.out b o; have := K0.out.size; have : W0.heap.size ≤ b := hb; omega, HM.out.lt (Nat.le_trans K0.out.size hb)⟩, rfl⟩), Kp.kx K1.out, memok_kp HM.out K1.out⟩
mutual
def PtW (M : Nat → Option Memo) (L : List UInt8) (bol : Bool) : Pt → Prop
 | .mk k low high n t P kn so rd st hd kids => (rd < 8 ∧ st < 8 ∧ hd < 8) ∧ (leafK k = true → LeafOk k n t) ∧ (leafK k = false → (∃ b, kn = some b ∧ M b = some (.kn (ways L bol (.mk k low high n t P kn so rd st hd kids)))) ∧ (∃ c, so = some c ∧ M c = some (.so (ways L bol (.mk k low high n t P kn so rd st hd kids)) hd))) ∧ (k = 5 → (n = 1 ∨ n = 2 ∨ n = 3) ∧ kids ≠ []) ∧ (k = 4 → (0 ≤ low ∧ low ≤ 20) ∧ kids ≠ []) ∧ kids.length ≤ 4398046511104 ∧ PtsW M L bol kids
def PtsW (M : Nat → Option Memo) (L : List UInt8) (bol : Bool) : List Pt → Prop
 | [] => True
 | p :: ps => PtW M L bol p ∧ PtsW M L bol ps
end
theorem PtsW.get {M : Nat → Option Memo} {L : List UInt8} {bol : Bool} : ∀ {ps : List Pt}, PtsW M L bol ps → ∀ (j : Nat) p, ps[j]? = some p → PtW M L bol p
 | [], _, j, p, hj => by simp at hj
 | q :: qs, h, 0, p, hj => by
  unfold PtsW at h
  simp at hj
  subst hj
  exact h.1
 | q :: qs, h, j + 1, p, hj => by
  unfold PtsW at h
  simp at hj
  exact h.2.get j p hj
theorem PtW.wd {M : Nat → Option Memo} {L : List UInt8} {bol : Bool} {p : Pt} (h : PtW M L bol p) : p.rd < 8 ∧ p.st < 8 ∧ p.hd < 8 := by
 cases p
 unfold PtW at h
 exact h.1
theorem PtsW.wd {M : Nat → Option Memo} {L : List UInt8} {bol : Bool} : ∀ {ps : List Pt}, PtsW M L bol ps → WdOk ps
 | [], _ => trivial
 | p :: ps, h => by
  unfold PtsW at h
  exact ⟨⟨h.1.wd.1, h.1.wd.2.1⟩, PtsW.wd h.2⟩
theorem sortS_of {s : ByteArray} {bol : Bool} {M : Nat → Option Memo} {p : Pt} (h : PtW M s.data.toList bol p) (HS : WSaid s bol M p) (hl : leafK p.k = false) : SortS s bol M p := by
 obtain ⟨k, low, high, n, t, P, kn, so, rd, st, hd, kids⟩ := p
 unfold PtW at h
 obtain ⟨-, c, rfl, hc⟩ := h.2.2.1 hl
 exact fun O x w hx hN hO hP hM => sorted_any s bol M k low high n t P c kn rd st hd kids h.1.2.2 hc HS O x hx hN w hO hM hP
theorem leafS_of {s : ByteArray} {bol : Bool} (h60 : s.size ≤ 60) {M : Nat → Option Memo} {p : Pt} (h : PtW M s.data.toList bol p) (hl : leafK p.k = true) : LeafS s bol M p := by
 obtain ⟨k, low, high, n, t, P, kn, so, rd, st, hd, kids⟩ := p
 unfold PtW at h
 intro O x w hx hN hP
 have hl' : leafK k = true := hl
 rw [ways_leaf hl']
 unfold PtAt at hP
 obtain ⟨_, ⟨ad, c, h2, _⟩, _⟩ := hP
 exact wleaf_any k low high n t _ rd st hd kn so P s bol x w h2 h60 hx hN (h.2.1 hl)
theorem ways2 {L : List UInt8} {bol : Bool} {low high n : Int} {t : W4} {P rd st hd : Nat} {kn so : Option Nat} {kids : List Pt} (x : Sp) : ways L bol (.mk 2 low high n t P kn so rd st hd kids) x = catW L bol kids [x] := by
 unfold ways
 rw [if_pos rfl]
theorem ways3 {L : List UInt8} {bol : Bool} {low high n : Int} {t : W4} {P rd st hd : Nat} {kn so : Option Nat} {kids : List Pt} (x : Sp) : ways L bol (.mk 3 low high n t P kn so rd st hd kids) x = altW L bol hd kids x [] := by
 unfold ways
 rw [if_neg (by decide), if_pos rfl]
theorem ways5 {L : List UInt8} {bol : Bool} {low high n : Int} {t : W4} {P rd st hd : Nat} {kn so : Option Nat} {kid : Pt} {ks : List Pt} (x : Sp) : ways L bol (.mk 5 low high n t P kn so rd st hd (kid :: ks)) x = (ways L bol kid x).map (fun y => y.put n x.a y.a) := by
 have h : ways L bol (.mk 5 low high n t P kn so rd st hd (kid :: ks)) x = (fstW L bol (kid :: ks) x).map (fun y => y.put n x.a y.a) := by
  unfold ways
  rw [if_neg (by decide), if_neg (by decide), if_pos rfl]
 rw [h]
 unfold fstW
 rfl
theorem ways4 {L : List UInt8} {bol : Bool} {low high n : Int} {t : W4} {P rd st hd : Nat} {kn so : Option Nat} {kid : Pt} {ks : List Pt} (x : Sp) : ways L bol (.mk 4 low high n t P kn so rd st hd (kid :: ks)) x = (behindP (nextP (leafK kid.k) (ways L bol kid) kid.rd kid.hd rd low high) low hd 90 0 x ([], [])).2 := by
 have h : ways L bol (.mk 4 low high n t P kn so rd st hd (kid :: ks)) x = repP (leafK kid.k) (fstW L bol (kid :: ks)) kid.rd kid.hd rd low high hd x := by
  unfold ways
  rw [if_neg (by decide), if_neg (by decide), if_neg (by decide), if_pos rfl]
  rfl
 rw [h]
 have h2 : fstW L bol (kid :: ks) = ways L bol kid := by
  funext y
  unfold fstW
  rfl
 rw [h2]
 rfl
theorem found_rep {s : ByteArray} {bol : Bool} (h60 : s.size ≤ 60) {M : Nat → Option Memo} {low high n : Int} {t : W4} {P rd st hd : Nat} {kn so : Option Nat} {kid : Pt} {ks : List Pt} (hrd : rd < 8) (hhd : hd < 8) (hlow : 0 ≤ low ∧ low ≤ 20) (hW : PtW M s.data.toList bol kid) (HS : WSaid s bol M kid) : FoundD s bol M P (.mk 4 low high n t P kn so rd st hd (kid :: ks)) := by
 intro O x w hx hN hO hP hM
 rw [ways4]
 have hP0 := hP
 unfold PtAt at hP
 obtain ⟨h1, ⟨ad, c, h2, _⟩, _⟩ := hP
 refine (found4_any s bol low high n t P _ rd st hd kn so x w h2 (fun e w' => WaysD _ (okB M O) (fun w' => Km M w w' ∧ MemOk M O w') e w') (fun W k0 => hc_of k0 (wrep_any s bol M O 4 low high n t P _ rd st hd kn so hhd x W (bl_kp h2 k0) (memok_kp hM k0) (fun b o => Nat.lt_of_lt_of_le (hO b o) k0.size) _ (fun R B W1 k1 hR hB hRW => ?_)))).mono (fun _ _ h => h.q)
 refine (behind_all (fun f IH => behind_step s bol P M O W1.heap.size R B hd low high n t kn so rd st kid ks hrd hW.wd.1 HS (sortS_of hW HS) (leafS_of h60 hW) hlow.1 f IH) 90 0 x [] [] (.slice none 0 0) 0 none W1 (Int.le_refl _) (by have := hx.a0; omega) (by have := hx.a0; omega) hx hN (fun b o => Nat.lt_of_lt_of_le (hO b o) (k0.trans k1).size) hRW (PtAt.keep (k0.trans k1).size (fun b hb hl => ⟨⟨fun o => ?h1, hb.2⟩, (k0.trans k1).block b hl⟩) _ hP0)).mono ?h2
 case h1 =>
  have := k0.size
  rcases o with (o | o | o | o) | o
  ·
   exact hb.1 o
  ·
   omega
  ·
   cases o
  ·
   cases o
  ·
   omega
 case h2 =>
  rintro e w' ⟨rfl, l2, p2, n2, hr, -, -, hk⟩
  exact ⟨rfl, _, l2, p2, n2, hr, hk⟩
theorem found_row {s : ByteArray} {bol : Bool} (h60 : s.size ≤ 60) {M : Nat → Option Memo} {low high n : Int} {t : W4} {P rd st hd : Nat} {kn so : Option Nat} {kids : List Pt} (hf : kids.length ≤ 4398046511104) (hW : PtsW M s.data.toList bol kids) (HS : ∀ (j : Nat) q, kids[j]? = some q → WSaid s bol M q) : FoundD s bol M P (.mk 2 low high n t P kn so rd st hd kids) := by
 intro O x w hx hN hO hP hM
 rw [ways2]
 unfold PtAt at hP
 obtain ⟨h1, ⟨ad, c, h2, h3, h4⟩, h5⟩ := hP
 exact found2_any s bol M O low high n t P _ rd st hd kn so x w h2 h1.2 hM _ (fun W k0 => wcat_any s bol h60 M kids HS hW.wd (fun j q hj => (hW.get j q hj).wd.2.2) hf O x hx hN W (fun b o => Nat.lt_of_lt_of_le (hO b o) k0.size) (memok_kp hM k0) ad c (KidS.kp ⟨h3, h4⟩ k0) (PtsAt.kp h5 k0))
theorem found_alt {s : ByteArray} {bol : Bool} (h60 : s.size ≤ 60) {M : Nat → Option Memo} {low high n : Int} {t : W4} {P rd st hd : Nat} {kn so : Option Nat} {kids : List Pt} (hhd : hd < 8) (hf : kids.length ≤ 4398046511104) (hW : PtsW M s.data.toList bol kids) (HS : ∀ (j : Nat) q, kids[j]? = some q → WSaid s bol M q) : FoundD s bol M P (.mk 3 low high n t P kn so rd st hd kids) := by
 intro O x w hx hN hO hP hM
 rw [ways3]
 have hP0 := hP
 unfold PtAt at hP
 obtain ⟨h1, ⟨ad, c, h2, h3, h4⟩, h5⟩ := hP
 exact (found3_any s bol low high n t P _ rd st hd kn so x w h2 (fun e w' => WaysD _ (okB M O) (fun w' => Km M w w' ∧ MemOk M O w') e w') (fun W k0 => hc_of k0 (walt_any s bol h60 M (.mk 3 low high n t P kn so rd st hd kids) HS hW.wd hhd hf O x hx hN W (fun b o => Nat.lt_of_lt_of_le (hO b o) k0.size) (memok_kp hM k0) (PtAt.kp hP0 k0)))).mono (fun _ _ h => h.q)
theorem found_group {s : ByteArray} {bol : Bool} (h60 : s.size ≤ 60) {M : Nat → Option Memo} {low high n : Int} {t : W4} {P rd st hd : Nat} {kn so : Option Nat} {kid : Pt} {ks : List Pt} (hn : n = 1 ∨ n = 2 ∨ n = 3) (HS : WSaid s bol M kid) : FoundD s bol M P (.mk 5 low high n t P kn so rd st hd (kid :: ks)) := by
 intro O x w hx hN hO hP hM
 rw [ways5]
 have hP0 := hP
 unfold PtAt at hP
 obtain ⟨h1, ⟨ad, c, h2, h3, h4⟩, h5⟩ := hP
 refine (found5_any s bol low high n t P _ rd st hd kn so x w h2 (fun e w' => WaysD _ (okB M O) (fun w' => Km M w w' ∧ MemOk M O w') e w') (fun W k0 => hc_of k0 ?_)).mono (fun _ _ h => h.q)
 rcases hn with rfl | rfl | rfl
 ·
  exact wgroup1_any s bol h60 M 5 low high t P kn so rd st hd kid ks HS O x hx hN W (fun b o => Nat.lt_of_lt_of_le (hO b o) k0.size) (memok_kp hM k0) (PtAt.kp hP0 k0)
 ·
  exact wgroup2_any s bol h60 M 5 low high t P kn so rd st hd kid ks HS O x hx hN W (fun b o => Nat.lt_of_lt_of_le (hO b o) k0.size) (memok_kp hM k0) (PtAt.kp hP0 k0)
 ·
  exact wgroup3_any s bol h60 M 5 low high t P kn so rd st hd kid ks HS O x hx hN W (fun b o => Nat.lt_of_lt_of_le (hO b o) k0.size) (memok_kp hM k0) (PtAt.kp hP0 k0)
theorem wsaid_of {s : ByteArray} {bol : Bool} (h60 : s.size ≤ 60) {M : Nat → Option Memo} {k low high n : Int} {t : W4} {P rd st hd : Nat} {kn so : Option Nat} {kids : List Pt} (h : PtW M s.data.toList bol (.mk k low high n t P kn so rd st hd kids)) (HS : ∀ (j : Nat) q, kids[j]? = some q → WSaid s bol M q) : WSaid s bol M (.mk k low high n t P kn so rd st hd kids) := by
 unfold PtW at h
 obtain ⟨⟨w1, w2, w3⟩, hl, hm, h5, h4, hf, hks⟩ := h
 have hsz : s.data.toList.length = s.size := by rw [Array.length_toList]; rfl
 cases hk : leafK k with
 | true =>
  refine ⟨fun x hx hN => ?_, fun x hx hN => ?_, fun O x w hx hN hO hP hM => ?_⟩
  ·
   rw [ways_leaf hk]
   rw [← hsz] at h60 hN ⊢
   exact leaf_good h60 x hx hN
  ·
   rw [ways_leaf hk]
   exact Nat.le_trans (leaf_few ..) (by omega)
  ·
   rw [ways_leaf hk]
   exact waysl_any s bol h60 M k low high n t P kn so rd st hd kids hk (hl hk) O x hx hN w hO hM hP
 | false =>
  obtain ⟨⟨b, rfl, hb⟩, -⟩ := hm hk
  have hgw : ∀ (j : Nat) q, kids[j]? = some q → GoodW s.size (ways s.data.toList bol q) := fun j q hj => (HS j q hj).good
  have all : FoundD s bol M P (.mk k low high n t P (some b) so rd st hd kids) → ∀ (O : Nat → Prop) (x : Sp) (w : World), x.Ok → x.In s.size → (∀ b, O b → b < w.heap.size) → PtAt w (okB M O) (.mk k low high n t P (some b) so rd st hd kids) → MemOk M O w → Calls Tryz.prog 34 #[wkv s bol, ptv P, spv x] w fun e w' => WaysD (ways s.data.toList bol (.mk k low high n t P (some b) so rd st hd kids) x) (okB M O) (fun w' => Km M w w' ∧ MemOk M O w') e w' := fun HF O x w hx hN hO hP hM => ways_any s bol M k low high n t P b so rd st hd kids hk hb HF O x hx hN w hO hM hP
  have hkk : k = 2 ∨ k = 3 ∨ k = 5 ∨ k = 4 := by
   unfold leafK at hk
   by_cases e2 : k = 2
   ·
    exact Or.inl e2
   by_cases e3 : k = 3
   ·
    exact Or.inr (Or.inl e3)
   by_cases e5 : k = 5
   ·
    exact Or.inr (Or.inr (Or.inl e5))
   by_cases e4 : k = 4
   ·
    exact Or.inr (Or.inr (Or.inr e4))
   simp [e2, e3, e4, e5] at hk
  rcases hkk with rfl | rfl | rfl | rfl
  ·
   have hg : ∀ x : Sp, x.Ok → x.In s.size → Good s.size x.a (catW s.data.toList bol kids [x]) ∧ (catW s.data.toList bol kids [x]).length ≤ 4398046511104 := fun x hx hN => cat_good kids [x] hgw (fun y hy => by rw [List.mem_singleton.1 hy]; exact ⟨hx, hN, Int.le_refl _⟩) (by rw [List.length_singleton]; omega)
   exact ⟨fun x hx hN => by rw [ways2]; exact (hg x hx hN).1, fun x hx hN => by rw [ways2]; exact (hg x hx hN).2, all (found_row h60 hf hks HS)⟩
  ·
   have hg : ∀ x : Sp, x.Ok → x.In s.size → Good s.size x.a (altW s.data.toList bol hd kids x []) ∧ ((altW s.data.toList bol hd kids x []).map (Sp.only hd)).Nodup := fun x hx hN => alt_good hx hN kids [] hgw (fun y hy => by cases hy) List.nodup_nil
   exact ⟨fun x hx hN => by rw [ways3]; exact (hg x hx hN).1, fun x hx hN => by rw [ways3]; exact (hg x hx hN).1.few (hg x hx hN).2, all (found_alt h60 w3 hf hks HS)⟩
  ·
   obtain ⟨hn, hne⟩ := h5 rfl
   cases kids with
   | nil => exact absurd rfl hne
   | cons kid ks =>
    have hS := HS 0 kid rfl
    refine ⟨fun x hx hN y hy => ?_, fun x hx hN => ?_, all (found_group h60 hn hS)⟩
    ·
     rw [ways5] at hy
     obtain ⟨z, hz, rfl⟩ := List.mem_map.1 hy
     obtain ⟨a1, a2, a3⟩ := hS.good x hx hN z hz
     exact ⟨hx.put hn a1 a3, put_in a2, by rw [put_a]; exact a3⟩
    ·
     rw [ways5, List.length_map]
     exact hS.few x hx hN
  ·
   obtain ⟨hlow, hne⟩ := h4 rfl
   cases kids with
   | nil => exact absurd rfl hne
   | cons kid ks =>
    have hS := HS 0 kid rfl
    have hg : ∀ x : Sp, x.Ok → x.In s.size → GB s.size x.a hd (behindP (nextP (leafK kid.k) (ways s.data.toList bol kid) kid.rd kid.hd rd low high) low hd 90 0 x ([], [])) := fun x hx hN => rep_good (hgw 0 kid rfl) hx hN
    exact ⟨fun x hx hN => by rw [ways4]; exact (hg x hx hN).1, fun x hx hN => by rw [ways4]; exact (hg x hx hN).1.few (hg x hx hN).2, all (found_rep h60 w1 w3 hlow (hks.get 0 kid rfl) hS)⟩
mutual
theorem wsaid {s : ByteArray} {bol : Bool} (h60 : s.size ≤ 60) {M : Nat → Option Memo} : ∀ (p : Pt), PtW M s.data.toList bol p → WSaid s bol M p
 | .mk k low high n t P kn so rd st hd kids, h => wsaid_of h60 h (wsaids h60 kids (by unfold PtW at h; exact h.2.2.2.2.2.2))
theorem wsaids {s : ByteArray} {bol : Bool} (h60 : s.size ≤ 60) {M : Nat → Option Memo} : ∀ (ps : List Pt), PtsW M s.data.toList bol ps → ∀ (j : Nat) q, ps[j]? = some q → WSaid s bol M q
 | [], _, j, q, hj => by simp at hj
 | p :: ps, h, 0, q, hj => by
  simp at hj
  subst hj
  unfold PtsW at h
  exact wsaid h60 p h.1
 | p :: ps, h, j + 1, q, hj => by
  simp at hj
  unfold PtsW at h
  exact wsaids h60 ps h.2 j q hj
end
end Go.Proofs.YtnajcnhgeggngaaGreat.Way

/-! ### Asm -/

namespace Go.Proofs.YtnajcnhgeggngaaGreat.Way
open Go.RowKit Go.Proofs.YtnajcnhgeggngaaGreat Go.Maps Go.MapKept

theorem build_any : ∀ r, RxW r → BuildS r
 | .mk k mn mx n s kids, h => build_step k mn mx n s kids (fun a ha => build_any a (by unfold RxW at h; exact h.2.2.2.2.2.get a ha)) h
termination_by a => SizeOf.sizeOf a
decreasing_by
 have := List.sizeOf_lt_of_mem ha
 simp
 omega
theorem heed_upto : ∀ (N : Nat) (p : Pt), psize p ≤ N → PtH p → HeedS p
 | 0, .mk k low high n s P kn so rd st hd kids, hN, _ => by unfold psize at hN; omega
 | N + 1, .mk k low high n s P kn so rd st hd kids, hN, h => by
  by_cases k2 : k = 2
  ·
   subst k2
   exact heed_row low high n s P rd st hd kn so kids (fun q hq hh => heed_upto N q (by omega) hh) h
  ·
   refine heed_plain k low high n s P rd st hd kn so kids (fun q hq => heed_upto N q ?_ ?_) h k2
   ·
    unfold psize at hN
    have := psize_mem hq
    omega
   ·
    unfold PtH at h
    exact h.2.2.2.2.2.get q hq
theorem heed_any (p : Pt) (h : PtH p) : HeedS p := heed_upto (psize p) p (Nat.le_refl _) h
mutual
def PtF : Pt → Prop
 | .mk k low _ n s _ _ _ rd st hd kids => (rd < 8 ∧ st < 8 ∧ hd < 8) ∧ (leafK k = true → LeafOk k n s) ∧ (k = 5 → n = 1 ∨ n = 2 ∨ n = 3) ∧ (k = 4 → 0 ≤ low ∧ low ≤ 20) ∧ (k = 5 ∨ k = 4 → kids.length = 1) ∧ kids.length ≤ 1000000 ∧ PtsF kids
def PtsF : List Pt → Prop
 | [] => True
 | p :: ps => PtF p ∧ PtsF ps
end
theorem PtF.w {p : Pt} (h : PtF p) : p.rd < 8 ∧ p.st < 8 := by
 cases p
 unfold PtF at h
 exact ⟨h.1.1, h.1.2.1⟩
theorem PtsF.wd : ∀ {ps : List Pt}, PtsF ps → WdOk ps
 | [], _ => trivial
 | p :: ps, h => by
  unfold PtsF at h
  exact ⟨h.1.w, h.2.wd⟩
mutual
theorem PtF.h : ∀ (p : Pt), PtF p → PtH p
 | .mk k low high n s P kn so rd st hd kids, h => by
  unfold PtF at h
  unfold PtH
  exact ⟨h.1.1, h.2.2.2.2.2.2.wd, h.2.2.1, h.2.2.2.2.1, h.2.2.2.2.2.1, PtsF.h kids h.2.2.2.2.2.2⟩
theorem PtsF.h : ∀ (ps : List Pt), PtsF ps → PtsH ps
 | [], _ => by unfold PtsH; trivial
 | p :: ps, h => by
  unfold PtsF at h
  unfold PtsH
  exact ⟨PtF.h p h.1, PtsF.h ps h.2⟩
end
mutual
theorem ptf_of : ∀ (r : Rx) (p : Pt), er p = bldE r → RxW r → PtF p
 | .mk k mn mx n s rk, .mk k' low high n' s' P kn so rd st hd kids, e, h => by
  have hlt := bldE_lt (.mk k mn mx n s rk)
  unfold RxW at h
  unfold er bldE at e
  unfold bldE at hlt
  injection e with e1 e2 e3 e4 e5 e6 e7 e8 e9 e10 e11 e12
  subst e1 e2 e3 e4 e5 e11
  have hl : kids.length = rk.length := by rw [← ers_len, e12, bldEs_len]
  unfold PtF
  refine ⟨⟨by rw [e9]; exact hlt.1, by rw [e10]; exact hlt.2, by decide⟩, h.1, h.2.1, h.2.2.1, fun q => by rw [hl]; exact h.2.2.2.1 q, by rw [hl]; exact h.2.2.2.2.1, ptsf_of rk kids e12 h.2.2.2.2.2⟩
theorem ptsf_of : ∀ (rs : List Rx) (ps : List Pt), ers ps = bldEs rs → RxsW rs → PtsF ps
 | _, [], _, _ => by unfold PtsF; trivial
 | [], p :: ps, e, _ => by rw [ers, bldEs] at e; cases e
 | r :: rs, p :: ps, e, h => by
  rw [ers, bldEs] at e
  injection e with e1 e2
  unfold RxsW at h
  unfold PtsF
  exact ⟨ptf_of r p e1 h.1, ptsf_of rs ps e2 h.2⟩
end
theorem grp7 (g n : Nat) : g &&& (7 - n) < 8 := Nat.lt_of_le_of_lt Nat.and_le_right (by omega)
mutual
theorem ptf_heed : ∀ (g : Nat) (p : Pt), g < 8 → PtF p → PtF (heed g p)
 | g, .mk k low high n s P kn so rd st hd kids, hg, h => by
  unfold PtF at h
  obtain ⟨h1, h2, h3, h4, h5, h6, h7⟩ := h
  unfold heed PtF
  refine ⟨⟨h1.1, h1.2.1, hg⟩, h2, h3, h4, ?_, ?_, ?_⟩
  ·
   intro e
   rw [if_neg (by omega), if_neg (by omega)]
   split
   ·
    rw [heedA_map, List.length_map]; exact h5 e
   ·
    split
    ·
     rw [heedA_map, List.length_map]; exact h5 e
    ·
     exact h5 e
  ·
   split
   ·
    rw [len_heedR]; exact h6
   ·
    split
    ·
     rw [heedA_map, List.length_map]; exact h6
    ·
     split
     ·
      rw [heedA_map, List.length_map]; exact h6
     ·
      split
      ·
       rw [heedA_map, List.length_map]; exact h6
      ·
       exact h6
  ·
   split
   ·
    exact (ptf_heedR g kids hg h7).1
   ·
    split
    ·
     exact ptf_heedA g kids hg h7
    ·
     split
     ·
      exact ptf_heedA _ kids (grp7 _ _) h7
     ·
      split
      ·
       exact ptf_heedA _ kids (or8 _ _ hg h1.1) h7
      ·
       exact h7
theorem ptf_heedR : ∀ (g : Nat) (ps : List Pt), g < 8 → PtsF ps → PtsF (heedR g ps).1 ∧ (heedR g ps).2 < 8
 | g, [], hg, _ => by unfold heedR PtsF; exact ⟨trivial, hg⟩
 | g, p :: ps, hg, h => by
  unfold PtsF at h
  obtain ⟨i1, i2⟩ := ptf_heedR g ps hg h.2
  unfold heedR PtsF
  exact ⟨⟨ptf_heed _ p i2 h.1, i1⟩, heedG_lt i2 h.1.w.1⟩
theorem ptf_heedA : ∀ (g : Nat) (ps : List Pt), g < 8 → PtsF ps → PtsF (heedA g ps)
 | g, [], _, _ => by unfold heedA PtsF; trivial
 | g, p :: ps, hg, h => by
  unfold PtsF at h
  unfold heedA PtsF
  exact ⟨ptf_heed g p hg h.1, ptf_heedA g ps hg h.2⟩
end
mutual
theorem maps_heed : ∀ (g : Nat) (p : Pt), mapsOf (heed g p) = mapsOf p
 | g, .mk k low high n s P kn so rd st hd kids => by
  unfold heed mapsOf
  split
  ·
   rw [maps_heedR g kids]
  ·
   split
   ·
    rw [maps_heedA g kids]
   ·
    split
    ·
     rw [maps_heedA _ kids]
    ·
     split
     ·
      rw [maps_heedA _ kids]
     ·
      rfl
theorem maps_heedR : ∀ (g : Nat) (ps : List Pt), mapss (heedR g ps).1 = mapss ps
 | g, [] => by unfold heedR; rfl
 | g, p :: ps => by
  unfold heedR mapss
  rw [maps_heed _ p, maps_heedR g ps]
theorem maps_heedA : ∀ (g : Nat) (ps : List Pt), mapss (heedA g ps) = mapss ps
 | g, [] => by unfold heedA; rfl
 | g, p :: ps => by
  unfold heedA mapss
  rw [maps_heed g p, maps_heedA g ps]
end
mutual
theorem ptn_heed : ∀ (g : Nat) (p : Pt), PtN p → PtN (heed g p)
 | g, .mk k low high n s P kn so rd st hd kids, h => by
  unfold PtN at h
  unfold heed PtN
  refine ⟨h.1, ?_⟩
  split
  ·
   exact ptn_heedR g kids h.2
  ·
   split
   ·
    exact ptn_heedA g kids h.2
   ·
    split
    ·
     exact ptn_heedA _ kids h.2
    ·
     split
     ·
      exact ptn_heedA _ kids h.2
     ·
      exact h.2
theorem ptn_heedR : ∀ (g : Nat) (ps : List Pt), PtsN ps → PtsN (heedR g ps).1
 | g, [], _ => by unfold heedR PtsN; trivial
 | g, p :: ps, h => by
  unfold PtsN at h
  unfold heedR PtsN
  exact ⟨ptn_heed _ p h.1, ptn_heedR g ps h.2⟩
theorem ptn_heedA : ∀ (g : Nat) (ps : List Pt), PtsN ps → PtsN (heedA g ps)
 | g, [], _ => by unfold heedA PtsN; trivial
 | g, p :: ps, h => by
  unfold PtsN at h
  unfold heedA PtsN
  exact ⟨ptn_heed g p h.1, ptn_heedA g ps h.2⟩
end
mutual
theorem er_heed : ∀ (g : Nat) (p : Pt), er (heed g p) = heed g (er p)
 | g, .mk k low high n s P kn so rd st hd kids => by
  rw [heed, er, er, heed]
  by_cases k2 : k = 2
  ·
   rw [if_pos k2, if_pos k2, (er_heedR g kids).1]
  rw [if_neg k2, if_neg k2]
  by_cases k3 : k = 3
  ·
   rw [if_pos k3, if_pos k3, er_heedA g kids]
  rw [if_neg k3, if_neg k3]
  by_cases k5 : k = 5
  ·
   rw [if_pos k5, if_pos k5, er_heedA _ kids]
  rw [if_neg k5, if_neg k5]
  by_cases k4 : k = 4
  ·
   rw [if_pos k4, if_pos k4, er_heedA _ kids]
  rw [if_neg k4, if_neg k4]
theorem er_heedR : ∀ (g : Nat) (ps : List Pt), ers (heedR g ps).1 = (heedR g (ers ps)).1 ∧ (heedR g ps).2 = (heedR g (ers ps)).2
 | g, [] => ⟨rfl, rfl⟩
 | g, p :: ps => by
  obtain ⟨i1, i2⟩ := er_heedR g ps
  have e1 : heedR g (p :: ps) = (heed (heedR g ps).2 p :: (heedR g ps).1, heedG (heedR g ps).2 p) := by rw [heedR]
  have e2 : heedR g (er p :: ers ps) = (heed (heedR g (ers ps)).2 (er p) :: (heedR g (ers ps)).1, heedG (heedR g (ers ps)).2 (er p)) := by rw [heedR]
  have e3 : ers (p :: ps) = er p :: ers ps := by rw [ers]
  have e4 : ers (heed (heedR g ps).2 p :: (heedR g ps).1) = er (heed (heedR g ps).2 p) :: ers (heedR g ps).1 := by rw [ers]
  rw [e3, e1, e2]
  simp only
  rw [e4, er_heed _ p, i1, i2]
  refine ⟨rfl, ?_⟩
  unfold heedG
  rw [(er_rd p).1, (er_rd p).2]
theorem er_heedA : ∀ (g : Nat) (ps : List Pt), ers (heedA g ps) = heedA g (ers ps)
 | g, [] => rfl
 | g, p :: ps => by
  rw [heedA, ers, ers, heedA, er_heed g p, er_heedA g ps]
end
mutual
theorem maps_subl : ∀ (p : Pt), (mapsOf p).Sublist (blks p)
 | .mk k low high n s P kn so rd st hd kids => by
  unfold mapsOf blks
  exact List.Sublist.cons _ ((List.Sublist.refl _).append (mapss_subl kids))
theorem mapss_subl : ∀ (ps : List Pt), (mapss ps).Sublist (blkss ps)
 | [] => List.Sublist.refl _
 | p :: ps => by
  unfold mapss blkss
  exact (maps_subl p).append (mapss_subl ps)
end
mutual
def memos (L : List UInt8) (bol : Bool) : Pt → List (Nat × Memo)
 | .mk k low high n s P kn so rd st hd kids => kn.toList.map (fun b => (b, Memo.kn (ways L bol (.mk k low high n s P kn so rd st hd kids)))) ++ so.toList.map (fun c => (c, Memo.so (ways L bol (.mk k low high n s P kn so rd st hd kids)) hd)) ++ memoss L bol kids
def memoss (L : List UInt8) (bol : Bool) : List Pt → List (Nat × Memo)
 | [] => []
 | p :: ps => memos L bol p ++ memoss L bol ps
end
mutual
theorem memos_keys (L : List UInt8) (bol : Bool) : ∀ (p : Pt), (memos L bol p).map Prod.fst = mapsOf p
 | .mk k low high n s P kn so rd st hd kids => by
  unfold memos mapsOf
  rw [List.map_append, List.map_append, List.map_map, List.map_map, memoss_keys L bol kids]
  congr 1
  congr 1
  ·
   exact List.map_id _
  ·
   exact List.map_id _
theorem memoss_keys (L : List UInt8) (bol : Bool) : ∀ (ps : List Pt), (memoss L bol ps).map Prod.fst = mapss ps
 | [] => by unfold memoss; rfl
 | p :: ps => by
  unfold memoss mapss
  rw [List.map_append, memos_keys L bol p, memoss_keys L bol ps]
end
def findM : List (Nat × Memo) → Nat → Option Memo
 | [], _ => none
 | (c, m) :: l, b => if c = b then some m else findM l b
theorem findM_mem : ∀ {l : List (Nat × Memo)} {b : Nat} {m : Memo}, findM l b = some m → (b, m) ∈ l
 | (c, m') :: l, b, m, h => by
  unfold findM at h
  split at h
  ·
   rename_i e
   injection h with h
   rw [e, h]
   exact List.mem_cons_self ..
  ·
   exact List.mem_cons_of_mem _ (findM_mem h)
theorem findM_of : ∀ {l : List (Nat × Memo)} {b : Nat} {m : Memo}, (l.map Prod.fst).Nodup → (b, m) ∈ l → findM l b = some m
 | (c, m') :: l, b, m, hn, h => by
  rw [List.map_cons] at hn
  have hn := List.nodup_cons.1 hn
  unfold findM
  rcases List.mem_cons.1 h with e | e
  ·
   injection e with e1 e2
   rw [if_pos e1.symm, e2]
  ·
   rw [if_neg (fun e2 => hn.1 (by show c ∈ _; rw [e2]; exact List.mem_map.2 ⟨(b, m), e, rfl⟩))]
   exact findM_of hn.2 e
mutual
theorem ptw_of {M : Nat → Option Memo} {L : List UInt8} {bol : Bool} : ∀ (p : Pt), (∀ e ∈ memos L bol p, M e.1 = some e.2) → PtN p → PtF p → PtW M L bol p
 | .mk k low high n s P kn so rd st hd kids, hm, hn, hf => by
  unfold PtN at hn
  unfold PtF at hf
  unfold memos at hm
  unfold PtW
  refine ⟨hf.1, hf.2.1, fun hl => ?_, fun e => ⟨hf.2.2.1 e, fun e2 => by have := hf.2.2.2.2.1 (Or.inl e); rw [e2] at this; cases this⟩, fun e => ⟨hf.2.2.2.1 e, fun e2 => by have := hf.2.2.2.2.1 (Or.inr e); rw [e2] at this; cases this⟩, by have := hf.2.2.2.2.2.1; omega, ptsw_of kids (fun e he => hm e (List.mem_append_right _ he)) hn.2 hf.2.2.2.2.2.2⟩
  obtain ⟨⟨b, rfl⟩, c, rfl⟩ := hn.1 hl
  exact ⟨⟨b, rfl, hm (b, _) (List.mem_append_left _ (List.mem_append_left _ (List.mem_cons_self ..)))⟩, c, rfl, hm (c, _) (List.mem_append_left _ (List.mem_append_right _ (List.mem_cons_self ..)))⟩
theorem ptsw_of {M : Nat → Option Memo} {L : List UInt8} {bol : Bool} : ∀ (ps : List Pt), (∀ e ∈ memoss L bol ps, M e.1 = some e.2) → PtsN ps → PtsF ps → PtsW M L bol ps
 | [], _, _, _ => by unfold PtsW; trivial
 | p :: ps, hm, hn, hf => by
  unfold PtsN at hn
  unfold PtsF at hf
  unfold memoss at hm
  unfold PtsW
  exact ⟨ptw_of p (fun e he => hm e (List.mem_append_left _ he)) hn.1 hf.1, ptsw_of ps (fun e he => hm e (List.mem_append_right _ he)) hn.2 hf.2⟩
end
mutual
theorem ptat_ok {w : World} {ok : Nat → Prop} (hok : ∀ b, (NumB w b ∨ ∃ q, w.cell? ⟨b, 0, none⟩ = some (ptv q)) → ok b) : ∀ (p : Pt), PtAt w TT p → PtAt w ok p
 | .mk k low high n s P kn so rd st hd kids, h => by
  unfold PtAt at h ⊢
  obtain ⟨_, ⟨ad, c, h2, h3, h4⟩, h5⟩ := h
  refine ⟨hok P (Or.inl ⟨_, _, bl_cell h2 0 _ rfl⟩), ⟨ad, c, h2, h3, fun hl => ?_⟩, ptsat_ok hok kids h5⟩
  obtain ⟨b, e, _, hlt, hc⟩ := h4 hl
  obtain ⟨q, hq⟩ : ∃ q, kids[0]? = some q := ⟨_, List.getElem?_eq_getElem hl⟩
  exact ⟨b, e, hok b (Or.inr ⟨_, hc 0 q hq⟩), hlt, hc⟩
theorem ptsat_ok {w : World} {ok : Nat → Prop} (hok : ∀ b, (NumB w b ∨ ∃ q, w.cell? ⟨b, 0, none⟩ = some (ptv q)) → ok b) : ∀ (ps : List Pt), PtsAt w TT ps → PtsAt w ok ps
 | [], _ => by unfold PtsAt; trivial
 | p :: ps, h => by
  unfold PtsAt at h ⊢
  exact ⟨ptat_ok hok p h.1, ptsat_ok hok ps h.2⟩
end
theorem map_cell {w : World} {b : Nat} (h : w.heap[b]? = some (.map #[] 0)) : w.cell? ⟨b, 0, none⟩ = none := by
 simp [World.cell?, h]
structure ReadyP (L : List UInt8) (bol : Bool) (p : Pt) (M : Nat → Option Memo) (w : World) : Prop where
 at_ : PtAt w (okB M (fun _ => False)) p
 mem : MemOk M (fun _ => False) w
 w_ : PtW M L bol p
theorem ReadyP.of {L : List UInt8} {bol : Bool} {p : Pt} {w : World} (hp : PtAt w TT p) (hn : (blks p).Nodup) (hm : ∀ b ∈ mapsOf p, w.heap[b]? = some (.map #[] 0)) (hN : PtN p) (hF : PtF p) : ReadyP L bol p (findM (memos L bol p)) w := by
 have hk := memos_keys L bol p
 have hnd : ((memos L bol p).map Prod.fst).Nodup := by rw [hk]; exact hn.sublist (maps_subl p)
 have hb : ∀ b m, findM (memos L bol p) b = some m → w.heap[b]? = some (.map #[] 0) := fun b m h => hm b (by rw [← hk]; exact List.mem_map.2 ⟨_, findM_mem h, rfl⟩)
 refine ⟨ptat_ok (fun b hcc => ⟨id, ?h1⟩) p hp, ⟨fun b m h => ?h2, fun b h => h.elim⟩, ptw_of p (fun e he => findM_of hnd he) hN hF⟩
 case h1 =>
  cases hq : findM (memos L bol p) b with
  | none => rfl
  | some m =>
   have hz := map_cell (hb b m hq)
   rcases hcc with ⟨K, n, e⟩ | ⟨q, e⟩ <;> (rw [hz] at e; cases e)
 case h2 =>
  have h1 := hb b m h
  have emp : ∀ G : Sp → Value → Prop, MapAt w b G := fun G => ⟨#[], 0, h1, stamped_empty 0, fun e he => by simp at he⟩
  cases m with
  | kn W => exact emp _
  | so W hd => exact emp _
mutual
theorem ways_er (L : List UInt8) (bol : Bool) : ∀ (p : Pt), ways L bol (er p) = ways L bol p
 | .mk k low high n s P kn so rd st hd kids => by
  funext x
  unfold er ways
  rw [catW_er L bol kids, altW_er L bol kids hd, fstW_er L bol kids]
  have h1 : fstK (ers kids) = fstK kids := by
   cases kids with
   | nil => rfl
   | cons p ps => cases p; unfold ers er; rfl
  have h2 : fstR (ers kids) = fstR kids := by
   cases kids with
   | nil => rfl
   | cons p ps => cases p; unfold ers er; rfl
  have h3 : fstH (ers kids) = fstH kids := by
   cases kids with
   | nil => rfl
   | cons p ps => cases p; unfold ers er; rfl
  rw [h1, h2, h3]
theorem fstW_er (L : List UInt8) (bol : Bool) : ∀ (ps : List Pt), fstW L bol (ers ps) = fstW L bol ps
 | [] => rfl
 | p :: ps => by
  funext x
  rw [ers, fstW, fstW, ways_er L bol p]
theorem catW_er (L : List UInt8) (bol : Bool) : ∀ (ps : List Pt), catW L bol (ers ps) = catW L bol ps
 | [] => rfl
 | p :: ps => by
  funext l
  rw [ers, catW, catW, catW_er L bol ps, ways_er L bol p]
  have h : (er p).rd = p.rd ∧ (er p).hd = p.hd := by cases p; unfold er; exact ⟨rfl, rfl⟩
  rw [h.1, h.2]
theorem altW_er (L : List UInt8) (bol : Bool) : ∀ (ps : List Pt), ∀ h, altW L bol h (ers ps) = altW L bol h ps
 | [], _ => rfl
 | p :: ps, h => by
  funext x acc
  have h1 : (er p).rd = p.rd := by cases p; unfold er; rfl
  rw [ers, altW, altW, ways_er L bol p, h1, altW_er L bol ps h]
end
end Go.Proofs.YtnajcnhgeggngaaGreat.Way

/-! ### Over -/

namespace Go.Proofs.YtnajcnhgeggngaaGreat.Way
set_option maxHeartbeats 2000000
set_option maxRecDepth 100000
open Go.RowKit Go.Proofs.YtnajcnhgeggngaaGreat

theorem times_lt {mn mx : Int} (h : timesFit mn mx = true) : 0 ≤ mn ∧ mn ≤ 20 := by
 unfold timesFit at h
 split at h
 ·
  cases h
 ·
  omega
mutual
theorem rxw_chk : ∀ (r : Rx) (b e : Bool) (c c' : Ck), RxOk r → c.g ≤ 3 → chk true r b e c = some c' → RxW r ∧ c'.g ≤ 3
 | .mk k mn mx n s kids, b, e, c, c', ho, hg, h => by
  unfold RxOk at ho
  rw [chk] at h
  by_cases h0 : c.n + 1 > 40 ∨ leanB (.mk k mn mx n s kids) = false
  ·
   rw [if_pos h0] at h; cases h
  rw [if_neg h0] at h
  have hlean : leanB (.mk k mn mx n s kids) = true := by
   cases hb : leanB (.mk k mn mx n s kids) with
   | true => rfl
   | false => exact absurd (Or.inr hb) h0
  unfold leanB at hlean
  have hfit : kidsFit k kids.length = true := (Bool.and_eq_true_iff.1 hlean).2
  have nil_of : k ≠ 2 → k ≠ 3 → k ≠ 4 → k ≠ 5 → kids = [] := fun a1 a2 a3 a4 => by
   unfold kidsFit at hfit
   rw [if_neg a1, if_neg a2, if_neg (by omega)] at hfit
   exact List.length_eq_zero_iff.1 (by simpa using hfit)
  have one_of : k = 4 ∨ k = 5 → ∃ r, kids = [r] := fun a => by
   unfold kidsFit at hfit
   rw [if_neg (by omega), if_neg (by omega), if_pos a] at hfit
   exact List.length_eq_one_iff.1 (by simpa using hfit)
  unfold RxW
  by_cases k1 : k = 1
  ·
   subst k1
   rw [if_pos rfl] at h
   obtain rfl := nil_of (by decide) (by decide) (by decide) (by decide)
   split at h
   ·
    cases h
    exact ⟨⟨fun _ => ⟨Or.inl rfl, ho.2.1⟩, (fun e => by cases e), (fun e => by cases e), (fun e => by rcases e with e | e <;> cases e), Nat.zero_le _, by unfold RxsW; trivial⟩, hg⟩
   ·
    cases h
  rw [if_neg k1] at h
  by_cases k2 : k = 2
  ·
   subst k2
   rw [if_pos rfl] at h
   obtain ⟨a1, a2⟩ := rxw_cat kids true ⟨c.n + 1, c.g, c.d⟩ c' ho.2.2 hg h
   exact ⟨⟨(fun e => by cases e), (fun e => by cases e), (fun e => by cases e), (fun e => by rcases e with e | e <;> cases e), ho.1, a1⟩, a2⟩
  rw [if_neg k2] at h
  by_cases k3 : k = 3
  ·
   subst k3
   rw [if_pos rfl, if_pos rfl] at h
   obtain ⟨a1, a2⟩ := rxw_alt kids ⟨c.n + 1, c.g, c.d⟩ c' ho.2.2 hg h
   exact ⟨⟨(fun e => by cases e), (fun e => by cases e), (fun e => by cases e), (fun e => by rcases e with e | e <;> cases e), ho.1, a1⟩, a2⟩
  rw [if_neg k3] at h
  by_cases k4 : k = 4
  ·
   subst k4
   rw [if_pos rfl] at h
   split at h
   ·
    rename_i ht
    obtain ⟨r, rfl⟩ := one_of (Or.inl rfl)
    rw [chkRep] at h
    split at h
    ·
     obtain ⟨a1, a2⟩ := rxw_chk r false false ⟨c.n + 1, c.g, c.d⟩ c' (ho.2.2 r (List.mem_cons_self ..)) hg h
     exact ⟨⟨(fun e => by cases e), (fun e => by cases e), (fun _ => times_lt ht), (fun _ => rfl), ho.1, by unfold RxsW; exact ⟨a1, by unfold RxsW; trivial⟩⟩, a2⟩
    ·
     cases h
   ·
    cases h
  rw [if_neg k4] at h
  by_cases k5 : k = 5
  ·
   subst k5
   rw [if_pos rfl] at h
   by_cases hc : n ≠ (c.g + 1 : Nat) ∨ c.g + 1 > 3 ∨ c.d = 6
   ·
    rw [if_pos hc] at h; cases h
   rw [if_neg hc] at h
   obtain ⟨r, rfl⟩ := one_of (Or.inr rfl)
   rw [chkGroup] at h
   split at h
   ·
    cases h
   ·
    rename_i c2 hc2
    cases h
    obtain ⟨a1, a2⟩ := rxw_chk r true true _ c2 (ho.2.2 r (List.mem_cons_self ..)) (by show c.g + 1 ≤ 3; omega) hc2
    exact ⟨⟨(fun e => by cases e), (fun _ => by omega), (fun e => by cases e), (fun _ => rfl), ho.1, by unfold RxsW; exact ⟨a1, by unfold RxsW; trivial⟩⟩, a2⟩
  rw [if_neg k5] at h
  obtain rfl := nil_of k2 k3 k4 k5
  have rest : (leafK k = true → LeafOk k n s) → c'.g ≤ 3 → ((leafK k = true → LeafOk k n s) ∧ (k = 5 → n = 1 ∨ n = 2 ∨ n = 3) ∧ (k = 4 → 0 ≤ mn ∧ mn ≤ 20) ∧ (k = 5 ∨ k = 4 → ([] : List Rx).length = 1) ∧ ([] : List Rx).length ≤ 1000000 ∧ RxsW []) ∧ c'.g ≤ 3 := fun a1 a2 => ⟨⟨a1, (fun e => absurd e k5), (fun e => absurd e k4), (fun e => e.elim (fun e => absurd e k5) (fun e => absurd e k4)), Nat.zero_le _, by unfold RxsW; trivial⟩, a2⟩
  by_cases k6 : k = 6
  ·
   subst k6
   rw [if_pos rfl] at h
   by_cases hc : 1 ≤ n ∧ n ≤ (c.g : Int)
   ·
    rw [if_pos hc] at h
    cases h
    exact rest (fun _ => ⟨Or.inr (Or.inr (Or.inr ⟨rfl, by omega⟩)), ho.2.1⟩) hg
   ·
    rw [if_neg hc] at h; cases h
  rw [if_neg k6] at h
  by_cases k7 : k = 7
  ·
   subst k7
   rw [if_pos rfl] at h
   split at h
   ·
    cases h; exact rest (fun _ => ⟨Or.inr (Or.inl rfl), ho.2.1⟩) hg
   ·
    cases h
  rw [if_neg k7] at h
  by_cases k8 : k = 8
  ·
   subst k8
   rw [if_pos rfl] at h
   split at h
   ·
    cases h; exact rest (fun _ => ⟨Or.inr (Or.inr (Or.inl rfl)), ho.2.1⟩) hg
   ·
    cases h
  rw [if_neg k8] at h
  cases h
theorem rxw_cat : ∀ (ks : List Rx) (first : Bool) (c c' : Ck), (∀ a, a ∈ ks → RxOk a) → c.g ≤ 3 → chkCat true ks first c = some c' → RxsW ks ∧ c'.g ≤ 3
 | [], first, c, c', _, hg, h => by
  rw [chkCat] at h
  cases h
  exact ⟨by unfold RxsW; trivial, hg⟩
 | r :: rs, first, c, c', ho, hg, h => by
  rw [chkCat] at h
  split at h
  ·
   cases h
  ·
   split at h
   ·
    cases h
   ·
    rename_i c2 hc2
    obtain ⟨a1, a2⟩ := rxw_chk r _ _ c c2 (ho r (List.mem_cons_self ..)) hg hc2
    obtain ⟨b1, b2⟩ := rxw_cat rs _ c2 c' (fun a ha => ho a (List.mem_cons_of_mem _ ha)) a2 h
    exact ⟨by unfold RxsW; exact ⟨a1, b1⟩, b2⟩
theorem rxw_alt : ∀ (ks : List Rx) (c c' : Ck), (∀ a, a ∈ ks → RxOk a) → c.g ≤ 3 → chkAlt true ks c = some c' → RxsW ks ∧ c'.g ≤ 3
 | [], c, c', _, hg, h => by
  rw [chkAlt] at h
  cases h
  exact ⟨by unfold RxsW; trivial, hg⟩
 | r :: rs, c, c', ho, hg, h => by
  rw [chkAlt] at h
  split at h
  ·
   cases h
  ·
   split at h
   ·
    cases h
   ·
    rename_i c2 hc2
    obtain ⟨a1, a2⟩ := rxw_chk r _ _ c c2 (ho r (List.mem_cons_self ..)) hg hc2
    obtain ⟨b1, b2⟩ := rxw_alt rs c2 c' (fun a ha => ho a (List.mem_cons_of_mem _ ha)) a2 h
    exact ⟨by unfold RxsW; exact ⟨a1, b1⟩, b2⟩
end
theorem rxw_right {r : Rx} (ho : RxOk r) (h : right true r = true) : RxW r := by
 unfold right at h
 obtain ⟨c, hc⟩ := Option.isSome_iff_exists.1 h
 exact (rxw_chk r true true ⟨0, 0, 0⟩ c ho (by decide) hc).1
abbrev wlv (s : ByteArray) (bol : Bool) (v : Value) : Value := .agg #[.string s, .bool bol, v]
theorem wl_ret {fn : Func} {p : Tmp} (h : fn.results = #[.cell p 73]) (tmps : Array Value) (w : World) (S : Nat) (cs : Array Value) (hp : tmps.getD p undef = .pointer (some ⟨S, 0, none⟩)) (hA : w.heap[S]? = some (.cells cs 73)) (hc : cs.size = 3) : (results fn tmps).run Tryz.prog w = .ok (.agg cs) w :=
 results_cell_row h tmps w S 73 _ (0, 0) _ hp hA Tryz.underlying73 rfl (by rw [hc]; kernel_rfl)
theorem new_keys {L : List UInt8} {bol : Bool} {p : Pt} {n b : Nat} (hb : findM (memos L bol p) b ≠ none) (h : ∀ c, c ∈ mapsOf p → n ≤ c) : n ≤ b := by
 cases hm : findM (memos L bol p) b with
 | none => exact absurd hm hb
 | some m =>
  refine h b ?_
  rw [← memos_keys L bol p]
  exact List.mem_map.2 ⟨_, findM_mem hm, rfl⟩
structure OverD (r : Rx) (s : ByteArray) (bol : Bool) (g : Nat) (w : World) (e : Ending) (w' : World) : Prop where
 yes : s.size ≤ 60 → right true r = true → ∃ p M, e = .returned (wlv s bol (ptv p.P)) ∧ er p = heed g (bldE r) ∧ ReadyP s.data.toList bol p M w' ∧ ∀ b, M b ≠ none → w.heap.size ≤ b
 no : ¬ (s.size ≤ 60 ∧ right true r = true) → e = .returned (wlv ⟨#[]⟩ false (.pointer none))
 kp : Kp w w'
theorem OverD.not {r : Rx} {s : ByteArray} {bol : Bool} {g : Nat} {w w' : World} (h : ¬ (s.size ≤ 60 ∧ right true r = true)) (k : Kp w w') : OverD r s bol g w (.returned (wlv ⟨#[]⟩ false (.pointer none))) w' := ⟨fun a b => absurd ⟨a, b⟩ h, fun _ => rfl, k⟩
theorem over_any (r : Rx) (s : ByteArray) (bol : Bool) (g : Nat) (hg : g < 8) (ok : Nat → Prop) (k mn mx m : Int) (t : W4) (ad : Option Addr) (l c : Nat) (w : World) (hR : RxOk r) (hI : Is w ok r (rxv k mn mx m t (.slice ad l c))) :
  Calls Tryz.prog 22 #[rxv k mn mx m t (.slice ad l c), .string s, .bool bol, .int .u8 (g : Int)] w fun e w' => OverD r s bol g w e w' := by
 have HR := hid hR
 have HI := hid hI
 have HG := hid hg
 clear hR hI hg
 go_enter Tryz.func22, Tryz.ntmps22
 go_upto_region 1 with fail
 refine opq (fun W0 => W0.heap[w.heap.size]? = some (rxo k mn mx m t (.slice ad l c)) ∧ W0.heap[(w.heap.size + 1)]? = some (.cells #[.string ⟨#[]⟩, .bool false, .pointer none] 73) ∧ Kp w W0) ⟨by exact bl_alloc (last_of _ _) _, by exact last_at _ _ _ (by simp), by exact kpt⟩ ?_
 rintro W0 ⟨xA0, xZ0, xK0⟩
 have A0 := hid xA0
 have Z0 := hid xZ0
 have K0 := hid xK0
 clear xA0 xZ0 xK0
 by_cases h60 : s.size ≤ 60
 ·
  have g60 : ¬ (60 : Int) < (s.size : Int) := by omega
  have H60 := hid h60
  obtain ⟨a0, a1, a2, a3, a4, a5, a6, a7, a8⟩ := cells9 (A0.out)
  go_wp2_with fail
  clear a0 a1 a2 a3 a4 a5 a6 a7 a8
  refine (Right_any r true ok k mn mx m t ad l c _ HR.out (HI.out.kp K0.out)).mono ?_
  rintro e w1 ⟨rfl, hk⟩
  have A1 := hid (bl_kp A0.out hk)
  have Z1 := hid (bl_kp Z0.out hk)
  have K1 := hid (K0.out.trans hk)
  clear hk A0 Z0 K0
  cases hr : right true r with
  | false =>
   have HNO := hid (show ¬ (s.size ≤ 60 ∧ right true r = true) from fun e => by rw [hr] at e; cases e.2)
   clear hr
   obtain ⟨z0, fz0, z1, fz1, z2, fz2⟩ := cellf3 (Z1.out)
   go_wp2_with fail
   exact bodyPost_ret (v := .agg _) (wl_ret rfl _ _ _ _ rfl (bl_put (bl_put (bl_put Z1.out _) _) _) rfl) rfl (OverD.not HNO.out (Ks.up (P := w.heap.size + 1) ((((Ks.refl _ _).set _ _).set _ _).set _ _) K1.out (by omega)))
  | true =>
   have HRT := hid hr
   have BS := hid (build_any r (rxw_right HR.out hr))
   have HRW := hid (rxw_right HR.out hr)
   clear hr
   obtain ⟨a0, a1, a2, a3, a4, a5, a6, a7, a8⟩ := cells9 (A1.out)
   go_wp2_with fail
   clear a0 a1 a2 a3 a4 a5 a6 a7 a8
   refine (BS.out.all ok _ w1 (HI.out.kp K1.out)).mono ?_
   rintro e w2 ⟨p, rfl, hd0⟩
   have BD := hid hd0
   have HPF := hid (ptf_of r p hd0.er HRW.out)
   have HC := hid ((heed_any p (PtF.h p HPF.out)).all g w2 HG.out (PtAt.keep (Nat.le_refl _) (fun b _ _ => ⟨trivial, rfl⟩) p hd0.at_) hd0.nd)
   clear hd0
   go_wp2_with fail
   refine (HC.out).mono ?_
   rintro e w3 hd0
   obtain ⟨rfl, hp3, hk3⟩ := hd0.ex
   have K3 := hid (show Kp w w3 from Kx.kp (Kx.past2 (S := fun _ => False) (Kp.kx (K1.out.trans BD.out.kp)) hk3 (fun b hb e => by have := (BD.out.rng b (pblks_sub p b e)).1; have := K1.out.size; omega)))
   have Z3 := hid (bl_kx (bl_kp Z1.out BD.out.kp) hk3 (fun e => by have := (BD.out.rng _ (pblks_sub p _ e)).1; have := bl_lt Z1.out; omega))
   have HP3 := hid hp3
   have HM3 := hid (show ∀ b ∈ mapsOf p, w3.heap[b]? = some (.map #[] 0) from fun b hb => (hk3.block b (BD.out.rng b (maps_sub p b hb)).2 (fun e => by
    obtain ⟨K, n, e2⟩ := (PtAt.num p (PtAt.keep (ok' := TT) (Nat.le_refl _) (fun b _ _ => ⟨trivial, rfl⟩) p BD.out.at_) b e).1
    rw [map_cell (BD.out.maps b hb)] at e2
    cases e2)).trans (BD.out.maps b hb))
   clear hd0 hp3 hk3 HC Z1
   have Z1 := Z3
   obtain ⟨z0, fz0, z1, fz1, z2, fz2⟩ := cellf3 (Z1.out)
   go_wp2_with fail
   have KF := hid (show Ks (w.heap.size + 1) w3 _ from (((Ks.refl (w.heap.size + 1) w3).set 0 (.string s)).set 1 (.bool bol)).set 2 (ptv p.P))
   refine bodyPost_ret (v := .agg _) (wl_ret rfl _ _ _ _ rfl (bl_put (bl_put (bl_put Z1.out _) _) _) rfl) rfl ⟨fun _ _ => ⟨heed g p, _, by rw [(heed_P g p).1]; rfl, by rw [er_heed, BD.out.er], ReadyP.of (PtAt.keep KF.out.size (fun b hb hl => ⟨trivial, KF.out.block b hl hb⟩) _ (ptat_ok (ok := fun b => b ≠ w.heap.size + 1) (fun b hb e => ?_) _ HP3.out)) (by rw [(blks_heed g p).1]; exact BD.out.nd) (fun b hb => ?_) (ptn_heed g p BD.out.n_) (ptf_heed g p HG.out HPF.out), fun b hb => new_keys hb (fun c hc => by rw [maps_heed] at hc; have := (BD.out.rng c (maps_sub p c hc)).1; have := K1.out.size; omega)⟩, fun h => absurd ⟨H60.out, HRT.out⟩ h, KF.out.up K3.out (by omega)⟩
   ·
    rw [e] at hb
    have hz := bl_cell Z3.out 0 _ rfl
    rcases hb with ⟨K, n, e2⟩ | ⟨q, e2⟩ <;> (rw [hz] at e2; cases e2)
   ·
    rw [maps_heed] at hb
    have hm := HM3.out b hb
    exact (KF.out.block b (Array.getElem?_eq_some_iff.1 hm).1 (fun e => by rw [e, Z3.out] at hm; cases hm)).trans hm
 ·
  have g60 : (60 : Int) < (s.size : Int) := by omega
  have HNO := hid (show ¬ (s.size ≤ 60 ∧ right true r = true) from fun e => h60 e.1)
  have Z1 := Z0
  have K1 := K0
  obtain ⟨z0, fz0, z1, fz1, z2, fz2⟩ := cellf3 (Z1.out)
  go_wp2_with fail
  exact bodyPost_ret (v := .agg _) (wl_ret rfl _ _ _ _ rfl (bl_put (bl_put (bl_put Z1.out _) _) _) rfl) rfl (OverD.not HNO.out (Ks.up (P := w.heap.size + 1) ((((Ks.refl _ _).set _ _).set _ _).set _ _) K1.out (by omega)))
end Go.Proofs.YtnajcnhgeggngaaGreat.Way

/-! ### Spts -/

namespace Go.Proofs.YtnajcnhgeggngaaGreat.Way
set_option maxHeartbeats 2000000
set_option maxRecDepth 100000
open Go.RowKit Go.Proofs.YtnajcnhgeggngaaGreat

theorem at_ok {a N : Nat} (h : a ≤ N) (hN : N ≤ 60) : (Sp.at_ (a : Int)).Ok ∧ (Sp.at_ (a : Int)).In N := by
 unfold Sp.at_
 exact ⟨⟨by simp only; omega, by simp only; omega, Or.inl ⟨rfl, rfl⟩, Or.inl ⟨rfl, rfl⟩, Or.inl ⟨rfl, rfl⟩⟩, ⟨by simp only; omega, by simp only; omega, by simp only; omega, by simp only; omega⟩⟩
theorem spots_nil (s : ByteArray) (bol : Bool) (at_ : Int) (w : World) :
  Calls Tryz.prog 23 #[wlv s bol (.pointer none), .int .i64 at_] w fun e w' => e = .returned (.slice none 0 0) ∧ Kp w w' := by
 go_enter Tryz.func23, Tryz.ntmps23
 go_upto_region 1 with fail
 refine opq (fun W0 => W0.heap[w.heap.size]? = some (.cells #[.string s, .bool bol, .pointer none] 73) ∧ Kp w W0) ⟨by exact last_of _ _, by exact kpt⟩ ?_
 rintro W0 ⟨xA0, xK0⟩
 have A0 := hid xA0
 have K0 := hid xK0
 clear xA0 xK0
 obtain ⟨a0, a1, a2⟩ := cells3 (A0.out)
 go_wp2_with fail
 go_ret
 exact ⟨rfl, K0.out⟩
theorem spots_low (s : ByteArray) (bol : Bool) (P : Nat) (at_ : Int) (h : at_ < 0) (w : World) :
  Calls Tryz.prog 23 #[wlv s bol (ptv P), .int .i64 at_] w fun e w' => e = .returned (.slice none 0 0) ∧ Kp w w' := by
 go_enter Tryz.func23, Tryz.ntmps23
 go_upto_region 1 with fail
 refine opq (fun W0 => W0.heap[w.heap.size]? = some (.cells #[.string s, .bool bol, ptv P] 73) ∧ Kp w W0) ⟨by exact last_of _ _, by exact kpt⟩ ?_
 rintro W0 ⟨xA0, xK0⟩
 have A0 := hid xA0
 have K0 := hid xK0
 clear xA0 xK0
 obtain ⟨a0, a1, a2⟩ := cells3 (A0.out)
 go_wp2_with fail
 go_ret
 exact ⟨rfl, K0.out⟩
theorem spots_high (s : ByteArray) (bol : Bool) (P : Nat) (at_ : Int) (h0 : ¬ at_ < 0) (h : (s.size : Int) < at_) (w : World) :
  Calls Tryz.prog 23 #[wlv s bol (ptv P), .int .i64 at_] w fun e w' => e = .returned (.slice none 0 0) ∧ Kp w w' := by
 go_enter Tryz.func23, Tryz.ntmps23
 go_upto_region 1 with fail
 refine opq (fun W0 => W0.heap[w.heap.size]? = some (.cells #[.string s, .bool bol, ptv P] 73) ∧ Kp w W0) ⟨by exact last_of _ _, by exact kpt⟩ ?_
 rintro W0 ⟨xA0, xK0⟩
 have A0 := hid xA0
 have K0 := hid xK0
 clear xA0 xK0
 obtain ⟨a0, a1, a2⟩ := cells3 (A0.out)
 go_wp2_with fail
 go_ret
 exact ⟨rfl, K0.out⟩
theorem spots_any (s : ByteArray) (bol : Bool) (h60 : s.size ≤ 60) (p : Pt) (M : Nat → Option Memo) (a : Nat) (ha : a ≤ s.size) (w : World) (hR : ReadyP s.data.toList bol p M w) :
  Calls Tryz.prog 23 #[wlv s bol (ptv p.P), .int .i64 (a : Int)] w fun e w' => WaysD (ways s.data.toList bol p (Sp.at_ (a : Int))) (okB M (fun _ => False)) (Km M w) e w' := by
 have WS := hid (wsaid h60 p hR.w_)
 have HR := hid hR
 have g0 : ¬ (a : Int) < 0 := by omega
 have g1 : ¬ (s.size : Int) < (a : Int) := by omega
 have SA := hid (start_any a (by omega))
 have HX := hid (at_ok ha h60)
 clear hR h60 ha
 obtain ⟨P, hP⟩ : ∃ P, p.P = P := ⟨_, rfl⟩
 have CA : Hid (∀ W, Kp w W → Calls Tryz.prog 34 #[wkv s bol, ptv P, spv (Sp.at_ (a : Int))] W fun e w' => WaysD (ways s.data.toList bol p (Sp.at_ (a : Int))) (okB M (fun _ => False)) (fun w' => Km M W w' ∧ MemOk M (fun _ => False) w') e w') := fun W k => by
  rw [← hP]
  exact WS.out.all (fun _ => False) _ W HX.out.1 HX.out.2 (fun _ h => h.elim) (PtAt.keep k.size (fun b hb hl => ⟨hb, k.block b hl⟩) p HR.out.at_) ⟨fun b m hm => (HR.out.mem.at_ b m hm).keep (k.block b (HR.out.mem.at_ b m hm).lt) k.size (fun b hb hl => ⟨hb, k.block b hl⟩), HR.out.mem.own⟩
 rw [hP]
 clear hP WS HR HX
 go_enter Tryz.func23, Tryz.ntmps23
 go_upto_region 1 with fail
 refine opq (fun W0 => W0.heap[w.heap.size]? = some (.cells #[.string s, .bool bol, ptv P] 73) ∧ Kp w W0) ⟨by exact last_of _ _, by exact kpt⟩ ?_
 rintro W0 ⟨xA0, xK0⟩
 have A0 := hid xA0
 have K0 := hid xK0
 clear xA0 xK0
 obtain ⟨a0, a1, a2⟩ := cells3 (A0.out)
 go_upto_region 3 with fail
 clear a0 a1 a2
 have Q0 : Kp W0 W0.drew := (Kp.refl _).drew
 have MK : Hid (∀ W, Kp W0 W → W.cell? ⟨w.heap.size, 0, none⟩ = some (.string s) ∧ W.cell? ⟨w.heap.size, 1, none⟩ = some (.bool bol) ∧ W.cell? ⟨w.heap.size, 2, none⟩ = some (ptv P) ∧ Hid (Kp W0 W)) := fun W k => ⟨bl_cell (bl_kp A0.out k) 0 _ rfl, bl_cell (bl_kp A0.out k) 1 _ rfl, bl_cell (bl_kp A0.out k) 2 _ rfl, k⟩
 refine wp_region_noPanic ?_
 refine hdrewZ 6 MK Q0 (fun hH => ?_)
 have KQ := Q0
 refine zk 6 0 [1] (some 20) (Op.fieldAddr 73 (Operand.tmp 2) 0) 0 (v := ?v0z31) rfl ?h0z31 hH ?_
 case h0z31 => intro _ _; go_simp; try with_reducible rfl
 try simp only [ps]
 refine zk 6 1 [] (some 21) (Op.load 70 (Operand.tmp 20)) 70 (v := ?v1z32) rfl ?h1z32 hH ?_
 case h1z32 => intro _ _; go_simp; try with_reducible rfl
 try simp only [ps]
 refine zk 6 2 [3] (some 22) (Op.fieldAddr 73 (Operand.tmp 2) 1) 0 (v := ?v2z33) rfl ?h2z33 hH ?_
 case h2z33 => intro _ _; go_simp; try with_reducible rfl
 try simp only [ps]
 refine zk 6 3 [] (some 23) (Op.load 71 (Operand.tmp 22)) 71 (v := ?v3z34) rfl ?h3z34 hH ?_
 case h3z34 => intro _ _; go_simp; try with_reducible rfl
 try simp only [ps]
 refine zk 6 4 [5] (some 24) (Op.move (Operand.tmp 1)) 3 (v := ?v4z35) rfl ?h4z35 hH ?_
 case h4z35 => intro _ _; go_simp; try with_reducible rfl
 try simp only [ps]
 refine anyZ_ready (rs := [5]) (by kernel_rfl) (by simp) ?_
 refine AllZ.cons (o := { dst := some 25, op := Op.call { callee := Callee.value (Operand.func 35), args := #[Operand.tmp 24], argTypes := #[3] }, type := 83, pos := "way.go:84", after := #[{ on := 4, ground := Ground.data }], guard := none }) rfl (fun K hKq => ?_) AllZ.nil
 go_simp
 refine (SA.out _).mono ?_
 rintro e y1 ⟨rfl, kq⟩
 refine hKq.out _ _ (MK.out _ (KQ.trans kq)) (fun hN => ?_)
 clear kq
 clear hKq K hH KQ
 have hH := hN
 clear hN
 have KQ := hH.2.2.2.out
 try simp only [ps]
 refine anyZ_ready (rs := [6]) (by kernel_rfl) (by simp) ?_
 refine AllZ.last (o := { dst := some 26, op := Op.call { callee := Callee.value (Operand.func 34), args := #[Operand.tmp 21, Operand.tmp 23, Operand.tmp 25], argTypes := #[70, 71, 83] }, type := 68, pos := "way.go:84", after := #[{ on := 1, ground := Ground.data }, { on := 3, ground := Ground.data }, { on := 5, ground := Ground.data }, { on := 5, ground := Ground.chain }], guard := none }) rfl (Or.inl rfl) (fun K hKq => ?_) AllZ.nil
 go_simp
 refine (CA.out _ (K0.out.trans KQ)).mono ?_
 rintro e y2 hd0
 obtain ⟨v, rfl, hv, hk, hm⟩ := hd0.ex
 have HV := hid hv
 have HK := hid hk
 clear hd0 hv hk hm
 refine hKq.out _ _ ?_
 clear hKq K
 try simp only [ps]
 refine anyZ_ready (rs := [7]) (by kernel_rfl) (by simp) ?_
 refine AllZ.last (o := { dst := some 4, op := Op.assign (Operand.tmp 26), type := 68, pos := "way.go:84", after := #[{ on := 6, ground := Ground.data }, { on := 6, ground := Ground.chain }, { on := 0, ground := Ground.phase }, { on := 1, ground := Ground.phase }, { on := 2, ground := Ground.phase }, { on := 3, ground := Ground.phase }, { on := 4, ground := Ground.phase }, { on := 5, ground := Ground.phase }, { on := 6, ground := Ground.phase }], guard := none }) rfl (Or.inr (by kernel_rfl)) (fun K hKq => ?_) AllZ.nil
 go_simp
 refine hKq.out _ _ ?_
 clear hKq K
 try simp only [ps]
 refine anyZ_done (by kernel_rfl) ?_ _
 refine NoPanic.normal ?_
 have KF := hid (K0.out.trans KQ)
 go_wp2_with fail
 go_ret
 exact ⟨_, rfl, HV.out, (Kp.kx KF.out).trans HK.out⟩
end Go.Proofs.YtnajcnhgeggngaaGreat.Way

/-! ### Stt0 -/

namespace Go.Proofs.YtnajcnhgeggngaaGreat.Way
set_option maxHeartbeats 2000000
set_option maxRecDepth 100000
open Go.RowKit Go.Proofs.YtnajcnhgeggngaaGreat

abbrev none8 : Value := .agg #[.int .i64 (-1), .int .i64 (-1), .int .i64 (-1), .int .i64 (-1), .int .i64 (-1), .int .i64 (-1), .int .i64 (-1), .int .i64 (-1)]
def non8 : Nat → Obj
 | 0 => (.cells #[.int .i64 0, .int .i64 0, .int .i64 0, .int .i64 0, .int .i64 0, .int .i64 0, .int .i64 0, .int .i64 0] 36)
 | 1 => (.cells #[.int .i64 (-1), .int .i64 (-1), .int .i64 0, .int .i64 0, .int .i64 0, .int .i64 0, .int .i64 0, .int .i64 0] 36)
 | 2 => (.cells #[.int .i64 (-1), .int .i64 (-1), .int .i64 (-1), .int .i64 (-1), .int .i64 0, .int .i64 0, .int .i64 0, .int .i64 0] 36)
 | 3 => (.cells #[.int .i64 (-1), .int .i64 (-1), .int .i64 (-1), .int .i64 (-1), .int .i64 (-1), .int .i64 (-1), .int .i64 0, .int .i64 0] 36)
 | _ => (.cells #[.int .i64 (-1), .int .i64 (-1), .int .i64 (-1), .int .i64 (-1), .int .i64 (-1), .int .i64 (-1), .int .i64 (-1), .int .i64 (-1)] 36)
theorem non_ret {fn : Func} {p : Tmp} (h : fn.results = #[.cell p 36]) (tmps : Array Value) (w : World) (S : Nat) (cs : Array Value) (hp : tmps.getD p undef = .pointer (some ⟨S, 0, none⟩)) (hA : w.heap[S]? = some (.cells cs 36)) (hc : cs.size = 8) : (results fn tmps).run Tryz.prog w = .ok (.agg cs) w :=
 results_cell_row h tmps w S 36 _ (0, 0) _ hp hA Tryz.underlying36 rfl (by rw [hc]; kernel_rfl)
theorem nones_any (w : World) : Calls Tryz.prog 17 #[] w fun e w' => e = .returned none8 ∧ Kp w w' := by
 go_enter Tryz.func17, Tryz.ntmps17
 go_upto_region 2 with fail
 refine opq (fun W0 => W0.heap[w.heap.size]? = some (.cells #[.int .i64 0, .int .i64 0, .int .i64 0, .int .i64 0, .int .i64 0, .int .i64 0, .int .i64 0, .int .i64 0] 36) ∧ W0.heap[(w.heap.size + 1)]? = some (.cells #[.int .i64 0, .int .i64 0, .int .i64 0, .int .i64 0, .int .i64 0, .int .i64 0, .int .i64 0, .int .i64 0] 36) ∧ Kp w W0) ⟨by exact bl_alloc (last_of _ _) _, by exact last_at _ _ _ (by simp), by exact kpt⟩ ?_
 rintro W0 ⟨xZ0, xA0, xK0⟩
 have Z0 := hid xZ0
 have A0 := hid xA0
 have K0 := hid xK0
 clear xZ0 xA0 xK0
 go_wp2_with fail
 go_loopg [3] 4 (fun gg i wr => ∃ q : Nat, q + gg = 4 ∧ i = .int .i64 (q : Int) ∧ wr.heap[(w.heap.size + 1)]? = some (non8 q) ∧ Ks (w.heap.size + 1) W0 wr)
 case atStart => exact ⟨0, by omega, rfl, A0.out, Ks.refl _ _⟩
 case round =>
  obtain ⟨q, hq, rfl, hA, hK⟩ := hrel
  have K := hid hK
  have Z := hid (bl_ks Z0.out (by omega) hK)
  clear hK
  match q, hq with
  | 0, hq =>
   have A : Hid (wr.heap[(w.heap.size + 1)]? = some (.cells #[.int .i64 0, .int .i64 0, .int .i64 0, .int .i64 0, .int .i64 0, .int .i64 0, .int .i64 0, .int .i64 0] 36)) := hA
   clear hA
   have a0 := bl_cell (A.out) 0 _ rfl
   have a1 := bl_cell (A.out) 1 _ rfl
   have fa0 := bl_frozen (A.out) 0
   have fa1 := bl_frozen (A.out) 1
   go_wp2_with fail
   go_roundg (gk - 1)
   case measure => omega
   case rel => exact ⟨1, by omega, rfl, bl_put (bl_put A.out _) _, (K.out.set _ _).set _ _⟩
  | 1, hq =>
   have A : Hid (wr.heap[(w.heap.size + 1)]? = some (.cells #[.int .i64 (-1), .int .i64 (-1), .int .i64 0, .int .i64 0, .int .i64 0, .int .i64 0, .int .i64 0, .int .i64 0] 36)) := hA
   clear hA
   have a0 := bl_cell (A.out) 2 _ rfl
   have a1 := bl_cell (A.out) 3 _ rfl
   have fa0 := bl_frozen (A.out) 2
   have fa1 := bl_frozen (A.out) 3
   go_wp2_with fail
   go_roundg (gk - 1)
   case measure => omega
   case rel => exact ⟨2, by omega, rfl, bl_put (bl_put A.out _) _, (K.out.set _ _).set _ _⟩
  | 2, hq =>
   have A : Hid (wr.heap[(w.heap.size + 1)]? = some (.cells #[.int .i64 (-1), .int .i64 (-1), .int .i64 (-1), .int .i64 (-1), .int .i64 0, .int .i64 0, .int .i64 0, .int .i64 0] 36)) := hA
   clear hA
   have a0 := bl_cell (A.out) 4 _ rfl
   have a1 := bl_cell (A.out) 5 _ rfl
   have fa0 := bl_frozen (A.out) 4
   have fa1 := bl_frozen (A.out) 5
   go_wp2_with fail
   go_roundg (gk - 1)
   case measure => omega
   case rel => exact ⟨3, by omega, rfl, bl_put (bl_put A.out _) _, (K.out.set _ _).set _ _⟩
  | 3, hq =>
   have A : Hid (wr.heap[(w.heap.size + 1)]? = some (.cells #[.int .i64 (-1), .int .i64 (-1), .int .i64 (-1), .int .i64 (-1), .int .i64 (-1), .int .i64 (-1), .int .i64 0, .int .i64 0] 36)) := hA
   clear hA
   have a0 := bl_cell (A.out) 6 _ rfl
   have a1 := bl_cell (A.out) 7 _ rfl
   have fa0 := bl_frozen (A.out) 6
   have fa1 := bl_frozen (A.out) 7
   go_wp2_with fail
   go_roundg (gk - 1)
   case measure => omega
   case rel => exact ⟨4, by omega, rfl, bl_put (bl_put A.out _) _, (K.out.set _ _).set _ _⟩
  | 4, hq =>
   obtain rfl : gk = 0 := by omega
   have A : Hid (wr.heap[(w.heap.size + 1)]? = some (.cells #[.int .i64 (-1), .int .i64 (-1), .int .i64 (-1), .int .i64 (-1), .int .i64 (-1), .int .i64 (-1), .int .i64 (-1), .int .i64 (-1)] 36)) := hA
   clear hA
   obtain ⟨a0, a1, a2, a3, a4, a5, a6, a7⟩ := cells8 (A.out)
   have fz0 := bl_frozen (Z.out) 0
   have fz1 := bl_frozen (Z.out) 1
   have fz2 := bl_frozen (Z.out) 2
   have fz3 := bl_frozen (Z.out) 3
   have fz4 := bl_frozen (Z.out) 4
   have fz5 := bl_frozen (Z.out) 5
   have fz6 := bl_frozen (Z.out) 6
   have fz7 := bl_frozen (Z.out) 7
   obtain ⟨z0, z1, z2, z3, z4, z5, z6, z7⟩ := cells8 (Z.out)
   go_wp2_with fail
   exact bodyPost_ret (v := none8) (non_ret rfl _ _ _ _ rfl (bl_set8 Z.out _ _ _ _ _ _ _ _) rfl) rfl ⟨rfl, Ks.up (P := w.heap.size) (ks_set8 _ _ _ _ _ _ _ _) (K.out.up K0.out (by omega)) (Nat.le_refl _)⟩
  | q + 5, hq => omega
end Go.Proofs.YtnajcnhgeggngaaGreat.Way

/-! ### Stt -/

namespace Go.Proofs.YtnajcnhgeggngaaGreat.Way
set_option maxHeartbeats 2000000
set_option maxRecDepth 100000
open Go.RowKit Go.Proofs.YtnajcnhgeggngaaGreat

def stc (x : Sp) : List Value := [.int .i64 x.a, .int .i64 (-1), .int .i64 (-1), .int .i64 x.f0, .int .i64 x.t0, .int .i64 x.f1, .int .i64 x.t1, .int .i64 x.f2, .int .i64 x.t2]
abbrev stv (x : Sp) : Value := .agg #[.int .i64 x.a, .int .i64 (-1), .int .i64 (-1), .int .i64 x.f0, .int .i64 x.t0, .int .i64 x.f1, .int .i64 x.t1, .int .i64 x.f2, .int .i64 x.t2]
abbrev sto (x : Sp) : Obj := .cells #[.int .i64 x.a, .int .i64 (-1), .int .i64 (-1), .int .i64 x.f0, .int .i64 x.t0, .int .i64 x.f1, .int .i64 x.t1, .int .i64 x.f2, .int .i64 x.t2] 38
theorem bl_set9s {w : World} {B : Nat} {a0 a1 a2 a3 a4 a5 a6 a7 a8 : Value} {t : TypeId} (h : w.heap[B]? = some (.cells #[a0, a1, a2, a3, a4, a5, a6, a7, a8] t)) (x0 x1 x2 x3 x4 x5 x6 x7 x8 : Value) :
  (((((((((w.setCell ⟨B, 0, none⟩ x0).setCell ⟨B, 1, none⟩ x1).setCell ⟨B, 2, none⟩ x2).setCell ⟨B, 3, none⟩ x3).setCell ⟨B, 4, none⟩ x4).setCell ⟨B, 5, none⟩ x5).setCell ⟨B, 6, none⟩ x6).setCell ⟨B, 7, none⟩ x7).setCell ⟨B, 8, none⟩ x8).heap[B]? = some (.cells #[x0, x1, x2, x3, x4, x5, x6, x7, x8] t) := by
 have h0_ : (w.setCell ⟨B, 0, none⟩ x0).heap[B]? = some (.cells #[x0, a1, a2, a3, a4, a5, a6, a7, a8] t) := bl_put h x0
 have h1 : ((w.setCell ⟨B, 0, none⟩ x0).setCell ⟨B, 1, none⟩ x1).heap[B]? = some (.cells #[x0, x1, a2, a3, a4, a5, a6, a7, a8] t) := bl_put h0_ x1
 have h2 : (((w.setCell ⟨B, 0, none⟩ x0).setCell ⟨B, 1, none⟩ x1).setCell ⟨B, 2, none⟩ x2).heap[B]? = some (.cells #[x0, x1, x2, a3, a4, a5, a6, a7, a8] t) := bl_put h1 x2
 have h3 : ((((w.setCell ⟨B, 0, none⟩ x0).setCell ⟨B, 1, none⟩ x1).setCell ⟨B, 2, none⟩ x2).setCell ⟨B, 3, none⟩ x3).heap[B]? = some (.cells #[x0, x1, x2, x3, a4, a5, a6, a7, a8] t) := bl_put h2 x3
 have h4 : (((((w.setCell ⟨B, 0, none⟩ x0).setCell ⟨B, 1, none⟩ x1).setCell ⟨B, 2, none⟩ x2).setCell ⟨B, 3, none⟩ x3).setCell ⟨B, 4, none⟩ x4).heap[B]? = some (.cells #[x0, x1, x2, x3, x4, a5, a6, a7, a8] t) := bl_put h3 x4
 have h5 : ((((((w.setCell ⟨B, 0, none⟩ x0).setCell ⟨B, 1, none⟩ x1).setCell ⟨B, 2, none⟩ x2).setCell ⟨B, 3, none⟩ x3).setCell ⟨B, 4, none⟩ x4).setCell ⟨B, 5, none⟩ x5).heap[B]? = some (.cells #[x0, x1, x2, x3, x4, x5, a6, a7, a8] t) := bl_put h4 x5
 have h6 : (((((((w.setCell ⟨B, 0, none⟩ x0).setCell ⟨B, 1, none⟩ x1).setCell ⟨B, 2, none⟩ x2).setCell ⟨B, 3, none⟩ x3).setCell ⟨B, 4, none⟩ x4).setCell ⟨B, 5, none⟩ x5).setCell ⟨B, 6, none⟩ x6).heap[B]? = some (.cells #[x0, x1, x2, x3, x4, x5, x6, a7, a8] t) := bl_put h5 x6
 have h7 : ((((((((w.setCell ⟨B, 0, none⟩ x0).setCell ⟨B, 1, none⟩ x1).setCell ⟨B, 2, none⟩ x2).setCell ⟨B, 3, none⟩ x3).setCell ⟨B, 4, none⟩ x4).setCell ⟨B, 5, none⟩ x5).setCell ⟨B, 6, none⟩ x6).setCell ⟨B, 7, none⟩ x7).heap[B]? = some (.cells #[x0, x1, x2, x3, x4, x5, x6, x7, a8] t) := bl_put h6 x7
 have h8 : (((((((((w.setCell ⟨B, 0, none⟩ x0).setCell ⟨B, 1, none⟩ x1).setCell ⟨B, 2, none⟩ x2).setCell ⟨B, 3, none⟩ x3).setCell ⟨B, 4, none⟩ x4).setCell ⟨B, 5, none⟩ x5).setCell ⟨B, 6, none⟩ x6).setCell ⟨B, 7, none⟩ x7).setCell ⟨B, 8, none⟩ x8).heap[B]? = some (.cells #[x0, x1, x2, x3, x4, x5, x6, x7, x8] t) := bl_put h7 x8
 exact h8
theorem ks_set9s {w : World} {B : Nat} (x0 x1 x2 x3 x4 x5 x6 x7 x8 : Value) : Ks B w (((((((((w.setCell ⟨B, 0, none⟩ x0).setCell ⟨B, 1, none⟩ x1).setCell ⟨B, 2, none⟩ x2).setCell ⟨B, 3, none⟩ x3).setCell ⟨B, 4, none⟩ x4).setCell ⟨B, 5, none⟩ x5).setCell ⟨B, 6, none⟩ x6).setCell ⟨B, 7, none⟩ x7).setCell ⟨B, 8, none⟩ x8) :=
 (ks_set8 x0 x1 x2 x3 x4 x5 x6 x7).set 8 x8
def spn8 (x : Sp) : Nat → Obj
 | 0 => .cells #[.int .i64 (-1), .int .i64 (-1), .int .i64 (-1), .int .i64 (-1), .int .i64 (-1), .int .i64 (-1), .int .i64 (-1), .int .i64 (-1)] 36
 | 1 => .cells #[.int .i64 (-1), .int .i64 (-1), .int .i64 x.f0, .int .i64 x.t0, .int .i64 (-1), .int .i64 (-1), .int .i64 (-1), .int .i64 (-1)] 36
 | 2 => .cells #[.int .i64 (-1), .int .i64 (-1), .int .i64 x.f0, .int .i64 x.t0, .int .i64 x.f1, .int .i64 x.t1, .int .i64 (-1), .int .i64 (-1)] 36
 | _ => .cells #[.int .i64 (-1), .int .i64 (-1), .int .i64 x.f0, .int .i64 x.t0, .int .i64 x.f1, .int .i64 x.t1, .int .i64 x.f2, .int .i64 x.t2] 36
theorem st_ret {fn : Func} {p : Tmp} (h : fn.results = #[.cell p 38]) (tmps : Array Value) (w : World) (S : Nat) (cs : Array Value) (hp : tmps.getD p undef = .pointer (some ⟨S, 0, none⟩)) (hA : w.heap[S]? = some (.cells cs 38)) (hc : cs.size = 9) : (results fn tmps).run Tryz.prog w = .ok (.agg cs) w :=
 results_cell_row h tmps w S 38 _ (0, 0) _ hp hA Tryz.underlying38 rfl (by rw [hc]; kernel_rfl)
theorem spn_i64 {f t : Int} (h : Spn f t) : IntKind.i64.wrap f = f ∧ IntKind.i64.wrap t = t := by
 rcases h with ⟨rfl, rfl⟩ | ⟨h0, h1, h2⟩
 ·
  exact ⟨rfl, rfl⟩
 ·
  rw [IntKind.wrap_i64, IntKind.wrap_i64]; omega
theorem state_any (x : Sp) (hx : x.Ok) (w : World) : Calls Tryz.prog 25 #[spv x] w fun e w' => e = .returned (stv x) ∧ Kp w w' := by
 obtain ⟨cf0, ct0⟩ := spn_i64 hx.s0
 obtain ⟨cf1, ct1⟩ := spn_i64 hx.s1
 obtain ⟨cf2, ct2⟩ := spn_i64 hx.s2
 have ca : IntKind.i64.wrap x.a = x.a := by have := hx.a0; have := hx.a1; rw [IntKind.wrap_i64]; omega
 clear hx
 have i0 : ∀ w : World, (Instr.index 81 (.agg #[.int .i8 x.f0, .int .i8 x.t0, .int .i8 x.f1, .int .i8 x.t1, .int .i8 x.f2, .int .i8 x.t2]) (.int .i64 0)).run Tryz.prog w = .ok (.agg #[.int .i8 x.f0, .int .i8 x.t0]) w := fun w => by kernel_rfl
 have i1 : ∀ w : World, (Instr.index 81 (.agg #[.int .i8 x.f0, .int .i8 x.t0, .int .i8 x.f1, .int .i8 x.t1, .int .i8 x.f2, .int .i8 x.t2]) (.int .i64 1)).run Tryz.prog w = .ok (.agg #[.int .i8 x.f1, .int .i8 x.t1]) w := fun w => by kernel_rfl
 have i2 : ∀ w : World, (Instr.index 81 (.agg #[.int .i8 x.f0, .int .i8 x.t0, .int .i8 x.f1, .int .i8 x.t1, .int .i8 x.f2, .int .i8 x.t2]) (.int .i64 2)).run Tryz.prog w = .ok (.agg #[.int .i8 x.f2, .int .i8 x.t2]) w := fun w => by kernel_rfl
 go_enter Tryz.func25, Tryz.ntmps25
 go_upto_region 1 with fail
 refine opq (fun W0 => W0.heap[w.heap.size]? = some (spo x) ∧ W0.heap[(w.heap.size + 1)]? = some (.cells #[.int .i64 0, .int .i64 0, .int .i64 0, .int .i64 0, .int .i64 0, .int .i64 0, .int .i64 0, .int .i64 0, .int .i64 0] 38) ∧ Kp w W0) ⟨by exact bl_alloc (last_of _ _) _, by exact last_at _ _ _ (by simp), by exact kpt⟩ ?_
 rintro W0 ⟨xX0, xZ0, xK0⟩
 have X0 := hid xX0
 have Z0 := hid xZ0
 have K0 := hid xK0
 clear xX0 xZ0 xK0
 go_wp2_with fail
 refine (nones_any _).mono ?_
 rintro e w1 ⟨rfl, hk⟩
 have X1 := hid (bl_kp X0.out hk)
 have Z1 := hid (bl_kp Z0.out hk)
 have K1 := hid (K0.out.trans hk)
 clear hk X0 Z0 K0
 go_upto_region 2 with fail
 refine opq (fun W2 => W2.heap[w1.heap.size]? = some (.cells #[.int .i64 (-1), .int .i64 (-1), .int .i64 (-1), .int .i64 (-1), .int .i64 (-1), .int .i64 (-1), .int .i64 (-1), .int .i64 (-1)] 36) ∧ Kp w1 W2) ⟨by exact last_of _ _, by exact kpt⟩ ?_
 rintro W2 ⟨xA2, xK2⟩
 have A2 := hid xA2
 have K2 := hid xK2
 clear xA2 xK2
 have X2 := hid (bl_kp X1.out K2.out)
 have Z2 := hid (bl_kp Z1.out K2.out)
 have KW := hid (K1.out.trans K2.out)
 have HX1 := hid (bl_lt X1.out)
 have HZ1 := hid (bl_lt Z1.out)
 clear X1 Z1
 obtain ⟨x0, x1, x2, x3, x4, x5, x6⟩ := cells7 (X2.out)
 go_wp2_with fail
 clear x0 x1 x2 x3 x4 x5 x6
 go_loopg [9] 3 (fun gg i wr => ∃ q : Nat, q + gg = 3 ∧ i = .int .i64 (q : Int) ∧ wr.heap[w1.heap.size]? = some (spn8 x q) ∧ Ks w1.heap.size W2 wr)
 case atStart => exact ⟨0, by omega, rfl, A2.out, Ks.refl _ _⟩
 case round =>
  obtain ⟨q, hq, rfl, hA, hK⟩ := hrel
  have K := hid hK
  have X := hid (bl_ks X2.out (by have := HX1.out; omega) hK)
  have Z := hid (bl_ks Z2.out (by have := HZ1.out; omega) hK)
  clear hK
  match q, hq with
  | 0, hq =>
   have A : Hid (wr.heap[w1.heap.size]? = some (.cells #[.int .i64 (-1), .int .i64 (-1), .int .i64 (-1), .int .i64 (-1), .int .i64 (-1), .int .i64 (-1), .int .i64 (-1), .int .i64 (-1)] 36)) := hA
   clear hA
   go_upto_region 5 with fail
   refine opq (fun W5 => W5.heap[wr.heap.size]? = some (.cells #[.int .i8 x.f0, .int .i8 x.t0] 80) ∧ Kp wr W5) ⟨by exact last_of _ _, by exact kpt⟩ ?_
   rintro W5 ⟨xU5, xK5⟩
   have U5 := hid xU5
   have K5 := hid xK5
   clear xU5 xK5
   have A5 := hid (bl_kp A.out K5.out)
   have u0 := bl_cell (U5.out) 0 _ rfl
   have u1 := bl_cell (U5.out) 1 _ rfl
   have a0 := bl_cell (A5.out) 2 _ rfl
   have a1 := bl_cell (A5.out) 3 _ rfl
   have fa0 := bl_frozen (A5.out) 2
   have fa1 := bl_frozen (A5.out) 3
   go_wp2_with fail
   go_roundg (gk - 1)
   case measure => omega
   case rel => exact ⟨1, by omega, rfl, bl_put (bl_put A5.out _) _, ((K.out.kp K5.out (Nat.le_of_lt (bl_lt A.out))).set _ _).set _ _⟩
  | 1, hq =>
   have A : Hid (wr.heap[w1.heap.size]? = some (.cells #[.int .i64 (-1), .int .i64 (-1), .int .i64 x.f0, .int .i64 x.t0, .int .i64 (-1), .int .i64 (-1), .int .i64 (-1), .int .i64 (-1)] 36)) := hA
   clear hA
   go_upto_region 5 with fail
   refine opq (fun W5 => W5.heap[wr.heap.size]? = some (.cells #[.int .i8 x.f1, .int .i8 x.t1] 80) ∧ Kp wr W5) ⟨by exact last_of _ _, by exact kpt⟩ ?_
   rintro W5 ⟨xU5, xK5⟩
   have U5 := hid xU5
   have K5 := hid xK5
   clear xU5 xK5
   have A5 := hid (bl_kp A.out K5.out)
   have u0 := bl_cell (U5.out) 0 _ rfl
   have u1 := bl_cell (U5.out) 1 _ rfl
   have a0 := bl_cell (A5.out) 4 _ rfl
   have a1 := bl_cell (A5.out) 5 _ rfl
   have fa0 := bl_frozen (A5.out) 4
   have fa1 := bl_frozen (A5.out) 5
   go_wp2_with fail
   go_roundg (gk - 1)
   case measure => omega
   case rel => exact ⟨2, by omega, rfl, bl_put (bl_put A5.out _) _, ((K.out.kp K5.out (Nat.le_of_lt (bl_lt A.out))).set _ _).set _ _⟩
  | 2, hq =>
   have A : Hid (wr.heap[w1.heap.size]? = some (.cells #[.int .i64 (-1), .int .i64 (-1), .int .i64 x.f0, .int .i64 x.t0, .int .i64 x.f1, .int .i64 x.t1, .int .i64 (-1), .int .i64 (-1)] 36)) := hA
   clear hA
   go_upto_region 5 with fail
   refine opq (fun W5 => W5.heap[wr.heap.size]? = some (.cells #[.int .i8 x.f2, .int .i8 x.t2] 80) ∧ Kp wr W5) ⟨by exact last_of _ _, by exact kpt⟩ ?_
   rintro W5 ⟨xU5, xK5⟩
   have U5 := hid xU5
   have K5 := hid xK5
   clear xU5 xK5
   have A5 := hid (bl_kp A.out K5.out)
   have u0 := bl_cell (U5.out) 0 _ rfl
   have u1 := bl_cell (U5.out) 1 _ rfl
   have a0 := bl_cell (A5.out) 6 _ rfl
   have a1 := bl_cell (A5.out) 7 _ rfl
   have fa0 := bl_frozen (A5.out) 6
   have fa1 := bl_frozen (A5.out) 7
   go_wp2_with fail
   go_roundg (gk - 1)
   case measure => omega
   case rel => exact ⟨3, by omega, rfl, bl_put (bl_put A5.out _) _, ((K.out.kp K5.out (Nat.le_of_lt (bl_lt A.out))).set _ _).set _ _⟩
  | 3, hq =>
   obtain rfl : gk = 0 := by omega
   have A : Hid (wr.heap[w1.heap.size]? = some (.cells #[.int .i64 (-1), .int .i64 (-1), .int .i64 x.f0, .int .i64 x.t0, .int .i64 x.f1, .int .i64 x.t1, .int .i64 x.f2, .int .i64 x.t2] 36)) := hA
   clear hA
   obtain ⟨a0, a1, a2, a3, a4, a5, a6, a7⟩ := cells8 (A.out)
   have x0 := bl_cell (X.out) 0 _ rfl
   have fz0 := bl_frozen (Z.out) 0
   have fz1 := bl_frozen (Z.out) 1
   have fz2 := bl_frozen (Z.out) 2
   have fz3 := bl_frozen (Z.out) 3
   have fz4 := bl_frozen (Z.out) 4
   have fz5 := bl_frozen (Z.out) 5
   have fz6 := bl_frozen (Z.out) 6
   have fz7 := bl_frozen (Z.out) 7
   have fz8 := bl_frozen (Z.out) 8
   obtain ⟨z0, z1, z2, z3, z4, z5, z6, z7, z8⟩ := cells9 (Z.out)
   go_wp2_with fail
   exact bodyPost_ret (v := stv x) (st_ret rfl _ _ _ _ rfl (bl_set9s Z.out _ _ _ _ _ _ _ _ _) rfl) rfl ⟨rfl, Ks.up (P := w.heap.size + 1) (ks_set9s _ _ _ _ _ _ _ _ _) (K.out.up KW.out (by have := HZ1.out; have := K1.out.size; omega)) (by omega)⟩
  | q + 4, hq => omega
end Go.Proofs.YtnajcnhgeggngaaGreat.Way

/-! ### Gro -/

namespace Go.Proofs.YtnajcnhgeggngaaGreat.Way
set_option maxHeartbeats 2000000
set_option maxRecDepth 100000
open Go.RowKit Go.Proofs.YtnajcnhgeggngaaGreat

def stcs : List Sp → List Value
 | [] => []
 | x :: xs => stc x ++ stcs xs
theorem stcs_append (a b : List Sp) : stcs (a ++ b) = stcs a ++ stcs b := by
 induction a with
 | nil => rfl
 | cons x xs ih => rw [List.cons_append, stcs, stcs, ih, List.append_assoc]
theorem stcs_one (x : Sp) : stcs [x] = stc x := by rw [stcs, stcs, List.append_nil]
theorem stcs_length (a : List Sp) : (stcs a).length = a.length * 9 := by
 induction a with
 | nil => rfl
 | cons x xs ih => rw [stcs, List.length_append, ih, List.length_cons]; show 9 + xs.length * 9 = _; omega
theorem stcs_get (a : List Sp) : ∀ (j : Nat) x, a[j]? = some x → ∀ (i : Nat) u, (stc x)[i]? = some u → (stcs a)[j * 9 + i]? = some u := by
 induction a with
 | nil => intro j x hj; simp at hj
 | cons y ys ih =>
  intro j x hj i u hi
  have hi9 : i < 9 := (List.getElem?_eq_some_iff.1 hi).1
  match j, hj with
  | 0, hj =>
   obtain rfl : y = x := by simpa using hj
   rw [stcs, Nat.zero_mul, Nat.zero_add, List.getElem?_append_left (by show i < 9; exact hi9)]
   exact hi
  | j + 1, hj =>
   rw [stcs, List.getElem?_append_right (by show 9 ≤ _; omega), show (j + 1) * 9 + i - (stc y).length = j * 9 + i by show (j + 1) * 9 + i - 9 = _; omega]
   exact ih j x (by simpa using hj) i u hi
theorem stc_one (x : Sp) : ∀ u ∈ stc x, u.oneCell' = true := by
 intro u hu
 simp [stc] at hu
 rcases hu with rfl | rfl | rfl | rfl | rfl | rfl | rfl | rfl <;> rfl
abbrev stz : Value := .agg #[.int .i64 0, .int .i64 0, .int .i64 0, .int .i64 0, .int .i64 0, .int .i64 0, .int .i64 0, .int .i64 0, .int .i64 0]
theorem info38 : ∃ i, Tryz.prog.info? 38 = some i ∧ i.zero = some stz ∧ i.size = 9 ∧ i.bytes = 72 := by
 obtain ⟨i, hi, h0, h1, h2⟩ := info_parts (P := Tryz.prog) (e := 38) (z := stz) (size := 9) (bytes := 72) (by kernel_rfl)
 exact ⟨i, hi, h0, h1, h2⟩
structure StR (base : Nat) (w : World) (v : Value) (xs : List Sp) : Prop where
 own : w.ownsRow base 38 9 v xs.length (stcs xs)
theorem StR.nil (base : Nat) (w : World) : StR base w (.slice none 0 0) [] := ⟨World.ownsRow_nil _ _ _ _⟩
theorem StR.block {base : Nat} {w : World} {v : Value} {xs : List Sp} (h : StR base w v xs) : ∀ b, v.ownBlock = some b → base ≤ b ∧ b < w.heap.size := h.own.lt
theorem StR.turn {base : Nat} {w w' : World} {v : Value} {xs : List Sp} (h : StR base w v xs) (hk : ∀ b, v.ownBlock = some b → b < w.heap.size → w'.heap[b]? = w.heap[b]?) : StR base w' v xs := ⟨owns_same h.own hk⟩
theorem StR.kp {base : Nat} {w w' : World} {v : Value} {xs : List Sp} (h : StR base w v xs) (k : Kp w w') : StR base w' v xs := h.turn (fun b _ hl => k.block b hl)
theorem StR.form {base : Nat} {w : World} {v : Value} {xs : List Sp} (h : StR base w v xs) : ∃ ad c, v = .slice ad xs.length c ∧ xs.length ≤ c := by
 rcases h.own.2 with ⟨rfl, h0⟩ | ⟨g, cap, cur, hv, _, _, hc, _⟩
 ·
  exact ⟨none, 0, by rw [h0], by omega⟩
 ·
  exact ⟨_, cap, hv, hc⟩
structure StL (w : World) (ok : Nat → Prop) (v : Value) (xs : List Sp) : Prop where
 ex : ∃ ad c, v = .slice ad xs.length c ∧ xs.length ≤ c ∧ (0 < xs.length → ∃ b, ad = some ⟨b, 0, none⟩ ∧ ok b ∧ b < w.heap.size ∧ ∀ (j : Nat) x, xs[j]? = some x → ∀ i u, (stc x)[i]? = some u → w.cell? ⟨b, j * 9 + i, none⟩ = some u)
theorem StL.keep {w w' : World} {ok ok' : Nat → Prop} {v : Value} {xs : List Sp} (h : StL w ok v xs) (hs : w.heap.size ≤ w'.heap.size) (hk : ∀ b, ok b → b < w.heap.size → ok' b ∧ w'.heap[b]? = w.heap[b]?) : StL w' ok' v xs := by
 obtain ⟨ad, c, h1, h2, h3⟩ := h.ex
 refine ⟨ad, c, h1, h2, fun hl => ?_⟩
 obtain ⟨b, e, hb, hlt, hc⟩ := h3 hl
 exact ⟨b, e, (hk b hb hlt).1, by omega, fun j x hj i u hi => (cell_same (hk b hb hlt).2 _).trans (hc j x hj i u hi)⟩
theorem StR.stl {base : Nat} {w : World} {v : Value} {xs : List Sp} (h : StR base w v xs) {ok : Nat → Prop} (hok : ∀ b, v.ownBlock = some b → ok b) : StL w ok v xs := by
 have hown := h.own
 rcases h.own.2 with ⟨rfl, h0⟩ | ⟨g, cap, cur, rfl, hb, hg, hc, _⟩
 ·
  exact ⟨none, 0, by rw [h0], by omega, fun hl => absurd hl (by omega)⟩
 ·
  refine ⟨_, cap, rfl, hc, fun _ => ⟨g, rfl, hok g rfl, bl_lt hg, fun j x hj i u hi => ?_⟩⟩
  have hj' : j < xs.length := (List.getElem?_eq_some_iff.1 hj).1
  have hi9 : i < 9 := (List.getElem?_eq_some_iff.1 hi).1
  rw [World.ownsRow.cellAt hown (j * 9 + i) (by omega)]
  exact stcs_get xs j x hj i u hi
structure MoreS (base : Nat) (w : World) (v : Value) (xs : List Sp) (x : Sp) (v' : Value) (w' : World) : Prop where
 row : StR base w' v' (xs ++ [x])
 grown : w.grownBy w' v.ownBlock
 block : v'.ownBlock = v.ownBlock ∨ v'.ownBlock = some w.heap.size
theorem run_append_st (w : World) (base : Nat) (v : Value) (xs : List Sp) (x : Sp) (ty : TypeId) (hG : StR base w v xs) (B : Nat) (hB : w.heap[B]? = some (sto x)) (hn : xs.length ≤ 1000000000000) (hb : base ≤ w.heap.size) :
  ∃ v' w', (Builtin.append_ #[31, 31] ty #[v, .slice (some ⟨B, 0, none⟩) 1 1]).run Tryz.prog w = .ok v' w' ∧ MoreS base w v xs x v' w' := by
 obtain ⟨i, hi, hz, hsz, hby⟩ := info38
 obtain ⟨v', w', hr, h2, h3, _, h5⟩ := run_append_own_at (P := Tryz.prog) w base 31 ty 38 i stz 9 72 Tryz.underlying31 hi hz hsz hby rfl (by omega) v xs.length (stcs xs) hG.own ⟨B, 0, none⟩ 1 1 (stc x) rfl (fun j u hj => by
  rw [Go.WideShapes.add_plain, Nat.zero_add]
  refine bl_cell hB j u ?_
  rw [← Array.getElem?_toList]
  exact hj) (stc_one x) (by unfold maxLen; omega) (by omega) hb
 refine ⟨v', w', hr, ⟨⟨?_⟩, h3, h5⟩⟩
 rw [List.length_append, stcs_append, stcs_one]
 exact h2
theorem wpList_append_st {ops : Array Oper} {rest : List Oper} {o : Oper} {a : Act} {Q : Exit → Act → World → Prop} (w : World) (hgd : o.guard = none) (s y : Operand)
  (ho : o.op = .call { callee := .builtin .append, args := #[s, y], argTypes := #[31, 31] })
  (base : Nat) (v : Value) (xs : List Sp) (x : Sp) (hs : a.eval s = v) (B : Nat) (hy : a.eval y = .slice (some ⟨B, 0, none⟩) 1 1) (hG : Hid (StR base w v xs)) (hB : w.heap[B]? = some (sto x)) (hn : xs.length ≤ 1000000000000) (hb : base ≤ w.heap.size)
  (h : ∀ v' w', MoreS base w v xs x v' w' → wpList Tryz.prog ops Q rest (a.put o.dst v') w') :
  wpList Tryz.prog ops Q (o :: rest) a w := by
 refine wpList_plain hgd fun K hK => ?_
 obtain ⟨v', w', hr, hg⟩ := run_append_st w base v xs x o.type hG.out B hB hn hb
 unfold Oper.wp execOp
 simp only [ho, resolve, invoke, builtin, Sem.run_bind, Sem.run_pure, Result.andThen_ok, List.map_toArray, List.map_cons, List.map_nil, hs, hy, hr]
 exact hK _ _ (h v' w' hg)
structure FreshR (n sz c : Nat) (w w' : World) : Prop where
 cap : n ≤ c ∧ c ≤ maxLen
 blk : ∃ cur, w'.heap[sz]? = some (.cells cur 38) ∧ cur.size = c * 9
 kp : Kp w w'
theorem wpList_grow {ops : Array Oper} {rest : List Oper} {o : Oper} {a : Act} {Q : Exit → Act → World → Prop} (w : World) (hgd : o.guard = none) (s y : Operand)
  (ho : o.op = .call { callee := .builtin .append, args := #[s, y], argTypes := #[31, 3] })
  (n : Nat) (hs : a.eval s = .slice none 0 0) (hy : a.eval y = .int .i64 (n : Int)) (h0 : 0 < n) (hn : n ≤ 1000000000000)
  (h : ∀ c w', FreshR n w.heap.size c w w' → wpList Tryz.prog ops Q rest (a.put o.dst (.slice (some ⟨w.heap.size, 0, none⟩) n c)) w') :
  wpList Tryz.prog ops Q (o :: rest) a w := by
 refine wpList_plain hgd fun K hK => ?_
 obtain ⟨i, hi, hz, hsz, hby⟩ := info38
 have hr := Go.Lib.run_append_nil_zeros (P := Tryz.prog) w 31 3 o.type 38 i stz .i64 .i64 Tryz.underlying31 Tryz.underlying3 hi hz n h0 (by omega) (by omega) (by rw [hby]; omega)
 unfold Oper.wp execOp
 simp only [ho, resolve, invoke, builtin, Sem.run_bind, Sem.run_pure, Result.andThen_ok, List.map_toArray, List.map_cons, List.map_nil, hs, hy, hr]
 have hge := grownCap_ge w n 0 38
 refine hK _ _ (h _ _ ⟨⟨hge, grownCap_le_maxLen w n 0 38 (by unfold maxLen; omega)⟩, ⟨_, last_of _ _, ?_⟩, ((Kp.refl w).drew).alloc _⟩)
 rw [Array.size_append, size_zeroCells, size_zeroCells, show stz.cells.size = 9 from rfl, ← Nat.add_mul, Nat.add_sub_cancel' hge]
theorem FreshR.row {n c sz : Nat} {w w' : World} (h : FreshR n sz c w w') (base : Nat) (hb : base ≤ sz) : StR base w' (.slice (some ⟨sz, 0, none⟩) 0 c) [] := by
 obtain ⟨cur, h1, h2⟩ := h.blk
 exact ⟨⟨rfl, .inr ⟨sz, c, cur, rfl, hb, h1, Nat.zero_le _, h.cap.2, h2, rfl⟩⟩⟩
theorem grow_any (n : Nat) (hn : n ≤ 1000000000000) (w : World) :
  Calls Tryz.prog 24 #[.slice none 0 0, .int .i64 (n : Int)] w fun e w' => ∃ v, e = .returned v ∧ StR w.heap.size w' v [] ∧ Kp w w' := by
 have gn : ¬ (n : Int) < 0 := by omega
 have gw : wrap64 (n : Int) = (n : Int) := by unfold wrap64; omega
 have HN := hid hn
 clear hn
 by_cases h0 : n = 0
 ·
  subst h0
  go_enter Tryz.func24, Tryz.ntmps24
  go_wp2_with fail
  go_ret
  exact ⟨_, rfl, StR.nil _ _, kpt⟩
 ·
  have hp : 0 < (n : Int) := by omega
  have H0 := hid (show 0 < n by omega)
  clear h0
  go_enter Tryz.func24, Tryz.ntmps24
  go_wp2_with (at_builtin; go_must (refine wpList_grow _ (by rfl) _ _ (by rfl) n (by rfl) (by show Value.int IntKind.i64 (wrap64 (n : Int)) = _; rw [gw]) H0.out ?hn ?_))
  case hn => exact HN.out
  intro c w' fr
  have FR := hid fr
  clear fr
  go_wp2_with fail
  go_ret
  exact ⟨_, rfl, FR.out.row _ (Nat.le_refl _), FR.out.kp⟩
end Go.Proofs.YtnajcnhgeggngaaGreat.Way
