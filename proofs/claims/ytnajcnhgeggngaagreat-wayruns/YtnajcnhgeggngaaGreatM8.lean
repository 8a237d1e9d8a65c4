/-
  Texts of this claim: RAdd, WRow, Walk, HeedR, Bld, Srt, Unb0, TKey, RAddB.
-/
import Derived.Test.YtnajcnhgeggngaaGreatM7
import Derived.Test.YtnajcnhgeggngaaGreatM6
import Derived.OrdersIn
import Derived.Shelf.Sort.AssemblyIn
import Derived.Sort.EveryDepth
import Derived.Sort.OwnSortedInts

/-! ### RAdd -/

namespace Go.Proofs.YtnajcnhgeggngaaGreat.Way
set_option maxHeartbeats 2000000
set_option maxRecDepth 100000
open Go.RowKit Go.Proofs.YtnajcnhgeggngaaGreat

theorem Kx.past {S S' : Nat → Prop} {a b c : World} (h : Kx S a b) (g : Kx S' b c) (hs : ∀ k, k < a.heap.size → S' k → False) : Kx S a c := ⟨h.lo.trans g.lo, fun k hk hn => (g.block k (Nat.lt_of_lt_of_le hk h.size) (fun e => hs k hk e)).trans (h.block k hk hn)⟩
theorem make175 (w : World) : (Instr.makeMap 175 none).run Tryz.prog w = .ok (.map (some w.heap.size)) (w.alloc (.map #[] 0)) := run_makeMap 175 w
structure AddD (ob : Value → Nat → Option Nat → Obj) (base h : Nat) (xs : List Sp) (x : Sp) (lv : Value) (sn : Option Nat) (R : Nat) (w : World) (e : Ending) (w' : World) : Prop where
 ex : e = .returned (.tuple #[]) ∧ ∃ lv' pl' sn', w'.heap[R]? = some (ob lv' pl' sn') ∧ RowI base w' h (addL h xs x) lv' pl' sn' ∧ (∀ b, lv'.ownBlock = some b → lv.ownBlock = some b ∨ w.heap.size ≤ b) ∧ (∀ b, sn' = some b → sn = some b ∨ w.heap.size ≤ b) ∧ Kx (rowB R lv sn) w w'
structure Add3 (base h : Nat) (xs : List Sp) (x : Sp) (lv : Value) (sn : Option Nat) (K B R : Nat) (w : World) (lv' : Value) (wc : World) : Prop where
 row : SpR base wc lv' (xs ++ [x])
 own : ∀ b, lv'.ownBlock = some b → lv.ownBlock = some b ∨ w.heap.size ≤ b
 xb : wc.heap[B]? = some (spo x)
 key : wc.heap[K]? = some (spo (x.only h))
 set : ∀ b, sn = some b → base ≤ b ∧ SetAt wc b (xs.map (Sp.only h)) ∧ h ≠ 0 ∧ 8 < xs.length
 kx : Kx (rowB R lv sn) w wc
theorem own_cells {base : Nat} {w : World} {v : Value} {xs : List Sp} (h : SpR base w v xs) {b : Nat} (hb : v.ownBlock = some b) {es : Array MapEntry} {cl : Nat} : w.heap[b]? ≠ some (.map es cl) := by
 rcases h.own.2 with ⟨rfl, _⟩ | ⟨g, cap, cur, rfl, _, hg, _⟩
 ·
  cases hb
 ·
  injection hb with hb
  subst hb
  rw [hg]
  intro e
  cases e
theorem add3 {base h pl : Nat} {xs : List Sp} {x : Sp} {lv v' : Value} {sn : Option Nat} {K B R j : Nat} {W2 Wq w' : World} (hRb : R < base) (hB : ¬ lv.ownBlock = some B) (hK : ¬ lv.ownBlock = some K) (hBR : B ≠ R) (hKR : K ≠ R) (I2 : RowI base W2 h xs lv pl sn) (X2 : W2.heap[B]? = some (spo x)) (K2 : W2.heap[K]? = some (spo (x.only h))) (hq : W2.heap.size ≤ Wq.heap.size) (md : MoreD base Wq lv xs x v' w') (k : Kx (fun b => lv.ownBlock = some b) W2 w') :
  Add3 base h xs x lv sn K B R W2 v' (w'.setCell ⟨R, j, none⟩ v') := by
 have off : ∀ b, b ≠ R → (w'.setCell ⟨R, j, none⟩ v').heap[b]? = w'.heap[b]? := fun b hb => Below.heap_setCell w' ⟨R, j, none⟩ v' b hb
 refine ⟨md.row.turn (fun b hb _ => off b (by have := (md.row.block b hb).1; omega)), fun b hb => ?_, (off B hBR).trans (bl_kx X2 k hB), (off K hKR).trans (bl_kx K2 k hK), fun b hb => ?_, ?_⟩
 ·
  rcases md.block with e | e
  ·
   exact Or.inl (e ▸ hb)
  ·
   rw [e] at hb
   injection hb with hb
   right
   omega
 ·
  obtain ⟨h1, h2, h3⟩ := I2.set b hb
  refine ⟨h1, h2.same ((off b (by omega)).trans (k.block b h2.lt (fun e => ?_))), h3⟩
  obtain ⟨es, cl, hm, _⟩ := h2.ex
  exact own_cells I2.row e hm
 ·
  exact Kx.set (S := rowB R lv sn) (k.mono (fun b _ e => Or.inr (Or.inl e))) (fun _ => Or.inl rfl) j v'

set_option maxHeartbeats 4000000 in
theorem raddA_any (R h pl : Nat) (lv : Value) (sn : Option Nat) (base : Nat) (xs : List Sp) (x : Sp) (hx0 : x.Ok) (w : World) (hR : w.heap[R]? = some (.cells #[.int .u8 (h : Int), lv, .int .u64 (pl : Int), .map sn] 177)) (hI : RowI base w h xs lv pl sn) (hRb : R < base) (hbw : base ≤ w.heap.size) :
  Calls Tryz.prog 126 #[.pointer (some ⟨R, 0, none⟩), spv x] w fun e w' => AddD (fun lv pl sn => (.cells #[.int .u8 (h : Int), lv, .int .u64 (pl : Int), .map sn] 177)) base h xs x lv sn R w e w' := by
 have HR := hid hR
 have HI := hid hI
 have OA := hid (fun W => only_any x h hI.lt W)
 have hx := hid hx0
 clear hR hI
 go_enter Tryz.func126, Tryz.ntmps126
 go_upto_region 1 with fail
 refine opq (fun W0 => W0.heap[w.heap.size]? = some (spo x) ∧ W0.heap[R]? = some (.cells #[.int .u8 (h : Int), lv, .int .u64 (pl : Int), .map sn] 177) ∧ Kp w W0 ∧ RowI base W0 h xs lv pl sn ∧ w.heap.size < W0.heap.size) ⟨by exact last_of _ _, by exact bl_kp HR.out kpt, by exact kpt, by exact HI.out.kp kpt, by simp⟩ ?_
 rintro W0 ⟨xX0, xR0, xK0, xI0, xZ0⟩
 have X0 := hid xX0
 have R0 := hid xR0
 have K0 := hid xK0
 have I0 := hid xI0
 have Z0 := hid xZ0
 clear xX0 xR0 xK0 xI0 xZ0
 go_cut [4] (fun v wc => ∃ K, v = .pointer (some ⟨K, 0, none⟩) ∧ W0.heap.size ≤ K ∧ wc.heap[K]? = some (spo (x.only h)) ∧ Kp W0 wc)
 case first =>
  have Q0 : Kp W0 W0.drew := (Kp.refl _).drew
  have MK : Hid (∀ W, Kp W0 W → W.cell? ⟨w.heap.size, 0, none⟩ = some (.int .i8 x.a) ∧ W.cell? ⟨w.heap.size, 1, none⟩ = some (.int .i8 x.f0) ∧ W.cell? ⟨w.heap.size, 2, none⟩ = some (.int .i8 x.t0) ∧ W.cell? ⟨w.heap.size, 3, none⟩ = some (.int .i8 x.f1) ∧ W.cell? ⟨w.heap.size, 4, none⟩ = some (.int .i8 x.t1) ∧ W.cell? ⟨w.heap.size, 5, none⟩ = some (.int .i8 x.f2) ∧ W.cell? ⟨w.heap.size, 6, none⟩ = some (.int .i8 x.t2) ∧ W.cell? ⟨R, 0, none⟩ = some (.int .u8 (h : Int)) ∧ Hid (Kp W0 W)) := fun W k => ⟨bl_cell (bl_kp X0.out k) 0 _ rfl, bl_cell (bl_kp X0.out k) 1 _ rfl, bl_cell (bl_kp X0.out k) 2 _ rfl, bl_cell (bl_kp X0.out k) 3 _ rfl, bl_cell (bl_kp X0.out k) 4 _ rfl, bl_cell (bl_kp X0.out k) 5 _ rfl, bl_cell (bl_kp X0.out k) 6 _ rfl, bl_cell (bl_kp R0.out k) 0 _ rfl, k⟩
  refine wp_region_noPanic ?_
  refine hdrew MK Q0 (fun hH => ?_)
  have KQ := Q0
  refine tk 0 (some 7) (Op.load 83 (Operand.tmp 3)) 83 (v := ?v0a1) rfl ?h0a1 hH ?_
  case h0a1 => intro _ _; go_simp; try with_reducible rfl
  try simp only [ps]
  refine tk 1 (some 8) (Op.move (Operand.tmp 0)) 179 (v := ?v1a2) rfl ?h1a2 hH ?_
  case h1a2 => intro _ _; go_simp; try with_reducible rfl
  try simp only [ps]
  refine tk 2 (some 9) (Op.nilCheck (Operand.tmp 8)) 0 (v := ?v2a3) rfl ?h2a3 hH ?_
  case h2a3 => intro _ _; go_simp; try with_reducible rfl
  try simp only [ps]
  refine tk 3 (some 10) (Op.fieldAddr 177 (Operand.tmp 9) 0) 0 (v := ?v3a4) rfl ?h3a4 hH ?_
  case h3a4 => intro _ _; go_simp; try with_reducible rfl
  try simp only [ps]
  refine tk 4 (some 11) (Op.load 75 (Operand.tmp 10)) 75 (v := ?v4a5) rfl ?h4a5 hH ?_
  case h4a5 => intro _ _; go_simp; try with_reducible rfl
  try simp only [ps]
  refine wpAnyH_ready (rs := [5, 6]) (by kernel_rfl) (by simp) ?_
  refine AllReadyH.cons (o := { dst := some 12, op := Op.call { callee := Callee.value (Operand.func 55), args := #[Operand.tmp 7, Operand.tmp 11], argTypes := #[83, 75] }, type := 83, pos := "spot.go:84", after := #[{ on := 0, ground := Ground.data }, { on := 4, ground := Ground.data }], guard := none }) rfl (fun K hKq => ?_) ?_
  ·
   go_simp
   refine (OA.out _).mono ?_
   rintro e y1 ⟨rfl, kq⟩
   have hs1 : W0.heap.size ≤ y1.heap.size := kq.size
   refine hKq.out _ _ (MK.out _ (KQ.trans kq)) (fun hN => ?_)
   clear kq
   clear hKq K hH KQ
   have hH := hN
   clear hN
   have KQ := hH.2.2.2.2.2.2.2.2.out
   try simp only [ps]
   refine wpAnyH_ready (rs := [6]) (by kernel_rfl) (by simp) ?_
   refine AllReadyH.cons (o := { dst := some 4, op := Op.alloc 83, type := 0, pos := "spot.go:84", after := #[], guard := none }) rfl (fun K hKq => ?_) AllReadyH.nil
   go_simp
   refine hKq.out _ _ (MK.out _ (KQ.alloc _)) (fun hN => ?_)
   have KB2 : Hid ((y1.alloc (.cells #[.int .i8 0, .int .i8 0, .int .i8 0, .int .i8 0, .int .i8 0, .int .i8 0, .int .i8 0] 83)).heap[y1.heap.size]? = some (.cells #[.int .i8 0, .int .i8 0, .int .i8 0, .int .i8 0, .int .i8 0, .int .i8 0, .int .i8 0] 83)) := last_of _ _
   clear hKq K hH KQ
   have hH := hN
   clear hN
   have KQ := hH.2.2.2.2.2.2.2.2.out
   try simp only [ps]
   refine wpAnyH_ready (rs := [7]) (by kernel_rfl) (by simp) ?_
   refine AllReadyH.cons (o := { dst := none, op := Op.store 83 (Operand.tmp 4) (Operand.tmp 12), type := 0, pos := "spot.go:84", after := #[{ on := 6, ground := Ground.data }, { on := 5, ground := Ground.data }, { on := 5, ground := Ground.chain }, { on := 0, ground := Ground.phase }, { on := 1, ground := Ground.phase }, { on := 2, ground := Ground.phase }, { on := 3, ground := Ground.phase }, { on := 4, ground := Ground.phase }, { on := 5, ground := Ground.phase }, { on := 6, ground := Ground.phase }], guard := none }) rfl (fun K hKq => ?_) AllReadyH.nil
   obtain ⟨U, hU⟩ : ∃ U, y1.alloc (.cells #[.int .i8 0, .int .i8 0, .int .i8 0, .int .i8 0, .int .i8 0, .int .i8 0, .int .i8 0] 83) = U := ⟨_, rfl⟩
   rw [hU] at hH KQ KB2 ⊢
   clear hU
   obtain ⟨q0, fq0, q1, fq1, q2, fq2, q3, fq3, q4, fq4, q5, fq5, q6, fq6⟩ := cellf7 (KB2.out)
   go_simp
   refine hKq.out _ _ (MK.out _ (Ks.up (P := y1.heap.size) (ks_set7 _ _ _ _ _ _ _) KQ (by omega))) (fun hN => ?_)
   clear q0 fq0 q1 fq1 q2 fq2 q3 fq3 q4 fq4 q5 fq5 q6 fq6
   clear hKq K hH KQ
   have hH := hN
   clear hN
   have KQ := hH.2.2.2.2.2.2.2.2.out
   try simp only [ps]
   refine wpAnyH_done (by kernel_rfl) ?_ _
   refine NoPanic.normal ?_
   go_wp2_with fail
   go_meet
   case rel => exact ⟨_, rfl, by omega, bl_set7 KB2.out _ _ _ _ _ _ _, KQ⟩
  refine AllReadyH.cons (o := { dst := some 4, op := Op.alloc 83, type := 0, pos := "spot.go:84", after := #[], guard := none }) rfl (fun K hKq => ?_) ?_
  ·
   go_simp
   refine hKq.out _ _ (MK.out _ (KQ.alloc _)) (fun hN => ?_)
   have KB1 : Hid ((W0.alloc (.cells #[.int .i8 0, .int .i8 0, .int .i8 0, .int .i8 0, .int .i8 0, .int .i8 0, .int .i8 0] 83)).heap[W0.heap.size]? = some (.cells #[.int .i8 0, .int .i8 0, .int .i8 0, .int .i8 0, .int .i8 0, .int .i8 0, .int .i8 0] 83)) := last_of _ _
   clear hKq K hH KQ
   have hH := hN
   clear hN
   have KQ := hH.2.2.2.2.2.2.2.2.out
   try simp only [ps]
   refine wpAnyH_ready (rs := [5]) (by kernel_rfl) (by simp) ?_
   refine AllReadyH.cons (o := { dst := some 12, op := Op.call { callee := Callee.value (Operand.func 55), args := #[Operand.tmp 7, Operand.tmp 11], argTypes := #[83, 75] }, type := 83, pos := "spot.go:84", after := #[{ on := 0, ground := Ground.data }, { on := 4, ground := Ground.data }], guard := none }) rfl (fun K hKq => ?_) AllReadyH.nil
   go_simp
   refine (OA.out _).mono ?_
   rintro e y2 ⟨rfl, kq⟩
   have KB2 : Hid (y2.heap[W0.heap.size]? = some (.cells #[.int .i8 0, .int .i8 0, .int .i8 0, .int .i8 0, .int .i8 0, .int .i8 0, .int .i8 0] 83)) := bl_kp (w := (W0.alloc (.cells #[.int .i8 0, .int .i8 0, .int .i8 0, .int .i8 0, .int .i8 0, .int .i8 0, .int .i8 0] 83)).drew) KB1.out kq
   have hs2 : W0.heap.size < y2.heap.size := Nat.lt_of_lt_of_le (by simp) kq.size
   refine hKq.out _ _ (MK.out _ (KQ.trans kq)) (fun hN => ?_)
   clear kq
   clear hKq K hH KQ
   have hH := hN
   clear hN
   have KQ := hH.2.2.2.2.2.2.2.2.out
   try simp only [ps]
   refine wpAnyH_ready (rs := [7]) (by kernel_rfl) (by simp) ?_
   refine AllReadyH.cons (o := { dst := none, op := Op.store 83 (Operand.tmp 4) (Operand.tmp 12), type := 0, pos := "spot.go:84", after := #[{ on := 6, ground := Ground.data }, { on := 5, ground := Ground.data }, { on := 5, ground := Ground.chain }, { on := 0, ground := Ground.phase }, { on := 1, ground := Ground.phase }, { on := 2, ground := Ground.phase }, { on := 3, ground := Ground.phase }, { on := 4, ground := Ground.phase }, { on := 5, ground := Ground.phase }, { on := 6, ground := Ground.phase }], guard := none }) rfl (fun K hKq => ?_) AllReadyH.nil
   obtain ⟨q0, fq0, q1, fq1, q2, fq2, q3, fq3, q4, fq4, q5, fq5, q6, fq6⟩ := cellf7 (KB2.out)
   go_simp
   refine hKq.out _ _ (MK.out _ (Ks.up (P := W0.heap.size) (ks_set7 _ _ _ _ _ _ _) KQ (by omega))) (fun hN => ?_)
   clear q0 fq0 q1 fq1 q2 fq2 q3 fq3 q4 fq4 q5 fq5 q6 fq6
   clear hKq K hH KQ
   have hH := hN
   clear hN
   have KQ := hH.2.2.2.2.2.2.2.2.out
   try simp only [ps]
   refine wpAnyH_done (by kernel_rfl) ?_ _
   refine NoPanic.normal ?_
   go_wp2_with fail
   go_meet
   case rel => exact ⟨_, rfl, by omega, bl_set7 KB2.out _ _ _ _ _ _ _, KQ⟩
  exact AllReadyH.nil
 case rest =>
 obtain ⟨K, rfl, hK, hkb, k1⟩ := hcut
 rename World => W1
 have X1 := hid (bl_kp X0.out k1)
 have R1 := hid (bl_kp R0.out k1)
 have KB1 := hid hkb
 have I1 := hid (I0.out.kp k1)
 have K1 := hid (K0.out.trans k1)
 have HSZ := hid (show w.heap.size < K from Nat.lt_of_lt_of_le Z0.out hK)
 have HRB := hid hRb
 have HRW := hid (show R < w.heap.size from bl_lt HR.out)
 have HNR := hid (show ¬ lv.ownBlock = some R from fun e => by have := (HI.out.row.block R e).1; omega)
 have HNX := hid (show ¬ lv.ownBlock = some w.heap.size from fun e => by have := (HI.out.row.block _ e).2; omega)
 have HNK := hid (show ¬ lv.ownBlock = some K from fun e => by have := (HI.out.row.block _ e).2; have := HSZ.out; omega)
 have HXR := hid (show w.heap.size ≠ R by have := HRW.out; omega)
 have HKR := hid (show K ≠ R by have := HRW.out; have := HSZ.out; omega)
 have HBW := hid hbw
 clear hK hkb k1 X0 R0 K0 I0 Z0 OA hRb hbw
 obtain ⟨q0, q1, q2, q3, q4, q5, q6⟩ := cells7 (KB1.out)
 go_wp2_with fail
 refine (rhasA_any R h pl lv sn I1.out.lt base xs (x.only h) (hx.out.only h) (only_only h x) _ R1.out I1.out.row (by have := I1.out.few; omega) I1.out.pl (fun b hb => ⟨(I1.out.set b hb).2.1, (I1.out.set b hb).2.2.1⟩)).mono ?_
 rintro e W2 ⟨rfl, k2⟩
 have X2 := hid (bl_kp X1.out k2)
 have R2 := hid (bl_kp R1.out k2)
 have KB2 := hid (bl_kp KB1.out k2)
 have I2 := hid (I1.out.kp k2)
 have K2 := hid (K1.out.trans k2)
 clear k2 X1 R1 KB1 I1 K1 q0 q1 q2 q3 q4 q5 q6
 obtain ⟨q, hq⟩ : ∃ q, xs.any (fun y => y.only h == x.only h) = q := ⟨_, rfl⟩
 have HQ := hid hq
 rw [hq]
 clear hq
 cases q with
 | true =>
  have E : Hid (addL h xs x = xs) := by show _ = _; unfold addL; rw [HQ.out]; rfl
  go_wp2_with fail
  refine bodyPost_ret (v := .tuple #[]) (results_none rfl _ _ _) rfl ⟨⟨rfl, lv, pl, sn, R2.out, by rw [E.out]; exact I2.out, fun b hb => Or.inl hb, fun b hb => Or.inl hb, Kp.kx K2.out⟩⟩
 | false =>
 go_upto_region 3 with fail
 go_cut [] (fun wc => ∃ lv', wc.heap[R]? = some (.cells #[.int .u8 (h : Int), lv', .int .u64 (pl : Int), .map sn] 177) ∧ Add3 base h xs x lv sn K w.heap.size R W2 lv' wc)
 case first =>
  have Q0 : Kx (fun b => lv.ownBlock = some b) W2 W2.drew := (Kx.refl _ _).drew
  have MK : Hid (∀ W, Kx (fun b => lv.ownBlock = some b) W2 W → W.cell? ⟨R, 1, none⟩ = some (lv) ∧ W.cell? ⟨w.heap.size, 0, none⟩ = some (.int .i8 x.a) ∧ W.cell? ⟨w.heap.size, 1, none⟩ = some (.int .i8 x.f0) ∧ W.cell? ⟨w.heap.size, 2, none⟩ = some (.int .i8 x.t0) ∧ W.cell? ⟨w.heap.size, 3, none⟩ = some (.int .i8 x.f1) ∧ W.cell? ⟨w.heap.size, 4, none⟩ = some (.int .i8 x.t1) ∧ W.cell? ⟨w.heap.size, 5, none⟩ = some (.int .i8 x.f2) ∧ W.cell? ⟨w.heap.size, 6, none⟩ = some (.int .i8 x.t2) ∧ Hid (Kx (fun b => lv.ownBlock = some b) W2 W)) := fun W k => ⟨bl_cell (bl_kx R2.out k HNR.out) 1 _ rfl, bl_cell (bl_kx X2.out k HNX.out) 0 _ rfl, bl_cell (bl_kx X2.out k HNX.out) 1 _ rfl, bl_cell (bl_kx X2.out k HNX.out) 2 _ rfl, bl_cell (bl_kx X2.out k HNX.out) 3 _ rfl, bl_cell (bl_kx X2.out k HNX.out) 4 _ rfl, bl_cell (bl_kx X2.out k HNX.out) 5 _ rfl, bl_cell (bl_kx X2.out k HNX.out) 6 _ rfl, k⟩
  refine wp_region_noPanic ?_
  refine hdrewZ 10 MK Q0 (fun hH => ?_)
  have KQ := Q0
  refine zk 10 0 [] (some 16) (Op.move (Operand.tmp 0)) 179 (v := ?v0c1) rfl ?h0c1 hH ?_
  case h0c1 => intro _ _; go_simp; try with_reducible rfl
  try simp only [ps]
  refine zk 10 1 [] (some 17) (Op.move (Operand.tmp 0)) 179 (v := ?v1c2) rfl ?h1c2 hH ?_
  case h1c2 => intro _ _; go_simp; try with_reducible rfl
  try simp only [ps]
  refine zk 10 2 [] (some 18) (Op.nilCheck (Operand.tmp 17)) 0 (v := ?v2c3) rfl ?h2c3 hH ?_
  case h2c3 => intro _ _; go_simp; try with_reducible rfl
  try simp only [ps]
  refine zk 10 3 [] (some 19) (Op.fieldAddr 177 (Operand.tmp 18) 1) 0 (v := ?v3c4) rfl ?h3c4 hH ?_
  case h3c4 => intro _ _; go_simp; try with_reducible rfl
  try simp only [ps]
  refine zk 10 4 [] (some 20) (Op.load 68 (Operand.tmp 19)) 68 (v := ?v4c5) rfl ?h4c5 hH ?_
  case h4c5 => intro _ _; go_simp; try with_reducible rfl
  try simp only [ps]
  refine zk 10 5 [] (some 21) (Op.load 83 (Operand.tmp 3)) 83 (v := ?v5c6) rfl ?h5c6 hH ?_
  case h5c6 => intro _ _; go_simp; try with_reducible rfl
  try simp only [ps]
  refine anyZ_ready (rs := [6]) (by kernel_rfl) (by simp) ?_
  refine AllZ.cons (o := { dst := some 22, op := Op.buildSlice 68 1 #[(0, Operand.tmp 21)], type := 68, pos := "spot.go:88", after := #[{ on := 5, ground := Ground.data }], guard := none }) rfl (fun K hKq => ?_) AllZ.nil
  go_simp
  refine hKq.out _ _ (MK.out _ (KQ.alloc _)) (fun hN => ?_)
  clear hKq K hH KQ
  have hH := hN
  clear hN
  have KQ := hH.2.2.2.2.2.2.2.2.out
  try simp only [ps]
  refine anyZ_ready (rs := [7]) (by kernel_rfl) (by simp) ?_
  refine AllZ.cons (o := { dst := some 23, op := Op.call { callee := Callee.builtin Builtin.append, args := #[Operand.tmp 20, Operand.tmp 22], argTypes := #[68, 68] }, type := 68, pos := "spot.go:88", after := #[{ on := 4, ground := Ground.data }, { on := 6, ground := Ground.data }], guard := none }) rfl (fun K hKq => ?_) AllZ.nil
  refine step_append_sp _ (by rfl) _ _ (by rfl) base lv xs x (by rfl) W2.heap.size (by rfl) (I2.out.row.kp (((Kp.refl _).drew).alloc _)) hx.out (last_of _ _) (by have := I2.out.few; omega) (by have := HBW.out; have := K2.out.size; simp; omega) ?_
  rintro v' w' md
  obtain ⟨ad', c', hv', _⟩ := md.row.form
  obtain ⟨n', hn'⟩ : ∃ n', (xs ++ [x]).length = n' := ⟨_, rfl⟩
  rw [hn'] at hv'
  subst hv'
  have MD := hid md
  clear md hn'
  refine hKq.out _ _ (MK.out _ (KQ.grown MD.out.grown (fun k e _ => e))) (fun hN => ?_)
  clear hKq K hH KQ
  have hH := hN
  clear hN
  have KQ := hH.2.2.2.2.2.2.2.2.out
  try simp only [ps]
  refine zk 10 8 [9] (some 24) (Op.nilCheck (Operand.tmp 16)) 0 (v := ?v8c7) rfl ?h8c7 hH ?_
  case h8c7 => intro _ _; go_simp; try with_reducible rfl
  try simp only [ps]
  refine zk 10 9 [] (some 25) (Op.fieldAddr 177 (Operand.tmp 24) 1) 0 (v := ?v9c8) rfl ?h9c8 hH ?_
  case h9c8 => intro _ _; go_simp; try with_reducible rfl
  try simp only [ps]
  refine anyZ_ready (rs := [10]) (by kernel_rfl) (by simp) ?_
  refine AllZ.last (o := { dst := none, op := Op.store 68 (Operand.tmp 25) (Operand.tmp 23), type := 0, pos := "spot.go:88", after := #[{ on := 9, ground := Ground.data }, { on := 7, ground := Ground.data }, { on := 7, ground := Ground.chain }, { on := 0, ground := Ground.phase }, { on := 1, ground := Ground.phase }, { on := 2, ground := Ground.phase }, { on := 3, ground := Ground.phase }, { on := 4, ground := Ground.phase }, { on := 5, ground := Ground.phase }, { on := 6, ground := Ground.phase }, { on := 7, ground := Ground.phase }], guard := none }) rfl (Or.inl rfl) (fun K hKq => ?_) AllZ.nil
  have c1 := bl_cell (bl_kx R2.out KQ HNR.out) 1 _ rfl
  have f1 := bl_frozen (bl_kx R2.out KQ HNR.out) 1
  go_simp
  refine hKq.out _ _ ?_
  clear c1 f1
  clear hKq K
  try simp only [ps]
  refine anyZ_done (by kernel_rfl) ?_ _
  refine NoPanic.normal ?_
  go_wp2_with fail
  go_meet
  case rel => exact ⟨_, bl_put (bl_kx R2.out KQ HNR.out) _, add3 HRB.out HNX.out HNK.out HXR.out HKR.out I2.out X2.out KB2.out (by simp) MD.out KQ⟩
 case rest =>
 obtain ⟨lv', hr3, ha3⟩ := hcut
 rename World => W3
 have R3 := hid hr3
 have A3 := hid ha3
 have E : Hid (addL h xs x = xs ++ [x]) := by show _ = _; unfold addL; rw [HQ.out]; rfl
 obtain ⟨a, ha⟩ : ∃ a, x.a.toNat = a := ⟨_, rfl⟩
 have hxa := hx.out.a0
 have hxb := hx.out.a1
 have hpl2 := (I2.out.pl.more x hx.out)
 rw [ha] at hpl2
 have HPL := hid hpl2
 have HOR : Hid (bits .or .u64 (pl : Int) (IntKind.u64.wrap (2 ^ x.a.toNat)) = ((pl ||| 2 ^ a : Nat) : Int)) := by
  show _ = _
  have hp : (2 : Nat) ^ a < 2 ^ 61 := Nat.pow_lt_pow_right (by omega) (by omega)
  have hl := I2.out.pl.lt
  rw [ha, show (2 : Int) ^ a = ((2 ^ a : Nat) : Int) from (Int.natCast_pow 2 a).symm, wrap_nat (by omega), u64_or_nat _ _ (by omega) (by omega)]
 have HND : Hid (((xs ++ [x]).map (Sp.only h)).Nodup) := by
  show List.Nodup _
  rw [List.map_append, List.nodup_append]
  refine ⟨I2.out.nd, by simp, fun p hp r hr e => ?_⟩
  obtain ⟨y, hy, rfl⟩ := List.mem_map.1 hp
  have hr : r = x.only h := by simpa using hr
  have := List.any_eq_false.1 HQ.out y hy
  rw [e, hr] at this
  simp at this
 clear hr3 ha3 hpl2 HQ ha
 go_upto_region 4 with fail
 go_cut [] (fun wc => wc.heap[R]? = some (.cells #[.int .u8 (h : Int), lv', .int .u64 ((pl ||| 2 ^ a : Nat) : Int), .map sn] 177) ∧ Ks R W3 wc)
 case first =>
  have Q0 : Ks R W3 W3.drew := (Ks.refl _ _).drew
  have MK : Hid (∀ W, Ks R W3 W → W.cell? ⟨w.heap.size, 0, none⟩ = some (.int .i8 x.a) ∧ Hid (Ks R W3 W)) := fun W k => ⟨bl_cell (bl_ks A3.out.xb HXR.out k) 0 _ rfl, k⟩
  refine wp_region_noPanic ?_
  refine hdrewZ 10 MK Q0 (fun hH => ?_)
  have KQ := Q0
  refine zk 10 0 [] (some 26) (Op.move (Operand.tmp 0)) 179 (v := ?v0d1) rfl ?h0d1 hH ?_
  case h0d1 => intro _ _; go_simp; try with_reducible rfl
  try simp only [ps]
  refine zk 10 1 [] (some 27) (Op.nilCheck (Operand.tmp 26)) 0 (v := ?v1d2) rfl ?h1d2 hH ?_
  case h1d2 => intro _ _; go_simp; try with_reducible rfl
  try simp only [ps]
  refine zk 10 2 [] (some 28) (Op.fieldAddr 177 (Operand.tmp 27) 2) 0 (v := ?v2d3) rfl ?h2d3 hH ?_
  case h2d3 => intro _ _; go_simp; try with_reducible rfl
  try simp only [ps]
  refine zk 10 4 [] (some 30) (Op.fieldAddr 83 (Operand.tmp 3) 0) 0 (v := ?v4d4) rfl ?h4d4 hH ?_
  case h4d4 => intro _ _; go_simp; try with_reducible rfl
  try simp only [ps]
  refine zk 10 5 [] (some 31) (Op.load 78 (Operand.tmp 30)) 78 (v := ?v5d5) rfl ?h5d5 hH ?_
  case h5d5 => intro _ _; go_simp; try with_reducible rfl
  try simp only [ps]
  refine zk 10 6 [] (some 32) (Op.binOp BinOp.shl 22 (Operand.const (Value.int IntKind.u64 1)) (Operand.tmp 31) 78) 22 (v := ?v6d6) rfl ?h6d6 hH ?_
  case h6d6 => intro _ _; go_simp; try with_reducible rfl
  try simp only [ps]
  refine anyZ_ready (rs := [3]) (by kernel_rfl) (by simp) ?_
  refine AllZ.cons (o := { dst := some 29, op := Op.load 22 (Operand.tmp 28), type := 22, pos := "spot.go:89", after := #[{ on := 2, ground := Ground.data }], guard := none }) rfl (fun K hKq => ?_) AllZ.nil
  have c4 := bl_cell (bl_drew R3.out) 2 _ rfl
  go_simp
  refine hKq.out _ _ (MK.out _ KQ) (fun hN => ?_)
  clear c4
  clear hKq K hH KQ
  have hH := hN
  clear hN
  have KQ := hH.2.out
  try simp only [ps]
  refine zk 10 7 [] (some 33) (Op.binOp BinOp.or 22 (Operand.tmp 29) (Operand.tmp 32) 22) 22 (v := ?v7d7) rfl ?h7d7 hH ?_
  case h7d7 => intro _ _; go_simp; try with_reducible rfl
  try simp only [ps]
  refine zk 10 8 [9] (some 34) (Op.nilCheck (Operand.tmp 26)) 0 (v := ?v8d8) rfl ?h8d8 hH ?_
  case h8d8 => intro _ _; go_simp; try with_reducible rfl
  try simp only [ps]
  refine zk 10 9 [] (some 35) (Op.fieldAddr 177 (Operand.tmp 34) 2) 0 (v := ?v9d9) rfl ?h9d9 hH ?_
  case h9d9 => intro _ _; go_simp; try with_reducible rfl
  try simp only [ps]
  refine anyZ_ready (rs := [10]) (by kernel_rfl) (by simp) ?_
  refine AllZ.last (o := { dst := none, op := Op.store 22 (Operand.tmp 35) (Operand.tmp 33), type := 0, pos := "spot.go:89", after := #[{ on := 9, ground := Ground.data }, { on := 7, ground := Ground.data }, { on := 0, ground := Ground.phase }, { on := 1, ground := Ground.phase }, { on := 2, ground := Ground.phase }, { on := 3, ground := Ground.phase }, { on := 4, ground := Ground.phase }, { on := 5, ground := Ground.phase }, { on := 6, ground := Ground.phase }, { on := 7, ground := Ground.phase }], guard := none }) rfl (Or.inl rfl) (fun K hKq => ?_) AllZ.nil
  have c4 := bl_cell (bl_drew R3.out) 2 _ rfl
  have f4 := bl_frozen (bl_drew R3.out) 2
  go_simp
  refine hKq.out _ _ ?_
  clear c4 f4
  clear hKq K
  try simp only [ps]
  refine anyZ_done (by kernel_rfl) ?_ _
  refine NoPanic.normal ?_
  go_wp2_with fail
  go_meet
  case rel => exact ⟨by rw [HOR.out]; exact bl_put R3.out _, ((Ks.refl _ _).set _ _).drew⟩
 case rest =>
 obtain ⟨hr4, hk4⟩ := hcut
 rename World => W4w
 have R4 := hid hr4
 have S4 := hid (A3.out.row.turn (fun b hb hl => hk4.block b hl (by have := (A3.out.row.block b hb).1; have := HRB.out; omega)))
 have KB4 := hid (bl_ks A3.out.key HKR.out hk4)
 have Q4 := hid (fun b (hb : sn = some b) => (⟨(A3.out.set b hb).1, (A3.out.set b hb).2.1.same (hk4.block b (A3.out.set b hb).2.1.lt (by have := (A3.out.set b hb).1; have := HRB.out; omega)), (A3.out.set b hb).2.2⟩ : base ≤ b ∧ SetAt W4w b (xs.map (Sp.only h)) ∧ h ≠ 0 ∧ 8 < xs.length))
 have K4 : Hid (Kx (rowB R lv sn) w W4w) := ((Kp.kx K2.out).trans (A3.out.kx.mono (fun b _ q => q))).trans ⟨Below.mono hk4.lo (Nat.zero_le _), fun b hl hn => hk4.block b hl (fun e => hn (Or.inl e))⟩
 have OW := hid (fun b (hb : lv'.ownBlock = some b) => ((A3.out.own b hb).imp (fun q => q) (fun q => Nat.le_trans K2.out.size q) : lv.ownBlock = some b ∨ w.heap.size ≤ b))
 have hsz4 : W3.heap.size ≤ W4w.heap.size := hk4.size
 have HB4 := hid (show base ≤ W4w.heap.size by have := HBW.out; have := K4.out.size; omega)
 obtain ⟨ad', c', hlv, hlc⟩ := S4.out.form
 subst hlv
 obtain ⟨N, hN⟩ : ∃ N, (xs ++ [x]).length = N := ⟨_, rfl⟩
 have hNx : N = xs.length + 1 := by rw [← hN]; simp
 have HN := hid hN
 have HNX2 := hid hNx
 rw [hN] at R4 S4 OW hlc
 have hNb : N ≤ 4398046511105 := by have := I2.out.few; omega
 have DONE := hid (fun (w' : World) (sn' : Option Nat) (hr : w'.heap[R]? = some (.cells #[.int .u8 (h : Int), (.slice ad' N c'), .int .u64 ((pl ||| 2 ^ a : Nat) : Int), .map sn'] 177)) (hS : SpR base w' (.slice ad' N c') (xs ++ [x])) (hs : ∀ b, sn' = some b → base ≤ b ∧ SetAt w' b ((xs ++ [x]).map (Sp.only h)) ∧ h ≠ 0 ∧ 8 < (xs ++ [x]).length) (ho : ∀ b, sn' = some b → sn = some b ∨ w.heap.size ≤ b) (hk : Kx (rowB R lv sn) w w') =>
  (⟨⟨rfl, .slice ad' N c', pl ||| 2 ^ a, sn', hr, by rw [E.out]; exact ⟨I2.out.lt, hS, HPL.out, hs, HND.out⟩, OW.out, ho, hk⟩⟩ : AddD (fun lv pl sn => (.cells #[.int .u8 (h : Int), lv, .int .u64 (pl : Int), .map sn] 177)) base h xs x lv sn R w (.returned (.tuple #[])) w'))
 clear hr4 hk4 hN hNx A3 R3 HPL HND OW R2 KB2 X2 K2 hxa hxb
 obtain ⟨r0, r1, r2, r3⟩ := cells4 R4.out
 by_cases hN8 : N ≤ 8
 ·
  have hN8i : (N : Int) ≤ 8 := by omega
  go_wp2_with fail
  refine bodyPost_end (v := .tuple #[]) (results_none rfl _ _ _) rfl (DONE.out W4w sn R4.out S4.out (fun b hb => absurd (Q4.out b hb).2.2.2 (by have := HNX2.out; omega)) (fun b hb => Or.inl hb) K4.out)
 have hN8i : ¬ (N : Int) ≤ 8 := by omega
 by_cases h0 : h = 0
 ·
  have h0b : ((h : Int) == 0) = true := by rw [h0]; rfl
  have H0 := hid h0
  clear h0
  go_wp2_with fail
  refine bodyPost_end (v := .tuple #[]) (results_none rfl _ _ _) rfl (DONE.out W4w sn R4.out S4.out (fun b hb => absurd H0.out (Q4.out b hb).2.2.1) (fun b hb => Or.inl hb) K4.out)
 have h0b : ((h : Int) == 0) = false := by rw [beq_eq_false_iff_ne]; omega
 have h0c : ¬ (h : Int) = 0 := by omega
 have hxo := hid (hx.out.only h)
 have H0N := hid h0
 cases sn with
 | some b =>
  have em := map_nil (some b)
  have HQ4 := hid (Q4.out b rfl)
  have HRb := hid (show R ≠ b by have := HQ4.out.1; have := HRB.out; omega)
  have HKb : Hid (K ≠ b) := fun e => by
   obtain ⟨es, cl, hm, _⟩ := HQ4.out.2.1.ex
   have := KB4.out
   rw [e, hm] at this
   cases this
  have HSb := hid (fun q (hq : (Value.slice ad' N c').ownBlock = some q) => (fun e => by
   obtain ⟨es, cl, hm, _⟩ := HQ4.out.2.1.ex
   exact own_cells (xs := xs ++ [x]) (base := base) (w := W4w) (v := .slice ad' (xs ++ [x]).length c') (by rw [HN.out]; exact S4.out) (by rw [HN.out]; exact hq) (e ▸ hm) : q ≠ b))
  clear Q4
  go_upto_region 5 with fail
  clear r0 r1 r2 r3 em
  have Q0 : Kx (fun q => q = b) W4w W4w.drew := (Kx.refl _ _).drew
  have MK : Hid (∀ W, Kx (fun q => q = b) W4w W → W.cell? ⟨R, 3, none⟩ = some (.map (some b)) ∧ W.cell? ⟨K, 0, none⟩ = some (.int .i8 (x.only h).a) ∧ W.cell? ⟨K, 1, none⟩ = some (.int .i8 (x.only h).f0) ∧ W.cell? ⟨K, 2, none⟩ = some (.int .i8 (x.only h).t0) ∧ W.cell? ⟨K, 3, none⟩ = some (.int .i8 (x.only h).f1) ∧ W.cell? ⟨K, 4, none⟩ = some (.int .i8 (x.only h).t1) ∧ W.cell? ⟨K, 5, none⟩ = some (.int .i8 (x.only h).f2) ∧ W.cell? ⟨K, 6, none⟩ = some (.int .i8 (x.only h).t2) ∧ Hid (Kx (fun q => q = b) W4w W)) := fun W k => ⟨bl_cell (bl_kx R4.out k HRb.out) 3 _ rfl, bl_cell (bl_kx KB4.out k HKb.out) 0 _ rfl, bl_cell (bl_kx KB4.out k HKb.out) 1 _ rfl, bl_cell (bl_kx KB4.out k HKb.out) 2 _ rfl, bl_cell (bl_kx KB4.out k HKb.out) 3 _ rfl, bl_cell (bl_kx KB4.out k HKb.out) 4 _ rfl, bl_cell (bl_kx KB4.out k HKb.out) 5 _ rfl, bl_cell (bl_kx KB4.out k HKb.out) 6 _ rfl, k⟩
  refine wp_region_noPanic ?_
  refine hdrewZ 6 MK Q0 (fun hH => ?_)
  have KQ := Q0
  refine zk 6 0 [] (some 36) (Op.move (Operand.tmp 0)) 179 (v := ?v0s1) rfl ?h0s1 hH ?_
  case h0s1 => intro _ _; go_simp; try with_reducible rfl
  try simp only [ps]
  refine zk 6 1 [] (some 37) (Op.nilCheck (Operand.tmp 36)) 0 (v := ?v1s2) rfl ?h1s2 hH ?_
  case h1s2 => intro _ _; go_simp; try with_reducible rfl
  try simp only [ps]
  refine zk 6 2 [] (some 38) (Op.fieldAddr 177 (Operand.tmp 37) 3) 0 (v := ?v2s3) rfl ?h2s3 hH ?_
  case h2s3 => intro _ _; go_simp; try with_reducible rfl
  try simp only [ps]
  refine zk 6 3 [] (some 39) (Op.load 175 (Operand.tmp 38)) 175 (v := ?v3s4) rfl ?h3s4 hH ?_
  case h3s4 => intro _ _; go_simp; try with_reducible rfl
  try simp only [ps]
  refine zk 6 4 [] (some 40) (Op.load 83 (Operand.tmp 4)) 83 (v := ?v4s5) rfl ?h4s5 hH ?_
  case h4s5 => intro _ _; go_simp; try with_reducible rfl
  try simp only [ps]
  refine zk 6 5 [] (some 41) (Op.build 206 #[]) 206 (v := ?v5s6) rfl ?h5s6 hH ?_
  case h5s6 => intro _ _; go_simp; try with_reducible rfl
  try simp only [ps]
  refine anyZ_ready (rs := [6]) (by kernel_rfl) (by simp) ?_
  refine AllZ.last (o := { dst := none, op := Op.mapUpdate 175 (Operand.tmp 39) (Operand.tmp 40) (Operand.tmp 41), type := 0, pos := "spot.go:98", after := #[{ on := 3, ground := Ground.data }, { on := 4, ground := Ground.data }, { on := 5, ground := Ground.data }, { on := 0, ground := Ground.phase }, { on := 1, ground := Ground.phase }, { on := 2, ground := Ground.phase }, { on := 3, ground := Ground.phase }, { on := 4, ground := Ground.phase }, { on := 5, ground := Ground.phase }], guard := none }) rfl (Or.inl rfl) (fun K hKq => ?_) AllZ.nil
  obtain ⟨wm, hrun, hset, hg⟩ := (HQ4.out.2.1.same (w' := W4w.drew) rfl).put Tryz.underlying175 (x.only h) hxo.out
  have HSET := hid hset
  have HG := hid hg
  clear hset hg
  go_simp
  refine hKq.out _ _ ?_
  clear hrun
  clear hKq K
  try simp only [ps]
  refine anyZ_done (by kernel_rfl) ?_ _
  refine NoPanic.normal ?_
  go_wp2_with fail
  refine bodyPost_end (v := .tuple #[]) (results_none rfl _ _ _) rfl (DONE.out wm (some b) ((HG.out.block R (bl_lt R4.out) (fun e => HRb.out (by injection e))).trans R4.out) (by rw [← HN.out]; exact (show SpR base wm (.slice ad' (xs ++ [x]).length c') (xs ++ [x]) from by rw [HN.out]; exact S4.out.turn (fun q hq hl => HG.out.block q hl (fun e => HSb.out q hq (by injection e))))) (fun b' e => by injection e with e; subst e; exact ⟨HQ4.out.1, by rw [List.map_append]; exact HSET.out, HQ4.out.2.2.1, by rw [HN.out]; omega⟩) (fun b' e => Or.inl e) (K4.out.drew.grown HG.out (fun k e _ => Or.inr (Or.inr e))))
 | none =>
  obtain ⟨ad2, c2, hv2, _, hc2⟩ := (S4.out.spl (ok := fun _ => True) (fun _ _ => trivial)).ex
  injection hv2 with e1 e2 e3
  obtain ⟨bb, hbb, _⟩ := hc2 (by rw [HN.out]; omega)
  rw [← e1] at hbb
  subst hbb
  clear hc2 e1 e2 e3
  have em := map_nil none
  have mm := make175 W4w
  have fr := bl_frozen R4.out 3
  have frA := bl_frozen (bl_alloc R4.out (Obj.map #[] 0)) 3
  have rA := bl_cell (bl_alloc R4.out (Obj.map #[] 0)) 3 _ rfl
  go_upto_region 9 with fail
  refine opq (fun W5 => W5.heap[R]? = some (.cells #[.int .u8 (h : Int), (.slice (some ⟨bb, 0, none⟩) N c'), .int .u64 ((pl ||| 2 ^ a : Nat) : Int), .map (some W4w.heap.size)] 177) ∧ SpR base W5 (.slice (some ⟨bb, 0, none⟩) N c') (xs ++ [x]) ∧ SetAt W5 W4w.heap.size (((xs ++ [x]).take 0).map (Sp.only h)) ∧ Kx (rowB R lv none) w W5) ⟨by exact bl_put (bl_alloc R4.out _) _, by exact (S4.out.kp ((Kp.refl _).alloc _)).turn (fun q hq hl => Below.heap_setCell (W4w.alloc (Obj.map #[] 0)) ⟨R, 3, none⟩ _ q (show q ≠ R from by have := (S4.out.block q hq).1; have := HRB.out; omega)), by exact (SetAt.made W4w).same (Below.heap_setCell (W4w.alloc (Obj.map #[] 0)) ⟨R, 3, none⟩ _ W4w.heap.size (show W4w.heap.size ≠ R from by have := bl_lt R4.out; omega)), by exact (K4.out.alloc _).set (fun _ => Or.inl rfl) _ _⟩ ?_
  rintro W5 ⟨xR5, xS5, xM5, xK5⟩
  have R5 := hid xR5
  have S5 := hid xS5
  have M5 := hid xM5
  have K5 := hid xK5
  clear xR5 xS5 xM5 xK5
  clear r0 r1 r2 r3 em mm fr frA rA Q4
  obtain ⟨r0, r1, r2, r3⟩ := cells4 R5.out
  go_wp2_with fail
  clear r0 r1 r2 r3
  go_loopg [71] N (fun gg i wr => ∃ q : Nat, q + gg = N ∧ i = .int .i64 (q : Int) ∧ wr.heap[R]? = some (.cells #[.int .u8 (h : Int), (.slice (some ⟨bb, 0, none⟩) N c'), .int .u64 ((pl ||| 2 ^ a : Nat) : Int), .map (some W4w.heap.size)] 177) ∧ SpR base wr (.slice (some ⟨bb, 0, none⟩) N c') (xs ++ [x]) ∧ SetAt wr W4w.heap.size (((xs ++ [x]).take q).map (Sp.only h)) ∧ Kx (rowB R lv none) w wr)
  case atStart => exact ⟨0, by omega, rfl, R5.out, S5.out, M5.out, K5.out⟩
  case round =>
   obtain ⟨q, hq, rfl, hR, hS, hM, hK⟩ := hrel
   have R6 := hid hR
   have S6 := hid hS
   have M6 := hid hM
   have K6 := hid hK
   clear hR hS hM hK R5 S5 M5 K5
   by_cases hlt : q < N
   ·
    have gkw : IntKind.i64.wrap ((q : Int) + 1) = (q : Int) + 1 := by rw [IntKind.wrap_i64]; omega
    have ga : (q : Int) < (N : Int) := by omega
    have g0 : (0 : Int) ≤ (q : Int) := by omega
    obtain ⟨y, hy⟩ : ∃ y, (xs ++ [x])[q]? = some y := ⟨_, List.getElem?_eq_getElem (by rw [HN.out]; exact hlt)⟩
    obtain ⟨ad2, c2, hv2, _, hc2⟩ := (S6.out.spl (ok := fun _ => True) (fun _ _ => trivial)).ex
    injection hv2 with e1 e2 e3
    obtain ⟨b2, hbb, _, hbl, hce⟩ := hc2 (by rw [HN.out]; omega)
    rw [← e1] at hbb
    injection hbb with hbb
    injection hbb with hbb
    subst hbb
    have hsp := hce q y hy
    have HY := hid (S6.out.good y (List.mem_of_getElem? hy))
    have HTK : Hid (((xs ++ [x]).take (q + 1)).map (Sp.only h) = ((xs ++ [x]).take q).map (Sp.only h) ++ [y.only h]) := by
     show _ = _
     rw [List.take_succ_eq_append_getElem (by rw [HN.out]; exact hlt), List.map_append, (List.getElem?_eq_some_iff.1 hy).2]
     rfl
    have x0 := hsp.c0
    have x1 := hsp.c1
    have x2 := hsp.c2
    have x3 := hsp.c3
    have x4 := hsp.c4
    have x5 := hsp.c5
    have x6 := hsp.c6
    clear hsp hce hy e1 e2 e3
    have HRM := hid (show ¬ R = W4w.heap.size from fun e => by have := bl_lt R4.out; omega)
    have HYM := hid (show ¬ wr.heap.size = W4w.heap.size from fun e => by have := M6.out.lt; omega)
    have HLB := hid (fun p (hp : (Value.slice (some ⟨bb, 0, none⟩) N c').ownBlock = some p) => (fun e => by have := (S4.out.block p hp).2; omega : ¬ p = W4w.heap.size))
    have HW4 := hid K4.out.size
    have OY := hid (fun W => only_any y h I2.out.lt W)
    have hyo := hid (HY.out.only h)
    go_upto_region 12 with fail
    refine opq (fun W6 => W6.heap[wr.heap.size]? = some (spo y) ∧ W6.heap[R]? = some (.cells #[.int .u8 (h : Int), (.slice (some ⟨bb, 0, none⟩) N c'), .int .u64 ((pl ||| 2 ^ a : Nat) : Int), .map (some W4w.heap.size)] 177) ∧ SpR base W6 (.slice (some ⟨bb, 0, none⟩) N c') (xs ++ [x]) ∧ SetAt W6 W4w.heap.size (((xs ++ [x]).take q).map (Sp.only h)) ∧ Kx (rowB R lv none) w W6) ⟨by exact last_of _ _, by exact bl_alloc R6.out _, by exact S6.out.kp ((Kp.refl _).alloc _), by exact M6.out.same (((Kp.refl _).alloc _).block _ M6.out.lt), by exact K6.out.alloc _⟩ ?_
    rintro W6 ⟨xY7, xR7, xS7, xM7, xK7⟩
    have Y7 := hid xY7
    have R7 := hid xR7
    have S7 := hid xS7
    have M7 := hid xM7
    have K7 := hid xK7
    clear xY7 xR7 xS7 xM7 xK7
    clear x0 x1 x2 x3 x4 x5 x6 R6 S6 M6 K6
    have Q0 : Kx (fun q => q = W4w.heap.size) W6 W6.drew := (Kx.refl _ _).drew
    have MK : Hid (∀ W, Kx (fun q => q = W4w.heap.size) W6 W → W.cell? ⟨R, 3, none⟩ = some (.map (some W4w.heap.size)) ∧ W.cell? ⟨R, 0, none⟩ = some (.int .u8 (h : Int)) ∧ W.cell? ⟨wr.heap.size, 0, none⟩ = some (.int .i8 y.a) ∧ W.cell? ⟨wr.heap.size, 1, none⟩ = some (.int .i8 y.f0) ∧ W.cell? ⟨wr.heap.size, 2, none⟩ = some (.int .i8 y.t0) ∧ W.cell? ⟨wr.heap.size, 3, none⟩ = some (.int .i8 y.f1) ∧ W.cell? ⟨wr.heap.size, 4, none⟩ = some (.int .i8 y.t1) ∧ W.cell? ⟨wr.heap.size, 5, none⟩ = some (.int .i8 y.f2) ∧ W.cell? ⟨wr.heap.size, 6, none⟩ = some (.int .i8 y.t2) ∧ Hid (Kx (fun q => q = W4w.heap.size) W6 W)) := fun W k => ⟨bl_cell (bl_kx R7.out k HRM.out) 3 _ rfl, bl_cell (bl_kx R7.out k HRM.out) 0 _ rfl, bl_cell (bl_kx Y7.out k HYM.out) 0 _ rfl, bl_cell (bl_kx Y7.out k HYM.out) 1 _ rfl, bl_cell (bl_kx Y7.out k HYM.out) 2 _ rfl, bl_cell (bl_kx Y7.out k HYM.out) 3 _ rfl, bl_cell (bl_kx Y7.out k HYM.out) 4 _ rfl, bl_cell (bl_kx Y7.out k HYM.out) 5 _ rfl, bl_cell (bl_kx Y7.out k HYM.out) 6 _ rfl, k⟩
    refine wp_region_noPanic ?_
    refine hdrewZ 11 MK Q0 (fun hH => ?_)
    have KQ := Q0
    refine zk 11 0 [] (some 75) (Op.move (Operand.tmp 0)) 179 (v := ?v0l1) rfl ?h0l1 hH ?_
    case h0l1 => intro _ _; go_simp; try with_reducible rfl
    try simp only [ps]
    refine zk 11 1 [] (some 76) (Op.nilCheck (Operand.tmp 75)) 0 (v := ?v1l2) rfl ?h1l2 hH ?_
    case h1l2 => intro _ _; go_simp; try with_reducible rfl
    try simp only [ps]
    refine zk 11 2 [] (some 77) (Op.fieldAddr 177 (Operand.tmp 76) 3) 0 (v := ?v2l3) rfl ?h2l3 hH ?_
    case h2l3 => intro _ _; go_simp; try with_reducible rfl
    try simp only [ps]
    refine zk 11 3 [] (some 78) (Op.load 175 (Operand.tmp 77)) 175 (v := ?v3l4) rfl ?h3l4 hH ?_
    case h3l4 => intro _ _; go_simp; try with_reducible rfl
    try simp only [ps]
    refine zk 11 4 [] (some 79) (Op.load 83 (Operand.tmp 6)) 83 (v := ?v4l5) rfl ?h4l5 hH ?_
    case h4l5 => intro _ _; go_simp; try with_reducible rfl
    try simp only [ps]
    refine zk 11 5 [] (some 80) (Op.move (Operand.tmp 0)) 179 (v := ?v5l6) rfl ?h5l6 hH ?_
    case h5l6 => intro _ _; go_simp; try with_reducible rfl
    try simp only [ps]
    refine zk 11 6 [] (some 81) (Op.nilCheck (Operand.tmp 80)) 0 (v := ?v6l7) rfl ?h6l7 hH ?_
    case h6l7 => intro _ _; go_simp; try with_reducible rfl
    try simp only [ps]
    refine zk 11 7 [] (some 82) (Op.fieldAddr 177 (Operand.tmp 81) 0) 0 (v := ?v7l8) rfl ?h7l8 hH ?_
    case h7l8 => intro _ _; go_simp; try with_reducible rfl
    try simp only [ps]
    refine zk 11 8 [] (some 83) (Op.load 75 (Operand.tmp 82)) 75 (v := ?v8l9) rfl ?h8l9 hH ?_
    case h8l9 => intro _ _; go_simp; try with_reducible rfl
    try simp only [ps]
    refine zk 11 10 [] (some 85) (Op.build 206 #[]) 206 (v := ?v10l10) rfl ?h10l10 hH ?_
    case h10l10 => intro _ _; go_simp; try with_reducible rfl
    try simp only [ps]
    refine anyZ_ready (rs := [9]) (by kernel_rfl) (by simp) ?_
    refine AllZ.cons (o := { dst := some 84, op := Op.call { callee := Callee.value (Operand.func 55), args := #[Operand.tmp 79, Operand.tmp 83], argTypes := #[83, 75] }, type := 83, pos := "spot.go:95", after := #[{ on := 4, ground := Ground.data }, { on := 8, ground := Ground.data }], guard := none }) rfl (fun K hKq => ?_) AllZ.nil
    go_simp
    refine (OY.out _).mono ?_
    rintro e yy ⟨rfl, kq⟩
    have MY := hid (M7.out.same (w' := yy) (kq.block _ M7.out.lt))
    refine hKq.out _ _ (MK.out _ (KQ.then kq)) (fun hN => ?_)
    clear kq
    clear hKq K hH KQ
    have hH := hN
    clear hN
    have KQ := hH.2.2.2.2.2.2.2.2.2.out
    try simp only [ps]
    refine anyZ_ready (rs := [11]) (by kernel_rfl) (by simp) ?_
    refine AllZ.last (o := { dst := none, op := Op.mapUpdate 175 (Operand.tmp 78) (Operand.tmp 84) (Operand.tmp 85), type := 0, pos := "spot.go:95", after := #[{ on := 3, ground := Ground.data }, { on := 9, ground := Ground.data }, { on := 10, ground := Ground.data }, { on := 9, ground := Ground.chain }, { on := 0, ground := Ground.phase }, { on := 1, ground := Ground.phase }, { on := 2, ground := Ground.phase }, { on := 3, ground := Ground.phase }, { on := 4, ground := Ground.phase }, { on := 5, ground := Ground.phase }, { on := 6, ground := Ground.phase }, { on := 7, ground := Ground.phase }, { on := 8, ground := Ground.phase }, { on := 9, ground := Ground.phase }, { on := 10, ground := Ground.phase }], guard := none }) rfl (Or.inl rfl) (fun K hKq => ?_) AllZ.nil
    obtain ⟨wm, hrun, hset, hg⟩ := MY.out.put Tryz.underlying175 (y.only h) hyo.out
    have HSET := hid hset
    have KG := hid (KQ.grown hg (fun k e _ => by injection e with e; exact e.symm))
    clear hset hg
    go_simp
    refine hKq.out _ _ ?_
    clear hrun
    clear hKq K
    try simp only [ps]
    refine anyZ_done (by kernel_rfl) ?_ _
    refine NoPanic.normal ?_
    go_wp2_with fail
    go_roundg (gk - 1)
    case measure => omega
    case rel => exact ⟨q + 1, by omega, by go_num, bl_kx R7.out KG.out HRM.out, S7.out.turn (fun p hp hl => KG.out.block p hl (HLB.out p hp)), by rw [HTK.out]; exact HSET.out, K7.out.past KG.out (fun k hk e => by have := HW4.out; omega)⟩
   ·
    have hqN : q = N := by omega
    have ga : ¬ (q : Int) < (N : Int) := by omega
    have HQN := hid hqN
    clear hqN
    go_wp2_with fail
    refine bodyPost_end (v := .tuple #[]) (results_none rfl _ _ _) rfl (DONE.out wr (some W4w.heap.size) R6.out S6.out (fun b' e => ?_) (fun b' e => Or.inr ?_) K6.out)
    ·
     injection e with e
     subst e
     refine ⟨HB4.out, ?_, H0N.out, by rw [HN.out]; omega⟩
     have := M6.out
     rw [List.take_of_length_le (by rw [HN.out, HQN.out]; exact Nat.le_refl _)] at this
     exact this
    ·
     injection e with e
     rw [← e]
     exact K4.out.size
end Go.Proofs.YtnajcnhgeggngaaGreat.Way

/-! ### WRow -/

namespace Go.Proofs.YtnajcnhgeggngaaGreat.Way
open Go.RowKit Go.Proofs.YtnajcnhgeggngaaGreat

abbrev wkv (s : ByteArray) (bol : Bool) : Value := .agg #[.string s, .bool bol]
abbrev roA (h : Nat) (lv : Value) (pl : Nat) (sn : Option Nat) : Obj := .cells #[.int .u8 (h : Int), lv, .int .u64 (pl : Int), .map sn] 177
def oR (O : Nat → Prop) (R : Nat) (lv : Value) (sn : Option Nat) (b : Nat) : Prop := O b ∨ rowB R lv sn b
abbrev Km (M : Nat → Option Memo) (w w' : World) : Prop := Kx (fun b => M b ≠ none) w w'
structure WSaid (s : ByteArray) (bol : Bool) (M : Nat → Option Memo) (p : Pt) : Prop where
 good : ∀ x : Sp, x.Ok → x.In s.size → ∀ y ∈ ways s.data.toList bol p x, y.Ok ∧ y.In s.size ∧ x.a ≤ y.a
 few : ∀ x : Sp, x.Ok → x.In s.size → (ways s.data.toList bol p x).length ≤ 4398046511104
 all : ∀ (O : Nat → Prop) (x : Sp) (w : World), x.Ok → x.In s.size → (∀ b, O b → b < w.heap.size) → PtAt w (okB M O) p → MemOk M O w →
  Calls Tryz.prog 34 #[wkv s bol, ptv p.P, spv x] w fun e w' => WaysD (ways s.data.toList bol p x) (okB M O) (fun w' => Km M w w' ∧ MemOk M O w') e w'
theorem Sp.In.only {N : Nat} {x : Sp} (h : x.In N) (g : Nat) : (x.only g).In N := by
 have hN : (-1 : Int) ≤ N := by omega
 refine ⟨h.a, ?_, ?_, ?_⟩ <;> (unfold Sp.only; simp only)
 ·
  cases bit0 g
  ·
   exact hN
  ·
   exact h.t0
 ·
  cases bit1 g
  ·
   exact hN
  ·
   exact h.t1
 ·
  cases bit2 g
  ·
   exact hN
  ·
   exact h.t2
theorem Sp.In.behind {N : Nat} {x y : Sp} (h : x.In N) (k : y.In N) : (x.behind y).In N := by
 refine ⟨h.a, ?_, ?_, ?_⟩ <;> (unfold Sp.behind; simp only)
 ·
  by_cases q : x.f0 < 0
  ·
   rw [if_pos q]; exact k.t0
  ·
   rw [if_neg q]; exact h.t0
 ·
  by_cases q : x.f1 < 0
  ·
   rw [if_pos q]; exact k.t1
  ·
   rw [if_neg q]; exact h.t1
 ·
  by_cases q : x.f2 < 0
  ·
   rw [if_pos q]; exact k.t2
  ·
   rw [if_neg q]; exact h.t2
structure RowW (M : Nat → Option Memo) (O : Nat → Prop) (base R h : Nat) (xs : List Sp) (lv : Value) (pl : Nat) (sn : Option Nat) (w : World) : Prop where
 b : w.heap[R]? = some (roA h lv pl sn)
 i : RowI base w h xs lv pl sn
 m : MemOk M (oR O R lv sn) w
theorem okB_step {M : Nat → Option Memo} {O : Nat → Prop} {R n : Nat} {lv lv' : Value} {sn sn' : Option Nat} (ho : ∀ b, lv'.ownBlock = some b → lv.ownBlock = some b ∨ n ≤ b) (hs : ∀ b, sn' = some b → sn = some b ∨ n ≤ b) {b : Nat} (hb : okB M (oR O R lv sn) b) (hl : b < n) : okB M (oR O R lv' sn') b := by
 refine ⟨fun q => hb.1 ?_, hb.2⟩
 rcases q with q | q | q | q
 ·
  exact Or.inl q
 ·
  exact Or.inr (Or.inl q)
 ·
  rcases ho b q with e | e
  ·
   exact Or.inr (Or.inr (Or.inl e))
  ·
   omega
 ·
  rcases hs b q with e | e
  ·
   exact Or.inr (Or.inr (Or.inr e))
  ·
   omega
theorem RowW.lt {M : Nat → Option Memo} {O : Nat → Prop} {base R h : Nat} {xs : List Sp} {lv : Value} {pl : Nat} {sn : Option Nat} {w : World} (q : RowW M O base R h xs lv pl sn w) (hO : ∀ b, O b → b < w.heap.size) : ∀ b, oR O R lv sn b → b < w.heap.size := by
 rintro b (e | e | e | e)
 ·
  exact hO b e
 ·
  rw [e]; exact bl_lt q.b
 ·
  exact (q.i.row.block b e).2
 ·
  exact (q.i.set b e).2.1.lt
theorem RowW.km {M : Nat → Option Memo} {O : Nat → Prop} {base R h : Nat} {xs : List Sp} {lv : Value} {pl : Nat} {sn : Option Nat} {w w' : World} (q : RowW M O base R h xs lv pl sn w) (k : Km M w w') (hm : MemOk M (oR O R lv sn) w') : RowW M O base R h xs lv pl sn w' := by
 have off : ∀ b, b < w.heap.size → rowB R lv sn b → w'.heap[b]? = w.heap[b]? := fun b hl hb => k.block b hl (fun e => e (q.m.own b (Or.inr hb)))
 exact ⟨(off R (bl_lt q.b) (Or.inl rfl)).trans q.b, q.i.turn (fun b hl hb => off b hl (hb.elim (fun e => Or.inr (Or.inl e)) (fun e => Or.inr (Or.inr e)))), hm⟩
theorem RowW.kp {M : Nat → Option Memo} {O : Nat → Prop} {base R h : Nat} {xs : List Sp} {lv : Value} {pl : Nat} {sn : Option Nat} {w w' : World} (q : RowW M O base R h xs lv pl sn w) (k : Kp w w') : RowW M O base R h xs lv pl sn w' :=
 ⟨bl_kp q.b k, q.i.kp k, q.m.keep (S := fun _ => False) (Kp.kx k) (fun _ _ e => e.elim) (fun _ _ e => e) q.m.own⟩
theorem RowW.add {M : Nat → Option Memo} {O : Nat → Prop} {base R h : Nat} {xs : List Sp} {x : Sp} {lv : Value} {pl : Nat} {sn : Option Nat} {w w' : World} {e : Ending} (q : RowW M O base R h xs lv pl sn w) (hO : ∀ b, O b → M b = none) (d : AddD (roA h) base h xs x lv sn R w e w') :
  e = .returned (.tuple #[]) ∧ ∃ lv' pl' sn', RowW M O base R h (addL h xs x) lv' pl' sn' w' ∧ (∀ b, lv'.ownBlock = some b → lv.ownBlock = some b ∨ w.heap.size ≤ b) ∧ (∀ b, sn' = some b → sn = some b ∨ w.heap.size ≤ b) ∧ Kx (rowB R lv sn) w w' := by
 obtain ⟨he, lv', pl', sn', h1, h2, h3, h4, h5⟩ := d.ex
 refine ⟨he, lv', pl', sn', ⟨h1, h2, q.m.keep (S := rowB R lv sn) h5 (fun b _ e => Or.inr e) (fun b hl e => ?_) (fun b e => ?_)⟩, h3, h4, h5⟩
 ·
  rcases e with e | e | e | e
  ·
   exact Or.inl e
  ·
   exact Or.inr (Or.inl e)
  ·
   rcases h3 b e with e | e
   ·
    exact Or.inr (Or.inr (Or.inl e))
   ·
    omega
  ·
   rcases h4 b e with e | e
   ·
    exact Or.inr (Or.inr (Or.inr e))
   ·
    omega
 ·
  rcases e with e | e | e | e
  ·
   exact hO b e
  ·
   rw [e]; exact q.m.own R (Or.inr (Or.inl rfl))
  ·
   rcases h3 b e with e | e
   ·
    exact q.m.own b (Or.inr (Or.inr (Or.inl e)))
   ·
    exact q.m.lt e
  ·
   rcases h4 b e with e | e
   ·
    exact q.m.own b (Or.inr (Or.inr (Or.inr e)))
   ·
    exact q.m.lt e
end Go.Proofs.YtnajcnhgeggngaaGreat.Way

/-! ### Walk -/

namespace Go.Proofs.YtnajcnhgeggngaaGreat.Way
set_option maxHeartbeats 2000000
set_option maxRecDepth 100000
open Go.RowKit Go.Proofs.YtnajcnhgeggngaaGreat

theorem Kx.past2 {S S' : Nat → Prop} {a b c : World} (h : Kx S a b) (g : Kx S' b c) (hs : ∀ k, k < a.heap.size → S' k → S k) : Kx S a c := ⟨h.lo.trans g.lo, fun k hk hn => (g.block k (Nat.lt_of_lt_of_le hk h.size) (fun e => hn (hs k hk e))).trans (h.block k hk hn)⟩
theorem walk_own {v v' v2 : Option Nat} {n m : Nat} (h : ∀ b, v' = some b → v = some b ∨ n ≤ b) (g : ∀ b, v2 = some b → v' = some b ∨ m ≤ b) (hm : n ≤ m) : ∀ b, v2 = some b → v = some b ∨ n ≤ b := fun b e =>
 (g b e).elim (fun e => h b e) (fun e => Or.inr (Nat.le_trans hm e))
theorem walk_row {M : Nat → Option Memo} {R n : Nat} {lv lv' : Value} {sn sn' : Option Nat} (ho : ∀ b, lv'.ownBlock = some b → lv.ownBlock = some b ∨ n ≤ b) (hs : ∀ b, sn' = some b → sn = some b ∨ n ≤ b) (k : Nat) (hk : k < n) (e : rowB R lv' sn' k) : M k ≠ none ∨ rowB R lv sn k := by
 rcases e with e | e | e
 ·
  exact Or.inr (Or.inl e)
 ·
  rcases ho k e with e | e
  ·
   exact Or.inr (Or.inr (Or.inl e))
  ·
   omega
 ·
  rcases hs k e with e | e
  ·
   exact Or.inr (Or.inr (Or.inr e))
  ·
   omega
structure WalkD (M : Nat → Option Memo) (O : Nat → Prop) (base R h : Nat) (xs : List Sp) (lv : Value) (sn : Option Nat) (w : World) (e : Ending) (w' : World) : Prop where
 ex : e = .returned (.tuple #[]) ∧ ∃ lv' pl' sn', RowW M O base R h xs lv' pl' sn' w' ∧ (∀ b, lv'.ownBlock = some b → lv.ownBlock = some b ∨ w.heap.size ≤ b) ∧ (∀ b, sn' = some b → sn = some b ∨ w.heap.size ≤ b) ∧ Kx (fun b => M b ≠ none ∨ rowB R lv sn b) w w'
theorem walk_any (s : ByteArray) (bol : Bool) (_ : s.size ≤ 60) (M : Nat → Option Memo) (p : Pt) (hp8 : p.rd < 8) (HS : WSaid s bol M p) (O : Nat → Prop) (base R h pl : Nat) (xs : List Sp) (lv : Value) (sn : Option Nat) (x : Sp) (hx : x.Ok) (hN : x.In s.size) (w : World) (hO : ∀ b, O b → b < w.heap.size) (hOM : ∀ b, O b → M b = none) (hQ : RowW M O base R h xs lv pl sn w) (hP : PtAt w (okB M (oR O R lv sn)) p) (hRb : R < base) (hbw : base ≤ w.heap.size) :
  Calls Tryz.prog 109 #[wkv s bol, ptv p.P, spv x, .pointer (some ⟨R, 0, none⟩)] w fun e w' => WalkD M O base R h (walkF (ways s.data.toList bol p) p.rd h xs x) lv sn w e w' := by
 have QW := hid hQ
 have HPT := hid hP
 have HO := hid hO
 have HOM := hid hOM
 have OA := hid (fun W => only_any x p.rd hp8 W)
 have HGD := hid (HS.good (x.only p.rd) (hx.only p.rd) (hN.only p.rd))
 have HX := hid hx
 have HN := hid hN
 have HRB := hid hRb
 have HBW := hid hbw
 have WS := hid (fun (W0 W : World) (k0 : Kp w W0) (k : Kp W0 W) => HS.all (oR O R lv sn) (x.only p.rd) W (hx.only p.rd) (hN.only p.rd) (fun b hb => Nat.lt_of_lt_of_le (hQ.lt hO b hb) (k0.trans k).size) (PtAt.kp hP (k0.trans k)) (hQ.kp (k0.trans k)).m)
 obtain ⟨zs, hzs⟩ : ∃ zs, ways s.data.toList bol p (x.only p.rd) = zs := ⟨_, rfl⟩
 have HZS := hid hzs
 rw [hzs] at WS HGD
 obtain ⟨Z, hZ⟩ : ∃ Z, zs.length = Z := ⟨_, rfl⟩
 have HZL := hid hZ
 have HZF := hid (show Z ≤ 4398046511104 by rw [← hZ, ← hzs]; exact HS.few _ (hx.only p.rd) (hN.only p.rd))
 obtain ⟨_, _, _, _, _, _, _, _, _, _, -, hokP, hblkP, -, -⟩ := hP.form
 have PB := hid hblkP
 have HMP := hid (show ¬ M p.P ≠ none from fun e => e hokP.2)
 clear hQ hP hO hOM hx hN hRb hbw HS hp8 hzs hZ hblkP hokP
 go_enter Tryz.func109, Tryz.ntmps109
 go_upto_region 1 with fail
 refine opq (fun W0 => W0.heap[w.heap.size]? = some (.cells #[.string s, .bool bol] 70) ∧ W0.heap[(w.heap.size + 1)]? = some (spo x) ∧ Kp w W0) ⟨by exact bl_alloc (last_of _ _) _, by exact last_at _ _ _ (by simp), by exact kpt⟩ ?_
 rintro W0 ⟨xT0, xX0, xK0⟩
 have T0 := hid xT0
 have X0 := hid xX0
 have K0 := hid xK0
 clear xT0 xX0 xK0
 have PB0 := hid (bl_kp PB.out K0.out)
 have QW0 := hid (QW.out.kp K0.out)
 have WS0 := hid (WS.out W0)
 have HMT := hid (show ¬ M w.heap.size ≠ none from fun e => e (QW.out.m.lt (Nat.le_refl _)))
 have HMX := hid (show ¬ M (w.heap.size + 1) ≠ none from fun e => e (QW.out.m.lt (Nat.le_succ _)))
 have WS := hid (fun (W : World) (k : Kp W0 W) => WS0.out W K0.out k)
 clear WS0 PB
 go_cut [19, 20, 21] (fun v l i wc => ∃ ad c, v = .slice ad Z c ∧ l = .int .i64 (Z : Int) ∧ i = .int .i64 0 ∧ Z ≤ c ∧ SpL wc (okB M (oR O R lv sn)) (.slice ad Z c) zs ∧ Kx (fun b => M b ≠ none) W0 wc ∧ RowW M O base R h xs lv pl sn wc)
 case first =>
  have Q0 : Kx (fun b => M b ≠ none) W0 W0.drew := (Kx.refl _ _).drew
  have MK : Hid (∀ W, Kx (fun b => M b ≠ none) W0 W → W.cell? ⟨w.heap.size, 0, none⟩ = some (.string s) ∧ W.cell? ⟨w.heap.size, 1, none⟩ = some (.bool bol) ∧ W.cell? ⟨(w.heap.size + 1), 0, none⟩ = some (.int .i8 x.a) ∧ W.cell? ⟨(w.heap.size + 1), 1, none⟩ = some (.int .i8 x.f0) ∧ W.cell? ⟨(w.heap.size + 1), 2, none⟩ = some (.int .i8 x.t0) ∧ W.cell? ⟨(w.heap.size + 1), 3, none⟩ = some (.int .i8 x.f1) ∧ W.cell? ⟨(w.heap.size + 1), 4, none⟩ = some (.int .i8 x.t1) ∧ W.cell? ⟨(w.heap.size + 1), 5, none⟩ = some (.int .i8 x.f2) ∧ W.cell? ⟨(w.heap.size + 1), 6, none⟩ = some (.int .i8 x.t2) ∧ W.cell? ⟨p.P, 9, none⟩ = some (.int .u8 (p.rd : Int)) ∧ Hid (Kx (fun b => M b ≠ none) W0 W)) := fun W k => ⟨bl_cell (bl_kx T0.out k HMT.out) 0 _ rfl, bl_cell (bl_kx T0.out k HMT.out) 1 _ rfl, bl_cell (bl_kx X0.out k HMX.out) 0 _ rfl, bl_cell (bl_kx X0.out k HMX.out) 1 _ rfl, bl_cell (bl_kx X0.out k HMX.out) 2 _ rfl, bl_cell (bl_kx X0.out k HMX.out) 3 _ rfl, bl_cell (bl_kx X0.out k HMX.out) 4 _ rfl, bl_cell (bl_kx X0.out k HMX.out) 5 _ rfl, bl_cell (bl_kx X0.out k HMX.out) 6 _ rfl, bl_cell (bl_kx PB0.out k HMP.out) 9 _ rfl, k⟩
  refine wp_region_noPanic ?_
  refine hdrew MK Q0 (fun hH => ?_)
  have KQ := Q0
  refine tk 0 (some 10) (Op.load 70 (Operand.tmp 4)) 70 (v := ?v0a1) rfl ?h0a1 hH ?_
  case h0a1 => intro _ _; go_simp; try with_reducible rfl
  try simp only [ps]
  refine tk 1 (some 11) (Op.move (Operand.tmp 1)) 71 (v := ?v1a2) rfl ?h1a2 hH ?_
  case h1a2 => intro _ _; go_simp; try with_reducible rfl
  try simp only [ps]
  refine tk 2 (some 12) (Op.load 83 (Operand.tmp 6)) 83 (v := ?v2a3) rfl ?h2a3 hH ?_
  case h2a3 => intro _ _; go_simp; try with_reducible rfl
  try simp only [ps]
  refine tk 3 (some 13) (Op.move (Operand.tmp 1)) 71 (v := ?v3a4) rfl ?h3a4 hH ?_
  case h3a4 => intro _ _; go_simp; try with_reducible rfl
  try simp only [ps]
  refine tk 4 (some 14) (Op.nilCheck (Operand.tmp 13)) 0 (v := ?v4a5) rfl ?h4a5 hH ?_
  case h4a5 => intro _ _; go_simp; try with_reducible rfl
  try simp only [ps]
  refine tk 5 (some 15) (Op.fieldAddr 130 (Operand.tmp 14) 6) 0 (v := ?v5a6) rfl ?h5a6 hH ?_
  case h5a6 => intro _ _; go_simp; try with_reducible rfl
  try simp only [ps]
  refine tk 6 (some 16) (Op.fieldAddr 126 (Operand.tmp 15) 0) 0 (v := ?v6a7) rfl ?h6a7 hH ?_
  case h6a7 => intro _ _; go_simp; try with_reducible rfl
  try simp only [ps]
  refine tk 7 (some 17) (Op.load 75 (Operand.tmp 16)) 75 (v := ?v7a8) rfl ?h7a8 hH ?_
  case h7a8 => intro _ _; go_simp; try with_reducible rfl
  try simp only [ps]
  refine tk 11 (some 21) (Op.move (Operand.const (Value.int IntKind.i64 0))) 3 (v := ?v11a9) rfl ?h11a9 hH ?_
  case h11a9 => intro _ _; go_simp; try with_reducible rfl
  try simp only [ps]
  refine wpAnyH_ready (rs := [8]) (by kernel_rfl) (by simp) ?_
  refine AllReadyH.cons (o := { dst := some 18, op := Op.call { callee := Callee.value (Operand.func 55), args := #[Operand.tmp 12, Operand.tmp 17], argTypes := #[83, 75] }, type := 83, pos := "walk.go:18", after := #[{ on := 2, ground := Ground.data }, { on := 7, ground := Ground.data }], guard := none }) rfl (fun K hKq => ?_) AllReadyH.nil
  go_simp
  refine (OA.out _).mono ?_
  rintro e y1 ⟨rfl, kq⟩
  have KY := hid (show Kp W0 y1 from ((Kp.refl W0).drew).trans kq)
  refine hKq.out _ _ (MK.out _ (Kp.kx KY.out)) (fun hN => ?_)
  clear kq
  clear hKq K hH KQ
  have hH := hN
  clear hN
  have KQ := hH.2.2.2.2.2.2.2.2.2.2.out
  try simp only [ps]
  refine wpAnyH_ready (rs := [9]) (by kernel_rfl) (by simp) ?_
  refine AllReadyH.cons (o := { dst := some 19, op := Op.call { callee := Callee.value (Operand.func 34), args := #[Operand.tmp 10, Operand.tmp 11, Operand.tmp 18], argTypes := #[70, 71, 83] }, type := 68, pos := "walk.go:18", after := #[{ on := 0, ground := Ground.data }, { on := 1, ground := Ground.data }, { on := 8, ground := Ground.data }, { on := 8, ground := Ground.chain }], guard := none }) rfl (fun K hKq => ?_) AllReadyH.nil
  go_simp
  refine (WS.out y1 KY.out).mono ?_
  rintro e y2 ⟨⟨v, rfl, hv, hk, hm⟩⟩
  obtain ⟨ad, c, hvv, hlc, hce⟩ := hv.ex
  rw [HZL.out] at hvv hlc
  subst hvv
  have HV := hid hv
  have HK2 := hid hk
  have HM2 := hid hm
  clear hv hk hm hce
  refine hKq.out _ _ (MK.out _ ((Kp.kx KY.out).trans HK2.out)) (fun hN => ?_)
  clear hKq K hH KQ
  have hH := hN
  clear hN
  have KQ := hH.2.2.2.2.2.2.2.2.2.2.out
  try simp only [ps]
  refine tk 10 (some 20) (Op.call { callee := Callee.builtin Builtin.len, args := #[Operand.tmp 19], argTypes := #[68] }) 3 (v := ?v10a10) rfl ?h10a10 hH ?_
  case h10a10 => intro _ _; go_simp; try with_reducible rfl
  try simp only [ps]
  refine wpAnyH_done (by kernel_rfl) ?_ _
  refine NoPanic.normal ?_
  go_wp2_with fail
  go_meet
  case rel => exact ⟨ad, c, rfl, rfl, rfl, hlc, HV.out, (Kp.kx KY.out).trans HK2.out, (QW0.out.kp KY.out).km HK2.out HM2.out⟩

 case rest =>
 obtain ⟨ad, c, rfl, rfl, rfl, hzc, hsl, hkx, hrw⟩ := hcut
 have HSL := hid hsl
 have HKX := hid hkx
 have HRW := hid hrw
 have HS0 := hid (show w.heap.size + 2 ≤ W0.heap.size from by have := bl_lt X0.out; omega)
 have HXB := hid (show ¬ (M (w.heap.size + 1) ≠ none ∨ rowB R lv sn (w.heap.size + 1)) from fun e => by
  rcases e with e | e | e | e
  ·
   exact HMX.out e
  ·
   have := HRB.out; have := HBW.out; omega
  ·
   have := (QW.out.i.row.block _ e).2; omega
  ·
   have := (QW.out.i.set _ e).2.1.lt; omega)
 clear hzc hsl hkx hrw WS OA PB0 T0 HMT HMP HMX HPT QW0
 go_wp2_with fail
 go_loopg [21] Z (fun gg i wr => ∃ (q : Nat) (lv' : Value) (pl' : Nat) (sn' : Option Nat), q + gg = Z ∧ i = .int .i64 (q : Int) ∧ RowW M O base R h ((zs.take q).foldl (fun a z => addL h a (z.behind x)) xs) lv' pl' sn' wr ∧ (∀ b, lv'.ownBlock = some b → lv.ownBlock = some b ∨ W0.heap.size ≤ b) ∧ (∀ b, sn' = some b → sn = some b ∨ W0.heap.size ≤ b) ∧ SpL wr (okB M (oR O R lv' sn')) (.slice ad Z c) zs ∧ Kx (fun b => M b ≠ none ∨ rowB R lv sn b) W0 wr)
 case atStart => exact ⟨0, lv, _, sn, by omega, rfl, HRW.out, fun _ e => Or.inl e, fun _ e => Or.inl e, HSL.out, HKX.out.mono (fun _ _ e => Or.inl e)⟩
 case round =>
  obtain ⟨q, lv', pl', sn', hq, rfl, hR, hlo, hso, hS, hK⟩ := hrel
  have R6 := hid hR
  have L6 := hid hlo
  have N6 := hid hso
  have S6 := hid hS
  have K6 := hid hK
  have X6 := hid (bl_kx X0.out hK HXB.out)
  clear hR hlo hso hS hK
  by_cases hlt : q < Z
  ·
   have gkw : IntKind.i64.wrap ((q : Int) + 1) = (q : Int) + 1 := by have := HZF.out; rw [IntKind.wrap_i64]; omega
   have ga : (q : Int) < (Z : Int) := by omega
   have g0 : (0 : Int) ≤ (q : Int) := by omega
   obtain ⟨y, hy⟩ : ∃ y, zs[q]? = some y := ⟨_, List.getElem?_eq_getElem (by rw [HZL.out]; exact hlt)⟩
   obtain ⟨ad2, c2, hv2, _, hc2⟩ := S6.out.ex
   injection hv2 with e1 e2 e3
   obtain ⟨b2, hbb, _, hbl, hce⟩ := hc2 (by rw [HZL.out]; omega)
   rw [← e1] at hbb
   subst hbb
   have hsp := hce q y hy
   have HY := hid (HGD.out y (List.mem_of_getElem? hy)).1
   have HTK : Hid ((zs.take (q + 1)).foldl (fun a z => addL h a (z.behind x)) xs = addL h ((zs.take q).foldl (fun a z => addL h a (z.behind x)) xs) (y.behind x)) := by
    show _ = _
    rw [List.take_succ_eq_append_getElem (by rw [HZL.out]; exact hlt), List.foldl_append, (List.getElem?_eq_some_iff.1 hy).2]
    rfl
   have x0 := hsp.c0
   have x1 := hsp.c1
   have x2 := hsp.c2
   have x3 := hsp.c3
   have x4 := hsp.c4
   have x5 := hsp.c5
   have x6 := hsp.c6
   clear hsp hce hy e1 e2 e3 hc2
   have HWS := hid K6.out.size
   have OB := hid (fun W => behind_any y x W)
   have hyo := hid (HY.out.behind HX.out)
   obtain ⟨ys, hys⟩ : ∃ ys, (zs.take q).foldl (fun a z => addL h a (z.behind x)) xs = ys := ⟨_, rfl⟩
   rw [hys] at R6 HTK
   clear hys
   go_upto_region 4 with fail
   refine opq (fun W6 => W6.heap[wr.heap.size]? = some (spo y) ∧ W6.heap[(w.heap.size + 1)]? = some (spo x) ∧ RowW M O base R h ys lv' pl' sn' W6 ∧ SpL W6 (okB M (oR O R lv' sn')) (.slice (some ⟨b2, 0, none⟩) Z c) zs ∧ Kx (fun b => M b ≠ none ∨ rowB R lv sn b) W0 W6) ⟨by exact last_of _ _, by exact bl_alloc X6.out _, by exact R6.out.kp ((Kp.refl _).alloc _), by exact S6.out.keep (by simp) (fun b hb hl => ⟨hb, ((Kp.refl _).alloc _).block _ hl⟩), by exact K6.out.alloc _⟩ ?_
   rintro W6 ⟨xY7, xX7, xR7, xS7, xK7⟩
   have Y7 := hid xY7
   have X7 := hid xX7
   have R7 := hid xR7
   have S7 := hid xS7
   have K7 := hid xK7
   clear xY7 xX7 xR7 xS7 xK7
   clear x0 x1 x2 x3 x4 x5 x6 R6 S6 K6 X6
   obtain ⟨y0, y1, y2, y3, y4, y5, y6⟩ := cells7 (Y7.out)
   obtain ⟨x0, x1, x2, x3, x4, x5, x6⟩ := cells7 (X7.out)
   go_wp2_with fail
   refine (OB.out _).mono ?_
   rintro e yw ⟨rfl, KQ⟩
   clear y0 y1 y2 y3 y4 y5 y6 x0 x1 x2 x3 x4 x5 x6
   have RB := hid (R7.out.kp KQ)
   have SB := hid (S7.out.keep (w' := yw) (ok' := okB M (oR O R lv' sn')) KQ.size (fun b hb hl => ⟨hb, KQ.block b hl⟩))
   have KB := hid (K7.out.then KQ)
   clear KQ Y7 X7 R7 S7 K7
   go_wp2_with fail
   refine (raddA_any R h pl' lv' sn' base ys (y.behind x) hyo.out _ RB.out.b RB.out.i HRB.out (by have := HBW.out; have := HS0.out; have := KB.out.size; omega)).mono ?_
   rintro e y2 hd
   obtain ⟨rfl, l2, p2, n2, hr2, ho2, hs2, hk2⟩ := RB.out.add HOM.out hd
   clear hd
   have RC := hid hr2
   have LC := hid ho2
   have NC := hid hs2
   have KC := hid hk2
   clear hr2 ho2 hs2 hk2
   go_wp2_with fail
   go_roundg (gk - 1)
   case measure => omega
   case rel => exact ⟨q + 1, l2, p2, n2, by omega, by go_num, by rw [HTK.out]; exact RC.out, walk_own L6.out LC.out KB.out.size, walk_own N6.out NC.out KB.out.size, SB.out.keep KC.out.size (fun b hb hl => ⟨okB_step LC.out NC.out hb hl, KC.out.block b hl (fun e => hb.1 (Or.inr e))⟩), KB.out.past2 KC.out (walk_row L6.out N6.out)⟩
  ·
   have ga : ¬ (q : Int) < (Z : Int) := by omega
   have HTK : Hid (walkF (ways s.data.toList bol p) p.rd h xs x = (zs.take q).foldl (fun a z => addL h a (z.behind x)) xs) := by
    show _ = _
    unfold walkF
    rw [HZS.out, List.take_of_length_le (by rw [HZL.out]; omega)]
   go_wp2_with fail
   refine bodyPost_end (v := .tuple #[]) (results_none rfl _ _ _) rfl ⟨rfl, lv', pl', sn', by rw [HTK.out]; exact R6.out, fun b e => (L6.out b e).imp id (fun e => by have := HS0.out; omega), fun b e => (N6.out b e).imp id (fun e => by have := HS0.out; omega), (Kp.kx K0.out).trans K6.out⟩
end Go.Proofs.YtnajcnhgeggngaaGreat.Way

/-! ### HeedR -/

namespace Go.Proofs.YtnajcnhgeggngaaGreat.Way
set_option maxHeartbeats 2000000
set_option maxRecDepth 100000
open Go.RowKit Go.Shelf Go.Proofs.YtnajcnhgeggngaaGreat
attribute [local go_sem] Oper.semAt_some

abbrev Drw (a b : World) : Prop := b = a.drew
def RowI2 (g : Nat) (kids : List Pt) (Bg : Nat) (W0 : World) (pre : List (Fin kids.length)) (W : World) : Prop :=
 W.cell? ⟨Bg, 0, none⟩ = some (.int .u8 ((pre.foldl tellS (kids, g)).2 : Int)) ∧ W.frozen? ⟨Bg, 0, none⟩ = false ∧ PtsAt W TT (pre.foldl tellS (kids, g)).1 ∧ Kx (fun b => b ∈ pblkss kids ∨ b = Bg) W0 W
theorem tellI_fold {g : Nat} {kids : List Pt} (hh : PtsH kids) (hg : g < 8) (hw : WdOk kids) : ∀ (pre : List (Fin kids.length)), TellI kids (pre.foldl tellS (kids, g)) := by
 intro pre
 have gen : ∀ (l : List (Fin kids.length)) (s : List Pt × Nat), TellI kids s → TellI kids (l.foldl tellS s) := fun l => by
  induction l with
  | nil => exact fun s h => h
  | cons x xs ih => exact fun s h => ih (tellS s x) (h.tell hw x)
 exact gen pre _ (TellI.start hh hg)
theorem kc_row {W W' : World} {row : Option Nat} (g : W.grownBy W' row) (hr : ∀ r, row = some r → ∃ o : Obj, W.heap[r]? = some o ∧ o.isCells = false) : KC W W' := by
 refine ⟨g.size, fun b cs t fr hb => (g.block b (Array.getElem?_eq_some_iff.1 hb).1 (fun e => ?_)).trans hb⟩
 obtain ⟨o, ho, hc⟩ := hr b e.symm
 rw [hb] at ho
 cases ho
 cases hc
theorem rowI2_own {g : Nat} {kids : List Pt} {Bg B : Nat} {W0 : World} (hB : W0.heap.size ≤ B) : OwnFrom B (RowI2 g kids Bg W0) := fun pre A A' row hs hg hr => by
 obtain ⟨h1, h2, h3, h4⟩ := hs
 have hr2 : ∀ r, row = some r → ∃ o : Obj, A.heap[r]? = some o ∧ o.isCells = false := fun r e => (hr r e).2
 have kc := kc_row hg hr2
 exact ⟨cell_kept h1 hg hr2, (frozen_kept h1 hg hr2).trans h2, PtsAt.kc kc _ h3, h4.grown hg (fun k e hk => by have := (hr k e).1; omega)⟩
def OnlyN (Q : Exit → Act → World → Prop) : Exit → Act → World → Prop
 | .normal, a, w => Q .normal a w
 | _, _, _ => False
theorem OnlyN.normal {Q : Exit → Act → World → Prop} {a : Act} {w : World} (h : Q .normal a w) : OnlyN Q .normal a w := h
theorem OnlyN.imp {Q : Exit → Act → World → Prop} : ∀ (e : Exit) (a : Act) (w : World), OnlyN Q e a w → Q e a w := fun e a w h => by
 cases e <;> first | exact h | exact h.elim
section
variable {P : Program} {ops : Array Oper} {Q Q0 : Exit → Act → World → Prop} {md : Region.Mode} {S : World → Prop} {z l n : Nat}
theorem op_wide {o : Oper} {a : Act} {w : World} {K K' : Act → World → Prop} (hK : ∀ a w, K a w → K' a w) (hQ : ∀ e a w, Q0 e a w → Q e a w) (hd : ∀ c, o.op ≠ .defer c) (h : o.wp P a w K Q0) : o.wpIn (Fence.wide.inRound l) n P a w K' Q := by
 refine ⟨fun _ _ => trivial, ?_⟩
 show o.uponIn (Fence.wide.inRound l) n P a K' Q ((Oper.semAt (some l) a.eval o).run P w)
 rw [Oper.semAt_some l a.eval o hd]
 unfold Oper.wp at h
 revert h
 generalize (execOp a.eval o).run P w = r
 intro h
 cases r with
 | ok x w' =>
  cases x <;> simp only [Oper.upon, Oper.uponIn] at h ⊢
  case value => exact hK _ _ h
  case skip => exact hK _ _ h
  case defer => exact hK _ _ h
  case enter => exact ⟨fun e => absurd e (by simp [Fence.inRound, Fence.wide]), CallsIn.inRound l (callsIn_wide.2 (Calls.mono h (fun e w'' he => by cases e <;> first | exact hK _ _ he | exact hQ _ _ _ he | exact (let ⟨a, w, q⟩ := he; ⟨a, w, hQ _ _ _ q⟩))))⟩
  case row => exact ⟨fun e => absurd e (by simp [Fence.inRound, Fence.wide]), fun c cs _ => let ⟨v, w2, r, st⟩ := h c cs; ⟨v, w2, hK _ _ r, stepsIn_wide.2 st⟩⟩
 | halt x w' => cases x <;> simp only [Oper.upon, Oper.uponIn] at h ⊢ <;> first | exact h | exact hQ _ _ _ h
theorem any_wide (hQ : ∀ e a w, Q0 e a w → Q e a w) (hL : ¬ LetsOut Q0) (hd : ∀ (i : Nat) (o : Oper), ops[i]? = some o → ∀ c, o.op ≠ .defer c) : ∀ (fuel : Nat) (listed : Array Bool) (a : Act) (w : World), wpAny P md ops Q0 fuel listed a w → wpAnyIn (Fence.wide.inRound l) n P md ops Q fuel listed a w
 | 0, _, _, _, h => ⟨h.1, hQ _ _ _ h.2⟩
 | fuel + 1, listed, a, w, ⟨h0, h1⟩ => ⟨fun e => hQ _ _ _ (h0 e), fun i hi => by
  have h2 := h1 i hi
  unfold wpOp at h2
  unfold wpOpIn
  split
  ·
   rename_i hn
   rw [hn] at h2
   exact any_wide hQ hL hd fuel _ _ _ h2
  ·
   rename_i o ho
   rw [ho] at h2
   simp only at h2
   split
   ·
    rename_i hw
    rw [if_pos hw] at h2
    exact op_wide (fun a w hk => any_wide hQ hL hd fuel _ a w hk) hQ (hd i o ho) (h2.resolve_right (fun e => hL e.2))
   ·
    rename_i hw
    rw [if_neg hw] at h2
    exact ⟨fun _ _ => trivial, any_wide hQ hL hd fuel _ _ _ h2⟩⟩
theorem region_Zr {id : Nat} {a : Act} {w : World} (hm : P.follows .mixedOrders = true) (hd : ops.toList.all (fun o => match o.op with | .defer _ => false | _ => true) = true) (hS : S w.drew)
  (h : S w.drew → anyZ P .any ops (OnlyN Q) S z ops.size (Array.replicate ops.size false) a w.drew) : (Code.region id ops true).wpIn (Fence.wide.inRound l) n P Q a w := by
 refine wpIn_region_any hm (any_wide OnlyN.imp (fun ⟨_, _, h⟩ => h) (fun i o ho c e => ?_) _ _ _ _ (any_of_Z (S := S) (z := z) _ _ _ _ (h hS)))
 have h1 := List.all_eq_true.1 hd o (by rw [← Array.getElem?_toList] at ho; exact List.mem_of_getElem? ho)
 rw [e] at h1
 cases h1
end
theorem keeps_num {S : Nat → Prop} {W y : World} (k : Kx S W y) (hn : ∀ b, S b → NumB W b) : KeepsOthers W y := by
 refine ⟨k.size, fun b o hb ho => (k.block b (Array.getElem?_eq_some_iff.1 hb).1 (fun e => ?_)).trans hb⟩
 obtain ⟨_, v, hv⟩ := hn b e
 obtain ⟨o2, h2, h3⟩ := cells_of_cell hv
 have h4 : some o2 = some o := h2.symm.trans hb
 injection h4 with h4
 rw [h4, ho] at h3
 cases h3
set_option maxHeartbeats 4000000 in
theorem heed_row (low high n : Int) (s : W4) (P rd st hd : Nat) (kn so : Option Nat) (kids : List Pt) (H : ∀ q, psize q < psize (.mk 2 low high n s P kn so rd st hd kids) → PtH q → HeedS q) (hH : PtH (.mk 2 low high n s P kn so rd st hd kids)) : HeedS (.mk 2 low high n s P kn so rd st hd kids) := by
 refine ⟨fun g w hg hp hnd => ?_⟩
 unfold PtH at hH
 obtain ⟨hr8, hwd, -, -, hS, hHs⟩ := hH
 unfold PtAt at hp
 obtain ⟨_, ⟨ad, c, hblk, hcap, hat⟩, hpts⟩ := hp
 unfold blks at hnd
 have hndc := List.nodup_cons.1 hnd
 have hndk : (blkss kids).Nodup := (List.nodup_append.1 hndc.2).2.1
 have hPk : P ∉ pblkss kids := fun e => hndc.1 (List.mem_append_right _ (pblkss_sub kids P e))
 have hTI := tellI_fold hHs hg hwd
 have hHHE : heed g (.mk 2 low high n s P kn so rd st hd kids) = .mk 2 low high n s P kn so rd st g (heedR g kids).1 := by rw [heed, if_pos rfl]
 have hwl : P < w.heap.size := bl_lt hblk
 have hks : KidS w TT ad c kids := ⟨hcap, hat⟩
 have hHq : ∀ q, psize q ≤ psizes kids → PtH q → HeedS q := fun q hq => H q (by rw [psize]; omega)
 have hgl : ∀ b ∈ pblkss kids, b < w.heap.size := fun b hb => (PtsAt.num kids hpts b hb).2
 clear hcap hat hnd hndc H hHs
 show Calls Tryz.prog 33 #[ptv P, .int .u8 (g : Int)] w fun e w' => HeedD (.mk 2 low high n s P kn so rd st hd kids) g w e w'
 refine (callsIn_wide (n := 5)).1 ?_
 refine callsIn_of_wp_marks Tryz.func33 rfl trivial ?_ rfl
 simp only [Tryz.ntmps33, List.size_toArray, List.length_cons, List.length_nil, Nat.reduceAdd, Nat.reduceSub, Array.replicate_succ, Array.replicate_zero, List.push_toArray, List.append_toArray, List.nil_append, List.cons_append]
 have HB := hid hblk
 have HKS := hid hks
 have HPT := hid hpts
 have HGL := hid hgl
 have HTI := hid hTI
 have HND := hid hndk
 have HHE := hid hHHE
 have HHQ := hid hHq
 have HPK := hid hPk
 have HWD := hid hwd
 have HSS := hid hS
 have g0 := bl_cell (last_of w (.cells #[.int .u8 (g : Int)] 75)) 0 _ rfl
 have p11 := bl_cell (bl_alloc hblk (.cells #[.int .u8 (g : Int)] 75)) 11 _ rfl
 have fp11 := bl_frozen (bl_alloc hblk (.cells #[.int .u8 (g : Int)] 75)) 11
 have q0 := bl_cell (bl_put (bl_alloc hblk (.cells #[.int .u8 (g : Int)] 75)) (.int .u8 (g : Int)) (j := 11)) 0 _ rfl
 have q8 := bl_cell (bl_put (bl_alloc hblk (.cells #[.int .u8 (g : Int)] 75)) (.int .u8 (g : Int)) (j := 11)) 8 _ rfl
 have HWL := hid hwl
 clear hblk hks hpts hgl hTI hndk hHHE hHq hPk hwd hwl
 gi_wp2_with (refine ⟨trivial, ?_⟩; gi_at_call 51; refine (callsIn_wide.2 (make_back ad kids.length c _)).mono ?_; rintro e w' ⟨rfl, rfl⟩)
 clear g0 p11 fp11 q0 q8
 obtain ⟨Wb, hWb⟩ : ∃ Wb, (w.alloc (.cells #[.int .u8 (g : Int)] 75)).setCell ⟨P, 11, none⟩ (.int .u8 (g : Int)) = Wb := ⟨_, rfl⟩
 have hPb : Wb.heap[P]? = some (pto 2 low high n s (.slice ad kids.length c) rd st g kn so) := by rw [← hWb]; exact bl_put (bl_alloc HB.out _) _
 have hGb : Wb.heap[w.heap.size]? = some (.cells #[.int .u8 (g : Int)] 75) := by rw [← hWb]; exact (Below.heap_setCell _ ⟨P, 11, none⟩ _ w.heap.size (show w.heap.size ≠ P by have := HWL.out; omega)).trans (last_of _ _)
 have hKb0 : Kx (fun b => b = P) w Wb := by rw [← hWb]; exact Kx.set (S := fun b => b = P) ((Kx.refl _ _).alloc _) (fun _ => rfl) _ _
 have hsz : Wb.heap.size = w.heap.size + 1 := by rw [← hWb]; simp
 rw [hWb]
 clear hWb
 obtain ⟨W0, hW0⟩ : ∃ W0, Wb.alloc (.cells #[.slice ad kids.length c] 124) = W0 := ⟨_, rfl⟩
 have hk0 : Kp Wb W0 := by rw [← hW0]; exact (Kp.refl _).alloc _
 have hSb : W0.heap[Wb.heap.size]? = some (.cells #[.slice ad kids.length c] 124) := by rw [← hW0]; exact last_of _ _
 rw [hsz] at hSb
 rw [hW0]
 clear hW0 hsz
 have hnum : ∀ b, b < w.heap.size → b = P → NumB w b := fun b _ e => by rw [e]; exact ⟨_, 2, bl_cell HB.out 0 _ rfl⟩
 have PB0 := hid (bl_kp hPb hk0)
 have GB0 := hid (bl_kp hGb hk0)
 have KS0 := hid ((KidS.apart HKS.out hKb0 hnum).kp hk0)
 have PT0 := hid (PtsAt.kp (PtsAt.apart hKb0 hnum kids HPT.out (fun b hb e => HPK.out (by rw [← e]; exact hb))) hk0)
 have K00 := hid (hKb0.then hk0)
 have HSB := hid hSb
 have HBsl := hid (bl_lt hSb)
 obtain ⟨f, hf⟩ : ∃ f : Nat → Nat, ∀ j q, kids[j]? = some q → f j = q.P := ⟨fun j => ((kids[j]?).map Pt.P).getD 0, fun j q hq => by show ((kids[j]?).map Pt.P).getD 0 = q.P; rw [hq]; rfl⟩
 obtain ⟨kb, hkbl, hkbc, hkbp, hkbg⟩ : ∃ kb, kb < W0.heap.size ∧ (0 < kids.length → ad = some ⟨kb, 0, none⟩ ∧ ∀ j, j < kids.length → W0.cell? ⟨kb, j, none⟩ = some (ptv (f j))) ∧ ¬ kb ∈ pblkss kids ∧ kb ≠ w.heap.size := by
  by_cases h0 : 0 < kids.length
  ·
   obtain ⟨b, e, _, hlt, hce⟩ := KS0.out.at_ h0
   have hce2 : ∀ j, j < kids.length → W0.cell? ⟨b, j, none⟩ = some (ptv (f j)) := fun j hj => by
    obtain ⟨q, hq⟩ : ∃ q, kids[j]? = some q := ⟨_, List.getElem?_eq_getElem hj⟩
    rw [hf j q hq]
    exact hce j q hq
   have hnn := ptv_not (hce2 0 h0)
   exact ⟨b, hlt, fun _ => ⟨e, hce2⟩, fun e => hnn (PtsAt.num kids PT0.out b e).1, fun e => by
    have h1 := hce2 0 h0
    rw [e, bl_cell GB0.out 0 _ rfl] at h1
    cases h1⟩
  ·
   have hk : kids = [] := List.length_eq_zero_iff.1 (by omega)
   exact ⟨(w.heap.size + 1), HBsl.out, fun h => absurd h h0, (fun e => by rw [hk] at e; cases e), by omega⟩
 have HF := hid hf
 have HKBP := hid hkbp
 have HKBG := hid hkbg
 have HBS := hid (show ¬ (w.heap.size + 1) ∈ pblkss kids from fun e => by have := HGL.out _ e; omega)
 have HBG := hid (show (w.heap.size + 1) ≠ w.heap.size by omega)
 clear hPb hGb hKb0 hk0 hSb hnum hf HB HKS HPT
 refine wpIn_rangeFunc_ownF rfl (by omega) (gf := 79) (lb := #[.pointer (some ⟨(w.heap.size + 1), 0, none⟩)]) rfl trivial (enters_of Tryz.func79 (by kernel_rfl) rfl)
  (back_stops 4 (by omega) (w.heap.size + 1) kb kids.length c ad f HSS.out W0 HBsl.out hkbl (bl_cell HSB.out 0 _ rfl) hkbc) (fun h k => h.trans k)
  (fun W l o o' hl _ _ _ => ⟨World.putObj_heap_other (by have := HBsl.out; omega), World.putObj_heap_other (by omega)⟩) (Below.refl _ _) (fun _ => rfl)
  (RowI2 g kids w.heap.size W0) (fun _ _ _ => False) (rowI2_own (Nat.le_refl _)) (fun _ _ _ _ _ hs _ _ => hs)
  ⟨bl_cell GB0.out 0 _ rfl, bl_frozen GB0.out 0, PT0.out, Kx.refl _ _⟩ ?a1 ?assign ?body ?done ?stop
 case assign =>
  intro l x W K hK
  gi_wp2
  exact hK
 case body =>
  rintro l pre x W ⟨hc0, hf0, hpt, hkx⟩ _
  have TI := hid (HTI.out pre)
  obtain ⟨st2, hst⟩ : ∃ st2, pre.foldl tellS (kids, g) = st2 := ⟨_, rfl⟩
  have HST := hid hst
  rw [hst] at TI hc0 hpt
  obtain ⟨p0, hp0⟩ : ∃ p0, kids[x.val]? = some p0 := ⟨_, List.getElem?_eq_getElem x.isLt⟩
  obtain ⟨p, hp⟩ : ∃ p, st2.1[x.val]? = some p := ⟨_, List.getElem?_eq_getElem (by rw [TI.out.len]; exact x.isLt)⟩
  obtain ⟨b1, b2, b3, b4, b5, b6, b7⟩ := TI.out.bl _ _ _ hp0 hp
  have hfx : f x.val = p.P := by rw [HF.out _ _ hp0, b3]
  have hwd0 := HWD.out.get _ _ hp0
  rw [hfx]
  have hnd2 : (blkss st2.1).Nodup := by rw [TI.out.nd]; exact HND.out
  have hgl : ∀ b ∈ pblks p, b ∈ pblkss kids := fun b hb => pblkss_get hp0 b (by rw [← b2]; exact hb)
  have hgp : ¬ w.heap.size ∈ pblks p := fun e => by have := HGL.out _ (hgl _ e); omega
  have hgW : w.heap.size < W.heap.size := Nat.lt_of_lt_of_le (bl_lt GB0.out) hkx.size
  have HC : Calls Tryz.prog 33 #[ptv p.P, .int .u8 (st2.2 : Int)] W fun e y => e = .returned (.tuple #[]) ∧ y.cell? ⟨p.P, 9, none⟩ = some (.int .u8 (p.rd : Int)) ∧ y.cell? ⟨p.P, 10, none⟩ = some (.int .u8 (p.st : Int)) ∧ y.cell? ⟨w.heap.size, 0, none⟩ = some (.int .u8 (st2.2 : Int)) ∧ y.frozen? ⟨w.heap.size, 0, none⟩ = false ∧ Hid (PtAt y TT (heed st2.2 p) ∧ Kx (fun b => b ∈ pblks p) W y) := by
   refine ((HHQ.out p (by rw [b6]; exact psize_mem (List.mem_of_getElem? hp0)) b7).all st2.2 W TI.out.g (hpt.get _ _ hp) (blkss_nd hnd2 hp)).mono ?_
   rintro e y hd0
   obtain ⟨rfl, hy1, hy2⟩ := hd0.ex
   obtain ⟨_, _, _, _, _, _, _, _, _, _, -, -, hyb, -, -⟩ := hy1.form
   rw [(heed_P _ p).1, (heed_P _ p).2.1, (heed_P _ p).2.2] at hyb
   have hsame := hy2.block _ hgW hgp
   exact ⟨rfl, bl_cell hyb 9 _ rfl, bl_cell hyb 10 _ rfl, (cell_same hsame _).trans hc0, by unfold World.frozen? at hf0 ⊢; simp only at hf0 ⊢; rw [hsame]; exact hf0, ⟨hy1, hy2⟩⟩
  have gan : bits .andNot .u8 (st2.2 : Int) (p.st : Int) = ((st2.2 &&& (7 - p.st) : Nat) : Int) := u8_not _ _ TI.out.g (by rw [b5]; exact hwd0.2)
  have gor : bits .or .u8 ((st2.2 &&& (7 - p.st) : Nat) : Int) (p.rd : Int) = ((heedG st2.2 p : Nat) : Int) := u8_or _ _ (and8 _ _ TI.out.g) (by rw [b4]; exact hwd0.1)
  have HP := hid hp
  have HPTB := hid hpt
  have HKX := hid hkx
  have HND2 := hid hnd2
  have HGLp := hid hgl
  have HGP := hid hgp
  have HTL : Hid ((pre ++ [x]).foldl tellS (kids, g) = (st2.1.set x.val (heed st2.2 p), heedG st2.2 p)) := by
   show _ = _
   rw [List.foldl_append, HST.out]
   show tellS st2 x = _
   unfold tellS
   rw [hp]
  have HNM := hid (fun b hb => (PtsAt.num st2.1 hpt b (pblkss_get hp b hb)).1)
  clear hf0 hpt hkx hst hp0 hp b1 b2 b3 b4 b5 b6 b7 hfx hwd0 hnd2 hgl hgp hgW
  gi_wp2_with (refine ⟨trivial, ?_⟩; gi_at_call 33; refine (CallsIn.inRound l (callsIn_wide.2 HC)).mono ?_; clear HC; rintro e y ⟨rfl, hq9, hq10, hq0, hqf, hqr⟩)
  have Q0 : Drw y y.drew := rfl
  have MK : Hid (∀ W, Drw y W → W.cell? ⟨w.heap.size, 0, none⟩ = some (.int .u8 (st2.2 : Int)) ∧ W.cell? ⟨p.P, 9, none⟩ = some (.int .u8 (p.rd : Int)) ∧ W.cell? ⟨p.P, 10, none⟩ = some (.int .u8 (p.st : Int)) ∧ Hid (Drw y W)) := fun W k => ⟨(by rw [show W = y.drew from k]; exact hq0), (by rw [show W = y.drew from k]; exact hq9), (by rw [show W = y.drew from k]; exact hq10), k⟩
  refine region_Zr (z := 13) (S := (fun W => W.cell? ⟨w.heap.size, 0, none⟩ = some (.int .u8 (st2.2 : Int)) ∧ W.cell? ⟨p.P, 9, none⟩ = some (.int .u8 (p.rd : Int)) ∧ W.cell? ⟨p.P, 10, none⟩ = some (.int .u8 (p.st : Int)) ∧ Hid (Drw y W))) (by kernel_rfl) (by kernel_rfl) ?_ (fun hH => ?_)
  ·
   exact MK.out _ Q0
  have KQ := Q0
  refine zk 13 0 [] (some 28) (Op.load 75 (Operand.tmp 3)) 75 (v := ?v0h1) rfl ?h0h1 hH ?_
  case h0h1 => intro _ _; go_simp; try with_reducible rfl
  try simp only [ps]
  refine zk 13 1 [] (some 29) (Op.move (Operand.tmp 5)) 71 (v := ?v1h2) rfl ?h1h2 hH ?_
  case h1h2 => intro _ _; go_simp; try with_reducible rfl
  try simp only [ps]
  refine zk 13 2 [] (some 30) (Op.nilCheck (Operand.tmp 29)) 0 (v := ?v2h3) rfl ?h2h3 hH ?_
  case h2h3 => intro _ _; go_simp; try with_reducible rfl
  try simp only [ps]
  refine zk 13 3 [] (some 31) (Op.fieldAddr 130 (Operand.tmp 30) 6) 0 (v := ?v3h4) rfl ?h3h4 hH ?_
  case h3h4 => intro _ _; go_simp; try with_reducible rfl
  try simp only [ps]
  refine zk 13 4 [] (some 32) (Op.fieldAddr 126 (Operand.tmp 31) 1) 0 (v := ?v4h5) rfl ?h4h5 hH ?_
  case h4h5 => intro _ _; go_simp; try with_reducible rfl
  try simp only [ps]
  refine zk 13 5 [] (some 33) (Op.load 75 (Operand.tmp 32)) 75 (v := ?v5h6) rfl ?h5h6 hH ?_
  case h5h6 => intro _ _; go_simp; try with_reducible rfl
  try simp only [ps]
  refine zk 13 6 [] (some 34) (Op.binOp BinOp.andNot 75 (Operand.tmp 28) (Operand.tmp 33) 75) 75 (v := ?v6h7) rfl ?h6h7 hH ?_
  case h6h7 => intro _ _; go_simp; try with_reducible rfl
  try simp only [ps]
  refine zk 13 7 [] (some 35) (Op.move (Operand.tmp 5)) 71 (v := ?v7h8) rfl ?h7h8 hH ?_
  case h7h8 => intro _ _; go_simp; try with_reducible rfl
  try simp only [ps]
  refine zk 13 8 [] (some 36) (Op.nilCheck (Operand.tmp 35)) 0 (v := ?v8h9) rfl ?h8h9 hH ?_
  case h8h9 => intro _ _; go_simp; try with_reducible rfl
  try simp only [ps]
  refine zk 13 9 [] (some 37) (Op.fieldAddr 130 (Operand.tmp 36) 6) 0 (v := ?v9h10) rfl ?h9h10 hH ?_
  case h9h10 => intro _ _; go_simp; try with_reducible rfl
  try simp only [ps]
  refine zk 13 10 [] (some 38) (Op.fieldAddr 126 (Operand.tmp 37) 0) 0 (v := ?v10h11) rfl ?h10h11 hH ?_
  case h10h11 => intro _ _; go_simp; try with_reducible rfl
  try simp only [ps]
  refine zk 13 11 [] (some 39) (Op.load 75 (Operand.tmp 38)) 75 (v := ?v11h12) rfl ?h11h12 hH ?_
  case h11h12 => intro _ _; go_simp; try with_reducible rfl
  try simp only [ps]
  refine zk 13 12 [] (some 40) (Op.binOp BinOp.or 75 (Operand.tmp 34) (Operand.tmp 39) 75) 75 (v := ?v12h13) rfl ?h12h13 hH ?_
  case h12h13 => intro _ _; go_simp; try with_reducible rfl
  try simp only [ps]
  refine anyZ_ready (rs := [13]) (by kernel_rfl) (by simp) ?_
  refine AllZ.last (o := { dst := none, op := Op.store 75 (Operand.tmp 3) (Operand.tmp 40), type := 0, pos := "part.go:62", after := #[{ on := 12, ground := Ground.data }, { on := 0, ground := Ground.phase }, { on := 1, ground := Ground.phase }, { on := 2, ground := Ground.phase }, { on := 3, ground := Ground.phase }, { on := 4, ground := Ground.phase }, { on := 5, ground := Ground.phase }, { on := 6, ground := Ground.phase }, { on := 7, ground := Ground.phase }, { on := 8, ground := Ground.phase }, { on := 9, ground := Ground.phase }, { on := 10, ground := Ground.phase }, { on := 11, ground := Ground.phase }, { on := 12, ground := Ground.phase }], guard := none }) rfl (Or.inl rfl) (fun K hKq => ?_) AllZ.nil
  have z0 : y.drew.cell? ⟨w.heap.size, 0, none⟩ = some (.int .u8 (st2.2 : Int)) := hq0
  have zf : y.drew.frozen? ⟨w.heap.size, 0, none⟩ = false := hqf
  go_simp
  refine hKq.out _ _ ?_
  clear z0 zf
  clear hKq K
  try simp only [ps]
  refine anyZ_done (by kernel_rfl) ?_ _
  refine OnlyN.normal ?_
  gi_wp2
  obtain ⟨hy1, hy2⟩ := hqr.out
  have KY := hid (show Kx (fun b => b = w.heap.size) y (y.setCell ⟨w.heap.size, 0, none⟩ (.int .u8 ((heedG st2.2 p : Nat) : Int))).drew from (Kx.set (S := fun b => b = w.heap.size) (Kx.refl _ y) (fun _ => rfl) _ _).drew)
  refine ⟨?_, ?_, ?_⟩
  ·
   exact ((keeps_num hy2 HNM.out).trans (KeepsOthers.setCell _ _ _)).trans (KeepsOthers.drew _)
  ·
   refine ⟨?_, ?_⟩
   ·
    exact (KY.out.block _ (Nat.lt_of_lt_of_le HBsl.out (Nat.le_trans HKX.out.size hy2.size)) HBG.out).trans (hy2.block _ (Nat.lt_of_lt_of_le HBsl.out HKX.out.size) (fun e => HBS.out (HGLp.out _ e)))
   ·
    exact (KY.out.block _ (Nat.lt_of_lt_of_le hkbl (Nat.le_trans HKX.out.size hy2.size)) HKBG.out).trans (hy2.block _ (Nat.lt_of_lt_of_le hkbl HKX.out.size) (fun e => HKBP.out (HGLp.out _ e)))
  ·
   show RowI2 g kids w.heap.size W0 (pre ++ [x]) _
   have hti := HTI.out (pre ++ [x])
   unfold RowI2
   rw [HTL.out] at hti ⊢
   have hset := PtsAt.set HPTB.out HND2.out HP.out hy2 hy1
   refine ⟨World.cell?_setCell_same' _ _ _ (by show (y.cell? ⟨w.heap.size, 0, none⟩).isSome = true; rw [hq0]; rfl), by show (y.setCell _ _).frozen? _ = false; rw [World.frozen?_setCell]; exact hqf, PtsAt.apart KY.out (fun b _ e => by rw [e]; exact ⟨_, _, hq0⟩) _ hset (fun b hb e => ?_), ?_⟩
   ·
    rw [hti.ndp] at hb
    have := HGL.out _ hb
    omega
   ·
    exact (HKX.out.trans (hy2.mono (fun b _ hb => Or.inl (HGLp.out b hb)))).trans (KY.out.mono (fun b _ e => Or.inr e))
 case done =>
  rintro D xs W hD hxs ⟨hc0, hf0, hpt, hkx⟩ hK
  rw [tell_back kids.length 0 xs (by omega) hxs] at hpt
  have hpt2 : PtsAt W TT (heedR g kids).1 := by rw [← back_all]; exact hpt
  have hg := grownBy_putObj' W D (.deferred none)
  have kc : KC W (W.putObj D (.deferred none)) := kc_row hg (fun r e => by cases e; exact ⟨_, hK, rfl⟩)
  have hkx2 : Kx (fun b => b ∈ pblkss kids ∨ b = w.heap.size) W0 (W.putObj D (.deferred none)) := hkx.grown hg (fun k e hk => by cases e; omega)
  have hnum : ∀ b, b < W0.heap.size → (b ∈ pblkss kids ∨ b = w.heap.size) → NumB W0 b := fun b _ e => by
   rcases e with e | e
   ·
    exact (PtsAt.num kids PT0.out b e).1
   ·
    rw [e]; exact ⟨_, _, bl_cell GB0.out 0 _ rfl⟩
  have fin : HeedD (.mk 2 low high n s P kn so rd st hd kids) g w (.returned (.tuple #[])) (W.putObj D (.deferred none)) := heed_done2 HHE.out (bl_kx PB0.out hkx2 (fun e => e.elim HPK.out (fun e => by have := HWL.out; omega))) (KidS.apart KS0.out hkx2 hnum) (map_heedR g kids) (PtsAt.kc kc _ hpt2) ((K00.out.mono (fun b _ e => Or.inl e)).past2 hkx2 (fun b hb e => e.elim (fun e => Or.inr e) (fun e => by omega)))
  have FIN := hid fin
  clear hc0 hf0 hpt hkx hpt2 hg kc hkx2 hnum fin
  gi_wp2
  refine ⟨by simp, .inl ⟨_, _, rfl, run_takeDeferred hK, ?_⟩⟩
  exact ⟨_, results_none rfl _ _ _, FIN.out⟩
 case stop =>
  rintro D c pre W _ _ h _
  exact h.elim
end Go.Proofs.YtnajcnhgeggngaaGreat.Way

/-! ### Bld -/

namespace Go.Proofs.YtnajcnhgeggngaaGreat.Way
set_option maxHeartbeats 2000000
set_option maxRecDepth 100000
open Go.RowKit Go.Proofs.YtnajcnhgeggngaaGreat

theorem make127 (w : World) : (Instr.makeMap 127 none).run Tryz.prog w = .ok (.map (some w.heap.size)) (w.alloc (.map #[] 0)) := run_makeMap 127 w
theorem make128 (w : World) : (Instr.makeMap 128 none).run Tryz.prog w = .ok (.map (some w.heap.size)) (w.alloc (.map #[] 0)) := run_makeMap 128 w
structure BuildS (r : Rx) : Prop where
 all : ∀ (ok : Nat → Prop) (v : Value) (w : World), Is w ok r v → Calls Tryz.prog 32 #[v] w fun e w' => ∃ p, e = .returned (ptv p.P) ∧ BuildD r w p w'
structure NewM (P : Nat) (lf : Bool) (kn so : Option Nat) (w : World) : Prop where
 nd : (P :: (kn.toList ++ so.toList)).Nodup
 at_ : ∀ b ∈ kn.toList ++ so.toList, P < b ∧ b < w.heap.size ∧ w.heap[b]? = some (.map #[] 0)
 n_ : lf = false → (∃ b, kn = some b) ∧ ∃ c, so = some c
theorem NewM.kp {P : Nat} {lf : Bool} {kn so : Option Nat} {w w' : World} (h : NewM P lf kn so w) (k : Kp w w') : NewM P lf kn so w' := ⟨h.nd, fun b hb => ⟨(h.at_ b hb).1, Nat.lt_of_lt_of_le (h.at_ b hb).2.1 k.size, bl_kp (h.at_ b hb).2.2 k⟩, h.n_⟩
theorem nodup3 {a b c : Nat} (h1 : a ≠ b) (h2 : a ≠ c) (h3 : b ≠ c) : (a :: ((some b).toList ++ (some c).toList)).Nodup := by
 simp [h1, h2, h3]
theorem ks_past {P : Nat} {S : Nat → Prop} {a b c d : World} (h : Ks P a b) (k : Kp b c) (g : Kx S c d) (hs : ∀ x, x < a.heap.size → S x → False) (hP : P < a.heap.size) (j : Nat) (u : Value) : Ks P a (d.setCell ⟨P, j, none⟩ u) := by
 have h1 := h.kpt k hP
 have hb : ∀ x, x < a.heap.size → x ≠ P → d.heap[x]? = a.heap[x]? := fun x hx hn => (g.block x (Nat.lt_of_lt_of_le hx h1.size) (fun e => hs x hx e)).trans (h1.block x hx hn)
 exact Ks.set ⟨⟨g.lo.os.trans h1.lo.os, g.lo.tape.trans h1.lo.tape, g.lo.output.trans h1.lo.output, Nat.le_trans h1.size g.size, fun x hx => hb x (by omega) (by omega)⟩, hb⟩ j u
theorem build_done {P base : Nat} {k mn mx n : Int} {s : W4} {kn so : Option Nat} {kids : List Rx} {vad : Option Addr} {vc : Nat} {ps : List Pt} {lf : Bool} {w Wb w3 w4 : World} (BW : BldW P base k mn mx n s kn so kids (.slice vad (ps.map Pt.P).length vc) ps w3) (NM : NewM P lf kn so Wb) (hb : Wb.heap.size = base) (KS : Ks P Wb w3) (hP : w.heap.size ≤ P) (KB : Kp w Wb) (hlf : leafK k = lf) (h4 : w4.heap[P]? = some (pto k mn mx n s (.slice vad ps.length vc) (usedP k mn n ps).1 (usedP k mn n ps).2 0 kn so)) (K4 : Ks P w3 w4) : BuildD (.mk k mn mx n s kids) w (.mk k mn mx n s P kn so (usedP k mn n ps).1 (usedP k mn n ps).2 0 ps) w4 := by
 have hpb := BW.pb
 have K04 : Ks P Wb w4 := KS.trans K4
 have hwb := KB.size
 have hb4 := K04.size
 have h34 := K4.size
 have hki := BW.row.kids (ok := fun b => base ≤ b) (fun _ h => h)
 have keep : ∀ b, base ≤ b → b < w3.heap.size → w.heap.size ≤ b ∧ w4.heap[b]? = w3.heap[b]? := fun b hb2 hl => ⟨by omega, K4.block b hl (by omega)⟩
 have mp : ∀ b ∈ kn.toList ++ so.toList, w.heap.size ≤ b ∧ b < base ∧ w4.heap[b]? = some (.map #[] 0) := fun b hm => by
  obtain ⟨a1, a2, a3⟩ := NM.at_ b hm
  exact ⟨by omega, by omega, (K04.block b a2 (by omega)).trans a3⟩
 refine ⟨?_, ?_, ?_, fun b hb2 => ?_, fun b hb2 => ?_, ?_, K04.up KB hP⟩
 ·
  unfold er bldE
  rw [BW.er, ← used_er k mn n ps, BW.er]
 ·
  unfold PtAt
  refine ⟨hP, ⟨vad, vc, h4, hki.cap, fun hl => ?_⟩, PtsAt.keep h34 (fun b hb2 hl => keep b hb2.1 hl) ps BW.at_⟩
  obtain ⟨b, e, h1, h2, h3⟩ := hki.at_ hl
  exact ⟨b, e, (keep b h1 h2).1, by omega, fun j q hj => (cell_same (keep b h1 h2).2 _).trans (h3 j q hj)⟩
 ·
  unfold blks
  have hn := List.nodup_cons.1 NM.nd
  refine List.nodup_cons.2 ⟨fun e => ?_, List.nodup_append.2 ⟨hn.2, BW.nd, fun a ha b hb2 e => ?_⟩⟩
  ·
   rcases List.mem_append.1 e with e | e
   ·
    exact hn.1 e
   ·
    have := (BW.rng P e).1
    omega
  ·
   have := (mp a ha).2.1
   have := (BW.rng b hb2).1
   omega
 ·
  unfold blks at hb2
  rcases List.mem_cons.1 hb2 with e | e
  ·
   subst e
   exact ⟨hP, by omega⟩
  ·
   rcases List.mem_append.1 e with e | e
   ·
    obtain ⟨a1, a2, _⟩ := mp b e
    exact ⟨a1, by omega⟩
   ·
    obtain ⟨a1, a2, _⟩ := BW.rng b e
    exact ⟨by omega, by omega⟩
 ·
  unfold mapsOf at hb2
  rcases List.mem_append.1 hb2 with e | e
  ·
   exact (mp b e).2.2
  ·
   obtain ⟨a1, a2, _⟩ := BW.rng b (mapss_sub ps b e)
   exact (keep b a1 a2).2.trans (BW.maps b e)
 ·
  unfold PtN
  exact ⟨fun e => NM.n_ (hlf.symm.trans e), BW.n_⟩
theorem build_step (k mn mx n : Int) (s : W4) (kids : List Rx) (H : ∀ r, r ∈ kids → BuildS r) (hW : RxW (.mk k mn mx n s kids)) : BuildS (.mk k mn mx n s kids) := by
 refine ⟨fun ok v w hI => ?_⟩
 unfold RxW at hW
 obtain ⟨hw1, hw2, hw3, hw4, hS, hw6⟩ := hW
 obtain ⟨ad, l, c, rfl, hr⟩ := hI.row
 have hle := hr.ln
 have hlc := hr.cp
 subst hle
 obtain ⟨L, hL⟩ : ∃ L, kids.length = L := ⟨_, rfl⟩
 rw [hL] at hr hlc hS ⊢
 have HL := hid hL
 have RR := hid hr
 have HH := hid H
 have HSS := hid hS
 have HN56 := hid (show k = 6 ∨ k = 5 → n = 1 ∨ n = 2 ∨ n = 3 from fun e => by
  rcases e with rfl | rfl
  ·
   rcases (hw1 rfl).k with e | e | e | ⟨_, e⟩
   ·
    cases e
   ·
    cases e
   ·
    cases e
   ·
    exact e
  ·
   exact hw2 rfl)
 have HNE := hid (show k = 5 ∨ k = 4 → kids ≠ [] from fun e h => by have := hw4 e; rw [h] at this; cases this)
 clear hI hr H hL hw1 hw2 hw3 hw4 hw6
 obtain ⟨lf, hlf⟩ : ∃ lf, leafK k = lf := ⟨_, rfl⟩
 have HLF := hid hlf
 clear hlf
 go_enter Tryz.func32, Tryz.ntmps32
 go_upto_region 1 with fail
 refine opq (fun Wa => Wa.heap[w.heap.size]? = some (rxo k mn mx n s (.slice ad L c)) ∧ Kp w Wa) ⟨by exact last_at _ _ _ (by simp), by exact kpt⟩ ?_
 rintro Wa ⟨xAa, xKa⟩
 have Aa := hid xAa
 have Ka := hid xKa
 clear xAa xKa
 obtain ⟨a0, a1, a2, a3, a4, a5, a6, a7, a8⟩ := cells9 (Aa.out)
 go_upto_region 2 with fail
 refine opq (fun W0 => W0.heap[Wa.heap.size]? = some (pto k mn mx n s (.slice none 0 0) 0 0 0 none none) ∧ W0.heap[w.heap.size]? = some (rxo k mn mx n s (.slice ad L c)) ∧ Kp w W0 ∧ Wa.heap.size < W0.heap.size) ⟨by exact last_of _ _, by exact bl_alloc Aa.out _, by exact Ka.out.alloc _, by simp⟩ ?_
 rintro W0 ⟨xP0, xA0, xK0, xZ0⟩
 have P0 := hid xP0
 have A0 := hid xA0
 have K0 := hid xK0
 have Z0 := hid xZ0
 clear xP0 xA0 xK0 xZ0
 have HPA := hid (show w.heap.size < Wa.heap.size from bl_lt Aa.out)
 clear a0 a1 a2 a3 a4 a5 a6 a7 a8 Aa
 have HPw := hid (show w.heap.size ≤ Wa.heap.size from Ka.out.size)
 obtain ⟨P, hPP⟩ : ∃ P, Wa.heap.size = P := ⟨_, rfl⟩
 rw [hPP] at P0 Z0 HPw HPA ⊢
 clear Ka hPP
 have HLE := hid (leaf_any k mn mx n s (.slice none 0 0) 0 0 0 none none P)
 rw [HLF.out] at HLE
 go_wp2_with fail
 refine (HLE.out _ P0.out).mono ?_
 rintro e w1 ⟨rfl, hw⟩
 rw [hw]
 clear hw w1
 go_upto_if 20 with fail
 go_cut [] (fun wc => ∃ kn so, wc.heap[P]? = some (pto k mn mx n s (.slice none 0 0) 0 0 0 kn so) ∧ NewM P lf kn so wc ∧ Ks P W0 wc)
 case first =>
  cases lf with
  | true =>
   go_wp2_with fail
   go_meet
   case rel => exact ⟨none, none, P0.out, ⟨by simp, (fun b hb => by cases hb), (fun e => by cases e)⟩, Ks.refl _ _⟩
  | false =>
   have hm1 := make127
   have hm2 := make128
   have p12 := bl_cell (bl_alloc P0.out (.map #[] 0)) 12 _ rfl
   have fp12 := bl_frozen (bl_alloc P0.out (.map #[] 0)) 12
   go_upto_region 4 with fail
   refine opq (fun W2 => W2.heap[P]? = some (pto k mn mx n s (.slice none 0 0) 0 0 0 (some W0.heap.size) none) ∧ W2.heap[W0.heap.size]? = some (.map #[] 0) ∧ Ks P W0 W2 ∧ W0.heap.size < W2.heap.size) ⟨by exact bl_put (bl_alloc P0.out _) _, by exact (Below.heap_setCell _ ⟨P, 12, none⟩ _ W0.heap.size (show W0.heap.size ≠ P by have := Z0.out; have := bl_lt P0.out; omega)).trans (last_of _ _), by exact ((Ks.refl P W0).kpt ((Kp.refl W0).alloc _) (bl_lt P0.out)).set _ _, by simp⟩ ?_
   rintro W2 ⟨xP2, xM2, xK2, xZ2⟩
   have P2 := hid xP2
   have M2 := hid xM2
   have K2 := hid xK2
   have Z2 := hid xZ2
   clear xP2 xM2 xK2 xZ2
   clear p12 fp12
   have p13 := bl_cell (bl_alloc P2.out (.map #[] 0)) 13 _ rfl
   have fp13 := bl_frozen (bl_alloc P2.out (.map #[] 0)) 13
   go_wp2_with fail
   go_meet
   case rel => exact ⟨some W0.heap.size, some W2.heap.size, bl_put (bl_alloc P2.out _) _, ⟨by have h1 := bl_lt P0.out; have h2 := Z2.out; exact nodup3 (by omega) (by omega) (by omega), fun b hb => by
    have hz0 := bl_lt P0.out
    have hz2 := Z2.out
    have hb' : b = W0.heap.size ∨ b = W2.heap.size := by simpa using hb
    rcases hb' with rfl | rfl
    ·
     exact ⟨hz0, by simp; omega, (Below.heap_setCell _ ⟨P, 13, none⟩ _ W0.heap.size (show W0.heap.size ≠ P by omega)).trans (bl_alloc M2.out _)⟩
    ·
     exact ⟨by omega, by simp, (Below.heap_setCell _ ⟨P, 13, none⟩ _ W2.heap.size (show W2.heap.size ≠ P by omega)).trans (last_of _ _)⟩, fun _ => ⟨⟨_, rfl⟩, _, rfl⟩⟩, ((K2.out).kpt ((Kp.refl W2).alloc _) (bl_lt P0.out)).set _ _⟩
 case rest =>
 obtain ⟨kn, so, hpb, hnm, hks⟩ := hcut
 rename World => Wb
 have HPL0 := hid (show P < Wb.heap.size from bl_lt hpb)
 have PBb := hid hpb
 have NM := hid hnm
 have KB := hid (hks.up K0.out HPw.out)
 have AB := hid (bl_ks A0.out (by have := HPA.out; omega) hks)
 have BW0 := hid (show BldW P Wb.heap.size k mn mx n s kn so [] (.slice none 0 0) [] Wb from ⟨hpb, rfl, PrR.nil _ _, by unfold PtsAt; trivial, List.nodup_nil, (fun b hb => by cases hb), (fun b hb => by cases hb), by unfold PtsN; trivial, HPL0.out, Nat.le_refl _⟩)
 obtain ⟨base, hbase⟩ : ∃ base, Wb.heap.size = base := ⟨_, rfl⟩
 have HPB := hid (show w.heap.size ≤ base from by rw [← hbase]; exact KB.out.size)
 have HWB := hid hbase
 rw [hbase] at BW0
 clear hpb hnm hks HLE P0 A0 Z0 K0 hbase
 obtain ⟨a0, a1, a2, a3, a4, a5, a6, a7, a8⟩ := cells9 (AB.out)
 go_wp2_with fail
 clear a0 a1 a2 a3 a4 a5 a6 a7 a8
 go_loopg [32] L (fun gg i wr => ∃ (q : Nat) (v : Value) (ps : List Pt), q + gg = L ∧ i = .int .i64 (q : Int) ∧ BldW P base k mn mx n s kn so (kids.take q) v ps wr ∧ Ks P Wb wr)
 case atStart => exact ⟨0, _, [], by omega, rfl, BW0.out, Ks.refl _ _⟩
 case round =>
  obtain ⟨q, v, ps, hq, rfl, hB, hKs⟩ := hrel
  have BW := hid hB
  have KS := hid hKs
  have KW := hid (hKs.up KB.out HPw.out)
  have HPL : Hid (ps.length = q) := by
   show _ = _
   have h1 := congrArg List.length hB.er
   rw [ers_len, bldEs_len, List.length_take, HL.out] at h1
   omega
  clear hB hKs
  by_cases hlt : q < L
  ·
   have gkw : IntKind.i64.wrap ((q : Int) + 1) = (q : Int) + 1 := by rw [IntKind.wrap_i64]; omega
   have ga : (q : Int) < (L : Int) := by omega
   have g0 : (0 : Int) ≤ (q : Int) := by omega
   obtain ⟨r, hr⟩ : ∃ r, kids[q]? = some r := ⟨_, List.getElem?_eq_getElem (by rw [HL.out]; exact hlt)⟩
   obtain ⟨bb, oo, kk, mn', mx', mm, tt, ad', ll, cc, e1, hbb, i1, ce1⟩ := (RR.out.kp KW.out).at q r hr
   subst e1
   have TS := hid (HH.out r (List.mem_of_getElem? hr)).all
   have HTK : Hid (kids.take (q + 1) = kids.take q ++ [r]) := by
    show _ = _
    rw [List.take_succ_eq_append_getElem (by rw [HL.out]; exact hlt), (List.getElem?_eq_some_iff.1 hr).2]
   have I1 := hid i1
   have CE1 := hid ce1
   clear hr i1 ce1
   obtain ⟨x0, x1, x2, x3, x4, x5, x6, x7, x8⟩ := cells_of_is CE1.out
   go_upto_region 8 with fail
   clear x0 x1 x2 x3 x4 x5 x6 x7 x8
   refine opq (fun W1 => W1.heap[wr.heap.size]? = some (rxo kk mn' mx' mm tt (.slice ad' ll cc)) ∧ Kp wr W1) ⟨by exact last_at _ _ _ (by simp), by exact (Kp.refl _).alloc _⟩ ?_
   rintro W1 ⟨xA1, xK1⟩
   have A1 := hid xA1
   have K1 := hid xK1
   clear xA1 xK1
   have BW1 := hid (BW.out.kp K1.out)
   have HVP := hid (show ¬ v.ownBlock = some P from fun e => by have := (BW.out.row.block P e).1; have := BW.out.pb; omega)
   have HVA := hid (show ¬ v.ownBlock = some wr.heap.size from fun e => by have := (BW.out.row.block _ e).2; omega)
   have Q0 : Kx (fun b => v.ownBlock = some b) W1 W1.drew := (Kx.refl _ _).drew
   have MK : Hid (∀ W, Kx (fun b => v.ownBlock = some b) W1 W → W.cell? ⟨P, 8, none⟩ = some (v) ∧ W.cell? ⟨wr.heap.size, 0, none⟩ = some (.int .i64 kk) ∧ W.cell? ⟨wr.heap.size, 1, none⟩ = some (.int .i64 mn') ∧ W.cell? ⟨wr.heap.size, 2, none⟩ = some (.int .i64 mx') ∧ W.cell? ⟨wr.heap.size, 3, none⟩ = some (.int .i64 mm) ∧ W.cell? ⟨wr.heap.size, 4, none⟩ = some (.int .u64 (tt.a : Int)) ∧ W.cell? ⟨wr.heap.size, 5, none⟩ = some (.int .u64 (tt.b : Int)) ∧ W.cell? ⟨wr.heap.size, 6, none⟩ = some (.int .u64 (tt.c : Int)) ∧ W.cell? ⟨wr.heap.size, 7, none⟩ = some (.int .u64 (tt.d : Int)) ∧ W.cell? ⟨wr.heap.size, 8, none⟩ = some (.slice ad' ll cc) ∧ Hid (Kx (fun b => v.ownBlock = some b) W1 W)) := fun W k => ⟨bl_cell (bl_kx BW1.out.b k HVP.out) 8 _ rfl, bl_cell (bl_kx A1.out k HVA.out) 0 _ rfl, bl_cell (bl_kx A1.out k HVA.out) 1 _ rfl, bl_cell (bl_kx A1.out k HVA.out) 2 _ rfl, bl_cell (bl_kx A1.out k HVA.out) 3 _ rfl, bl_cell (bl_kx A1.out k HVA.out) 4 _ rfl, bl_cell (bl_kx A1.out k HVA.out) 5 _ rfl, bl_cell (bl_kx A1.out k HVA.out) 6 _ rfl, bl_cell (bl_kx A1.out k HVA.out) 7 _ rfl, bl_cell (bl_kx A1.out k HVA.out) 8 _ rfl, k⟩
   refine wp_region_noPanic ?_
   refine hdrewZ 11 MK Q0 (fun hH => ?_)
   have KQ := Q0
   refine zk 11 0 [] (some 36) (Op.move (Operand.tmp 3)) 71 (v := ?v0a1) rfl ?h0a1 hH ?_
   case h0a1 => intro _ _; go_simp; try with_reducible rfl
   try simp only [ps]
   refine zk 11 1 [] (some 37) (Op.move (Operand.tmp 3)) 71 (v := ?v1a2) rfl ?h1a2 hH ?_
   case h1a2 => intro _ _; go_simp; try with_reducible rfl
   try simp only [ps]
   refine zk 11 2 [] (some 38) (Op.nilCheck (Operand.tmp 37)) 0 (v := ?v2a3) rfl ?h2a3 hH ?_
   case h2a3 => intro _ _; go_simp; try with_reducible rfl
   try simp only [ps]
   refine zk 11 3 [] (some 39) (Op.fieldAddr 130 (Operand.tmp 38) 5) 0 (v := ?v3a4) rfl ?h3a4 hH ?_
   case h3a4 => intro _ _; go_simp; try with_reducible rfl
   try simp only [ps]
   refine zk 11 4 [] (some 40) (Op.load 124 (Operand.tmp 39)) 124 (v := ?v4a5) rfl ?h4a5 hH ?_
   case h4a5 => intro _ _; go_simp; try with_reducible rfl
   try simp only [ps]
   refine zk 11 5 [] (some 41) (Op.load 27 (Operand.tmp 5)) 27 (v := ?v5a6) rfl ?h5a6 hH ?_
   case h5a6 => intro _ _; go_simp; try with_reducible rfl
   try simp only [ps]
   refine anyZ_ready (rs := [6]) (by kernel_rfl) (by simp) ?_
   refine AllZ.cons (o := { dst := some 42, op := Op.call { callee := Callee.value (Operand.func 32), args := #[Operand.tmp 41], argTypes := #[27] }, type := 71, pos := "part.go:49", after := #[{ on := 5, ground := Ground.data }], guard := none }) rfl (fun K hKq => ?_) AllZ.nil
   go_simp
   refine (TS.out ok _ _ (I1.out.kp (K1.out.trans ((Kp.refl _).drew)))).mono ?_
   rintro e yy ⟨p1, rfl, hd0⟩
   have HD := hid hd0
   clear hd0
   refine hKq.out _ _ (MK.out _ (KQ.then HD.out.kp)) (fun hN => ?_)
   clear hKq K hH KQ
   have hH := hN
   clear hN
   have KQ := hH.2.2.2.2.2.2.2.2.2.2.out
   try simp only [ps]
   refine anyZ_ready (rs := [7]) (by kernel_rfl) (by simp) ?_
   refine AllZ.cons (o := { dst := some 43, op := Op.buildSlice 124 1 #[(0, Operand.tmp 42)], type := 124, pos := "part.go:49", after := #[{ on := 6, ground := Ground.data }], guard := none }) rfl (fun K hKq => ?_) AllZ.nil
   go_simp
   refine hKq.out _ _ (MK.out _ (KQ.alloc _)) (fun hN => ?_)
   clear hKq K hH KQ
   have hH := hN
   clear hN
   have KQ := hH.2.2.2.2.2.2.2.2.2.2.out
   try simp only [ps]
   refine anyZ_ready (rs := [8]) (by kernel_rfl) (by simp) ?_
   refine AllZ.cons (o := { dst := some 44, op := Op.call { callee := Callee.builtin Builtin.append, args := #[Operand.tmp 40, Operand.tmp 43], argTypes := #[124, 124] }, type := 124, pos := "part.go:49", after := #[{ on := 4, ground := Ground.data }, { on := 7, ground := Ground.data }, { on := 6, ground := Ground.chain }], guard := none }) rfl (fun K hKq => ?_) AllZ.nil
   refine step_append_pr _ (by rfl) _ _ (by rfl) base v (ps.map Pt.P) p1.P (by rfl) yy.heap.size (by rfl) ((BW1.out.row.kp (((Kp.refl _).drew).trans HD.out.kp)).kp ((Kp.refl _).alloc _)) (bl_cell (last_of _ _) 0 _ rfl) (by rw [List.length_map, HPL.out]; omega) (by have := BW1.out.le; have := HD.out.kp.size; simp at this; simp; omega) ?_
   rintro v' w' md
   obtain ⟨ad9, c9, hv', -⟩ := md.row.form
   obtain ⟨n9, hn'⟩ : ∃ n9, (ps.map Pt.P ++ [p1.P]).length = n9 := ⟨_, rfl⟩
   rw [hn'] at hv'
   subst hv'
   have MD := hid md
   clear md hn'
   refine hKq.out _ _ (MK.out _ (KQ.grown MD.out.grown (fun k e _ => e))) (fun hN => ?_)
   clear hKq K hH KQ
   have hH := hN
   clear hN
   have KQ := hH.2.2.2.2.2.2.2.2.2.2.out
   try simp only [ps]
   refine zk 11 9 [10] (some 45) (Op.nilCheck (Operand.tmp 36)) 0 (v := ?v9a7) rfl ?h9a7 hH ?_
   case h9a7 => intro _ _; go_simp; try with_reducible rfl
   try simp only [ps]
   refine zk 11 10 [] (some 46) (Op.fieldAddr 130 (Operand.tmp 45) 5) 0 (v := ?v10a8) rfl ?h10a8 hH ?_
   case h10a8 => intro _ _; go_simp; try with_reducible rfl
   try simp only [ps]
   refine anyZ_ready (rs := [11]) (by kernel_rfl) (by simp) ?_
   refine AllZ.last (o := { dst := none, op := Op.store 124 (Operand.tmp 46) (Operand.tmp 44), type := 0, pos := "part.go:49", after := #[{ on := 10, ground := Ground.data }, { on := 8, ground := Ground.data }, { on := 8, ground := Ground.chain }, { on := 0, ground := Ground.phase }, { on := 1, ground := Ground.phase }, { on := 2, ground := Ground.phase }, { on := 3, ground := Ground.phase }, { on := 4, ground := Ground.phase }, { on := 5, ground := Ground.phase }, { on := 6, ground := Ground.phase }, { on := 7, ground := Ground.phase }, { on := 8, ground := Ground.phase }], guard := none }) rfl (Or.inl rfl) (fun K hKq => ?_) AllZ.nil
   have c1 := bl_cell (bl_kx BW1.out.b KQ HVP.out) 8 _ rfl
   have f1 := bl_frozen (bl_kx BW1.out.b KQ HVP.out) 8
   go_simp
   refine hKq.out _ _ ?_
   clear c1 f1
   clear hKq K
   try simp only [ps]
   refine anyZ_done (by kernel_rfl) ?_ _
   refine NoPanic.normal ?_
   go_wp2_with fail
   go_roundg (gk - 1)
   case measure => omega
   case rel => exact ⟨q + 1, _, ps ++ [p1], by omega, by go_num, by rw [HTK.out]; exact BW.out.step (K1.out.trans (Kp.refl _).drew) HD.out ((Kp.refl _).alloc _) MD.out rfl, ks_past KS.out K1.out KQ (fun b hb e => by have := (BW1.out.row.block b e).1; have := HWB.out; omega) HPL0.out _ _⟩
  ·
   have ga : ¬ (q : Int) < (L : Int) := by omega
   obtain ⟨vad, vc, hvv, -⟩ := BW.out.row.form
   rw [hvv] at BW
   have HKI := hid (BW.out.row.kids (ok := fun b => base ≤ b) (fun _ h => h))
   have HBB := BW.out.b
   rw [List.length_map] at HBB
   have HPT := hid (PtsAt.keep (ok' := fun b => base ≤ b) (Nat.le_refl _) (fun b hb _ => ⟨hb.1, rfl⟩) ps BW.out.at_)
   have HER : Hid (ers ps = bldEs kids) := by
    show _ = _
    rw [BW.out.er, List.take_of_length_le (by rw [HL.out]; omega)]
   have HWD := hid (wd_er ps (by rw [HER.out]; exact bldEs_wd kids))
   have US := hid (used_any (fun b => base ≤ b) k mn mx n s P 0 0 0 kn so vad vc ps wr HBB HKI.out HPT.out HWD.out (by rw [HPL.out]; omega) HN56.out (fun e e2 => HNE.out e (by subst e2; rw [ers] at HER; exact List.length_eq_zero_iff.1 (by have := congrArg List.length HER.out; rw [bldEs_len] at this; exact this.symm))))
   clear HBB
   go_wp2_with fail
   refine (US.out).mono ?_
   rintro e w3 hd0
   obtain ⟨rfl, hk3⟩ := hd0.ex
   have BW3 := hid (BW.out.kp hk3)
   have K3 := hid (KW.out.trans hk3)
   have KS3 := hid (show Ks P Wb w3 from KS.out.kpt hk3 HPL0.out)
   rw [List.take_of_length_le (by rw [HL.out]; omega)] at BW3
   clear hd0 hk3
   obtain ⟨p0, p1, p2, p3, p4, p5, p6, p7, p8, p9, p10, p11, p12, p13⟩ := cells14 (BW3.out.b)
   have fp9 := bl_frozen (BW3.out.b) 9
   have fp10 := bl_frozen (BW3.out.b) 10
   go_wp2_with fail
   go_ret
   exact ⟨.mk k mn mx n s P kn so (usedP k mn n ps).1 (usedP k mn n ps).2 0 ps, rfl, build_done BW3.out NM.out HWB.out KS3.out HPw.out KB.out HLF.out (by have h := bl_put (bl_put BW3.out.b (.int .u8 ((usedP k mn n ps).1 : Int)) (j := 9)) (.int .u8 ((usedP k mn n ps).2 : Int)) (j := 10); rw [List.length_map] at h; exact h) (((Ks.refl _ _).set _ _).set _ _)⟩
end Go.Proofs.YtnajcnhgeggngaaGreat.Way

/-! ### Srt -/

namespace Go.Proofs
set_option maxHeartbeats 2000000
set_option maxRecDepth 100000
open Go.Shelf Go.Sort Go.RowKit
def Tryz.lays189_ren : Go.Shelf.Ren := ⟨fun | 189 => 26 | 125 => 37 | 257 => 36 | 128 => 65 | 129 => 66 | 294 => 56 | 295 => 57 | 296 => 58 | 297 => 59 | 298 => 60 | 299 => 61 | 216 => 62 | 300 => 63 | 301 => 64 | 328 => 87 | 329 => 88 | 330 => 89 | 331 => 90 | 332 => 91 | 215 => 92 | 343 => 111 | n => n, fun | 28 => 40 | 3 => 3 | 46 => 103 | 0 => 0 | 51 => 148 | 53 => 22 | 4 => 4 | 183 => 140 | 182 => 139 | 131 => 145 | 5 => 5 | 9 => 9 | 218 => 161 | 222 => 86 | 228 => 184 | 229 => 104 | n => n, fun | n => n⟩
theorem Tryz.lays189 : Go.Proofs.Lays.n189 Tryz.prog Tryz.lays189_ren := {
 mixed := by kernel_rfl
 f125 := Tryz.func37.trans (congrArg some (by kernel_rfl))
 f128 := Tryz.func65.trans (congrArg some (by kernel_rfl))
 f129 := Tryz.func66.trans (congrArg some (by kernel_rfl))
 f189 := Tryz.func26.trans (congrArg some (by kernel_rfl))
 f215 := Tryz.func92.trans (congrArg some (by kernel_rfl))
 f216 := Tryz.func62.trans (congrArg some (by kernel_rfl))
 f257 := Tryz.func36.trans (congrArg some (by kernel_rfl))
 f294 := Tryz.func56.trans (congrArg some (by kernel_rfl))
 f295 := Tryz.func57.trans (congrArg some (by kernel_rfl))
 f296 := Tryz.func58.trans (congrArg some (by kernel_rfl))
 f297 := Tryz.func59.trans (congrArg some (by kernel_rfl))
 f298 := Tryz.func60.trans (congrArg some (by kernel_rfl))
 f299 := Tryz.func61.trans (congrArg some (by kernel_rfl))
 f300 := Tryz.func63.trans (congrArg some (by kernel_rfl))
 f301 := Tryz.func64.trans (congrArg some (by kernel_rfl))
 f328 := Tryz.func87.trans (congrArg some (by kernel_rfl))
 f329 := Tryz.func88.trans (congrArg some (by kernel_rfl))
 f330 := Tryz.func89.trans (congrArg some (by kernel_rfl))
 f331 := Tryz.func90.trans (congrArg some (by kernel_rfl))
 f332 := Tryz.func91.trans (congrArg some (by kernel_rfl))
 f343 := Tryz.func111.trans (congrArg some (by kernel_rfl))
 t0 := Tryz.underlying0
 a0 := Tryz.isAgg0
 z0 := Tryz.sizeOf0
 v0 := Tryz.zeroValue0
 t3 := Tryz.underlying3
 a3 := Tryz.isAgg3
 z3 := Tryz.sizeOf3
 v3 := Tryz.zeroValue3
 t4 := Tryz.underlying4
 a4 := Tryz.isAgg4
 z4 := Tryz.sizeOf4
 v4 := Tryz.zeroValue4
 t5 := Tryz.underlying5
 a5 := Tryz.isAgg5
 z5 := Tryz.sizeOf5
 v5 := Tryz.zeroValue5
 t9 := Tryz.underlying9
 a9 := Tryz.isAgg9
 z9 := Tryz.sizeOf9
 v9 := Tryz.zeroValue9
 t28 := Tryz.underlying40
 a28 := Tryz.isAgg40
 z28 := Tryz.sizeOf40
 v28 := Tryz.zeroValue40
 t46 := Tryz.underlying103
 a46 := Tryz.isAgg103
 z46 := Tryz.sizeOf103
 v46 := Tryz.zeroValue103
 t51 := Tryz.underlying148
 a51 := Tryz.isAgg148
 z51 := Tryz.sizeOf148
 v51 := Tryz.zeroValue148
 t53 := Tryz.underlying22
 a53 := Tryz.isAgg22
 z53 := Tryz.sizeOf22
 v53 := Tryz.zeroValue22
 t131 := Tryz.underlying145
 a131 := Tryz.isAgg145
 z131 := Tryz.sizeOf145
 v131 := Tryz.zeroValue145
 t182 := Tryz.underlying139
 a182 := Tryz.isAgg139
 z182 := Tryz.sizeOf139
 v182 := Tryz.zeroValue139
 t183 := Tryz.underlying140
 a183 := Tryz.isAgg140
 z183 := Tryz.sizeOf140
 v183 := Tryz.zeroValue140
 t218 := Tryz.underlying161
 a218 := Tryz.isAgg161
 z218 := Tryz.sizeOf161
 v218 := Tryz.zeroValue161
 t222 := Tryz.underlying86
 a222 := Tryz.isAgg86
 z222 := Tryz.sizeOf86
 v222 := Tryz.zeroValue86
 t228 := Tryz.underlying184
 a228 := Tryz.isAgg184
 z228 := Tryz.sizeOf184
 v228 := Tryz.zeroValue184
 t229 := Tryz.underlying104
 a229 := Tryz.isAgg104
 z229 := Tryz.sizeOf104
 v229 := Tryz.zeroValue104 }
theorem Tryz.slices_Sort (blk off cap : Nat) (zs : List Int) (w : World) (hH : Holds (Value.int .i64) w blk off zs.toArray) (hblk : blk < w.heap.size) (hsz : zs.length < 4611686018427387904) :
  Calls Tryz.prog 26 #[.slice (some ⟨blk, off, none⟩) zs.length cap] w fun e w' =>
   e = .returned (.tuple #[]) ∧ ∃ n os, w' = grow (putRow (Value.int .i64) (Sort.ahead w n) blk off (zs.mergeSort fun x y => decide (x ≤ y)).toArray) os :=
 calls_of_every_depth fun D => AnyS.slices_Sort_int_in Tryz.lays189 D blk off cap zs w hH hblk hsz
theorem Tryz.bits_Len0 (w : World) : Calls Tryz.prog 37 #[.int .u64 0] w fun e w' => e = .returned (.int .i64 0) ∧ w' = w :=
 calls_of_every_depth fun D => (Any.lenWalkInAll { Tryz.lays189 with } D) 0 w (by omega)
theorem Tryz.insertionSort_nil (p : Option Addr) (cap : Nat) (w : World) :
  Calls Tryz.prog 56 #[.slice p 0 cap, .int .i64 0, .int .i64 0] w fun e w' => e = .returned (.tuple #[]) ∧ w' = w := by
 go_enter Tryz.func56, Tryz.ntmps56
 go_wp2_with fail
 refine wp_loop_rounds 1 ?_
 rw [rounds_succ]
 go_wp2_with fail
 go_end0
 exact ⟨rfl, rfl⟩
theorem Tryz.pdqsort_nil (p : Option Addr) (cap : Nat) (w : World) :
  Calls Tryz.prog 36 #[.slice p 0 cap, .int .i64 0, .int .i64 0, .int .i64 0] w fun e w' => e = .returned (.tuple #[]) ∧ w' = w := by
 go_enter Tryz.func36, Tryz.ntmps36
 go_wp2_with fail
 refine wp_loop_rounds 1 ?_
 rw [rounds_succ]
 go_wp2_with (first | (go_at_call 56; refine (Tryz.insertionSort_nil p cap _).mono ?_; rintro e w' ⟨rfl, rfl⟩))
 refine bodyPost_ret (results_none rfl _ _ _) rfl ?_
 exact ⟨rfl, rfl⟩
theorem Tryz.Sort_nil (p : Option Addr) (cap : Nat) (w : World) :
  Calls Tryz.prog 26 #[.slice p 0 cap] w fun e w' => e = .returned (.tuple #[]) ∧ w' = w := by
 have hLen : ∀ w, Calls Tryz.prog 37 #[.int .u64 0] w fun e w' => e = .returned (.int .i64 0) ∧ w' = w := fun w => Tryz.bits_Len0 w
 go_enter Tryz.func26, Tryz.ntmps26
 go_wp2_with (first
  | (go_at_call 37; refine (hLen _).mono ?_; rintro e w' ⟨rfl, rfl⟩)
  | (go_at_call 36; refine (Tryz.pdqsort_nil p cap _).mono ?_; rintro e w' ⟨rfl, rfl⟩))
 go_end0
 exact ⟨rfl, rfl⟩
end Go.Proofs
namespace Go.Proofs.YtnajcnhgeggngaaGreat.Way
open Go Go.RowKit Go.Sort Go.Proofs Go.Proofs.YtnajcnhgeggngaaGreat
structure SrtD (base : Nat) (v : Value) (xs : List Nat) (w : World) (e : Ending) (w' : World) : Prop where
 ex : e = .returned (.tuple #[]) ∧ NuR base w' v (xs.mergeSort (fun a b => decide (a ≤ b))) ∧ Kx (fun b => v.ownBlock = some b) w w'
theorem sort_nu (base : Nat) (v : Value) (xs : List Nat) (w : World) (h : NuR base w v xs) (hl : xs.length ≤ 5000000000000) : Calls Tryz.prog 26 #[v] w fun e w' => SrtD base v xs w e w' := by
 obtain ⟨ad, c, hv, _⟩ := h.form
 by_cases h0 : xs.length = 0
 ·
  have hx : xs = [] := List.length_eq_zero_iff.1 h0
  subst hx
  rw [hv]
  refine (Tryz.Sort_nil ad c w).mono ?_
  rintro e w' ⟨rfl, rfl⟩
  rw [← hv]
  exact ⟨rfl, by rw [List.mergeSort_nil]; exact h, Kx.refl _ _⟩
 ·
  obtain ⟨hlen, ho⟩ := h.own
  rcases ho with ⟨_, hn⟩ | ⟨g, cap, cur, hv2, hb, hg, hc, hcap, hsz, htk⟩
  ·
   exact absurd hn h0
  ·
   subst hv2
   obtain ⟨zs, hzs⟩ : ∃ zs : List Int, xs.map (fun n : Nat => (n : Int)) = zs := ⟨_, rfl⟩
   have hzl : xs.length = zs.length := by rw [← hzs, List.length_map]
   have hms : ∀ l : List Nat, l.map nuc = (l.map (fun n : Nat => (n : Int))).map (Value.int .i64) := fun l => by
    rw [List.map_map]; rfl
   rw [hms, hzs, hzl, Nat.mul_one] at htk
   have hH := holds_of_blockI (w := w) hg htk
   rw [hzl]
   refine (Tryz.slices_Sort g 0 cap zs w hH (bl_lt hg) (by omega)).mono ?_
   rintro e w' ⟨rfl, n, os, rfl⟩
   have hme : (zs.mergeSort fun x y => decide (x ≤ y)) = (xs.mergeSort (fun a b => decide (a ≤ b))).map (fun n : Nat => (n : Int)) := by
    rw [← hzs]
    exact (List.map_mergeSort (fun a _ b _ => by rw [decide_eq_decide]; omega)).symm
   have hown := ownsRow_sortedI (w := w) (n := n) (os := os) (ts := zs.mergeSort fun x y => decide (x ≤ y)) (ss := zs) (List.length_mergeSort _) hb hg (by omega) hcap hsz
   refine ⟨rfl, ⟨?_⟩, (Kx.refl _ _).grown (grownBy_sortedI _) (fun k e _ => e.symm ▸ rfl)⟩
   rw [hms, ← hme, List.length_mergeSort, hzl]
   exact hown
end Go.Proofs.YtnajcnhgeggngaaGreat.Way

/-! ### Unb0 -/

namespace Go.Proofs.YtnajcnhgeggngaaGreat.Way
open Go.RowKit Go.Proofs.YtnajcnhgeggngaaGreat

def unbL (hd : Nat) (all : List Sp) (sel : List Nat) : List Nat := (List.range all.length).filter (fun j => match all[j]? with | some y => sel.contains (cls hd y) | none => false)
theorem filter_or {α : Type} (p q r : α → Bool) (l : List α) (h : ∀ a ∈ l, r a = (p a || q a)) (hd : ∀ a ∈ l, p a = true → q a = false) : (l.filter p ++ l.filter q).Perm (l.filter r) := by
 induction l with
 | nil => exact List.Perm.refl _
 | cons a l ih =>
  have ih := ih (fun b hb => h b (List.mem_cons_of_mem _ hb)) (fun b hb => hd b (List.mem_cons_of_mem _ hb))
  have ha := h a (List.mem_cons_self ..)
  have hda := hd a (List.mem_cons_self ..)
  cases hp : p a with
  | true =>
   have hq := hda hp
   rw [hp] at ha
   simp only [List.filter_cons, hp, hq, ha, Bool.true_or, if_true, Bool.false_eq_true, if_false, List.cons_append]
   exact ih.cons a
  | false =>
   rw [hp, Bool.false_or] at ha
   cases hq : q a with
   | true =>
    rw [hq] at ha
    simp only [List.filter_cons, hp, hq, ha, if_true, Bool.false_eq_true, if_false]
    exact List.perm_middle.trans (ih.cons a)
   | false =>
    rw [hq] at ha
    simp only [List.filter_cons, hp, hq, ha, Bool.false_eq_true, if_false]
    exact ih
theorem unb_perm (hd : Nat) (all : List Sp) : ∀ (sel : List Nat), sel.Nodup → (sel.flatMap (placesOf hd all)).Perm (unbL hd all sel)
 | [], _ => by
  unfold unbL
  rw [List.flatMap_nil, List.filter_eq_nil_iff.2 (fun j _ => by split <;> simp)]
 | i :: sel, hn => by
  have h1 := List.nodup_cons.1 hn
  rw [List.flatMap_cons]
  refine ((List.Perm.refl _).append (unb_perm hd all sel h1.2)).trans ?_
  refine filter_or _ _ _ _ (fun j _ => ?_) (fun j _ hj => ?_)
  ·
   cases all[j]? with
   | none => rfl
   | some y => exact List.contains_cons
  ·
   split at hj
   ·
    rename_i y hy
    rw [hy]
    simp only
    cases hc : sel.contains (cls hd y) with
    | false => rfl
    | true =>
     have e : cls hd y = i := by simpa using hj
     rw [e] at hc
     exact absurd (List.contains_iff_mem.1 hc) h1.1
   ·
    cases hj
theorem unb_sorted (hd : Nat) (all : List Sp) (sel : List Nat) (hn : sel.Nodup) : (sel.flatMap (placesOf hd all)).mergeSort (fun a b => decide (a ≤ b)) = unbL hd all sel := by
 have tr : ∀ a b c : Nat, decide (a ≤ b) = true → decide (b ≤ c) = true → decide (a ≤ c) = true := fun a b c h k => by
  rw [decide_eq_true_eq] at *
  omega
 have tt : ∀ a b : Nat, (decide (a ≤ b) || decide (b ≤ a)) = true := fun a b => by
  rw [Bool.or_eq_true, decide_eq_true_eq, decide_eq_true_eq]
  omega
 refine List.Perm.eq_of_pairwise (le := fun a b => decide (a ≤ b) = true) (fun a b _ _ h1 h2 => ?_) (List.pairwise_mergeSort tr tt _) ?_ ((List.mergeSort_perm _ _).trans (unb_perm hd all sel hn))
 ·
  rw [decide_eq_true_eq] at h1 h2
  omega
 ·
  refine (List.Pairwise.filter _ (List.pairwise_lt_range)).imp ?_
  intro a b h
  rw [decide_eq_true_eq]
  omega
theorem unb_len (hd : Nat) (all : List Sp) (sel : List Nat) : (unbL hd all sel).length ≤ all.length := by
 unfold unbL
 refine Nat.le_trans (List.length_filter_le _ _) ?_
 rw [List.length_range]
 exact Nat.le_refl _
theorem flat_len (hd : Nat) (all : List Sp) (sel : List Nat) (hn : sel.Nodup) : (sel.flatMap (placesOf hd all)).length ≤ all.length := by
 rw [(unb_perm hd all sel hn).length_eq]
 exact unb_len hd all sel
theorem unb_lt {hd : Nat} {all : List Sp} {sel : List Nat} : ∀ j ∈ unbL hd all sel, j < all.length := fun j hj => by
 unfold unbL at hj
 exact List.mem_range.1 (List.mem_filter.1 hj).1
def pickL (all : List Sp) (x : Sp) (ps : List Nat) : List Sp := ps.filterMap (fun j => all[j]?.map (fun y => y.behind x))
theorem all_range (all : List Sp) : (List.range all.length).filterMap (fun j => all[j]?) = all := by
 induction all with
 | nil => rfl
 | cons a l ih =>
  rw [List.length_cons, List.range_succ_eq_map, List.filterMap_cons]
  simp only [List.getElem?_cons_zero, List.filterMap_map]
  congr 1
theorem pick_all (hd : Nat) (all : List Sp) (sel : List Nat) (x : Sp) : pickL all x (unbL hd all sel) = (all.filter (fun y => sel.contains (cls hd y))).map (fun y => y.behind x) := by
 have h : all.filter (fun y => sel.contains (cls hd y)) = (List.range all.length).filterMap (fun j => (all[j]?).filter (fun y => sel.contains (cls hd y))) := by
  rw [← List.filter_filterMap, all_range]
 rw [h, List.map_filterMap]
 unfold pickL unbL
 rw [List.filterMap_filter]
 congr 1
 funext j
 cases all[j]? with
 | none => rfl
 | some y =>
  simp only [Option.map_some, Option.filter]
  split <;> rfl
theorem newCls_step {rdp : Nat} {all : List Sp} {hd : Nat} {n : Int} {x : Sp} (q : Nat) (bg : List Turn) : (List.range (q + 1)).foldl (begS rdp all hd n x) ([], bg) = begS rdp all hd n x ((List.range q).foldl (begS rdp all hd n x) ([], bg)) q := by
 rw [List.range_succ, List.foldl_append]
 rfl
theorem newCls_lt {rdp : Nat} {all : List Sp} {hd : Nat} {n : Int} {x : Sp} (bg : List Turn) : ∀ (q : Nat), ((List.range q).foldl (begS rdp all hd n x) ([], bg)).1.Nodup ∧ ∀ i ∈ ((List.range q).foldl (begS rdp all hd n x) ([], bg)).1, i < q
 | 0 => ⟨List.nodup_nil, fun i hi => by cases hi⟩
 | q + 1 => by
  obtain ⟨h1, h2⟩ := newCls_lt bg q
  rw [newCls_step]
  unfold begS
  split
  ·
   split
   ·
    exact ⟨h1, fun i hi => Nat.lt_succ_of_lt (h2 i hi)⟩
   ·
    refine ⟨List.nodup_append.2 ⟨h1, List.pairwise_singleton _ _, fun a ha b hb => ?_⟩, fun i hi => ?_⟩
    ·
     rw [List.mem_singleton.1 hb]
     have := h2 a ha
     omega
    ·
     rcases List.mem_append.1 hi with hi | hi
     ·
      exact Nat.lt_succ_of_lt (h2 i hi)
     ·
      rw [List.mem_singleton.1 hi]
      omega
  ·
   exact ⟨h1, fun i hi => Nat.lt_succ_of_lt (h2 i hi)⟩
theorem places_any (hd : Nat) (all : List Sp) (i : Nat) : (0 < (placesOf hd all i).length) ↔ all.any (fun y => cls hd y == i) = true := by
 rw [List.length_pos_iff_exists_mem, List.any_eq_true]
 constructor
 ·
  rintro ⟨j, hj⟩
  have h := (List.mem_filter.1 hj).2
  split at h
  ·
   rename_i y hy
   exact ⟨y, List.mem_of_getElem? hy, h⟩
  ·
   cases h
 ·
  rintro ⟨y, hy, he⟩
  obtain ⟨j, hj⟩ := List.getElem?_of_mem hy
  refine ⟨j, List.mem_filter.2 ⟨List.mem_range.2 (List.getElem?_eq_some_iff.1 hj).1, ?_⟩⟩
  rw [hj]
  exact he
end Go.Proofs.YtnajcnhgeggngaaGreat.Way

/-! ### TKey -/

namespace Go.Proofs.YtnajcnhgeggngaaGreat.Way
open Go.RowKit Go.Proofs.YtnajcnhgeggngaaGreat Go.Maps Go.WideElems Go.ChangeMaps Go.MapKept

abbrev tnv (t : Turn) : Value := .agg #[.int .i8 t.n, .int .u8 (t.lv : Int), .int .i8 t.x.a, .int .i8 t.x.f0, .int .i8 t.x.t0, .int .i8 t.x.f1, .int .i8 t.x.t1, .int .i8 t.x.f2, .int .i8 t.x.t2]
structure Turn.Ok (t : Turn) : Prop where
 n0 : 0 ≤ t.n
 n1 : t.n ≤ 100
 lv : t.lv < 8
 x : t.x.Ok
theorem cells75 : Tryz.prog.cellsOf 75 = 1 := by kernel_rfl
theorem cells220 : Tryz.prog.cellsOf 220 = 9 := by kernel_rfl
theorem lit75 (d : Nat) (n : Int) (h : (Lit.int .u8 n).wf = true) : Tryz.prog.keyLits (d + 1) 75 [.int .u8 n] = some [.int .u8 n] := by
 unfold Program.keyLits
 simp [Tryz.underlying75, h]
theorem wf8n (n : Int) (h : 0 ≤ n) (h2 : n ≤ 100) : (Lit.int .i8 n).wf = true := by
 simp [Lit.wf, IntKind.min, IntKind.max, IntKind.signed, IntKind.bits]; omega
theorem wfu8 (n : Nat) (h : n < 8) : (Lit.int .u8 (n : Int)).wf = true := by
 simp [Lit.wf, IntKind.min, IntKind.max, IntKind.signed, IntKind.bits]; omega
theorem lit220 (d : Nat) (t : Turn) (h : t.Ok) : Tryz.prog.keyLits (d + 5) 220 [.int .i8 t.n, .int .u8 (t.lv : Int), .int .i8 t.x.a, .int .i8 t.x.f0, .int .i8 t.x.t0, .int .i8 t.x.f1, .int .i8 t.x.t1, .int .i8 t.x.f2, .int .i8 t.x.t2] = some [.int .i8 t.n, .int .u8 (t.lv : Int), .int .i8 t.x.a, .int .i8 t.x.f0, .int .i8 t.x.t0, .int .i8 t.x.f1, .int .i8 t.x.t1, .int .i8 t.x.f2, .int .i8 t.x.t2] := by
 unfold Program.keyLits
 simp [Tryz.underlying220, cells220, cells83, cells75, cells78, lit78 _ _ (wf8n _ h.n0 h.n1), lit75 _ _ (wfu8 _ h.lv), lit83 _ _ h.x]
theorem keytype220 : Tryz.prog.keyType 220 = true := by kernel_rfl
theorem key_tn (t : Turn) (h : t.Ok) : ∃ kl, keyOf Tryz.prog 220 (tnv t) = some kl := by
 obtain ⟨m, hm⟩ := types_size
 refine ⟨.string (keyBytes [.int .i8 t.n, .int .u8 (t.lv : Int), .int .i8 t.x.a, .int .i8 t.x.f0, .int .i8 t.x.t0, .int .i8 t.x.f1, .int .i8 t.x.t1, .int .i8 t.x.f2, .int .i8 t.x.t2]), ?_⟩
 unfold keyOf
 simp only [Tryz.underlying220]
 rw [if_pos (by rw [keytype220]; simp [Value.formed, Tryz.underlying220, cells220]), hm]
 simp only [Value.cells]
 rw [lit220 (m + 1) t h]
 rfl
def Turn.code (t : Turn) : Nat := t.n.toNat + 128 * (t.lv + 8 * t.x.code)
theorem Turn.code_lt {t : Turn} (h : t.Ok) : t.code < 4503599627370496 := by
 have := Sp.code_lt h.x
 have := h.lv
 have := h.n1
 unfold Turn.code
 omega
theorem Turn.code_inj {t u : Turn} (h : t.Ok) (k : u.Ok) (e : t.code = u.code) : t = u := by
 have h1 := h.n0
 have h2 := h.n1
 have h3 := h.lv
 have k1 := k.n0
 have k2 := k.n1
 have k3 := k.lv
 unfold Turn.code at e
 have e0 : t.n = u.n := by omega
 have e1 : t.lv = u.lv := by omega
 have e2 : t.x.code = u.x.code := by omega
 have e3 := Sp.code_inj h.x k.x e2
 cases t
 cases u
 simp only at e0 e1 e3
 subst e0 e1 e3
 rfl
theorem tnv_inj {x y : Turn} (h : tnv x = tnv y) : x = y := by
 obtain ⟨n, l, a, b, c, d, f, g, i⟩ := x
 obtain ⟨n', l', a', b', c', d', f', g', i'⟩ := y
 simp [tnv] at h
 obtain ⟨h1, h2, h3, h4, h5, h6, h7, h8, h9⟩ := h
 have h2' : l = l' := by omega
 subst h1 h2' h3 h4 h5 h6 h7 h8 h9
 rfl
theorem few_turns {es : Array MapEntry} {clock : Nat} (hs : Stamped es clock) (h : ∀ e ∈ es.toList, ∃ x : Turn, x.Ok ∧ e.key = tnv x) : es.size ≤ 4503599627370496 := by
 have hp := ((stamped_iff es clock).1 hs).2.2
 let dec : MapEntry → Nat := fun e => match e.key with
  | .agg ⟨[.int _ n, .int _ l, .int _ a, .int _ b, .int _ c, .int _ d, .int _ f, .int _ g, .int _ i]⟩ => Turn.code ⟨n, l.toNat, ⟨a, b, c, d, f, g, i⟩⟩
  | _ => 0
 have hdec : ∀ e x, e.key = tnv x → dec e = x.code := fun e x he => by
  show (match e.key with
  | .agg ⟨[.int _ n, .int _ l, .int _ a, .int _ b, .int _ c, .int _ d, .int _ f, .int _ g, .int _ i]⟩ => Turn.code ⟨n, l.toNat, ⟨a, b, c, d, f, g, i⟩⟩
  | _ => 0) = _
  rw [he]
  simp
 have h1 : (es.toList.map dec).Nodup := by
  refine pairwise_map_inj dec _ (hp.imp_of_mem (fun {a b} ha hb hne he => ?_))
  obtain ⟨x, hx, kx⟩ := h a ha
  obtain ⟨y, hy, ky⟩ := h b hb
  rw [hdec a x kx, hdec b y ky] at he
  exact hne (by rw [kx, ky, Turn.code_inj hx hy he])
 have h2 := nodup_lt 4503599627370496 (es.toList.map dec) h1 (fun a ha => by
  obtain ⟨e, he, rfl⟩ := List.mem_map.1 ha
  obtain ⟨x, hx, kx⟩ := h e he
  rw [hdec e x kx]
  exact Turn.code_lt hx)
 simpa using h2
theorem fit_tn {es : Array MapEntry} {clock : Nat} (hs : Stamped es clock) (h : ∀ e ∈ es.toList, ∃ x : Turn, x.Ok ∧ e.key = tnv x) : Fit (H := Value) Tryz.prog 220 RV es clock ∧ es.size < maxLen := by
 have := few_turns hs h
 refine ⟨⟨by unfold maxLen; omega, hs, fun e he => ?_⟩, by unfold maxLen; omega⟩
 obtain ⟨x, hx, kx⟩ := h e he
 obtain ⟨kl, hk⟩ := key_tn x hx
 exact ⟨(kl, .held e.val), by unfold WideElems.rd; rw [kx, hk]; rfl⟩
structure TurnsAt (w : World) (b : Nat) (S : List Turn) : Prop where
 ex : ∃ es clock, w.heap[b]? = some (.map es clock) ∧ Stamped es clock ∧ (∀ e ∈ es.toList, ∃ x : Turn, x.Ok ∧ e.key = tnv x ∧ x ∈ S ∧ e.val = .agg #[]) ∧ ∀ x ∈ S, ∃ e ∈ es.toList, e.key = tnv x
theorem TurnsAt.lt {w : World} {b : Nat} {S : List Turn} (h : TurnsAt w b S) : b < w.heap.size := by
 obtain ⟨es, clock, hb, _⟩ := h.ex
 exact bl_lt hb
theorem TurnsAt.same {w w' : World} {b : Nat} {S : List Turn} (h : TurnsAt w b S) (hb : w'.heap[b]? = w.heap[b]?) : TurnsAt w' b S := by
 obtain ⟨es, clock, h1, h2, h3, h4⟩ := h.ex
 exact ⟨es, clock, hb.trans h1, h2, h3, h4⟩
theorem TurnsAt.made (w : World) : TurnsAt (w.alloc (.map #[] 0)) w.heap.size [] := ⟨#[], 0, last_of _ _, stamped_empty 0, (fun e he => by simp at he), (fun x hx => by cases hx)⟩
theorem TurnsAt.look {w : World} {b : Nat} {S : List Turn} (h : TurnsAt w b S) {t : TypeId} (ht : Tryz.prog.underlying t = some (.map 220 206)) (x : Turn) (hx : x.Ok) :
  (Instr.lookup t (.map (some b)) (tnv x) true).run Tryz.prog w = .ok (.tuple #[.agg #[], .bool (S.contains x)]) w := by
 obtain ⟨es, clock, h1, h2, h3, h4⟩ := h.ex
 obtain ⟨F, _⟩ := fit_tn h2 (fun e he => by obtain ⟨x, a1, a2, _⟩ := h3 e he; exact ⟨x, a1, a2⟩)
 obtain ⟨kl, hk⟩ := key_tn x hx
 rcases fit_look true keyed220 ht (zero206 w) h1 F hk with ⟨g1, g2, _⟩ | ⟨e0, y, g1, g2, g3, _⟩
 ·
  have : S.contains x = false := by
   cases hc : S.contains x with
   | false => rfl
   | true =>
    obtain ⟨e, he, hek⟩ := h4 x (List.contains_iff_mem.1 hc)
    exact absurd hek (g2 e he)
  rw [this]
  exact g1
 ·
  obtain ⟨x', _, a2, a3, a4⟩ := h3 e0 g1
  obtain rfl := tnv_inj (g2.symm.trans a2)
  rw [List.contains_iff_mem.2 a3, ← a4]
  exact g3
theorem TurnsAt.put {w : World} {b : Nat} {S : List Turn} (h : TurnsAt w b S) {t : TypeId} (ht : Tryz.prog.underlying t = some (.map 220 206)) (x : Turn) (hx : x.Ok) :
  ∃ w', (Instr.mapUpdate t (.map (some b)) (tnv x) (.agg #[])).run Tryz.prog w = .ok () w' ∧ TurnsAt w' b (S ++ [x]) ∧ w.grownBy w' (some b) := by
 obtain ⟨es, clock, h1, h2, h3, h4⟩ := h.ex
 have hkeys : ∀ e ∈ es.toList, ∃ x : Turn, x.Ok ∧ e.key = tnv x := fun e he => by obtain ⟨x, a1, a2, _⟩ := h3 e he; exact ⟨x, a1, a2⟩
 obtain ⟨F, hroom⟩ := fit_tn h2 hkeys
 obtain ⟨kl, hk⟩ := key_tn x hx
 obtain ⟨es', clock', hrun, F', hput, _, _, hent⟩ := fit_store (R' := RV) keyed220 ht h1 F hroom (fun _ _ _ _ hz => hz) hk (val := .agg #[]) (yv := (.held (.agg #[]), [])) rfl
 refine ⟨_, hrun, ⟨es', clock', heap_setBlock_same h1 _, F'.stamped, fun e he => ?_, fun y hy => ?_⟩, ⟨rfl, rfl, rfl, by simp [setBlock], fun i _ hi => heap_setBlock_other h1 _ (fun e => hi (by rw [e]))⟩⟩
 ·
  rcases hent e he with ⟨a1, _⟩ | ⟨a1, a2⟩
  ·
   obtain ⟨z, b1, b2, b3, b4⟩ := h3 e a1
   exact ⟨z, b1, b2, List.mem_append_left _ b3, b4⟩
  ·
   exact ⟨x, hx, a1, by simp, a2⟩
 ·
  -- who reads so stands there
  have back := fun p hp => read_back F' p hp
  rw [hput] at back
  rcases List.mem_append.1 hy with hy | hy
  ·
   by_cases hyx : y = x
   ·
    subst hyx
    obtain ⟨e, he, hek⟩ := back (kl, .held (.agg #[])) (put_self _ _ _)
    obtain ⟨z, z1, z2⟩ := (fun e he => by
     rcases hent e he with ⟨a1, _⟩ | ⟨a1, _⟩
     ·
      exact hkeys e a1
     ·
      exact ⟨y, hx, a1⟩ : ∀ e ∈ es'.toList, ∃ x : Turn, x.Ok ∧ e.key = tnv x) e he
    exact ⟨e, he, keyed220.inj hek hk⟩
   ·
    obtain ⟨e, he, hek⟩ := h4 y hy
    obtain ⟨q, hqk, hq⟩ := read_forth F (keyed220.key hk) e he (fun e1 => hyx (tnv_inj (hek.symm.trans (keyed220.inj e1 hk))))
    obtain ⟨e', he', hek'⟩ := back q hq
    exact ⟨e', he', (keyed220.inj hek' hqk).trans hek⟩
  ·
   obtain rfl := List.mem_singleton.1 hy
   obtain ⟨e, he, hek⟩ := back (kl, .held (.agg #[])) (put_self _ _ _)
   exact ⟨e, he, keyed220.inj hek hk⟩
end Go.Proofs.YtnajcnhgeggngaaGreat.Way

/-! ### RAddB -/

namespace Go.Proofs.YtnajcnhgeggngaaGreat.Way
set_option maxHeartbeats 2000000
set_option maxRecDepth 100000
open Go.RowKit Go.Proofs.YtnajcnhgeggngaaGreat

set_option maxHeartbeats 4000000 in
theorem raddB_any (R h pl : Nat) (lv : Value) (sn : Option Nat) (z0 z1 z2 z3 : Value) (base : Nat) (xs : List Sp) (x : Sp) (hx0 : x.Ok) (w : World) (hR : w.heap[R]? = some (.cells #[z0, z1, z2, z3, .int .u8 (h : Int), lv, .int .u64 (pl : Int), .map sn] 182)) (hI : RowI base w h xs lv pl sn) (hRb : R < base) (hbw : base ≤ w.heap.size) :
  Calls Tryz.prog 126 #[.pointer (some ⟨R, 4, none⟩), spv x] w fun e w' => AddD (fun lv pl sn => (.cells #[z0, z1, z2, z3, .int .u8 (h : Int), lv, .int .u64 (pl : Int), .map sn] 182)) base h xs x lv sn R w e w' := by
 have HR := hid hR
 have HI := hid hI
 have OA := hid (fun W => only_any x h hI.lt W)
 have hx := hid hx0
 clear hR hI
 go_enter Tryz.func126, Tryz.ntmps126
 go_upto_region 1 with fail
 refine opq (fun W0 => W0.heap[w.heap.size]? = some (spo x) ∧ W0.heap[R]? = some (.cells #[z0, z1, z2, z3, .int .u8 (h : Int), lv, .int .u64 (pl : Int), .map sn] 182) ∧ Kp w W0 ∧ RowI base W0 h xs lv pl sn ∧ w.heap.size < W0.heap.size) ⟨by exact last_of _ _, by exact bl_kp HR.out kpt, by exact kpt, by exact HI.out.kp kpt, by simp⟩ ?_
 rintro W0 ⟨xX0, xR0, xK0, xI0, xZ0⟩
 have X0 := hid xX0
 have R0 := hid xR0
 have K0 := hid xK0
 have I0 := hid xI0
 have Z0 := hid xZ0
 clear xX0 xR0 xK0 xI0 xZ0
 go_cut [4] (fun v wc => ∃ K, v = .pointer (some ⟨K, 0, none⟩) ∧ W0.heap.size ≤ K ∧ wc.heap[K]? = some (spo (x.only h)) ∧ Kp W0 wc)
 case first =>
  have Q0 : Kp W0 W0.drew := (Kp.refl _).drew
  have MK : Hid (∀ W, Kp W0 W → W.cell? ⟨w.heap.size, 0, none⟩ = some (.int .i8 x.a) ∧ W.cell? ⟨w.heap.size, 1, none⟩ = some (.int .i8 x.f0) ∧ W.cell? ⟨w.heap.size, 2, none⟩ = some (.int .i8 x.t0) ∧ W.cell? ⟨w.heap.size, 3, none⟩ = some (.int .i8 x.f1) ∧ W.cell? ⟨w.heap.size, 4, none⟩ = some (.int .i8 x.t1) ∧ W.cell? ⟨w.heap.size, 5, none⟩ = some (.int .i8 x.f2) ∧ W.cell? ⟨w.heap.size, 6, none⟩ = some (.int .i8 x.t2) ∧ W.cell? ⟨R, 4, none⟩ = some (.int .u8 (h : Int)) ∧ Hid (Kp W0 W)) := fun W k => ⟨bl_cell (bl_kp X0.out k) 0 _ rfl, bl_cell (bl_kp X0.out k) 1 _ rfl, bl_cell (bl_kp X0.out k) 2 _ rfl, bl_cell (bl_kp X0.out k) 3 _ rfl, bl_cell (bl_kp X0.out k) 4 _ rfl, bl_cell (bl_kp X0.out k) 5 _ rfl, bl_cell (bl_kp X0.out k) 6 _ rfl, bl_cell (bl_kp R0.out k) 4 _ rfl, k⟩
  refine wp_region_noPanic ?_
  refine hdrew MK Q0 (fun hH => ?_)
  have KQ := Q0
  refine tk 0 (some 7) (Op.load 83 (Operand.tmp 3)) 83 (v := ?v0a1) rfl ?h0a1 hH ?_
  case h0a1 => intro _ _; go_simp; try with_reducible rfl
  try simp only [ps]
  refine tk 1 (some 8) (Op.move (Operand.tmp 0)) 179 (v := ?v1a2) rfl ?h1a2 hH ?_
  case h1a2 => intro _ _; go_simp; try with_reducible rfl
  try simp only [ps]
  refine tk 2 (some 9) (Op.nilCheck (Operand.tmp 8)) 0 (v := ?v2a3) rfl ?h2a3 hH ?_
  case h2a3 => intro _ _; go_simp; try with_reducible rfl
  try simp only [ps]
  refine tk 3 (some 10) (Op.fieldAddr 177 (Operand.tmp 9) 0) 0 (v := ?v3a4) rfl ?h3a4 hH ?_
  case h3a4 => intro _ _; go_simp; try with_reducible rfl
  try simp only [ps]
  refine tk 4 (some 11) (Op.load 75 (Operand.tmp 10)) 75 (v := ?v4a5) rfl ?h4a5 hH ?_
  case h4a5 => intro _ _; go_simp; try with_reducible rfl
  try simp only [ps]
  refine wpAnyH_ready (rs := [5, 6]) (by kernel_rfl) (by simp) ?_
  refine AllReadyH.cons (o := { dst := some 12, op := Op.call { callee := Callee.value (Operand.func 55), args := #[Operand.tmp 7, Operand.tmp 11], argTypes := #[83, 75] }, type := 83, pos := "spot.go:84", after := #[{ on := 0, ground := Ground.data }, { on := 4, ground := Ground.data }], guard := none }) rfl (fun K hKq => ?_) ?_
  ·
   go_simp
   refine (OA.out _).mono ?_
   rintro e y1 ⟨rfl, kq⟩
   have hs1 : W0.heap.size ≤ y1.heap.size := kq.size
   refine hKq.out _ _ (MK.out _ (KQ.trans kq)) (fun hN => ?_)
   clear kq
   clear hKq K hH KQ
   have hH := hN
   clear hN
   have KQ := hH.2.2.2.2.2.2.2.2.out
   try simp only [ps]
   refine wpAnyH_ready (rs := [6]) (by kernel_rfl) (by simp) ?_
   refine AllReadyH.cons (o := { dst := some 4, op := Op.alloc 83, type := 0, pos := "spot.go:84", after := #[], guard := none }) rfl (fun K hKq => ?_) AllReadyH.nil
   go_simp
   refine hKq.out _ _ (MK.out _ (KQ.alloc _)) (fun hN => ?_)
   have KB2 : Hid ((y1.alloc (.cells #[.int .i8 0, .int .i8 0, .int .i8 0, .int .i8 0, .int .i8 0, .int .i8 0, .int .i8 0] 83)).heap[y1.heap.size]? = some (.cells #[.int .i8 0, .int .i8 0, .int .i8 0, .int .i8 0, .int .i8 0, .int .i8 0, .int .i8 0] 83)) := last_of _ _
   clear hKq K hH KQ
   have hH := hN
   clear hN
   have KQ := hH.2.2.2.2.2.2.2.2.out
   try simp only [ps]
   refine wpAnyH_ready (rs := [7]) (by kernel_rfl) (by simp) ?_
   refine AllReadyH.cons (o := { dst := none, op := Op.store 83 (Operand.tmp 4) (Operand.tmp 12), type := 0, pos := "spot.go:84", after := #[{ on := 6, ground := Ground.data }, { on := 5, ground := Ground.data }, { on := 5, ground := Ground.chain }, { on := 0, ground := Ground.phase }, { on := 1, ground := Ground.phase }, { on := 2, ground := Ground.phase }, { on := 3, ground := Ground.phase }, { on := 4, ground := Ground.phase }, { on := 5, ground := Ground.phase }, { on := 6, ground := Ground.phase }], guard := none }) rfl (fun K hKq => ?_) AllReadyH.nil
   obtain ⟨U, hU⟩ : ∃ U, y1.alloc (.cells #[.int .i8 0, .int .i8 0, .int .i8 0, .int .i8 0, .int .i8 0, .int .i8 0, .int .i8 0] 83) = U := ⟨_, rfl⟩
   rw [hU] at hH KQ KB2 ⊢
   clear hU
   obtain ⟨q0, fq0, q1, fq1, q2, fq2, q3, fq3, q4, fq4, q5, fq5, q6, fq6⟩ := cellf7 (KB2.out)
   go_simp
   refine hKq.out _ _ (MK.out _ (Ks.up (P := y1.heap.size) (ks_set7 _ _ _ _ _ _ _) KQ (by omega))) (fun hN => ?_)
   clear q0 fq0 q1 fq1 q2 fq2 q3 fq3 q4 fq4 q5 fq5 q6 fq6
   clear hKq K hH KQ
   have hH := hN
   clear hN
   have KQ := hH.2.2.2.2.2.2.2.2.out
   try simp only [ps]
   refine wpAnyH_done (by kernel_rfl) ?_ _
   refine NoPanic.normal ?_
   go_wp2_with fail
   go_meet
   case rel => exact ⟨_, rfl, by omega, bl_set7 KB2.out _ _ _ _ _ _ _, KQ⟩
  refine AllReadyH.cons (o := { dst := some 4, op := Op.alloc 83, type := 0, pos := "spot.go:84", after := #[], guard := none }) rfl (fun K hKq => ?_) ?_
  ·
   go_simp
   refine hKq.out _ _ (MK.out _ (KQ.alloc _)) (fun hN => ?_)
   have KB1 : Hid ((W0.alloc (.cells #[.int .i8 0, .int .i8 0, .int .i8 0, .int .i8 0, .int .i8 0, .int .i8 0, .int .i8 0] 83)).heap[W0.heap.size]? = some (.cells #[.int .i8 0, .int .i8 0, .int .i8 0, .int .i8 0, .int .i8 0, .int .i8 0, .int .i8 0] 83)) := last_of _ _
   clear hKq K hH KQ
   have hH := hN
   clear hN
   have KQ := hH.2.2.2.2.2.2.2.2.out
   try simp only [ps]
   refine wpAnyH_ready (rs := [5]) (by kernel_rfl) (by simp) ?_
   refine AllReadyH.cons (o := { dst := some 12, op := Op.call { callee := Callee.value (Operand.func 55), args := #[Operand.tmp 7, Operand.tmp 11], argTypes := #[83, 75] }, type := 83, pos := "spot.go:84", after := #[{ on := 0, ground := Ground.data }, { on := 4, ground := Ground.data }], guard := none }) rfl (fun K hKq => ?_) AllReadyH.nil
   go_simp
   refine (OA.out _).mono ?_
   rintro e y2 ⟨rfl, kq⟩
   have KB2 : Hid (y2.heap[W0.heap.size]? = some (.cells #[.int .i8 0, .int .i8 0, .int .i8 0, .int .i8 0, .int .i8 0, .int .i8 0, .int .i8 0] 83)) := bl_kp (w := (W0.alloc (.cells #[.int .i8 0, .int .i8 0, .int .i8 0, .int .i8 0, .int .i8 0, .int .i8 0, .int .i8 0] 83)).drew) KB1.out kq
   have hs2 : W0.heap.size < y2.heap.size := Nat.lt_of_lt_of_le (by simp) kq.size
   refine hKq.out _ _ (MK.out _ (KQ.trans kq)) (fun hN => ?_)
   clear kq
   clear hKq K hH KQ
   have hH := hN
   clear hN
   have KQ := hH.2.2.2.2.2.2.2.2.out
   try simp only [ps]
   refine wpAnyH_ready (rs := [7]) (by kernel_rfl) (by simp) ?_
   refine AllReadyH.cons (o := { dst := none, op := Op.store 83 (Operand.tmp 4) (Operand.tmp 12), type := 0, pos := "spot.go:84", after := #[{ on := 6, ground := Ground.data }, { on := 5, ground := Ground.data }, { on := 5, ground := Ground.chain }, { on := 0, ground := Ground.phase }, { on := 1, ground := Ground.phase }, { on := 2, ground := Ground.phase }, { on := 3, ground := Ground.phase }, { on := 4, ground := Ground.phase }, { on := 5, ground := Ground.phase }, { on := 6, ground := Ground.phase }], guard := none }) rfl (fun K hKq => ?_) AllReadyH.nil
   obtain ⟨q0, fq0, q1, fq1, q2, fq2, q3, fq3, q4, fq4, q5, fq5, q6, fq6⟩ := cellf7 (KB2.out)
   go_simp
   refine hKq.out _ _ (MK.out _ (Ks.up (P := W0.heap.size) (ks_set7 _ _ _ _ _ _ _) KQ (by omega))) (fun hN => ?_)
   clear q0 fq0 q1 fq1 q2 fq2 q3 fq3 q4 fq4 q5 fq5 q6 fq6
   clear hKq K hH KQ
   have hH := hN
   clear hN
   have KQ := hH.2.2.2.2.2.2.2.2.out
   try simp only [ps]
   refine wpAnyH_done (by kernel_rfl) ?_ _
   refine NoPanic.normal ?_
   go_wp2_with fail
   go_meet
   case rel => exact ⟨_, rfl, by omega, bl_set7 KB2.out _ _ _ _ _ _ _, KQ⟩
  exact AllReadyH.nil
 case rest =>
 obtain ⟨K, rfl, hK, hkb, k1⟩ := hcut
 rename World => W1
 have X1 := hid (bl_kp X0.out k1)
 have R1 := hid (bl_kp R0.out k1)
 have KB1 := hid hkb
 have I1 := hid (I0.out.kp k1)
 have K1 := hid (K0.out.trans k1)
 have HSZ := hid (show w.heap.size < K from Nat.lt_of_lt_of_le Z0.out hK)
 have HRB := hid hRb
 have HRW := hid (show R < w.heap.size from bl_lt HR.out)
 have HNR := hid (show ¬ lv.ownBlock = some R from fun e => by have := (HI.out.row.block R e).1; omega)
 have HNX := hid (show ¬ lv.ownBlock = some w.heap.size from fun e => by have := (HI.out.row.block _ e).2; omega)
 have HNK := hid (show ¬ lv.ownBlock = some K from fun e => by have := (HI.out.row.block _ e).2; have := HSZ.out; omega)
 have HXR := hid (show w.heap.size ≠ R by have := HRW.out; omega)
 have HKR := hid (show K ≠ R by have := HRW.out; have := HSZ.out; omega)
 have HBW := hid hbw
 clear hK hkb k1 X0 R0 K0 I0 Z0 OA hRb hbw
 obtain ⟨q0, q1, q2, q3, q4, q5, q6⟩ := cells7 (KB1.out)
 go_wp2_with fail
 refine (rhasB_any R h pl lv sn z0 z1 z2 z3 I1.out.lt base xs (x.only h) (hx.out.only h) (only_only h x) _ R1.out I1.out.row (by have := I1.out.few; omega) I1.out.pl (fun b hb => ⟨(I1.out.set b hb).2.1, (I1.out.set b hb).2.2.1⟩)).mono ?_
 rintro e W2 ⟨rfl, k2⟩
 have X2 := hid (bl_kp X1.out k2)
 have R2 := hid (bl_kp R1.out k2)
 have KB2 := hid (bl_kp KB1.out k2)
 have I2 := hid (I1.out.kp k2)
 have K2 := hid (K1.out.trans k2)
 clear k2 X1 R1 KB1 I1 K1 q0 q1 q2 q3 q4 q5 q6
 obtain ⟨q, hq⟩ : ∃ q, xs.any (fun y => y.only h == x.only h) = q := ⟨_, rfl⟩
 have HQ := hid hq
 rw [hq]
 clear hq
 cases q with
 | true =>
  have E : Hid (addL h xs x = xs) := by show _ = _; unfold addL; rw [HQ.out]; rfl
  go_wp2_with fail
  refine bodyPost_ret (v := .tuple #[]) (results_none rfl _ _ _) rfl ⟨⟨rfl, lv, pl, sn, R2.out, by rw [E.out]; exact I2.out, fun b hb => Or.inl hb, fun b hb => Or.inl hb, Kp.kx K2.out⟩⟩
 | false =>
 go_upto_region 3 with fail
 go_cut [] (fun wc => ∃ lv', wc.heap[R]? = some (.cells #[z0, z1, z2, z3, .int .u8 (h : Int), lv', .int .u64 (pl : Int), .map sn] 182) ∧ Add3 base h xs x lv sn K w.heap.size R W2 lv' wc)
 case first =>
  have Q0 : Kx (fun b => lv.ownBlock = some b) W2 W2.drew := (Kx.refl _ _).drew
  have MK : Hid (∀ W, Kx (fun b => lv.ownBlock = some b) W2 W → W.cell? ⟨R, 5, none⟩ = some (lv) ∧ W.cell? ⟨w.heap.size, 0, none⟩ = some (.int .i8 x.a) ∧ W.cell? ⟨w.heap.size, 1, none⟩ = some (.int .i8 x.f0) ∧ W.cell? ⟨w.heap.size, 2, none⟩ = some (.int .i8 x.t0) ∧ W.cell? ⟨w.heap.size, 3, none⟩ = some (.int .i8 x.f1) ∧ W.cell? ⟨w.heap.size, 4, none⟩ = some (.int .i8 x.t1) ∧ W.cell? ⟨w.heap.size, 5, none⟩ = some (.int .i8 x.f2) ∧ W.cell? ⟨w.heap.size, 6, none⟩ = some (.int .i8 x.t2) ∧ Hid (Kx (fun b => lv.ownBlock = some b) W2 W)) := fun W k => ⟨bl_cell (bl_kx R2.out k HNR.out) 5 _ rfl, bl_cell (bl_kx X2.out k HNX.out) 0 _ rfl, bl_cell (bl_kx X2.out k HNX.out) 1 _ rfl, bl_cell (bl_kx X2.out k HNX.out) 2 _ rfl, bl_cell (bl_kx X2.out k HNX.out) 3 _ rfl, bl_cell (bl_kx X2.out k HNX.out) 4 _ rfl, bl_cell (bl_kx X2.out k HNX.out) 5 _ rfl, bl_cell (bl_kx X2.out k HNX.out) 6 _ rfl, k⟩
  refine wp_region_noPanic ?_
  refine hdrewZ 10 MK Q0 (fun hH => ?_)
  have KQ := Q0
  refine zk 10 0 [] (some 16) (Op.move (Operand.tmp 0)) 179 (v := ?v0c1) rfl ?h0c1 hH ?_
  case h0c1 => intro _ _; go_simp; try with_reducible rfl
  try simp only [ps]
  refine zk 10 1 [] (some 17) (Op.move (Operand.tmp 0)) 179 (v := ?v1c2) rfl ?h1c2 hH ?_
  case h1c2 => intro _ _; go_simp; try with_reducible rfl
  try simp only [ps]
  refine zk 10 2 [] (some 18) (Op.nilCheck (Operand.tmp 17)) 0 (v := ?v2c3) rfl ?h2c3 hH ?_
  case h2c3 => intro _ _; go_simp; try with_reducible rfl
  try simp only [ps]
  refine zk 10 3 [] (some 19) (Op.fieldAddr 177 (Operand.tmp 18) 1) 0 (v := ?v3c4) rfl ?h3c4 hH ?_
  case h3c4 => intro _ _; go_simp; try with_reducible rfl
  try simp only [ps]
  refine zk 10 4 [] (some 20) (Op.load 68 (Operand.tmp 19)) 68 (v := ?v4c5) rfl ?h4c5 hH ?_
  case h4c5 => intro _ _; go_simp; try with_reducible rfl
  try simp only [ps]
  refine zk 10 5 [] (some 21) (Op.load 83 (Operand.tmp 3)) 83 (v := ?v5c6) rfl ?h5c6 hH ?_
  case h5c6 => intro _ _; go_simp; try with_reducible rfl
  try simp only [ps]
  refine anyZ_ready (rs := [6]) (by kernel_rfl) (by simp) ?_
  refine AllZ.cons (o := { dst := some 22, op := Op.buildSlice 68 1 #[(0, Operand.tmp 21)], type := 68, pos := "spot.go:88", after := #[{ on := 5, ground := Ground.data }], guard := none }) rfl (fun K hKq => ?_) AllZ.nil
  go_simp
  refine hKq.out _ _ (MK.out _ (KQ.alloc _)) (fun hN => ?_)
  clear hKq K hH KQ
  have hH := hN
  clear hN
  have KQ := hH.2.2.2.2.2.2.2.2.out
  try simp only [ps]
  refine anyZ_ready (rs := [7]) (by kernel_rfl) (by simp) ?_
  refine AllZ.cons (o := { dst := some 23, op := Op.call { callee := Callee.builtin Builtin.append, args := #[Operand.tmp 20, Operand.tmp 22], argTypes := #[68, 68] }, type := 68, pos := "spot.go:88", after := #[{ on := 4, ground := Ground.data }, { on := 6, ground := Ground.data }], guard := none }) rfl (fun K hKq => ?_) AllZ.nil
  refine step_append_sp _ (by rfl) _ _ (by rfl) base lv xs x (by rfl) W2.heap.size (by rfl) (I2.out.row.kp (((Kp.refl _).drew).alloc _)) hx.out (last_of _ _) (by have := I2.out.few; omega) (by have := HBW.out; have := K2.out.size; simp; omega) ?_
  rintro v' w' md
  obtain ⟨ad', c', hv', _⟩ := md.row.form
  obtain ⟨n', hn'⟩ : ∃ n', (xs ++ [x]).length = n' := ⟨_, rfl⟩
  rw [hn'] at hv'
  subst hv'
  have MD := hid md
  clear md hn'
  refine hKq.out _ _ (MK.out _ (KQ.grown MD.out.grown (fun k e _ => e))) (fun hN => ?_)
  clear hKq K hH KQ
  have hH := hN
  clear hN
  have KQ := hH.2.2.2.2.2.2.2.2.out
  try simp only [ps]
  refine zk 10 8 [9] (some 24) (Op.nilCheck (Operand.tmp 16)) 0 (v := ?v8c7) rfl ?h8c7 hH ?_
  case h8c7 => intro _ _; go_simp; try with_reducible rfl
  try simp only [ps]
  refine zk 10 9 [] (some 25) (Op.fieldAddr 177 (Operand.tmp 24) 1) 0 (v := ?v9c8) rfl ?h9c8 hH ?_
  case h9c8 => intro _ _; go_simp; try with_reducible rfl
  try simp only [ps]
  refine anyZ_ready (rs := [10]) (by kernel_rfl) (by simp) ?_
  refine AllZ.last (o := { dst := none, op := Op.store 68 (Operand.tmp 25) (Operand.tmp 23), type := 0, pos := "spot.go:88", after := #[{ on := 9, ground := Ground.data }, { on := 7, ground := Ground.data }, { on := 7, ground := Ground.chain }, { on := 0, ground := Ground.phase }, { on := 1, ground := Ground.phase }, { on := 2, ground := Ground.phase }, { on := 3, ground := Ground.phase }, { on := 4, ground := Ground.phase }, { on := 5, ground := Ground.phase }, { on := 6, ground := Ground.phase }, { on := 7, ground := Ground.phase }], guard := none }) rfl (Or.inl rfl) (fun K hKq => ?_) AllZ.nil
  have c1 := bl_cell (bl_kx R2.out KQ HNR.out) 5 _ rfl
  have f1 := bl_frozen (bl_kx R2.out KQ HNR.out) 5
  go_simp
  refine hKq.out _ _ ?_
  clear c1 f1
  clear hKq K
  try simp only [ps]
  refine anyZ_done (by kernel_rfl) ?_ _
  refine NoPanic.normal ?_
  go_wp2_with fail
  go_meet
  case rel => exact ⟨_, bl_put (bl_kx R2.out KQ HNR.out) _, add3 HRB.out HNX.out HNK.out HXR.out HKR.out I2.out X2.out KB2.out (by simp) MD.out KQ⟩
 case rest =>
 obtain ⟨lv', hr3, ha3⟩ := hcut
 rename World => W3
 have R3 := hid hr3
 have A3 := hid ha3
 have E : Hid (addL h xs x = xs ++ [x]) := by show _ = _; unfold addL; rw [HQ.out]; rfl
 obtain ⟨a, ha⟩ : ∃ a, x.a.toNat = a := ⟨_, rfl⟩
 have hxa := hx.out.a0
 have hxb := hx.out.a1
 have hpl2 := (I2.out.pl.more x hx.out)
 rw [ha] at hpl2
 have HPL := hid hpl2
 have HOR : Hid (bits .or .u64 (pl : Int) (IntKind.u64.wrap (2 ^ x.a.toNat)) = ((pl ||| 2 ^ a : Nat) : Int)) := by
  show _ = _
  have hp : (2 : Nat) ^ a < 2 ^ 61 := Nat.pow_lt_pow_right (by omega) (by omega)
  have hl := I2.out.pl.lt
  rw [ha, show (2 : Int) ^ a = ((2 ^ a : Nat) : Int) from (Int.natCast_pow 2 a).symm, wrap_nat (by omega), u64_or_nat _ _ (by omega) (by omega)]
 have HND : Hid (((xs ++ [x]).map (Sp.only h)).Nodup) := by
  show List.Nodup _
  rw [List.map_append, List.nodup_append]
  refine ⟨I2.out.nd, by simp, fun p hp r hr e => ?_⟩
  obtain ⟨y, hy, rfl⟩ := List.mem_map.1 hp
  have hr : r = x.only h := by simpa using hr
  have := List.any_eq_false.1 HQ.out y hy
  rw [e, hr] at this
  simp at this
 clear hr3 ha3 hpl2 HQ ha
 go_upto_region 4 with fail
 go_cut [] (fun wc => wc.heap[R]? = some (.cells #[z0, z1, z2, z3, .int .u8 (h : Int), lv', .int .u64 ((pl ||| 2 ^ a : Nat) : Int), .map sn] 182) ∧ Ks R W3 wc)
 case first =>
  have Q0 : Ks R W3 W3.drew := (Ks.refl _ _).drew
  have MK : Hid (∀ W, Ks R W3 W → W.cell? ⟨w.heap.size, 0, none⟩ = some (.int .i8 x.a) ∧ Hid (Ks R W3 W)) := fun W k => ⟨bl_cell (bl_ks A3.out.xb HXR.out k) 0 _ rfl, k⟩
  refine wp_region_noPanic ?_
  refine hdrewZ 10 MK Q0 (fun hH => ?_)
  have KQ := Q0
  refine zk 10 0 [] (some 26) (Op.move (Operand.tmp 0)) 179 (v := ?v0d1) rfl ?h0d1 hH ?_
  case h0d1 => intro _ _; go_simp; try with_reducible rfl
  try simp only [ps]
  refine zk 10 1 [] (some 27) (Op.nilCheck (Operand.tmp 26)) 0 (v := ?v1d2) rfl ?h1d2 hH ?_
  case h1d2 => intro _ _; go_simp; try with_reducible rfl
  try simp only [ps]
  refine zk 10 2 [] (some 28) (Op.fieldAddr 177 (Operand.tmp 27) 2) 0 (v := ?v2d3) rfl ?h2d3 hH ?_
  case h2d3 => intro _ _; go_simp; try with_reducible rfl
  try simp only [ps]
  refine zk 10 4 [] (some 30) (Op.fieldAddr 83 (Operand.tmp 3) 0) 0 (v := ?v4d4) rfl ?h4d4 hH ?_
  case h4d4 => intro _ _; go_simp; try with_reducible rfl
  try simp only [ps]
  refine zk 10 5 [] (some 31) (Op.load 78 (Operand.tmp 30)) 78 (v := ?v5d5) rfl ?h5d5 hH ?_
  case h5d5 => intro _ _; go_simp; try with_reducible rfl
  try simp only [ps]
  refine zk 10 6 [] (some 32) (Op.binOp BinOp.shl 22 (Operand.const (Value.int IntKind.u64 1)) (Operand.tmp 31) 78) 22 (v := ?v6d6) rfl ?h6d6 hH ?_
  case h6d6 => intro _ _; go_simp; try with_reducible rfl
  try simp only [ps]
  refine anyZ_ready (rs := [3]) (by kernel_rfl) (by simp) ?_
  refine AllZ.cons (o := { dst := some 29, op := Op.load 22 (Operand.tmp 28), type := 22, pos := "spot.go:89", after := #[{ on := 2, ground := Ground.data }], guard := none }) rfl (fun K hKq => ?_) AllZ.nil
  have c4 := bl_cell (bl_drew R3.out) 6 _ rfl
  go_simp
  refine hKq.out _ _ (MK.out _ KQ) (fun hN => ?_)
  clear c4
  clear hKq K hH KQ
  have hH := hN
  clear hN
  have KQ := hH.2.out
  try simp only [ps]
  refine zk 10 7 [] (some 33) (Op.binOp BinOp.or 22 (Operand.tmp 29) (Operand.tmp 32) 22) 22 (v := ?v7d7) rfl ?h7d7 hH ?_
  case h7d7 => intro _ _; go_simp; try with_reducible rfl
  try simp only [ps]
  refine zk 10 8 [9] (some 34) (Op.nilCheck (Operand.tmp 26)) 0 (v := ?v8d8) rfl ?h8d8 hH ?_
  case h8d8 => intro _ _; go_simp; try with_reducible rfl
  try simp only [ps]
  refine zk 10 9 [] (some 35) (Op.fieldAddr 177 (Operand.tmp 34) 2) 0 (v := ?v9d9) rfl ?h9d9 hH ?_
  case h9d9 => intro _ _; go_simp; try with_reducible rfl
  try simp only [ps]
  refine anyZ_ready (rs := [10]) (by kernel_rfl) (by simp) ?_
  refine AllZ.last (o := { dst := none, op := Op.store 22 (Operand.tmp 35) (Operand.tmp 33), type := 0, pos := "spot.go:89", after := #[{ on := 9, ground := Ground.data }, { on := 7, ground := Ground.data }, { on := 0, ground := Ground.phase }, { on := 1, ground := Ground.phase }, { on := 2, ground := Ground.phase }, { on := 3, ground := Ground.phase }, { on := 4, ground := Ground.phase }, { on := 5, ground := Ground.phase }, { on := 6, ground := Ground.phase }, { on := 7, ground := Ground.phase }], guard := none }) rfl (Or.inl rfl) (fun K hKq => ?_) AllZ.nil
  have c4 := bl_cell (bl_drew R3.out) 6 _ rfl
  have f4 := bl_frozen (bl_drew R3.out) 6
  go_simp
  refine hKq.out _ _ ?_
  clear c4 f4
  clear hKq K
  try simp only [ps]
  refine anyZ_done (by kernel_rfl) ?_ _
  refine NoPanic.normal ?_
  go_wp2_with fail
  go_meet
  case rel => exact ⟨by rw [HOR.out]; exact bl_put R3.out _, ((Ks.refl _ _).set _ _).drew⟩
 case rest =>
 obtain ⟨hr4, hk4⟩ := hcut
 rename World => W4w
 have R4 := hid hr4
 have S4 := hid (A3.out.row.turn (fun b hb hl => hk4.block b hl (by have := (A3.out.row.block b hb).1; have := HRB.out; omega)))
 have KB4 := hid (bl_ks A3.out.key HKR.out hk4)
 have Q4 := hid (fun b (hb : sn = some b) => (⟨(A3.out.set b hb).1, (A3.out.set b hb).2.1.same (hk4.block b (A3.out.set b hb).2.1.lt (by have := (A3.out.set b hb).1; have := HRB.out; omega)), (A3.out.set b hb).2.2⟩ : base ≤ b ∧ SetAt W4w b (xs.map (Sp.only h)) ∧ h ≠ 0 ∧ 8 < xs.length))
 have K4 : Hid (Kx (rowB R lv sn) w W4w) := ((Kp.kx K2.out).trans (A3.out.kx.mono (fun b _ q => q))).trans ⟨Below.mono hk4.lo (Nat.zero_le _), fun b hl hn => hk4.block b hl (fun e => hn (Or.inl e))⟩
 have OW := hid (fun b (hb : lv'.ownBlock = some b) => ((A3.out.own b hb).imp (fun q => q) (fun q => Nat.le_trans K2.out.size q) : lv.ownBlock = some b ∨ w.heap.size ≤ b))
 have hsz4 : W3.heap.size ≤ W4w.heap.size := hk4.size
 have HB4 := hid (show base ≤ W4w.heap.size by have := HBW.out; have := K4.out.size; omega)
 obtain ⟨ad', c', hlv, hlc⟩ := S4.out.form
 subst hlv
 obtain ⟨N, hN⟩ : ∃ N, (xs ++ [x]).length = N := ⟨_, rfl⟩
 have hNx : N = xs.length + 1 := by rw [← hN]; simp
 have HN := hid hN
 have HNX2 := hid hNx
 rw [hN] at R4 S4 OW hlc
 have hNb : N ≤ 4398046511105 := by have := I2.out.few; omega
 have DONE := hid (fun (w' : World) (sn' : Option Nat) (hr : w'.heap[R]? = some (.cells #[z0, z1, z2, z3, .int .u8 (h : Int), (.slice ad' N c'), .int .u64 ((pl ||| 2 ^ a : Nat) : Int), .map sn'] 182)) (hS : SpR base w' (.slice ad' N c') (xs ++ [x])) (hs : ∀ b, sn' = some b → base ≤ b ∧ SetAt w' b ((xs ++ [x]).map (Sp.only h)) ∧ h ≠ 0 ∧ 8 < (xs ++ [x]).length) (ho : ∀ b, sn' = some b → sn = some b ∨ w.heap.size ≤ b) (hk : Kx (rowB R lv sn) w w') =>
  (⟨⟨rfl, .slice ad' N c', pl ||| 2 ^ a, sn', hr, by rw [E.out]; exact ⟨I2.out.lt, hS, HPL.out, hs, HND.out⟩, OW.out, ho, hk⟩⟩ : AddD (fun lv pl sn => (.cells #[z0, z1, z2, z3, .int .u8 (h : Int), lv, .int .u64 (pl : Int), .map sn] 182)) base h xs x lv sn R w (.returned (.tuple #[])) w'))
 clear hr4 hk4 hN hNx A3 R3 HPL HND OW R2 KB2 X2 K2 hxa hxb
 have r4 := bl_cell R4.out 4 _ rfl
 have r5 := bl_cell R4.out 5 _ rfl
 have r6 := bl_cell R4.out 6 _ rfl
 have r7 := bl_cell R4.out 7 _ rfl
 by_cases hN8 : N ≤ 8
 ·
  have hN8i : (N : Int) ≤ 8 := by omega
  go_wp2_with fail
  refine bodyPost_end (v := .tuple #[]) (results_none rfl _ _ _) rfl (DONE.out W4w sn R4.out S4.out (fun b hb => absurd (Q4.out b hb).2.2.2 (by have := HNX2.out; omega)) (fun b hb => Or.inl hb) K4.out)
 have hN8i : ¬ (N : Int) ≤ 8 := by omega
 by_cases h0 : h = 0
 ·
  have h0b : ((h : Int) == 0) = true := by rw [h0]; rfl
  have H0 := hid h0
  clear h0
  go_wp2_with fail
  refine bodyPost_end (v := .tuple #[]) (results_none rfl _ _ _) rfl (DONE.out W4w sn R4.out S4.out (fun b hb => absurd H0.out (Q4.out b hb).2.2.1) (fun b hb => Or.inl hb) K4.out)
 have h0b : ((h : Int) == 0) = false := by rw [beq_eq_false_iff_ne]; omega
 have h0c : ¬ (h : Int) = 0 := by omega
 have hxo := hid (hx.out.only h)
 have H0N := hid h0
 cases sn with
 | some b =>
  have em := map_nil (some b)
  have HQ4 := hid (Q4.out b rfl)
  have HRb := hid (show R ≠ b by have := HQ4.out.1; have := HRB.out; omega)
  have HKb : Hid (K ≠ b) := fun e => by
   obtain ⟨es, cl, hm, _⟩ := HQ4.out.2.1.ex
   have := KB4.out
   rw [e, hm] at this
   cases this
  have HSb := hid (fun q (hq : (Value.slice ad' N c').ownBlock = some q) => (fun e => by
   obtain ⟨es, cl, hm, _⟩ := HQ4.out.2.1.ex
   exact own_cells (xs := xs ++ [x]) (base := base) (w := W4w) (v := .slice ad' (xs ++ [x]).length c') (by rw [HN.out]; exact S4.out) (by rw [HN.out]; exact hq) (e ▸ hm) : q ≠ b))
  clear Q4
  go_upto_region 5 with fail
  clear r4 r5 r6 r7 em
  have Q0 : Kx (fun q => q = b) W4w W4w.drew := (Kx.refl _ _).drew
  have MK : Hid (∀ W, Kx (fun q => q = b) W4w W → W.cell? ⟨R, 7, none⟩ = some (.map (some b)) ∧ W.cell? ⟨K, 0, none⟩ = some (.int .i8 (x.only h).a) ∧ W.cell? ⟨K, 1, none⟩ = some (.int .i8 (x.only h).f0) ∧ W.cell? ⟨K, 2, none⟩ = some (.int .i8 (x.only h).t0) ∧ W.cell? ⟨K, 3, none⟩ = some (.int .i8 (x.only h).f1) ∧ W.cell? ⟨K, 4, none⟩ = some (.int .i8 (x.only h).t1) ∧ W.cell? ⟨K, 5, none⟩ = some (.int .i8 (x.only h).f2) ∧ W.cell? ⟨K, 6, none⟩ = some (.int .i8 (x.only h).t2) ∧ Hid (Kx (fun q => q = b) W4w W)) := fun W k => ⟨bl_cell (bl_kx R4.out k HRb.out) 7 _ rfl, bl_cell (bl_kx KB4.out k HKb.out) 0 _ rfl, bl_cell (bl_kx KB4.out k HKb.out) 1 _ rfl, bl_cell (bl_kx KB4.out k HKb.out) 2 _ rfl, bl_cell (bl_kx KB4.out k HKb.out) 3 _ rfl, bl_cell (bl_kx KB4.out k HKb.out) 4 _ rfl, bl_cell (bl_kx KB4.out k HKb.out) 5 _ rfl, bl_cell (bl_kx KB4.out k HKb.out) 6 _ rfl, k⟩
  refine wp_region_noPanic ?_
  refine hdrewZ 6 MK Q0 (fun hH => ?_)
  have KQ := Q0
  refine zk 6 0 [] (some 36) (Op.move (Operand.tmp 0)) 179 (v := ?v0s1) rfl ?h0s1 hH ?_
  case h0s1 => intro _ _; go_simp; try with_reducible rfl
  try simp only [ps]
  refine zk 6 1 [] (some 37) (Op.nilCheck (Operand.tmp 36)) 0 (v := ?v1s2) rfl ?h1s2 hH ?_
  case h1s2 => intro _ _; go_simp; try with_reducible rfl
  try simp only [ps]
  refine zk 6 2 [] (some 38) (Op.fieldAddr 177 (Operand.tmp 37) 3) 0 (v := ?v2s3) rfl ?h2s3 hH ?_
  case h2s3 => intro _ _; go_simp; try with_reducible rfl
  try simp only [ps]
  refine zk 6 3 [] (some 39) (Op.load 175 (Operand.tmp 38)) 175 (v := ?v3s4) rfl ?h3s4 hH ?_
  case h3s4 => intro _ _; go_simp; try with_reducible rfl
  try simp only [ps]
  refine zk 6 4 [] (some 40) (Op.load 83 (Operand.tmp 4)) 83 (v := ?v4s5) rfl ?h4s5 hH ?_
  case h4s5 => intro _ _; go_simp; try with_reducible rfl
  try simp only [ps]
  refine zk 6 5 [] (some 41) (Op.build 206 #[]) 206 (v := ?v5s6) rfl ?h5s6 hH ?_
  case h5s6 => intro _ _; go_simp; try with_reducible rfl
  try simp only [ps]
  refine anyZ_ready (rs := [6]) (by kernel_rfl) (by simp) ?_
  refine AllZ.last (o := { dst := none, op := Op.mapUpdate 175 (Operand.tmp 39) (Operand.tmp 40) (Operand.tmp 41), type := 0, pos := "spot.go:98", after := #[{ on := 3, ground := Ground.data }, { on := 4, ground := Ground.data }, { on := 5, ground := Ground.data }, { on := 0, ground := Ground.phase }, { on := 1, ground := Ground.phase }, { on := 2, ground := Ground.phase }, { on := 3, ground := Ground.phase }, { on := 4, ground := Ground.phase }, { on := 5, ground := Ground.phase }], guard := none }) rfl (Or.inl rfl) (fun K hKq => ?_) AllZ.nil
  obtain ⟨wm, hrun, hset, hg⟩ := (HQ4.out.2.1.same (w' := W4w.drew) rfl).put Tryz.underlying175 (x.only h) hxo.out
  have HSET := hid hset
  have HG := hid hg
  clear hset hg
  go_simp
  refine hKq.out _ _ ?_
  clear hrun
  clear hKq K
  try simp only [ps]
  refine anyZ_done (by kernel_rfl) ?_ _
  refine NoPanic.normal ?_
  go_wp2_with fail
  refine bodyPost_end (v := .tuple #[]) (results_none rfl _ _ _) rfl (DONE.out wm (some b) ((HG.out.block R (bl_lt R4.out) (fun e => HRb.out (by injection e))).trans R4.out) (by rw [← HN.out]; exact (show SpR base wm (.slice ad' (xs ++ [x]).length c') (xs ++ [x]) from by rw [HN.out]; exact S4.out.turn (fun q hq hl => HG.out.block q hl (fun e => HSb.out q hq (by injection e))))) (fun b' e => by injection e with e; subst e; exact ⟨HQ4.out.1, by rw [List.map_append]; exact HSET.out, HQ4.out.2.2.1, by rw [HN.out]; omega⟩) (fun b' e => Or.inl e) (K4.out.drew.grown HG.out (fun k e _ => Or.inr (Or.inr e))))
 | none =>
  obtain ⟨ad2, c2, hv2, _, hc2⟩ := (S4.out.spl (ok := fun _ => True) (fun _ _ => trivial)).ex
  injection hv2 with e1 e2 e3
  obtain ⟨bb, hbb, _⟩ := hc2 (by rw [HN.out]; omega)
  rw [← e1] at hbb
  subst hbb
  clear hc2 e1 e2 e3
  have em := map_nil none
  have mm := make175 W4w
  have fr := bl_frozen R4.out 7
  have frA := bl_frozen (bl_alloc R4.out (Obj.map #[] 0)) 7
  have rA := bl_cell (bl_alloc R4.out (Obj.map #[] 0)) 7 _ rfl
  go_upto_region 9 with fail
  refine opq (fun W5 => W5.heap[R]? = some (.cells #[z0, z1, z2, z3, .int .u8 (h : Int), (.slice (some ⟨bb, 0, none⟩) N c'), .int .u64 ((pl ||| 2 ^ a : Nat) : Int), .map (some W4w.heap.size)] 182) ∧ SpR base W5 (.slice (some ⟨bb, 0, none⟩) N c') (xs ++ [x]) ∧ SetAt W5 W4w.heap.size (((xs ++ [x]).take 0).map (Sp.only h)) ∧ Kx (rowB R lv none) w W5) ⟨by exact bl_put (bl_alloc R4.out _) _, by exact (S4.out.kp ((Kp.refl _).alloc _)).turn (fun q hq hl => Below.heap_setCell (W4w.alloc (Obj.map #[] 0)) ⟨R, 7, none⟩ _ q (show q ≠ R from by have := (S4.out.block q hq).1; have := HRB.out; omega)), by exact (SetAt.made W4w).same (Below.heap_setCell (W4w.alloc (Obj.map #[] 0)) ⟨R, 7, none⟩ _ W4w.heap.size (show W4w.heap.size ≠ R from by have := bl_lt R4.out; omega)), by exact (K4.out.alloc _).set (fun _ => Or.inl rfl) _ _⟩ ?_
  rintro W5 ⟨xR5, xS5, xM5, xK5⟩
  have R5 := hid xR5
  have S5 := hid xS5
  have M5 := hid xM5
  have K5 := hid xK5
  clear xR5 xS5 xM5 xK5
  clear r4 r5 r6 r7 em mm fr frA rA Q4
  have r4 := bl_cell R5.out 4 _ rfl
  have r5 := bl_cell R5.out 5 _ rfl
  have r6 := bl_cell R5.out 6 _ rfl
  have r7 := bl_cell R5.out 7 _ rfl
  go_wp2_with fail
  clear r4 r5 r6 r7
  go_loopg [71] N (fun gg i wr => ∃ q : Nat, q + gg = N ∧ i = .int .i64 (q : Int) ∧ wr.heap[R]? = some (.cells #[z0, z1, z2, z3, .int .u8 (h : Int), (.slice (some ⟨bb, 0, none⟩) N c'), .int .u64 ((pl ||| 2 ^ a : Nat) : Int), .map (some W4w.heap.size)] 182) ∧ SpR base wr (.slice (some ⟨bb, 0, none⟩) N c') (xs ++ [x]) ∧ SetAt wr W4w.heap.size (((xs ++ [x]).take q).map (Sp.only h)) ∧ Kx (rowB R lv none) w wr)
  case atStart => exact ⟨0, by omega, rfl, R5.out, S5.out, M5.out, K5.out⟩
  case round =>
   obtain ⟨q, hq, rfl, hR, hS, hM, hK⟩ := hrel
   have R6 := hid hR
   have S6 := hid hS
   have M6 := hid hM
   have K6 := hid hK
   clear hR hS hM hK R5 S5 M5 K5
   by_cases hlt : q < N
   ·
    have gkw : IntKind.i64.wrap ((q : Int) + 1) = (q : Int) + 1 := by rw [IntKind.wrap_i64]; omega
    have ga : (q : Int) < (N : Int) := by omega
    have g0 : (0 : Int) ≤ (q : Int) := by omega
    obtain ⟨y, hy⟩ : ∃ y, (xs ++ [x])[q]? = some y := ⟨_, List.getElem?_eq_getElem (by rw [HN.out]; exact hlt)⟩
    obtain ⟨ad2, c2, hv2, _, hc2⟩ := (S6.out.spl (ok := fun _ => True) (fun _ _ => trivial)).ex
    injection hv2 with e1 e2 e3
    obtain ⟨b2, hbb, _, hbl, hce⟩ := hc2 (by rw [HN.out]; omega)
    rw [← e1] at hbb
    injection hbb with hbb
    injection hbb with hbb
    subst hbb
    have hsp := hce q y hy
    have HY := hid (S6.out.good y (List.mem_of_getElem? hy))
    have HTK : Hid (((xs ++ [x]).take (q + 1)).map (Sp.only h) = ((xs ++ [x]).take q).map (Sp.only h) ++ [y.only h]) := by
     show _ = _
     rw [List.take_succ_eq_append_getElem (by rw [HN.out]; exact hlt), List.map_append, (List.getElem?_eq_some_iff.1 hy).2]
     rfl
    have x0 := hsp.c0
    have x1 := hsp.c1
    have x2 := hsp.c2
    have x3 := hsp.c3
    have x4 := hsp.c4
    have x5 := hsp.c5
    have x6 := hsp.c6
    clear hsp hce hy e1 e2 e3
    have HRM := hid (show ¬ R = W4w.heap.size from fun e => by have := bl_lt R4.out; omega)
    have HYM := hid (show ¬ wr.heap.size = W4w.heap.size from fun e => by have := M6.out.lt; omega)
    have HLB := hid (fun p (hp : (Value.slice (some ⟨bb, 0, none⟩) N c').ownBlock = some p) => (fun e => by have := (S4.out.block p hp).2; omega : ¬ p = W4w.heap.size))
    have HW4 := hid K4.out.size
    have OY := hid (fun W => only_any y h I2.out.lt W)
    have hyo := hid (HY.out.only h)
    go_upto_region 12 with fail
    refine opq (fun W6 => W6.heap[wr.heap.size]? = some (spo y) ∧ W6.heap[R]? = some (.cells #[z0, z1, z2, z3, .int .u8 (h : Int), (.slice (some ⟨bb, 0, none⟩) N c'), .int .u64 ((pl ||| 2 ^ a : Nat) : Int), .map (some W4w.heap.size)] 182) ∧ SpR base W6 (.slice (some ⟨bb, 0, none⟩) N c') (xs ++ [x]) ∧ SetAt W6 W4w.heap.size (((xs ++ [x]).take q).map (Sp.only h)) ∧ Kx (rowB R lv none) w W6) ⟨by exact last_of _ _, by exact bl_alloc R6.out _, by exact S6.out.kp ((Kp.refl _).alloc _), by exact M6.out.same (((Kp.refl _).alloc _).block _ M6.out.lt), by exact K6.out.alloc _⟩ ?_
    rintro W6 ⟨xY7, xR7, xS7, xM7, xK7⟩
    have Y7 := hid xY7
    have R7 := hid xR7
    have S7 := hid xS7
    have M7 := hid xM7
    have K7 := hid xK7
    clear xY7 xR7 xS7 xM7 xK7
    clear x0 x1 x2 x3 x4 x5 x6 R6 S6 M6 K6
    have Q0 : Kx (fun q => q = W4w.heap.size) W6 W6.drew := (Kx.refl _ _).drew
    have MK : Hid (∀ W, Kx (fun q => q = W4w.heap.size) W6 W → W.cell? ⟨R, 7, none⟩ = some (.map (some W4w.heap.size)) ∧ W.cell? ⟨R, 4, none⟩ = some (.int .u8 (h : Int)) ∧ W.cell? ⟨wr.heap.size, 0, none⟩ = some (.int .i8 y.a) ∧ W.cell? ⟨wr.heap.size, 1, none⟩ = some (.int .i8 y.f0) ∧ W.cell? ⟨wr.heap.size, 2, none⟩ = some (.int .i8 y.t0) ∧ W.cell? ⟨wr.heap.size, 3, none⟩ = some (.int .i8 y.f1) ∧ W.cell? ⟨wr.heap.size, 4, none⟩ = some (.int .i8 y.t1) ∧ W.cell? ⟨wr.heap.size, 5, none⟩ = some (.int .i8 y.f2) ∧ W.cell? ⟨wr.heap.size, 6, none⟩ = some (.int .i8 y.t2) ∧ Hid (Kx (fun q => q = W4w.heap.size) W6 W)) := fun W k => ⟨bl_cell (bl_kx R7.out k HRM.out) 7 _ rfl, bl_cell (bl_kx R7.out k HRM.out) 4 _ rfl, bl_cell (bl_kx Y7.out k HYM.out) 0 _ rfl, bl_cell (bl_kx Y7.out k HYM.out) 1 _ rfl, bl_cell (bl_kx Y7.out k HYM.out) 2 _ rfl, bl_cell (bl_kx Y7.out k HYM.out) 3 _ rfl, bl_cell (bl_kx Y7.out k HYM.out) 4 _ rfl, bl_cell (bl_kx Y7.out k HYM.out) 5 _ rfl, bl_cell (bl_kx Y7.out k HYM.out) 6 _ rfl, k⟩
    refine wp_region_noPanic ?_
    refine hdrewZ 11 MK Q0 (fun hH => ?_)
    have KQ := Q0
    refine zk 11 0 [] (some 75) (Op.move (Operand.tmp 0)) 179 (v := ?v0l1) rfl ?h0l1 hH ?_
    case h0l1 => intro _ _; go_simp; try with_reducible rfl
    try simp only [ps]
    refine zk 11 1 [] (some 76) (Op.nilCheck (Operand.tmp 75)) 0 (v := ?v1l2) rfl ?h1l2 hH ?_
    case h1l2 => intro _ _; go_simp; try with_reducible rfl
    try simp only [ps]
    refine zk 11 2 [] (some 77) (Op.fieldAddr 177 (Operand.tmp 76) 3) 0 (v := ?v2l3) rfl ?h2l3 hH ?_
    case h2l3 => intro _ _; go_simp; try with_reducible rfl
    try simp only [ps]
    refine zk 11 3 [] (some 78) (Op.load 175 (Operand.tmp 77)) 175 (v := ?v3l4) rfl ?h3l4 hH ?_
    case h3l4 => intro _ _; go_simp; try with_reducible rfl
    try simp only [ps]
    refine zk 11 4 [] (some 79) (Op.load 83 (Operand.tmp 6)) 83 (v := ?v4l5) rfl ?h4l5 hH ?_
    case h4l5 => intro _ _; go_simp; try with_reducible rfl
    try simp only [ps]
    refine zk 11 5 [] (some 80) (Op.move (Operand.tmp 0)) 179 (v := ?v5l6) rfl ?h5l6 hH ?_
    case h5l6 => intro _ _; go_simp; try with_reducible rfl
    try simp only [ps]
    refine zk 11 6 [] (some 81) (Op.nilCheck (Operand.tmp 80)) 0 (v := ?v6l7) rfl ?h6l7 hH ?_
    case h6l7 => intro _ _; go_simp; try with_reducible rfl
    try simp only [ps]
    refine zk 11 7 [] (some 82) (Op.fieldAddr 177 (Operand.tmp 81) 0) 0 (v := ?v7l8) rfl ?h7l8 hH ?_
    case h7l8 => intro _ _; go_simp; try with_reducible rfl
    try simp only [ps]
    refine zk 11 8 [] (some 83) (Op.load 75 (Operand.tmp 82)) 75 (v := ?v8l9) rfl ?h8l9 hH ?_
    case h8l9 => intro _ _; go_simp; try with_reducible rfl
    try simp only [ps]
    refine zk 11 10 [] (some 85) (Op.build 206 #[]) 206 (v := ?v10l10) rfl ?h10l10 hH ?_
    case h10l10 => intro _ _; go_simp; try with_reducible rfl
    try simp only [ps]
    refine anyZ_ready (rs := [9]) (by kernel_rfl) (by simp) ?_
    refine AllZ.cons (o := { dst := some 84, op := Op.call { callee := Callee.value (Operand.func 55), args := #[Operand.tmp 79, Operand.tmp 83], argTypes := #[83, 75] }, type := 83, pos := "spot.go:95", after := #[{ on := 4, ground := Ground.data }, { on := 8, ground := Ground.data }], guard := none }) rfl (fun K hKq => ?_) AllZ.nil
    go_simp
    refine (OY.out _).mono ?_
    rintro e yy ⟨rfl, kq⟩
    have MY := hid (M7.out.same (w' := yy) (kq.block _ M7.out.lt))
    refine hKq.out _ _ (MK.out _ (KQ.then kq)) (fun hN => ?_)
    clear kq
    clear hKq K hH KQ
    have hH := hN
    clear hN
    have KQ := hH.2.2.2.2.2.2.2.2.2.out
    try simp only [ps]
    refine anyZ_ready (rs := [11]) (by kernel_rfl) (by simp) ?_
    refine AllZ.last (o := { dst := none, op := Op.mapUpdate 175 (Operand.tmp 78) (Operand.tmp 84) (Operand.tmp 85), type := 0, pos := "spot.go:95", after := #[{ on := 3, ground := Ground.data }, { on := 9, ground := Ground.data }, { on := 10, ground := Ground.data }, { on := 9, ground := Ground.chain }, { on := 0, ground := Ground.phase }, { on := 1, ground := Ground.phase }, { on := 2, ground := Ground.phase }, { on := 3, ground := Ground.phase }, { on := 4, ground := Ground.phase }, { on := 5, ground := Ground.phase }, { on := 6, ground := Ground.phase }, { on := 7, ground := Ground.phase }, { on := 8, ground := Ground.phase }, { on := 9, ground := Ground.phase }, { on := 10, ground := Ground.phase }], guard := none }) rfl (Or.inl rfl) (fun K hKq => ?_) AllZ.nil
    obtain ⟨wm, hrun, hset, hg⟩ := MY.out.put Tryz.underlying175 (y.only h) hyo.out
    have HSET := hid hset
    have KG := hid (KQ.grown hg (fun k e _ => by injection e with e; exact e.symm))
    clear hset hg
    go_simp
    refine hKq.out _ _ ?_
    clear hrun
    clear hKq K
    try simp only [ps]
    refine anyZ_done (by kernel_rfl) ?_ _
    refine NoPanic.normal ?_
    go_wp2_with fail
    go_roundg (gk - 1)
    case measure => omega
    case rel => exact ⟨q + 1, by omega, by go_num, bl_kx R7.out KG.out HRM.out, S7.out.turn (fun p hp hl => KG.out.block p hl (HLB.out p hp)), by rw [HTK.out]; exact HSET.out, K7.out.past KG.out (fun k hk e => by have := HW4.out; omega)⟩
   ·
    have hqN : q = N := by omega
    have ga : ¬ (q : Int) < (N : Int) := by omega
    have HQN := hid hqN
    clear hqN
    go_wp2_with fail
    refine bodyPost_end (v := .tuple #[]) (results_none rfl _ _ _) rfl (DONE.out wr (some W4w.heap.size) R6.out S6.out (fun b' e => ?_) (fun b' e => Or.inr ?_) K6.out)
    ·
     injection e with e
     subst e
     refine ⟨HB4.out, ?_, H0N.out, by rw [HN.out]; omega⟩
     have := M6.out
     rw [List.take_of_length_le (by rw [HN.out, HQN.out]; exact Nat.le_refl _)] at this
     exact this
    ·
     injection e with e
     rw [← e]
     exact K4.out.size
end Go.Proofs.YtnajcnhgeggngaaGreat.Way
