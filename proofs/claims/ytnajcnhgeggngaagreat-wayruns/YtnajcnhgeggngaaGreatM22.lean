/-
  Texts of this claim: WRow, Walk, HeedR.
-/
import Derived.Test.YtnajcnhgeggngaaGreatM21
import Derived.Test.YtnajcnhgeggngaaGreatM15
import Derived.Test.YtnajcnhgeggngaaGreatM19
import Derived.OrdersIn

/-! ### WRow -/

namespace Go.Proofs.YtnajcnhgeggngaaGreat.Way
open Go.RowKit Go.Proofs.YtnajcnhgeggngaaGreat

abbrev wkv (s : ByteArray) (bol : Bool) : Value := .agg #[.string s, .bool bol]
abbrev roA (h : Nat) (lv : Value) (pl : Nat) (sn : Option Nat) : Obj := .cells #[.int .u8 (h : Int), lv, .int .u64 (pl : Int), .map sn] 177
def oR (O : Nat → Prop) (R : Nat) (lv : Value) (sn : Option Nat) (b : Nat) : Prop := O b ∨ rowB R lv sn b
abbrev Km (M : Nat → Option Memo) (w w' : World) : Prop := Kx (fun b => M b ≠ none) w w'
structure WSaid (s : ByteArray) (bol : Bool) (M : Nat → Option Memo) (p : Pt) : Prop where
 good : ∀ x : Sp, x.Ok → x.In s.size → ∀ y ∈ ways s.data.toList bol p x, y.Ok ∧ y.In s.size ∧ x.a ≤ y.a
 few : ∀ x : Sp, x.Ok → x.In s.size → (ways s.data.toList bol p x).length ≤ 4398046511104
 all : ∀ (O : Nat → Prop) (x : Sp) (w : World), x.Ok → x.In s.size → (∀ b, O b → b < w.heap.size) → PtAt w (okB M O) p → MemOk M O w →
  Calls Tryz.prog 34 #[wkv s bol, ptv p.P, spv x] w fun e w' => WaysD (ways s.data.toList bol p x) (okB M O) (fun w' => Km M w w' ∧ MemOk M O w') e w'
theorem Sp.In.only {N : Nat} {x : Sp} (h : x.In N) (g : Nat) : (x.only g).In N := by
 have hN : (-1 : Int) ≤ N := by omega
 refine ⟨h.a, ?_, ?_, ?_⟩ <;> (unfold Sp.only; simp only)
 ·
  cases bit0 g
  ·
   exact hN
  ·
   exact h.t0
 ·
  cases bit1 g
  ·
   exact hN
  ·
   exact h.t1
 ·
  cases bit2 g
  ·
   exact hN
  ·
   exact h.t2
theorem Sp.In.behind {N : Nat} {x y : Sp} (h : x.In N) (k : y.In N) : (x.behind y).In N := by
 refine ⟨h.a, ?_, ?_, ?_⟩ <;> (unfold Sp.behind; simp only)
 ·
  by_cases q : x.f0 < 0
  ·
   rw [if_pos q]; exact k.t0
  ·
   rw [if_neg q]; exact h.t0
 ·
  by_cases q : x.f1 < 0
  ·
   rw [if_pos q]; exact k.t1
  ·
   rw [if_neg q]; exact h.t1
 ·
  by_cases q : x.f2 < 0
  ·
   rw [if_pos q]; exact k.t2
  ·
   rw [if_neg q]; exact h.t2
structure RowW (M : Nat → Option Memo) (O : Nat → Prop) (base R h : Nat) (xs : List Sp) (lv : Value) (pl : Nat) (sn : Option Nat) (w : World) : Prop where
 b : w.heap[R]? = some (roA h lv pl sn)
 i : RowI base w h xs lv pl sn
 m : MemOk M (oR O R lv sn) w
theorem okB_step {M : Nat → Option Memo} {O : Nat → Prop} {R n : Nat} {lv lv' : Value} {sn sn' : Option Nat} (ho : ∀ b, lv'.ownBlock = some b → lv.ownBlock = some b ∨ n ≤ b) (hs : ∀ b, sn' = some b → sn = some b ∨ n ≤ b) {b : Nat} (hb : okB M (oR O R lv sn) b) (hl : b < n) : okB M (oR O R lv' sn') b := by
 refine ⟨fun q => hb.1 ?_, hb.2⟩
 rcases q with q | q | q | q
 ·
  exact Or.inl q
 ·
  exact Or.inr (Or.inl q)
 ·
  rcases ho b q with e | e
  ·
   exact Or.inr (Or.inr (Or.inl e))
  ·
   omega
 ·
  rcases hs b q with e | e
  ·
   exact Or.inr (Or.inr (Or.inr e))
  ·
   omega
theorem RowW.lt {M : Nat → Option Memo} {O : Nat → Prop} {base R h : Nat} {xs : List Sp} {lv : Value} {pl : Nat} {sn : Option Nat} {w : World} (q : RowW M O base R h xs lv pl sn w) (hO : ∀ b, O b → b < w.heap.size) : ∀ b, oR O R lv sn b → b < w.heap.size := by
 rintro b (e | e | e | e)
 ·
  exact hO b e
 ·
  rw [e]; exact bl_lt q.b
 ·
  exact (q.i.row.block b e).2
 ·
  exact (q.i.set b e).2.1.lt
theorem RowW.km {M : Nat → Option Memo} {O : Nat → Prop} {base R h : Nat} {xs : List Sp} {lv : Value} {pl : Nat} {sn : Option Nat} {w w' : World} (q : RowW M O base R h xs lv pl sn w) (k : Km M w w') (hm : MemOk M (oR O R lv sn) w') : RowW M O base R h xs lv pl sn w' := by
 have off : ∀ b, b < w.heap.size → rowB R lv sn b → w'.heap[b]? = w.heap[b]? := fun b hl hb => k.block b hl (fun e => e (q.m.own b (Or.inr hb)))
 exact ⟨(off R (bl_lt q.b) (Or.inl rfl)).trans q.b, q.i.turn (fun b hl hb => off b hl (hb.elim (fun e => Or.inr (Or.inl e)) (fun e => Or.inr (Or.inr e)))), hm⟩
theorem RowW.kp {M : Nat → Option Memo} {O : Nat → Prop} {base R h : Nat} {xs : List Sp} {lv : Value} {pl : Nat} {sn : Option Nat} {w w' : World} (q : RowW M O base R h xs lv pl sn w) (k : Kp w w') : RowW M O base R h xs lv pl sn w' :=
 ⟨bl_kp q.b k, q.i.kp k, q.m.keep (S := fun _ => False) (Kp.kx k) (fun _ _ e => e.elim) (fun _ _ e => e) q.m.own⟩
theorem RowW.add {M : Nat → Option Memo} {O : Nat → Prop} {base R h : Nat} {xs : List Sp} {x : Sp} {lv : Value} {pl : Nat} {sn : Option Nat} {w w' : World} {e : Ending} (q : RowW M O base R h xs lv pl sn w) (hO : ∀ b, O b → M b = none) (d : AddD (roA h) base h xs x lv sn R w e w') :
  e = .returned (.tuple #[]) ∧ ∃ lv' pl' sn', RowW M O base R h (addL h xs x) lv' pl' sn' w' ∧ (∀ b, lv'.ownBlock = some b → lv.ownBlock = some b ∨ w.heap.size ≤ b) ∧ (∀ b, sn' = some b → sn = some b ∨ w.heap.size ≤ b) ∧ Kx (rowB R lv sn) w w' := by
 obtain ⟨he, lv', pl', sn', h1, h2, h3, h4, h5⟩ := d.ex
 refine ⟨he, lv', pl', sn', ⟨h1, h2, q.m.keep (S := rowB R lv sn) h5 (fun b _ e => Or.inr e) (fun b hl e => ?_) (fun b e => ?_)⟩, h3, h4, h5⟩
 ·
  rcases e with e | e | e | e
  ·
   exact Or.inl e
  ·
   exact Or.inr (Or.inl e)
  ·
   rcases h3 b e with e | e
   ·
    exact Or.inr (Or.inr (Or.inl e))
   ·
    omega
  ·
   rcases h4 b e with e | e
   ·
    exact Or.inr (Or.inr (Or.inr e))
   ·
    omega
 ·
  rcases e with e | e | e | e
  ·
   exact hO b e
  ·
   rw [e]; exact q.m.own R (Or.inr (Or.inl rfl))
  ·
   rcases h3 b e with e | e
   ·
    exact q.m.own b (Or.inr (Or.inr (Or.inl e)))
   ·
    exact q.m.lt e
  ·
   rcases h4 b e with e | e
   ·
    exact q.m.own b (Or.inr (Or.inr (Or.inr e)))
   ·
    exact q.m.lt e
end Go.Proofs.YtnajcnhgeggngaaGreat.Way

/-! ### Walk -/

namespace Go.Proofs.YtnajcnhgeggngaaGreat.Way
set_option maxHeartbeats 2000000
set_option maxRecDepth 100000
open Go.RowKit Go.Proofs.YtnajcnhgeggngaaGreat

theorem Kx.past2 {S S' : Nat → Prop} {a b c : World} (h : Kx S a b) (g : Kx S' b c) (hs : ∀ k, k < a.heap.size → S' k → S k) : Kx S a c := ⟨h.lo.trans g.lo, fun k hk hn => (g.block k (Nat.lt_of_lt_of_le hk h.size) (fun e => hn (hs k hk e))).trans (h.block k hk hn)⟩
theorem walk_own {v v' v2 : Option Nat} {n m : Nat} (h : ∀ b, v' = some b → v = some b ∨ n ≤ b) (g : ∀ b, v2 = some b → v' = some b ∨ m ≤ b) (hm : n ≤ m) : ∀ b, v2 = some b → v = some b ∨ n ≤ b := fun b e =>
 (g b e).elim (fun e => h b e) (fun e => Or.inr (Nat.le_trans hm e))
theorem walk_row {M : Nat → Option Memo} {R n : Nat} {lv lv' : Value} {sn sn' : Option Nat} (ho : ∀ b, lv'.ownBlock = some b → lv.ownBlock = some b ∨ n ≤ b) (hs : ∀ b, sn' = some b → sn = some b ∨ n ≤ b) (k : Nat) (hk : k < n) (e : rowB R lv' sn' k) : M k ≠ none ∨ rowB R lv sn k := by
 rcases e with e | e | e
 ·
  exact Or.inr (Or.inl e)
 ·
  rcases ho k e with e | e
  ·
   exact Or.inr (Or.inr (Or.inl e))
  ·
   omega
 ·
  rcases hs k e with e | e
  ·
   exact Or.inr (Or.inr (Or.inr e))
  ·
   omega
structure WalkD (M : Nat → Option Memo) (O : Nat → Prop) (base R h : Nat) (xs : List Sp) (lv : Value) (sn : Option Nat) (w : World) (e : Ending) (w' : World) : Prop where
 ex : e = .returned (.tuple #[]) ∧ ∃ lv' pl' sn', RowW M O base R h xs lv' pl' sn' w' ∧ (∀ b, lv'.ownBlock = some b → lv.ownBlock = some b ∨ w.heap.size ≤ b) ∧ (∀ b, sn' = some b → sn = some b ∨ w.heap.size ≤ b) ∧ Kx (fun b => M b ≠ none ∨ rowB R lv sn b) w w'
theorem walk_any (s : ByteArray) (bol : Bool) (_ : s.size ≤ 60) (M : Nat → Option Memo) (p : Pt) (hp8 : p.rd < 8) (HS : WSaid s bol M p) (O : Nat → Prop) (base R h pl : Nat) (xs : List Sp) (lv : Value) (sn : Option Nat) (x : Sp) (hx : x.Ok) (hN : x.In s.size) (w : World) (hO : ∀ b, O b → b < w.heap.size) (hOM : ∀ b, O b → M b = none) (hQ : RowW M O base R h xs lv pl sn w) (hP : PtAt w (okB M (oR O R lv sn)) p) (hRb : R < base) (hbw : base ≤ w.heap.size) :
  Calls Tryz.prog 109 #[wkv s bol, ptv p.P, spv x, .pointer (some ⟨R, 0, none⟩)] w fun e w' => WalkD M O base R h (walkF (ways s.data.toList bol p) p.rd h xs x) lv sn w e w' := by
 have QW := hid hQ
 have HPT := hid hP
 have HO := hid hO
 have HOM := hid hOM
 have OA := hid (fun W => only_any x p.rd hp8 W)
 have HGD := hid (HS.good (x.only p.rd) (hx.only p.rd) (hN.only p.rd))
 have HX := hid hx
 have HN := hid hN
 have HRB := hid hRb
 have HBW := hid hbw
 have WS := hid (fun (W0 W : World) (k0 : Kp w W0) (k : Kp W0 W) => HS.all (oR O R lv sn) (x.only p.rd) W (hx.only p.rd) (hN.only p.rd) (fun b hb => Nat.lt_of_lt_of_le (hQ.lt hO b hb) (k0.trans k).size) (PtAt.kp hP (k0.trans k)) (hQ.kp (k0.trans k)).m)
 obtain ⟨zs, hzs⟩ : ∃ zs, ways s.data.toList bol p (x.only p.rd) = zs := ⟨_, rfl⟩
 have HZS := hid hzs
 rw [hzs] at WS HGD
 obtain ⟨Z, hZ⟩ : ∃ Z, zs.length = Z := ⟨_, rfl⟩
 have HZL := hid hZ
 have HZF := hid (show Z ≤ 4398046511104 by rw [← hZ, ← hzs]; exact HS.few _ (hx.only p.rd) (hN.only p.rd))
 obtain ⟨_, _, _, _, _, _, _, _, _, _, -, hokP, hblkP, -, -⟩ := hP.form
 have PB := hid hblkP
 have HMP := hid (show ¬ M p.P ≠ none from fun e => e hokP.2)
 clear hQ hP hO hOM hx hN hRb hbw HS hp8 hzs hZ hblkP hokP
 go_enter Tryz.func109, Tryz.ntmps109
 go_upto_region 1 with fail
 refine opq (fun W0 => W0.heap[w.heap.size]? = some (.cells #[.string s, .bool bol] 70) ∧ W0.heap[(w.heap.size + 1)]? = some (spo x) ∧ Kp w W0) ⟨by exact bl_alloc (last_of _ _) _, by exact last_at _ _ _ (by simp), by exact kpt⟩ ?_
 rintro W0 ⟨xT0, xX0, xK0⟩
 have T0 := hid xT0
 have X0 := hid xX0
 have K0 := hid xK0
 clear xT0 xX0 xK0
 have PB0 := hid (bl_kp PB.out K0.out)
 have QW0 := hid (QW.out.kp K0.out)
 have WS0 := hid (WS.out W0)
 have HMT := hid (show ¬ M w.heap.size ≠ none from fun e => e (QW.out.m.lt (Nat.le_refl _)))
 have HMX := hid (show ¬ M (w.heap.size + 1) ≠ none from fun e => e (QW.out.m.lt (Nat.le_succ _)))
 have WS := hid (fun (W : World) (k : Kp W0 W) => WS0.out W K0.out k)
 clear WS0 PB
 go_cut [19, 20, 21] (fun v l i wc => ∃ ad c, v = .slice ad Z c ∧ l = .int .i64 (Z : Int) ∧ i = .int .i64 0 ∧ Z ≤ c ∧ SpL wc (okB M (oR O R lv sn)) (.slice ad Z c) zs ∧ Kx (fun b => M b ≠ none) W0 wc ∧ RowW M O base R h xs lv pl sn wc)
 case first =>
  have Q0 : Kx (fun b => M b ≠ none) W0 W0.drew := (Kx.refl _ _).drew
  have MK : Hid (∀ W, Kx (fun b => M b ≠ none) W0 W → W.cell? ⟨w.heap.size, 0, none⟩ = some (.string s) ∧ W.cell? ⟨w.heap.size, 1, none⟩ = some (.bool bol) ∧ W.cell? ⟨(w.heap.size + 1), 0, none⟩ = some (.int .i8 x.a) ∧ W.cell? ⟨(w.heap.size + 1), 1, none⟩ = some (.int .i8 x.f0) ∧ W.cell? ⟨(w.heap.size + 1), 2, none⟩ = some (.int .i8 x.t0) ∧ W.cell? ⟨(w.heap.size + 1), 3, none⟩ = some (.int .i8 x.f1) ∧ W.cell? ⟨(w.heap.size + 1), 4, none⟩ = some (.int .i8 x.t1) ∧ W.cell? ⟨(w.heap.size + 1), 5, none⟩ = some (.int .i8 x.f2) ∧ W.cell? ⟨(w.heap.size + 1), 6, none⟩ = some (.int .i8 x.t2) ∧ W.cell? ⟨p.P, 9, none⟩ = some (.int .u8 (p.rd : Int)) ∧ Hid (Kx (fun b => M b ≠ none) W0 W)) := fun W k => ⟨bl_cell (bl_kx T0.out k HMT.out) 0 _ rfl, bl_cell (bl_kx T0.out k HMT.out) 1 _ rfl, bl_cell (bl_kx X0.out k HMX.out) 0 _ rfl, bl_cell (bl_kx X0.out k HMX.out) 1 _ rfl, bl_cell (bl_kx X0.out k HMX.out) 2 _ rfl, bl_cell (bl_kx X0.out k HMX.out) 3 _ rfl, bl_cell (bl_kx X0.out k HMX.out) 4 _ rfl, bl_cell (bl_kx X0.out k HMX.out) 5 _ rfl, bl_cell (bl_kx X0.out k HMX.out) 6 _ rfl, bl_cell (bl_kx PB0.out k HMP.out) 9 _ rfl, k⟩
  refine wp_region_noPanic ?_
  refine hdrew MK Q0 (fun hH => ?_)
  have KQ := Q0
  refine tk 0 (some 10) (Op.load 70 (Operand.tmp 4)) 70 (v := ?v0a1) rfl ?h0a1 hH ?_
  case h0a1 => intro _ _; go_simp; try with_reducible rfl
  try simp only [ps]
  refine tk 1 (some 11) (Op.move (Operand.tmp 1)) 71 (v := ?v1a2) rfl ?h1a2 hH ?_
  case h1a2 => intro _ _; go_simp; try with_reducible rfl
  try simp only [ps]
  refine tk 2 (some 12) (Op.load 83 (Operand.tmp 6)) 83 (v := ?v2a3) rfl ?h2a3 hH ?_
  case h2a3 => intro _ _; go_simp; try with_reducible rfl
  try simp only [ps]
  refine tk 3 (some 13) (Op.move (Operand.tmp 1)) 71 (v := ?v3a4) rfl ?h3a4 hH ?_
  case h3a4 => intro _ _; go_simp; try with_reducible rfl
  try simp only [ps]
  refine tk 4 (some 14) (Op.nilCheck (Operand.tmp 13)) 0 (v := ?v4a5) rfl ?h4a5 hH ?_
  case h4a5 => intro _ _; go_simp; try with_reducible rfl
  try simp only [ps]
  refine tk 5 (some 15) (Op.fieldAddr 130 (Operand.tmp 14) 6) 0 (v := ?v5a6) rfl ?h5a6 hH ?_
  case h5a6 => intro _ _; go_simp; try with_reducible rfl
  try simp only [ps]
  refine tk 6 (some 16) (Op.fieldAddr 126 (Operand.tmp 15) 0) 0 (v := ?v6a7) rfl ?h6a7 hH ?_
  case h6a7 => intro _ _; go_simp; try with_reducible rfl
  try simp only [ps]
  refine tk 7 (some 17) (Op.load 75 (Operand.tmp 16)) 75 (v := ?v7a8) rfl ?h7a8 hH ?_
  case h7a8 => intro _ _; go_simp; try with_reducible rfl
  try simp only [ps]
  refine tk 11 (some 21) (Op.move (Operand.const (Value.int IntKind.i64 0))) 3 (v := ?v11a9) rfl ?h11a9 hH ?_
  case h11a9 => intro _ _; go_simp; try with_reducible rfl
  try simp only [ps]
  refine wpAnyH_ready (rs := [8]) (by kernel_rfl) (by simp) ?_
  refine AllReadyH.cons (o := { dst := some 18, op := Op.call { callee := Callee.value (Operand.func 55), args := #[Operand.tmp 12, Operand.tmp 17], argTypes := #[83, 75] }, type := 83, pos := "walk.go:18", after := #[{ on := 2, ground := Ground.data }, { on := 7, ground := Ground.data }], guard := none }) rfl (fun K hKq => ?_) AllReadyH.nil
  go_simp
  refine (OA.out _).mono ?_
  rintro e y1 ⟨rfl, kq⟩
  have KY := hid (show Kp W0 y1 from ((Kp.refl W0).drew).trans kq)
  refine hKq.out _ _ (MK.out _ (Kp.kx KY.out)) (fun hN => ?_)
  clear kq
  clear hKq K hH KQ
  have hH := hN
  clear hN
  have KQ := hH.2.2.2.2.2.2.2.2.2.2.out
  try simp only [ps]
  refine wpAnyH_ready (rs := [9]) (by kernel_rfl) (by simp) ?_
  refine AllReadyH.cons (o := { dst := some 19, op := Op.call { callee := Callee.value (Operand.func 34), args := #[Operand.tmp 10, Operand.tmp 11, Operand.tmp 18], argTypes := #[70, 71, 83] }, type := 68, pos := "walk.go:18", after := #[{ on := 0, ground := Ground.data }, { on := 1, ground := Ground.data }, { on := 8, ground := Ground.data }, { on := 8, ground := Ground.chain }], guard := none }) rfl (fun K hKq => ?_) AllReadyH.nil
  go_simp
  refine (WS.out y1 KY.out).mono ?_
  rintro e y2 ⟨⟨v, rfl, hv, hk, hm⟩⟩
  obtain ⟨ad, c, hvv, hlc, hce⟩ := hv.ex
  rw [HZL.out] at hvv hlc
  subst hvv
  have HV := hid hv
  have HK2 := hid hk
  have HM2 := hid hm
  clear hv hk hm hce
  refine hKq.out _ _ (MK.out _ ((Kp.kx KY.out).trans HK2.out)) (fun hN => ?_)
  clear hKq K hH KQ
  have hH := hN
  clear hN
  have KQ := hH.2.2.2.2.2.2.2.2.2.2.out
  try simp only [ps]
  refine tk 10 (some 20) (Op.call { callee := Callee.builtin Builtin.len, args := #[Operand.tmp 19], argTypes := #[68] }) 3 (v := ?v10a10) rfl ?h10a10 hH ?_
  case h10a10 => intro _ _; go_simp; try with_reducible rfl
  try simp only [ps]
  refine wpAnyH_done (by kernel_rfl) ?_ _
  refine NoPanic.normal ?_
  go_wp2_with fail
  go_meet
  case rel => exact ⟨ad, c, rfl, rfl, rfl, hlc, HV.out, (Kp.kx KY.out).trans HK2.out, (QW0.out.kp KY.out).km HK2.out HM2.out⟩

 case rest =>
 obtain ⟨ad, c, rfl, rfl, rfl, hzc, hsl, hkx, hrw⟩ := hcut
 have HSL := hid hsl
 have HKX := hid hkx
 have HRW := hid hrw
 have HS0 := hid (show w.heap.size + 2 ≤ W0.heap.size from by have := bl_lt X0.out; omega)
 have HXB := hid (show ¬ (M (w.heap.size + 1) ≠ none ∨ rowB R lv sn (w.heap.size + 1)) from fun e => by
  rcases e with e | e | e | e
  ·
   exact HMX.out e
  ·
   have := HRB.out; have := HBW.out; omega
  ·
   have := (QW.out.i.row.block _ e).2; omega
  ·
   have := (QW.out.i.set _ e).2.1.lt; omega)
 clear hzc hsl hkx hrw WS OA PB0 T0 HMT HMP HMX HPT QW0
 go_wp2_with fail
 go_loopg [21] Z (fun gg i wr => ∃ (q : Nat) (lv' : Value) (pl' : Nat) (sn' : Option Nat), q + gg = Z ∧ i = .int .i64 (q : Int) ∧ RowW M O base R h ((zs.take q).foldl (fun a z => addL h a (z.behind x)) xs) lv' pl' sn' wr ∧ (∀ b, lv'.ownBlock = some b → lv.ownBlock = some b ∨ W0.heap.size ≤ b) ∧ (∀ b, sn' = some b → sn = some b ∨ W0.heap.size ≤ b) ∧ SpL wr (okB M (oR O R lv' sn')) (.slice ad Z c) zs ∧ Kx (fun b => M b ≠ none ∨ rowB R lv sn b) W0 wr)
 case atStart => exact ⟨0, lv, _, sn, by omega, rfl, HRW.out, fun _ e => Or.inl e, fun _ e => Or.inl e, HSL.out, HKX.out.mono (fun _ _ e => Or.inl e)⟩
 case round =>
  obtain ⟨q, lv', pl', sn', hq, rfl, hR, hlo, hso, hS, hK⟩ := hrel
  have R6 := hid hR
  have L6 := hid hlo
  have N6 := hid hso
  have S6 := hid hS
  have K6 := hid hK
  have X6 := hid (bl_kx X0.out hK HXB.out)
  clear hR hlo hso hS hK
  by_cases hlt : q < Z
  ·
   have gkw : IntKind.i64.wrap ((q : Int) + 1) = (q : Int) + 1 := by have := HZF.out; rw [IntKind.wrap_i64]; omega
   have ga : (q : Int) < (Z : Int) := by omega
   have g0 : (0 : Int) ≤ (q : Int) := by omega
   obtain ⟨y, hy⟩ : ∃ y, zs[q]? = some y := ⟨_, List.getElem?_eq_getElem (by rw [HZL.out]; exact hlt)⟩
   obtain ⟨ad2, c2, hv2, _, hc2⟩ := S6.out.ex
   injection hv2 with e1 e2 e3
   obtain ⟨b2, hbb, _, hbl, hce⟩ := hc2 (by rw [HZL.out]; omega)
   rw [← e1] at hbb
   subst hbb
   have hsp := hce q y hy
   have HY := hid (HGD.out y (List.mem_of_getElem? hy)).1
   have HTK : Hid ((zs.take (q + 1)).foldl (fun a z => addL h a (z.behind x)) xs = addL h ((zs.take q).foldl (fun a z => addL h a (z.behind x)) xs) (y.behind x)) := by
    show _ = _
    rw [List.take_succ_eq_append_getElem (by rw [HZL.out]; exact hlt), List.foldl_append, (List.getElem?_eq_some_iff.1 hy).2]
    rfl
   have x0 := hsp.c0
   have x1 := hsp.c1
   have x2 := hsp.c2
   have x3 := hsp.c3
   have x4 := hsp.c4
   have x5 := hsp.c5
   have x6 := hsp.c6
   clear hsp hce hy e1 e2 e3 hc2
   have HWS := hid K6.out.size
   have OB := hid (fun W => behind_any y x W)
   have hyo := hid (HY.out.behind HX.out)
   obtain ⟨ys, hys⟩ : ∃ ys, (zs.take q).foldl (fun a z => addL h a (z.behind x)) xs = ys := ⟨_, rfl⟩
   rw [hys] at R6 HTK
   clear hys
   go_upto_region 4 with fail
   refine opq (fun W6 => W6.heap[wr.heap.size]? = some (spo y) ∧ W6.heap[(w.heap.size + 1)]? = some (spo x) ∧ RowW M O base R h ys lv' pl' sn' W6 ∧ SpL W6 (okB M (oR O R lv' sn')) (.slice (some ⟨b2, 0, none⟩) Z c) zs ∧ Kx (fun b => M b ≠ none ∨ rowB R lv sn b) W0 W6) ⟨by exact last_of _ _, by exact bl_alloc X6.out _, by exact R6.out.kp ((Kp.refl _).alloc _), by exact S6.out.keep (by simp) (fun b hb hl => ⟨hb, ((Kp.refl _).alloc _).block _ hl⟩), by exact K6.out.alloc _⟩ ?_
   rintro W6 ⟨xY7, xX7, xR7, xS7, xK7⟩
   have Y7 := hid xY7
   have X7 := hid xX7
   have R7 := hid xR7
   have S7 := hid xS7
   have K7 := hid xK7
   clear xY7 xX7 xR7 xS7 xK7
   clear x0 x1 x2 x3 x4 x5 x6 R6 S6 K6 X6
   obtain ⟨y0, y1, y2, y3, y4, y5, y6⟩ := cells7 (Y7.out)
   obtain ⟨x0, x1, x2, x3, x4, x5, x6⟩ := cells7 (X7.out)
   go_wp2_with fail
   refine (OB.out _).mono ?_
   rintro e yw ⟨rfl, KQ⟩
   clear y0 y1 y2 y3 y4 y5 y6 x0 x1 x2 x3 x4 x5 x6
   have RB := hid (R7.out.kp KQ)
   have SB := hid (S7.out.keep (w' := yw) (ok' := okB M (oR O R lv' sn')) KQ.size (fun b hb hl => ⟨hb, KQ.block b hl⟩))
   have KB := hid (K7.out.then KQ)
   clear KQ Y7 X7 R7 S7 K7
   go_wp2_with fail
   refine (raddA_any R h pl' lv' sn' base ys (y.behind x) hyo.out _ RB.out.b RB.out.i HRB.out (by have := HBW.out; have := HS0.out; have := KB.out.size; omega)).mono ?_
   rintro e y2 hd
   obtain ⟨rfl, l2, p2, n2, hr2, ho2, hs2, hk2⟩ := RB.out.add HOM.out hd
   clear hd
   have RC := hid hr2
   have LC := hid ho2
   have NC := hid hs2
   have KC := hid hk2
   clear hr2 ho2 hs2 hk2
   go_wp2_with fail
   go_roundg (gk - 1)
   case measure => omega
   case rel => exact ⟨q + 1, l2, p2, n2, by omega, by go_num, by rw [HTK.out]; exact RC.out, walk_own L6.out LC.out KB.out.size, walk_own N6.out NC.out KB.out.size, SB.out.keep KC.out.size (fun b hb hl => ⟨okB_step LC.out NC.out hb hl, KC.out.block b hl (fun e => hb.1 (Or.inr e))⟩), KB.out.past2 KC.out (walk_row L6.out N6.out)⟩
  ·
   have ga : ¬ (q : Int) < (Z : Int) := by omega
   have HTK : Hid (walkF (ways s.data.toList bol p) p.rd h xs x = (zs.take q).foldl (fun a z => addL h a (z.behind x)) xs) := by
    show _ = _
    unfold walkF
    rw [HZS.out, List.take_of_length_le (by rw [HZL.out]; omega)]
   go_wp2_with fail
   refine bodyPost_end (v := .tuple #[]) (results_none rfl _ _ _) rfl ⟨rfl, lv', pl', sn', by rw [HTK.out]; exact R6.out, fun b e => (L6.out b e).imp id (fun e => by have := HS0.out; omega), fun b e => (N6.out b e).imp id (fun e => by have := HS0.out; omega), (Kp.kx K0.out).trans K6.out⟩
end Go.Proofs.YtnajcnhgeggngaaGreat.Way

/-! ### HeedR -/

namespace Go.Proofs.YtnajcnhgeggngaaGreat.Way
set_option maxHeartbeats 2000000
set_option maxRecDepth 100000
open Go.RowKit Go.Shelf Go.Proofs.YtnajcnhgeggngaaGreat
attribute [local go_sem] Oper.semAt_some

abbrev Drw (a b : World) : Prop := b = a.drew
def RowI2 (g : Nat) (kids : List Pt) (Bg : Nat) (W0 : World) (pre : List (Fin kids.length)) (W : World) : Prop :=
 W.cell? ⟨Bg, 0, none⟩ = some (.int .u8 ((pre.foldl tellS (kids, g)).2 : Int)) ∧ W.frozen? ⟨Bg, 0, none⟩ = false ∧ PtsAt W TT (pre.foldl tellS (kids, g)).1 ∧ Kx (fun b => b ∈ pblkss kids ∨ b = Bg) W0 W
theorem tellI_fold {g : Nat} {kids : List Pt} (hh : PtsH kids) (hg : g < 8) (hw : WdOk kids) : ∀ (pre : List (Fin kids.length)), TellI kids (pre.foldl tellS (kids, g)) := by
 intro pre
 have gen : ∀ (l : List (Fin kids.length)) (s : List Pt × Nat), TellI kids s → TellI kids (l.foldl tellS s) := fun l => by
  induction l with
  | nil => exact fun s h => h
  | cons x xs ih => exact fun s h => ih (tellS s x) (h.tell hw x)
 exact gen pre _ (TellI.start hh hg)
theorem kc_row {W W' : World} {row : Option Nat} (g : W.grownBy W' row) (hr : ∀ r, row = some r → ∃ o : Obj, W.heap[r]? = some o ∧ o.isCells = false) : KC W W' := by
 refine ⟨g.size, fun b cs t fr hb => (g.block b (Array.getElem?_eq_some_iff.1 hb).1 (fun e => ?_)).trans hb⟩
 obtain ⟨o, ho, hc⟩ := hr b e.symm
 rw [hb] at ho
 cases ho
 cases hc
theorem rowI2_own {g : Nat} {kids : List Pt} {Bg B : Nat} {W0 : World} (hB : W0.heap.size ≤ B) : OwnFrom B (RowI2 g kids Bg W0) := fun pre A A' row hs hg hr => by
 obtain ⟨h1, h2, h3, h4⟩ := hs
 have hr2 : ∀ r, row = some r → ∃ o : Obj, A.heap[r]? = some o ∧ o.isCells = false := fun r e => (hr r e).2
 have kc := kc_row hg hr2
 exact ⟨cell_kept h1 hg hr2, (frozen_kept h1 hg hr2).trans h2, PtsAt.kc kc _ h3, h4.grown hg (fun k e hk => by have := (hr k e).1; omega)⟩
def OnlyN (Q : Exit → Act → World → Prop) : Exit → Act → World → Prop
 | .normal, a, w => Q .normal a w
 | _, _, _ => False
theorem OnlyN.normal {Q : Exit → Act → World → Prop} {a : Act} {w : World} (h : Q .normal a w) : OnlyN Q .normal a w := h
theorem OnlyN.imp {Q : Exit → Act → World → Prop} : ∀ (e : Exit) (a : Act) (w : World), OnlyN Q e a w → Q e a w := fun e a w h => by
 cases e <;> first | exact h | exact h.elim
section
variable {P : Program} {ops : Array Oper} {Q Q0 : Exit → Act → World → Prop} {md : Region.Mode} {S : World → Prop} {z l n : Nat}
theorem op_wide {o : Oper} {a : Act} {w : World} {K K' : Act → World → Prop} (hK : ∀ a w, K a w → K' a w) (hQ : ∀ e a w, Q0 e a w → Q e a w) (hd : ∀ c, o.op ≠ .defer c) (h : o.wp P a w K Q0) : o.wpIn (Fence.wide.inRound l) n P a w K' Q := by
 refine ⟨fun _ _ => trivial, ?_⟩
 show o.uponIn (Fence.wide.inRound l) n P a K' Q ((Oper.semAt (some l) a.eval o).run P w)
 rw [Oper.semAt_some l a.eval o hd]
 unfold Oper.wp at h
 revert h
 generalize (execOp a.eval o).run P w = r
 intro h
 cases r with
 | ok x w' =>
  cases x <;> simp only [Oper.upon, Oper.uponIn] at h ⊢
  case value => exact hK _ _ h
  case skip => exact hK _ _ h
  case defer => exact hK _ _ h
  case enter => exact ⟨fun e => absurd e (by simp [Fence.inRound, Fence.wide]), CallsIn.inRound l (callsIn_wide.2 (Calls.mono h (fun e w'' he => by cases e <;> first | exact hK _ _ he | exact hQ _ _ _ he | exact (let ⟨a, w, q⟩ := he; ⟨a, w, hQ _ _ _ q⟩))))⟩
  case row => exact ⟨fun e => absurd e (by simp [Fence.inRound, Fence.wide]), fun c cs _ => let ⟨v, w2, r, st⟩ := h c cs; ⟨v, w2, hK _ _ r, stepsIn_wide.2 st⟩⟩
 | halt x w' => cases x <;> simp only [Oper.upon, Oper.uponIn] at h ⊢ <;> first | exact h | exact hQ _ _ _ h
theorem any_wide (hQ : ∀ e a w, Q0 e a w → Q e a w) (hL : ¬ LetsOut Q0) (hd : ∀ (i : Nat) (o : Oper), ops[i]? = some o → ∀ c, o.op ≠ .defer c) : ∀ (fuel : Nat) (listed : Array Bool) (a : Act) (w : World), wpAny P md ops Q0 fuel listed a w → wpAnyIn (Fence.wide.inRound l) n P md ops Q fuel listed a w
 | 0, _, _, _, h => ⟨h.1, hQ _ _ _ h.2⟩
 | fuel + 1, listed, a, w, ⟨h0, h1⟩ => ⟨fun e => hQ _ _ _ (h0 e), fun i hi => by
  have h2 := h1 i hi
  unfold wpOp at h2
  unfold wpOpIn
  split
  ·
   rename_i hn
   rw [hn] at h2
   exact any_wide hQ hL hd fuel _ _ _ h2
  ·
   rename_i o ho
   rw [ho] at h2
   simp only at h2
   split
   ·
    rename_i hw
    rw [if_pos hw] at h2
    exact op_wide (fun a w hk => any_wide hQ hL hd fuel _ a w hk) hQ (hd i o ho) (h2.resolve_right (fun e => hL e.2))
   ·
    rename_i hw
    rw [if_neg hw] at h2
    exact ⟨fun _ _ => trivial, any_wide hQ hL hd fuel _ _ _ h2⟩⟩
theorem region_Zr {id : Nat} {a : Act} {w : World} (hm : P.follows .mixedOrders = true) (hd : ops.toList.all (fun o => match o.op with | .defer _ => false | _ => true) = true) (hS : S w.drew)
  (h : S w.drew → anyZ P .any ops (OnlyN Q) S z ops.size (Array.replicate ops.size false) a w.drew) : (Code.region id ops true).wpIn (Fence.wide.inRound l) n P Q a w := by
 refine wpIn_region_any hm (any_wide OnlyN.imp (fun ⟨_, _, h⟩ => h) (fun i o ho c e => ?_) _ _ _ _ (any_of_Z (S := S) (z := z) _ _ _ _ (h hS)))
 have h1 := List.all_eq_true.1 hd o (by rw [← Array.getElem?_toList] at ho; exact List.mem_of_getElem? ho)
 rw [e] at h1
 cases h1
end
theorem keeps_num {S : Nat → Prop} {W y : World} (k : Kx S W y) (hn : ∀ b, S b → NumB W b) : KeepsOthers W y := by
 refine ⟨k.size, fun b o hb ho => (k.block b (Array.getElem?_eq_some_iff.1 hb).1 (fun e => ?_)).trans hb⟩
 obtain ⟨_, v, hv⟩ := hn b e
 obtain ⟨o2, h2, h3⟩ := cells_of_cell hv
 have h4 : some o2 = some o := h2.symm.trans hb
 injection h4 with h4
 rw [h4, ho] at h3
 cases h3
set_option maxHeartbeats 4000000 in
theorem heed_row (low high n : Int) (s : W4) (P rd st hd : Nat) (kn so : Option Nat) (kids : List Pt) (H : ∀ q, psize q < psize (.mk 2 low high n s P kn so rd st hd kids) → PtH q → HeedS q) (hH : PtH (.mk 2 low high n s P kn so rd st hd kids)) : HeedS (.mk 2 low high n s P kn so rd st hd kids) := by
 refine ⟨fun g w hg hp hnd => ?_⟩
 unfold PtH at hH
 obtain ⟨hr8, hwd, -, -, hS, hHs⟩ := hH
 unfold PtAt at hp
 obtain ⟨_, ⟨ad, c, hblk, hcap, hat⟩, hpts⟩ := hp
 unfold blks at hnd
 have hndc := List.nodup_cons.1 hnd
 have hndk : (blkss kids).Nodup := (List.nodup_append.1 hndc.2).2.1
 have hPk : P ∉ pblkss kids := fun e => hndc.1 (List.mem_append_right _ (pblkss_sub kids P e))
 have hTI := tellI_fold hHs hg hwd
 have hHHE : heed g (.mk 2 low high n s P kn so rd st hd kids) = .mk 2 low high n s P kn so rd st g (heedR g kids).1 := by rw [heed, if_pos rfl]
 have hwl : P < w.heap.size := bl_lt hblk
 have hks : KidS w TT ad c kids := ⟨hcap, hat⟩
 have hHq : ∀ q, psize q ≤ psizes kids → PtH q → HeedS q := fun q hq => H q (by rw [psize]; omega)
 have hgl : ∀ b ∈ pblkss kids, b < w.heap.size := fun b hb => (PtsAt.num kids hpts b hb).2
 clear hcap hat hnd hndc H hHs
 show Calls Tryz.prog 33 #[ptv P, .int .u8 (g : Int)] w fun e w' => HeedD (.mk 2 low high n s P kn so rd st hd kids) g w e w'
 refine (callsIn_wide (n := 5)).1 ?_
 refine callsIn_of_wp_marks Tryz.func33 rfl trivial ?_ rfl
 simp only [Tryz.ntmps33, List.size_toArray, List.length_cons, List.length_nil, Nat.reduceAdd, Nat.reduceSub, Array.replicate_succ, Array.replicate_zero, List.push_toArray, List.append_toArray, List.nil_append, List.cons_append]
 have HB := hid hblk
 have HKS := hid hks
 have HPT := hid hpts
 have HGL := hid hgl
 have HTI := hid hTI
 have HND := hid hndk
 have HHE := hid hHHE
 have HHQ := hid hHq
 have HPK := hid hPk
 have HWD := hid hwd
 have HSS := hid hS
 have g0 := bl_cell (last_of w (.cells #[.int .u8 (g : Int)] 75)) 0 _ rfl
 have p11 := bl_cell (bl_alloc hblk (.cells #[.int .u8 (g : Int)] 75)) 11 _ rfl
 have fp11 := bl_frozen (bl_alloc hblk (.cells #[.int .u8 (g : Int)] 75)) 11
 have q0 := bl_cell (bl_put (bl_alloc hblk (.cells #[.int .u8 (g : Int)] 75)) (.int .u8 (g : Int)) (j := 11)) 0 _ rfl
 have q8 := bl_cell (bl_put (bl_alloc hblk (.cells #[.int .u8 (g : Int)] 75)) (.int .u8 (g : Int)) (j := 11)) 8 _ rfl
 have HWL := hid hwl
 clear hblk hks hpts hgl hTI hndk hHHE hHq hPk hwd hwl
 gi_wp2_with (refine ⟨trivial, ?_⟩; gi_at_call 51; refine (callsIn_wide.2 (make_back ad kids.length c _)).mono ?_; rintro e w' ⟨rfl, rfl⟩)
 clear g0 p11 fp11 q0 q8
 obtain ⟨Wb, hWb⟩ : ∃ Wb, (w.alloc (.cells #[.int .u8 (g : Int)] 75)).setCell ⟨P, 11, none⟩ (.int .u8 (g : Int)) = Wb := ⟨_, rfl⟩
 have hPb : Wb.heap[P]? = some (pto 2 low high n s (.slice ad kids.length c) rd st g kn so) := by rw [← hWb]; exact bl_put (bl_alloc HB.out _) _
 have hGb : Wb.heap[w.heap.size]? = some (.cells #[.int .u8 (g : Int)] 75) := by rw [← hWb]; exact (Below.heap_setCell _ ⟨P, 11, none⟩ _ w.heap.size (show w.heap.size ≠ P by have := HWL.out; omega)).trans (last_of _ _)
 have hKb0 : Kx (fun b => b = P) w Wb := by rw [← hWb]; exact Kx.set (S := fun b => b = P) ((Kx.refl _ _).alloc _) (fun _ => rfl) _ _
 have hsz : Wb.heap.size = w.heap.size + 1 := by rw [← hWb]; simp
 rw [hWb]
 clear hWb
 obtain ⟨W0, hW0⟩ : ∃ W0, Wb.alloc (.cells #[.slice ad kids.length c] 124) = W0 := ⟨_, rfl⟩
 have hk0 : Kp Wb W0 := by rw [← hW0]; exact (Kp.refl _).alloc _
 have hSb : W0.heap[Wb.heap.size]? = some (.cells #[.slice ad kids.length c] 124) := by rw [← hW0]; exact last_of _ _
 rw [hsz] at hSb
 rw [hW0]
 clear hW0 hsz
 have hnum : ∀ b, b < w.heap.size → b = P → NumB w b := fun b _ e => by rw [e]; exact ⟨_, 2, bl_cell HB.out 0 _ rfl⟩
 have PB0 := hid (bl_kp hPb hk0)
 have GB0 := hid (bl_kp hGb hk0)
 have KS0 := hid ((KidS.apart HKS.out hKb0 hnum).kp hk0)
 have PT0 := hid (PtsAt.kp (PtsAt.apart hKb0 hnum kids HPT.out (fun b hb e => HPK.out (by rw [← e]; exact hb))) hk0)
 have K00 := hid (hKb0.then hk0)
 have HSB := hid hSb
 have HBsl := hid (bl_lt hSb)
 obtain ⟨f, hf⟩ : ∃ f : Nat → Nat, ∀ j q, kids[j]? = some q → f j = q.P := ⟨fun j => ((kids[j]?).map Pt.P).getD 0, fun j q hq => by show ((kids[j]?).map Pt.P).getD 0 = q.P; rw [hq]; rfl⟩
 obtain ⟨kb, hkbl, hkbc, hkbp, hkbg⟩ : ∃ kb, kb < W0.heap.size ∧ (0 < kids.length → ad = some ⟨kb, 0, none⟩ ∧ ∀ j, j < kids.length → W0.cell? ⟨kb, j, none⟩ = some (ptv (f j))) ∧ ¬ kb ∈ pblkss kids ∧ kb ≠ w.heap.size := by
  by_cases h0 : 0 < kids.length
  ·
   obtain ⟨b, e, _, hlt, hce⟩ := KS0.out.at_ h0
   have hce2 : ∀ j, j < kids.length → W0.cell? ⟨b, j, none⟩ = some (ptv (f j)) := fun j hj => by
    obtain ⟨q, hq⟩ : ∃ q, kids[j]? = some q := ⟨_, List.getElem?_eq_getElem hj⟩
    rw [hf j q hq]
    exact hce j q hq
   have hnn := ptv_not (hce2 0 h0)
   exact ⟨b, hlt, fun _ => ⟨e, hce2⟩, fun e => hnn (PtsAt.num kids PT0.out b e).1, fun e => by
    have h1 := hce2 0 h0
    rw [e, bl_cell GB0.out 0 _ rfl] at h1
    cases h1⟩
  ·
   have hk : kids = [] := List.length_eq_zero_iff.1 (by omega)
   exact ⟨(w.heap.size + 1), HBsl.out, fun h => absurd h h0, (fun e => by rw [hk] at e; cases e), by omega⟩
 have HF := hid hf
 have HKBP := hid hkbp
 have HKBG := hid hkbg
 have HBS := hid (show ¬ (w.heap.size + 1) ∈ pblkss kids from fun e => by have := HGL.out _ e; omega)
 have HBG := hid (show (w.heap.size + 1) ≠ w.heap.size by omega)
 clear hPb hGb hKb0 hk0 hSb hnum hf HB HKS HPT
 refine wpIn_rangeFunc_ownF rfl (by omega) (gf := 79) (lb := #[.pointer (some ⟨(w.heap.size + 1), 0, none⟩)]) rfl trivial (enters_of Tryz.func79 (by kernel_rfl) rfl)
  (back_stops 4 (by omega) (w.heap.size + 1) kb kids.length c ad f HSS.out W0 HBsl.out hkbl (bl_cell HSB.out 0 _ rfl) hkbc) (fun h k => h.trans k)
  (fun W l o o' hl _ _ _ => ⟨World.putObj_heap_other (by have := HBsl.out; omega), World.putObj_heap_other (by omega)⟩) (Below.refl _ _) (fun _ => rfl)
  (RowI2 g kids w.heap.size W0) (fun _ _ _ => False) (rowI2_own (Nat.le_refl _)) (fun _ _ _ _ _ hs _ _ => hs)
  ⟨bl_cell GB0.out 0 _ rfl, bl_frozen GB0.out 0, PT0.out, Kx.refl _ _⟩ ?a1 ?assign ?body ?done ?stop
 case assign =>
  intro l x W K hK
  gi_wp2
  exact hK
 case body =>
  rintro l pre x W ⟨hc0, hf0, hpt, hkx⟩ _
  have TI := hid (HTI.out pre)
  obtain ⟨st2, hst⟩ : ∃ st2, pre.foldl tellS (kids, g) = st2 := ⟨_, rfl⟩
  have HST := hid hst
  rw [hst] at TI hc0 hpt
  obtain ⟨p0, hp0⟩ : ∃ p0, kids[x.val]? = some p0 := ⟨_, List.getElem?_eq_getElem x.isLt⟩
  obtain ⟨p, hp⟩ : ∃ p, st2.1[x.val]? = some p := ⟨_, List.getElem?_eq_getElem (by rw [TI.out.len]; exact x.isLt)⟩
  obtain ⟨b1, b2, b3, b4, b5, b6, b7⟩ := TI.out.bl _ _ _ hp0 hp
  have hfx : f x.val = p.P := by rw [HF.out _ _ hp0, b3]
  have hwd0 := HWD.out.get _ _ hp0
  rw [hfx]
  have hnd2 : (blkss st2.1).Nodup := by rw [TI.out.nd]; exact HND.out
  have hgl : ∀ b ∈ pblks p, b ∈ pblkss kids := fun b hb => pblkss_get hp0 b (by rw [← b2]; exact hb)
  have hgp : ¬ w.heap.size ∈ pblks p := fun e => by have := HGL.out _ (hgl _ e); omega
  have hgW : w.heap.size < W.heap.size := Nat.lt_of_lt_of_le (bl_lt GB0.out) hkx.size
  have HC : Calls Tryz.prog 33 #[ptv p.P, .int .u8 (st2.2 : Int)] W fun e y => e = .returned (.tuple #[]) ∧ y.cell? ⟨p.P, 9, none⟩ = some (.int .u8 (p.rd : Int)) ∧ y.cell? ⟨p.P, 10, none⟩ = some (.int .u8 (p.st : Int)) ∧ y.cell? ⟨w.heap.size, 0, none⟩ = some (.int .u8 (st2.2 : Int)) ∧ y.frozen? ⟨w.heap.size, 0, none⟩ = false ∧ Hid (PtAt y TT (heed st2.2 p) ∧ Kx (fun b => b ∈ pblks p) W y) := by
   refine ((HHQ.out p (by rw [b6]; exact psize_mem (List.mem_of_getElem? hp0)) b7).all st2.2 W TI.out.g (hpt.get _ _ hp) (blkss_nd hnd2 hp)).mono ?_
   rintro e y hd0
   obtain ⟨rfl, hy1, hy2⟩ := hd0.ex
   obtain ⟨_, _, _, _, _, _, _, _, _, _, -, -, hyb, -, -⟩ := hy1.form
   rw [(heed_P _ p).1, (heed_P _ p).2.1, (heed_P _ p).2.2] at hyb
   have hsame := hy2.block _ hgW hgp
   exact ⟨rfl, bl_cell hyb 9 _ rfl, bl_cell hyb 10 _ rfl, (cell_same hsame _).trans hc0, by unfold World.frozen? at hf0 ⊢; simp only at hf0 ⊢; rw [hsame]; exact hf0, ⟨hy1, hy2⟩⟩
  have gan : bits .andNot .u8 (st2.2 : Int) (p.st : Int) = ((st2.2 &&& (7 - p.st) : Nat) : Int) := u8_not _ _ TI.out.g (by rw [b5]; exact hwd0.2)
  have gor : bits .or .u8 ((st2.2 &&& (7 - p.st) : Nat) : Int) (p.rd : Int) = ((heedG st2.2 p : Nat) : Int) := u8_or _ _ (and8 _ _ TI.out.g) (by rw [b4]; exact hwd0.1)
  have HP := hid hp
  have HPTB := hid hpt
  have HKX := hid hkx
  have HND2 := hid hnd2
  have HGLp := hid hgl
  have HGP := hid hgp
  have HTL : Hid ((pre ++ [x]).foldl tellS (kids, g) = (st2.1.set x.val (heed st2.2 p), heedG st2.2 p)) := by
   show _ = _
   rw [List.foldl_append, HST.out]
   show tellS st2 x = _
   unfold tellS
   rw [hp]
  have HNM := hid (fun b hb => (PtsAt.num st2.1 hpt b (pblkss_get hp b hb)).1)
  clear hf0 hpt hkx hst hp0 hp b1 b2 b3 b4 b5 b6 b7 hfx hwd0 hnd2 hgl hgp hgW
  gi_wp2_with (refine ⟨trivial, ?_⟩; gi_at_call 33; refine (CallsIn.inRound l (callsIn_wide.2 HC)).mono ?_; clear HC; rintro e y ⟨rfl, hq9, hq10, hq0, hqf, hqr⟩)
  have Q0 : Drw y y.drew := rfl
  have MK : Hid (∀ W, Drw y W → W.cell? ⟨w.heap.size, 0, none⟩ = some (.int .u8 (st2.2 : Int)) ∧ W.cell? ⟨p.P, 9, none⟩ = some (.int .u8 (p.rd : Int)) ∧ W.cell? ⟨p.P, 10, none⟩ = some (.int .u8 (p.st : Int)) ∧ Hid (Drw y W)) := fun W k => ⟨(by rw [show W = y.drew from k]; exact hq0), (by rw [show W = y.drew from k]; exact hq9), (by rw [show W = y.drew from k]; exact hq10), k⟩
  refine region_Zr (z := 13) (S := (fun W => W.cell? ⟨w.heap.size, 0, none⟩ = some (.int .u8 (st2.2 : Int)) ∧ W.cell? ⟨p.P, 9, none⟩ = some (.int .u8 (p.rd : Int)) ∧ W.cell? ⟨p.P, 10, none⟩ = some (.int .u8 (p.st : Int)) ∧ Hid (Drw y W))) (by kernel_rfl) (by kernel_rfl) ?_ (fun hH => ?_)
  ·
   exact MK.out _ Q0
  have KQ := Q0
  refine zk 13 0 [] (some 28) (Op.load 75 (Operand.tmp 3)) 75 (v := ?v0h1) rfl ?h0h1 hH ?_
  case h0h1 => intro _ _; go_simp; try with_reducible rfl
  try simp only [ps]
  refine zk 13 1 [] (some 29) (Op.move (Operand.tmp 5)) 71 (v := ?v1h2) rfl ?h1h2 hH ?_
  case h1h2 => intro _ _; go_simp; try with_reducible rfl
  try simp only [ps]
  refine zk 13 2 [] (some 30) (Op.nilCheck (Operand.tmp 29)) 0 (v := ?v2h3) rfl ?h2h3 hH ?_
  case h2h3 => intro _ _; go_simp; try with_reducible rfl
  try simp only [ps]
  refine zk 13 3 [] (some 31) (Op.fieldAddr 130 (Operand.tmp 30) 6) 0 (v := ?v3h4) rfl ?h3h4 hH ?_
  case h3h4 => intro _ _; go_simp; try with_reducible rfl
  try simp only [ps]
  refine zk 13 4 [] (some 32) (Op.fieldAddr 126 (Operand.tmp 31) 1) 0 (v := ?v4h5) rfl ?h4h5 hH ?_
  case h4h5 => intro _ _; go_simp; try with_reducible rfl
  try simp only [ps]
  refine zk 13 5 [] (some 33) (Op.load 75 (Operand.tmp 32)) 75 (v := ?v5h6) rfl ?h5h6 hH ?_
  case h5h6 => intro _ _; go_simp; try with_reducible rfl
  try simp only [ps]
  refine zk 13 6 [] (some 34) (Op.binOp BinOp.andNot 75 (Operand.tmp 28) (Operand.tmp 33) 75) 75 (v := ?v6h7) rfl ?h6h7 hH ?_
  case h6h7 => intro _ _; go_simp; try with_reducible rfl
  try simp only [ps]
  refine zk 13 7 [] (some 35) (Op.move (Operand.tmp 5)) 71 (v := ?v7h8) rfl ?h7h8 hH ?_
  case h7h8 => intro _ _; go_simp; try with_reducible rfl
  try simp only [ps]
  refine zk 13 8 [] (some 36) (Op.nilCheck (Operand.tmp 35)) 0 (v := ?v8h9) rfl ?h8h9 hH ?_
  case h8h9 => intro _ _; go_simp; try with_reducible rfl
  try simp only [ps]
  refine zk 13 9 [] (some 37) (Op.fieldAddr 130 (Operand.tmp 36) 6) 0 (v := ?v9h10) rfl ?h9h10 hH ?_
  case h9h10 => intro _ _; go_simp; try with_reducible rfl
  try simp only [ps]
  refine zk 13 10 [] (some 38) (Op.fieldAddr 126 (Operand.tmp 37) 0) 0 (v := ?v10h11) rfl ?h10h11 hH ?_
  case h10h11 => intro _ _; go_simp; try with_reducible rfl
  try simp only [ps]
  refine zk 13 11 [] (some 39) (Op.load 75 (Operand.tmp 38)) 75 (v := ?v11h12) rfl ?h11h12 hH ?_
  case h11h12 => intro _ _; go_simp; try with_reducible rfl
  try simp only [ps]
  refine zk 13 12 [] (some 40) (Op.binOp BinOp.or 75 (Operand.tmp 34) (Operand.tmp 39) 75) 75 (v := ?v12h13) rfl ?h12h13 hH ?_
  case h12h13 => intro _ _; go_simp; try with_reducible rfl
  try simp only [ps]
  refine anyZ_ready (rs := [13]) (by kernel_rfl) (by simp) ?_
  refine AllZ.last (o := { dst := none, op := Op.store 75 (Operand.tmp 3) (Operand.tmp 40), type := 0, pos := "part.go:62", after := #[{ on := 12, ground := Ground.data }, { on := 0, ground := Ground.phase }, { on := 1, ground := Ground.phase }, { on := 2, ground := Ground.phase }, { on := 3, ground := Ground.phase }, { on := 4, ground := Ground.phase }, { on := 5, ground := Ground.phase }, { on := 6, ground := Ground.phase }, { on := 7, ground := Ground.phase }, { on := 8, ground := Ground.phase }, { on := 9, ground := Ground.phase }, { on := 10, ground := Ground.phase }, { on := 11, ground := Ground.phase }, { on := 12, ground := Ground.phase }], guard := none }) rfl (Or.inl rfl) (fun K hKq => ?_) AllZ.nil
  have z0 : y.drew.cell? ⟨w.heap.size, 0, none⟩ = some (.int .u8 (st2.2 : Int)) := hq0
  have zf : y.drew.frozen? ⟨w.heap.size, 0, none⟩ = false := hqf
  go_simp
  refine hKq.out _ _ ?_
  clear z0 zf
  clear hKq K
  try simp only [ps]
  refine anyZ_done (by kernel_rfl) ?_ _
  refine OnlyN.normal ?_
  gi_wp2
  obtain ⟨hy1, hy2⟩ := hqr.out
  have KY := hid (show Kx (fun b => b = w.heap.size) y (y.setCell ⟨w.heap.size, 0, none⟩ (.int .u8 ((heedG st2.2 p : Nat) : Int))).drew from (Kx.set (S := fun b => b = w.heap.size) (Kx.refl _ y) (fun _ => rfl) _ _).drew)
  refine ⟨?_, ?_, ?_⟩
  ·
   exact ((keeps_num hy2 HNM.out).trans (KeepsOthers.setCell _ _ _)).trans (KeepsOthers.drew _)
  ·
   refine ⟨?_, ?_⟩
   ·
    exact (KY.out.block _ (Nat.lt_of_lt_of_le HBsl.out (Nat.le_trans HKX.out.size hy2.size)) HBG.out).trans (hy2.block _ (Nat.lt_of_lt_of_le HBsl.out HKX.out.size) (fun e => HBS.out (HGLp.out _ e)))
   ·
    exact (KY.out.block _ (Nat.lt_of_lt_of_le hkbl (Nat.le_trans HKX.out.size hy2.size)) HKBG.out).trans (hy2.block _ (Nat.lt_of_lt_of_le hkbl HKX.out.size) (fun e => HKBP.out (HGLp.out _ e)))
  ·
   show RowI2 g kids w.heap.size W0 (pre ++ [x]) _
   have hti := HTI.out (pre ++ [x])
   unfold RowI2
   rw [HTL.out] at hti ⊢
   have hset := PtsAt.set HPTB.out HND2.out HP.out hy2 hy1
   refine ⟨World.cell?_setCell_same' _ _ _ (by show (y.cell? ⟨w.heap.size, 0, none⟩).isSome = true; rw [hq0]; rfl), by show (y.setCell _ _).frozen? _ = false; rw [World.frozen?_setCell]; exact hqf, PtsAt.apart KY.out (fun b _ e => by rw [e]; exact ⟨_, _, hq0⟩) _ hset (fun b hb e => ?_), ?_⟩
   ·
    rw [hti.ndp] at hb
    have := HGL.out _ hb
    omega
   ·
    exact (HKX.out.trans (hy2.mono (fun b _ hb => Or.inl (HGLp.out b hb)))).trans (KY.out.mono (fun b _ e => Or.inr e))
 case done =>
  rintro D xs W hD hxs ⟨hc0, hf0, hpt, hkx⟩ hK
  rw [tell_back kids.length 0 xs (by omega) hxs] at hpt
  have hpt2 : PtsAt W TT (heedR g kids).1 := by rw [← back_all]; exact hpt
  have hg := grownBy_putObj' W D (.deferred none)
  have kc : KC W (W.putObj D (.deferred none)) := kc_row hg (fun r e => by cases e; exact ⟨_, hK, rfl⟩)
  have hkx2 : Kx (fun b => b ∈ pblkss kids ∨ b = w.heap.size) W0 (W.putObj D (.deferred none)) := hkx.grown hg (fun k e hk => by cases e; omega)
  have hnum : ∀ b, b < W0.heap.size → (b ∈ pblkss kids ∨ b = w.heap.size) → NumB W0 b := fun b _ e => by
   rcases e with e | e
   ·
    exact (PtsAt.num kids PT0.out b e).1
   ·
    rw [e]; exact ⟨_, _, bl_cell GB0.out 0 _ rfl⟩
  have fin : HeedD (.mk 2 low high n s P kn so rd st hd kids) g w (.returned (.tuple #[])) (W.putObj D (.deferred none)) := heed_done2 HHE.out (bl_kx PB0.out hkx2 (fun e => e.elim HPK.out (fun e => by have := HWL.out; omega))) (KidS.apart KS0.out hkx2 hnum) (map_heedR g kids) (PtsAt.kc kc _ hpt2) ((K00.out.mono (fun b _ e => Or.inl e)).past2 hkx2 (fun b hb e => e.elim (fun e => Or.inr e) (fun e => by omega)))
  have FIN := hid fin
  clear hc0 hf0 hpt hkx hpt2 hg kc hkx2 hnum fin
  gi_wp2
  refine ⟨by simp, .inl ⟨_, _, rfl, run_takeDeferred hK, ?_⟩⟩
  exact ⟨_, results_none rfl _ _ _, FIN.out⟩
 case stop =>
  rintro D c pre W _ _ h _
  exact h.elim
end Go.Proofs.YtnajcnhgeggngaaGreat.Way
