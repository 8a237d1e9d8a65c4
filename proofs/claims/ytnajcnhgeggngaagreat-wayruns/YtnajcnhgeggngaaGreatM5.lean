/-
  Texts of this claim: Ways, Sorted, Next, Beh, Rep2, Found, Group, WOk.
-/
import Derived.Test.YtnajcnhgeggngaaGreatM4
import Derived.Test.YtnajcnhgeggngaaGreatM3
import Derived.Deep.CutBlock
set_option maxHeartbeats 2000000
set_option maxRecDepth 100000

/-! ### Ways -/

namespace Go.Proofs.YtnajcnhgeggngaaGreat.Way
open Go.RowKit Go.Proofs.YtnajcnhgeggngaaGreat Go.Maps

theorem zero68 (w : World) : (zeroValue 68).run Tryz.prog w = .ok (.slice none 0 0) w := by
 have := Tryz.zeroValue68
 go_simp
theorem MemOk.put {M : Nat → Option Memo} {O : Nat → Prop} {w w' : World} {b : Nat} {W : Sp → List Sp} (h : MemOk M O w) (hb : M b = some (.kn W)) (hat : MapAt w' b (fun x v => SpL w (okB M O) v (W x))) (k : Kx (fun q => q = b) w w') : MemOk M O w' := by
 have on : ∀ d, okB M O d → d < w.heap.size → okB M O d ∧ w'.heap[d]? = w.heap[d]? := fun d hd hl => ⟨hd, k.block d hl (fun e => by rw [e] at hd; have := hd.2; rw [hb] at this; cases this)⟩
 refine ⟨fun c m hc => ?_, h.own⟩
 by_cases e : c = b
 ·
  subst e
  rw [hb] at hc
  injection hc with hc
  subst hc
  exact MapAt.imp hat rfl (fun x v q => q.keep k.size on)
 ·
  exact (h.at_ c m hc).keep (k.block c (h.at_ c m hc).lt e) k.size on
theorem spl_put {M : Nat → Option Memo} {O : Nat → Prop} {w w' : World} {b : Nat} {W : Sp → List Sp} (hb : M b = some (.kn W)) (k : Kx (fun q => q = b) w w') {v : Value} {xs : List Sp} (h : SpL w (okB M O) v xs) : SpL w' (okB M O) v xs :=
 h.keep k.size (fun d hd hl => ⟨hd, k.block d hl (fun e => by rw [e] at hd; have := hd.2; rw [hb] at this; cases this)⟩)
abbrev Drew (a b : World) : Prop := b = a.drew
abbrev FoundD (s : ByteArray) (bol : Bool) (M : Nat → Option Memo) (P : Nat) (p : Pt) : Prop := ∀ (O : Nat → Prop) (x : Sp) (w : World), x.Ok → x.In s.size → (∀ b, O b → b < w.heap.size) → PtAt w (okB M O) p → MemOk M O w →
  Calls Tryz.prog 54 #[wkv s bol, ptv P, spv x] w fun e w' => WaysD (ways s.data.toList bol p x) (okB M O) (fun w' => Km M w w' ∧ MemOk M O w') e w'
theorem ways_any (s : ByteArray) (bol : Bool) (M : Nat → Option Memo) (k low high n : Int) (t : W4) (P b : Nat) (so : Option Nat) (rd st h : Nat) (kids : List Pt) (hlf : leafK k = false) (hMb : M b = some (.kn (ways s.data.toList bol (.mk k low high n t P (some b) so rd st h kids)))) (HF : FoundD s bol M P (.mk k low high n t P (some b) so rd st h kids)) (O : Nat → Prop) (x : Sp) (hx : x.Ok) (hN : x.In s.size) (w : World) (hO : ∀ b, O b → b < w.heap.size) (hM : MemOk M O w) (hP : PtAt w (okB M O) (.mk k low high n t P (some b) so rd st h kids)) :
  Calls Tryz.prog 34 #[wkv s bol, ptv P, spv x] w fun e w' => WaysD (ways s.data.toList bol (.mk k low high n t P (some b) so rd st h kids) x) (okB M O) (fun w' => Km M w w' ∧ MemOk M O w') e w' := by
 obtain ⟨kv, hblk, hok⟩ : ∃ kv, w.heap[P]? = some (pto k low high n t kv rd st h (some b) so) ∧ M P = none := by
  unfold PtAt at hP
  obtain ⟨h1, ⟨ad, c, h2, _⟩, _⟩ := hP
  exact ⟨_, h2, h1.2⟩
 have HLF := hid hlf
 have HMB := hid hMb
 have HX := hid hx
 have HB := hid hblk
 have HMP := hid (show ¬ M P ≠ none from fun e => e hok)
 have HM := hid hM
 have HMX := hid (show ¬ M (w.heap.size + 1) ≠ none from fun e => e (hM.lt (Nat.le_succ _)))
 have FD := hid (fun (W : World) (k0 : Kp w W) => HF O x W hx hN (fun b hb => Nat.lt_of_lt_of_le (hO b hb) k0.size) (PtAt.kp hP k0) (hM.keep (S := fun _ => False) (Kp.kx k0) (fun _ _ e => e.elim) (fun _ _ e => e) hM.own))
 have HLE := hid (leaf_any k low high n t kv rd st h (some b) so P)
 clear hlf hMb HF hx hN hO hM hP hblk hok
 go_enter Tryz.func34, Tryz.ntmps34
 go_upto_region 1 with fail
 refine opq (fun W0 => W0.heap[w.heap.size]? = some (.cells #[.string s, .bool bol] 70) ∧ W0.heap[(w.heap.size + 1)]? = some (spo x) ∧ W0.heap[P]? = some (pto k low high n t kv rd st h (some b) so) ∧ Kp w W0) ⟨by exact bl_alloc (last_of _ _) _, by exact last_at _ _ _ (by simp), by exact bl_kp HB.out kpt, by exact kpt⟩ ?_
 rintro W0 ⟨xT0, xX0, xP0, xK0⟩
 have T0 := hid xT0
 have X0 := hid xX0
 have P0 := hid xP0
 have K0 := hid xK0
 clear xT0 xX0 xP0 xK0
 have M0 := hid (HM.out.keep (S := fun _ => False) (Kp.kx K0.out) (fun _ _ e => e.elim) (fun _ _ e => e) HM.out.own)
 have B0 : Hid (MapAt W0.drew b (fun x v => SpL W0 (okB M O) v (ways s.data.toList bol (.mk k low high n t P (some b) so rd st h kids) x))) := MapAt.imp (M0.out.at_ b _ HMB.out) rfl (fun _ _ h => h)
 have LK := hid (B0.out.look Tryz.underlying127 (zero68 _) x HX.out)
 clear HB
 go_wp2_with fail
 refine (HLE.out _ P0.out).mono ?_
 rintro e w1 ⟨rfl, hw⟩
 rw [hw, HLF.out]
 clear HLE hw w1
 go_upto_region 3 with fail
 rcases LK.out with hl | ⟨v, hl, hG⟩
 ·
  have HL := hid hl
  clear hl LK
  go_cut [7, 8] (fun v q wc => v = .slice none 0 0 ∧ q = .bool false ∧ Kp W0 wc)
  case first =>
   have Q0 : Drew W0 W0.drew := rfl
   have MK : Hid (∀ W, Drew W0 W → W.cell? ⟨P, 12, none⟩ = some (.map (some b)) ∧ W.cell? ⟨(w.heap.size + 1), 0, none⟩ = some (.int .i8 x.a) ∧ W.cell? ⟨(w.heap.size + 1), 1, none⟩ = some (.int .i8 x.f0) ∧ W.cell? ⟨(w.heap.size + 1), 2, none⟩ = some (.int .i8 x.t0) ∧ W.cell? ⟨(w.heap.size + 1), 3, none⟩ = some (.int .i8 x.f1) ∧ W.cell? ⟨(w.heap.size + 1), 4, none⟩ = some (.int .i8 x.t1) ∧ W.cell? ⟨(w.heap.size + 1), 5, none⟩ = some (.int .i8 x.f2) ∧ W.cell? ⟨(w.heap.size + 1), 6, none⟩ = some (.int .i8 x.t2) ∧ (Instr.lookup 127 (.map (some b)) (spv x) true).run Tryz.prog W = .ok (.tuple #[.slice none 0 0, .bool false]) W ∧ Hid (Drew W0 W)) := fun W k => ⟨(by rw [show W = W0.drew from k]; exact bl_cell (bl_drew P0.out) 12 _ rfl), (by rw [show W = W0.drew from k]; exact bl_cell (bl_drew X0.out) 0 _ rfl), (by rw [show W = W0.drew from k]; exact bl_cell (bl_drew X0.out) 1 _ rfl), (by rw [show W = W0.drew from k]; exact bl_cell (bl_drew X0.out) 2 _ rfl), (by rw [show W = W0.drew from k]; exact bl_cell (bl_drew X0.out) 3 _ rfl), (by rw [show W = W0.drew from k]; exact bl_cell (bl_drew X0.out) 4 _ rfl), (by rw [show W = W0.drew from k]; exact bl_cell (bl_drew X0.out) 5 _ rfl), (by rw [show W = W0.drew from k]; exact bl_cell (bl_drew X0.out) 6 _ rfl), (by rw [show W = W0.drew from k]; exact HL.out), k⟩
   refine wp_region_noPanic ?_
   refine hdrew MK Q0 (fun hH => ?_)
   have KQ := Q0
   refine tk 0 (some 16) (Op.move (Operand.tmp 1)) 71 (v := ?v0a1) rfl ?h0a1 hH ?_
   case h0a1 => intro _ _; go_simp; try with_reducible rfl
   try simp only [ps]
   refine tk 1 (some 17) (Op.nilCheck (Operand.tmp 16)) 0 (v := ?v1a2) rfl ?h1a2 hH ?_
   case h1a2 => intro _ _; go_simp; try with_reducible rfl
   try simp only [ps]
   refine tk 2 (some 18) (Op.fieldAddr 130 (Operand.tmp 17) 8) 0 (v := ?v2a3) rfl ?h2a3 hH ?_
   case h2a3 => intro _ _; go_simp; try with_reducible rfl
   try simp only [ps]
   refine tk 3 (some 19) (Op.load 127 (Operand.tmp 18)) 127 (v := ?v3a4) rfl ?h3a4 hH ?_
   case h3a4 => intro _ _; go_simp; try with_reducible rfl
   try simp only [ps]
   refine tk 4 (some 20) (Op.load 83 (Operand.tmp 5)) 83 (v := ?v4a5) rfl ?h4a5 hH ?_
   case h4a5 => intro _ _; go_simp; try with_reducible rfl
   try simp only [ps]
   refine tk 5 (some 21) (Op.lookup 127 (Operand.tmp 19) (Operand.tmp 20) true) 136 (v := ?v5a6) rfl ?h5a6 hH ?_
   case h5a6 => intro _ _; go_simp; try with_reducible rfl
   try simp only [ps]
   refine tk 6 (some 15) (Op.move (Operand.tmp 21)) 136 (v := ?v6a7) rfl ?h6a7 hH ?_
   case h6a7 => intro _ _; go_simp; try with_reducible rfl
   try simp only [ps]
   refine tk 7 (some 22) (Op.extract (Operand.tmp 15) 0) 68 (v := ?v7a8) rfl ?h7a8 hH ?_
   case h7a8 => intro _ _; go_simp; try with_reducible rfl
   try simp only [ps]
   refine tk 8 (some 23) (Op.extract (Operand.tmp 15) 1) 4 (v := ?v8a9) rfl ?h8a9 hH ?_
   case h8a9 => intro _ _; go_simp; try with_reducible rfl
   try simp only [ps]
   refine tk 9 (some 7) (Op.assign (Operand.tmp 22)) 68 (v := ?v9a10) rfl ?h9a10 hH ?_
   case h9a10 => intro _ _; go_simp; try with_reducible rfl
   try simp only [ps]
   refine tk 10 (some 8) (Op.assign (Operand.tmp 23)) 4 (v := ?v10a11) rfl ?h10a11 hH ?_
   case h10a11 => intro _ _; go_simp; try with_reducible rfl
   try simp only [ps]
   refine wpAnyH_done (by kernel_rfl) ?_ _
   refine NoPanic.normal ?_
   go_wp2_with fail
   go_meet
   case rel => exact ⟨rfl, rfl, (Kp.refl _).drew⟩
  case rest =>
  obtain ⟨rfl, rfl, hk⟩ := hcut
  rename World => W1
  have T1 := hid (bl_kp T0.out hk)
  have X1 := hid (bl_kp X0.out hk)
  have P1 := hid (bl_kp P0.out hk)
  have FD1 := hid (FD.out W1 (K0.out.trans hk))
  have K1 := hid (K0.out.trans hk)
  clear hk T0 X0 P0 FD HL B0 M0 K0
  have t0 := bl_cell (T1.out) 0 _ rfl
  have t1 := bl_cell (T1.out) 1 _ rfl
  obtain ⟨x0, x1, x2, x3, x4, x5, x6⟩ := cells7 (X1.out)
  go_wp2_with fail
  clear t0 t1 x0 x1 x2 x3 x4 x5 x6
  refine (FD1.out).mono ?_
  rintro e y2 ⟨⟨v, rfl, hv, hk, hm⟩⟩
  have HV := hid hv
  have HM2 := hid hm
  have BM : Hid (MapAt y2 b (fun x v => SpL y2 (okB M O) v (ways s.data.toList bol (.mk k low high n t P (some b) so rd st h kids) x))) := hm.at_ b _ HMB.out
  have X2 := hid (bl_kx X1.out hk HMX.out)
  have P2 := hid (bl_kx P1.out hk HMP.out)
  have K2 := hid ((Kp.kx K1.out).trans hk)
  clear hv hk hm X1 P1 T1 K1 FD1
  go_upto_region 6 with fail
  have Q0 : Kp y2 y2.drew := (Kp.refl _).drew
  have MK : Hid (∀ W, Kp y2 W → W.cell? ⟨P, 12, none⟩ = some (.map (some b)) ∧ W.cell? ⟨(w.heap.size + 1), 0, none⟩ = some (.int .i8 x.a) ∧ W.cell? ⟨(w.heap.size + 1), 1, none⟩ = some (.int .i8 x.f0) ∧ W.cell? ⟨(w.heap.size + 1), 2, none⟩ = some (.int .i8 x.t0) ∧ W.cell? ⟨(w.heap.size + 1), 3, none⟩ = some (.int .i8 x.f1) ∧ W.cell? ⟨(w.heap.size + 1), 4, none⟩ = some (.int .i8 x.t1) ∧ W.cell? ⟨(w.heap.size + 1), 5, none⟩ = some (.int .i8 x.f2) ∧ W.cell? ⟨(w.heap.size + 1), 6, none⟩ = some (.int .i8 x.t2) ∧ Hid (Kp y2 W)) := fun W k => ⟨bl_cell (bl_kp P2.out k) 12 _ rfl, bl_cell (bl_kp X2.out k) 0 _ rfl, bl_cell (bl_kp X2.out k) 1 _ rfl, bl_cell (bl_kp X2.out k) 2 _ rfl, bl_cell (bl_kp X2.out k) 3 _ rfl, bl_cell (bl_kp X2.out k) 4 _ rfl, bl_cell (bl_kp X2.out k) 5 _ rfl, bl_cell (bl_kp X2.out k) 6 _ rfl, k⟩
  refine wp_region_noPanic ?_
  refine hdrewZ 6 MK Q0 (fun hH => ?_)
  have KQ := Q0
  refine zk 6 0 [] (some 30) (Op.move (Operand.tmp 1)) 71 (v := ?v0b1) rfl ?h0b1 hH ?_
  case h0b1 => intro _ _; go_simp; try with_reducible rfl
  try simp only [ps]
  refine zk 6 1 [] (some 31) (Op.nilCheck (Operand.tmp 30)) 0 (v := ?v1b2) rfl ?h1b2 hH ?_
  case h1b2 => intro _ _; go_simp; try with_reducible rfl
  try simp only [ps]
  refine zk 6 2 [] (some 32) (Op.fieldAddr 130 (Operand.tmp 31) 8) 0 (v := ?v2b3) rfl ?h2b3 hH ?_
  case h2b3 => intro _ _; go_simp; try with_reducible rfl
  try simp only [ps]
  refine zk 6 3 [] (some 33) (Op.load 127 (Operand.tmp 32)) 127 (v := ?v3b4) rfl ?h3b4 hH ?_
  case h3b4 => intro _ _; go_simp; try with_reducible rfl
  try simp only [ps]
  refine zk 6 4 [] (some 34) (Op.load 83 (Operand.tmp 5)) 83 (v := ?v4b5) rfl ?h4b5 hH ?_
  case h4b5 => intro _ _; go_simp; try with_reducible rfl
  try simp only [ps]
  refine zk 6 5 [] (some 35) (Op.move (Operand.tmp 7)) 68 (v := ?v5b6) rfl ?h5b6 hH ?_
  case h5b6 => intro _ _; go_simp; try with_reducible rfl
  try simp only [ps]
  refine anyZ_ready (rs := [6]) (by kernel_rfl) (by simp) ?_
  refine AllZ.last (o := { dst := none, op := Op.mapUpdate 127 (Operand.tmp 33) (Operand.tmp 34) (Operand.tmp 35), type := 0, pos := "walk.go:32", after := #[{ on := 3, ground := Ground.data }, { on := 4, ground := Ground.data }, { on := 5, ground := Ground.data }, { on := 0, ground := Ground.phase }, { on := 1, ground := Ground.phase }, { on := 2, ground := Ground.phase }, { on := 3, ground := Ground.phase }, { on := 4, ground := Ground.phase }, { on := 5, ground := Ground.phase }], guard := none }) rfl (Or.inl rfl) (fun K hKq => ?_) AllZ.nil
  obtain ⟨wm, hrun, hset, hg⟩ := ((BM.out.imp (KQ.block b BM.out.lt) (fun _ _ h => h) : MapAt _ b (fun x v => SpL y2 (okB M O) v (ways s.data.toList bol (.mk k low high n t P (some b) so rd st h kids) x)))).put Tryz.underlying127 x HX.out v HV.out
  have HSET := hid hset
  have KG := hid ((Kp.kx (S := fun q => q = b) KQ).grown hg (fun k e _ => by injection e with e; exact e.symm))
  clear hset hg
  go_simp
  refine hKq.out _ _ ?_
  clear hrun
  clear hKq K
  try simp only [ps]
  refine anyZ_done (by kernel_rfl) ?_ _
  refine NoPanic.normal ?_
  go_wp2_with fail
  go_ret
  exact ⟨_, rfl, spl_put HMB.out KG.out HV.out, K2.out.trans (KG.out.mono (fun k _ e => by rw [e, HMB.out]; exact fun h => by cases h)), HM2.out.put HMB.out HSET.out KG.out⟩
 ·
  have HL := hid hl
  have HG := hid hG
  clear hl LK hG
  go_cut [7, 8] (fun u q wc => u = v ∧ q = .bool true ∧ Kp W0 wc)
  case first =>
   have Q0 : Drew W0 W0.drew := rfl
   have MK : Hid (∀ W, Drew W0 W → W.cell? ⟨P, 12, none⟩ = some (.map (some b)) ∧ W.cell? ⟨(w.heap.size + 1), 0, none⟩ = some (.int .i8 x.a) ∧ W.cell? ⟨(w.heap.size + 1), 1, none⟩ = some (.int .i8 x.f0) ∧ W.cell? ⟨(w.heap.size + 1), 2, none⟩ = some (.int .i8 x.t0) ∧ W.cell? ⟨(w.heap.size + 1), 3, none⟩ = some (.int .i8 x.f1) ∧ W.cell? ⟨(w.heap.size + 1), 4, none⟩ = some (.int .i8 x.t1) ∧ W.cell? ⟨(w.heap.size + 1), 5, none⟩ = some (.int .i8 x.f2) ∧ W.cell? ⟨(w.heap.size + 1), 6, none⟩ = some (.int .i8 x.t2) ∧ (Instr.lookup 127 (.map (some b)) (spv x) true).run Tryz.prog W = .ok (.tuple #[v, .bool true]) W ∧ Hid (Drew W0 W)) := fun W k => ⟨(by rw [show W = W0.drew from k]; exact bl_cell (bl_drew P0.out) 12 _ rfl), (by rw [show W = W0.drew from k]; exact bl_cell (bl_drew X0.out) 0 _ rfl), (by rw [show W = W0.drew from k]; exact bl_cell (bl_drew X0.out) 1 _ rfl), (by rw [show W = W0.drew from k]; exact bl_cell (bl_drew X0.out) 2 _ rfl), (by rw [show W = W0.drew from k]; exact bl_cell (bl_drew X0.out) 3 _ rfl), (by rw [show W = W0.drew from k]; exact bl_cell (bl_drew X0.out) 4 _ rfl), (by rw [show W = W0.drew from k]; exact bl_cell (bl_drew X0.out) 5 _ rfl), (by rw [show W = W0.drew from k]; exact bl_cell (bl_drew X0.out) 6 _ rfl), (by rw [show W = W0.drew from k]; exact HL.out), k⟩
   refine wp_region_noPanic ?_
   refine hdrew MK Q0 (fun hH => ?_)
   have KQ := Q0
   refine tk 0 (some 16) (Op.move (Operand.tmp 1)) 71 (v := ?v0c1) rfl ?h0c1 hH ?_
   case h0c1 => intro _ _; go_simp; try with_reducible rfl
   try simp only [ps]
   refine tk 1 (some 17) (Op.nilCheck (Operand.tmp 16)) 0 (v := ?v1c2) rfl ?h1c2 hH ?_
   case h1c2 => intro _ _; go_simp; try with_reducible rfl
   try simp only [ps]
   refine tk 2 (some 18) (Op.fieldAddr 130 (Operand.tmp 17) 8) 0 (v := ?v2c3) rfl ?h2c3 hH ?_
   case h2c3 => intro _ _; go_simp; try with_reducible rfl
   try simp only [ps]
   refine tk 3 (some 19) (Op.load 127 (Operand.tmp 18)) 127 (v := ?v3c4) rfl ?h3c4 hH ?_
   case h3c4 => intro _ _; go_simp; try with_reducible rfl
   try simp only [ps]
   refine tk 4 (some 20) (Op.load 83 (Operand.tmp 5)) 83 (v := ?v4c5) rfl ?h4c5 hH ?_
   case h4c5 => intro _ _; go_simp; try with_reducible rfl
   try simp only [ps]
   refine tk 5 (some 21) (Op.lookup 127 (Operand.tmp 19) (Operand.tmp 20) true) 136 (v := ?v5c6) rfl ?h5c6 hH ?_
   case h5c6 => intro _ _; go_simp; try with_reducible rfl
   try simp only [ps]
   refine tk 6 (some 15) (Op.move (Operand.tmp 21)) 136 (v := ?v6c7) rfl ?h6c7 hH ?_
   case h6c7 => intro _ _; go_simp; try with_reducible rfl
   try simp only [ps]
   refine tk 7 (some 22) (Op.extract (Operand.tmp 15) 0) 68 (v := ?v7c8) rfl ?h7c8 hH ?_
   case h7c8 => intro _ _; go_simp; try with_reducible rfl
   try simp only [ps]
   refine tk 8 (some 23) (Op.extract (Operand.tmp 15) 1) 4 (v := ?v8c9) rfl ?h8c9 hH ?_
   case h8c9 => intro _ _; go_simp; try with_reducible rfl
   try simp only [ps]
   refine tk 9 (some 7) (Op.assign (Operand.tmp 22)) 68 (v := ?v9c10) rfl ?h9c10 hH ?_
   case h9c10 => intro _ _; go_simp; try with_reducible rfl
   try simp only [ps]
   refine tk 10 (some 8) (Op.assign (Operand.tmp 23)) 4 (v := ?v10c11) rfl ?h10c11 hH ?_
   case h10c11 => intro _ _; go_simp; try with_reducible rfl
   try simp only [ps]
   refine wpAnyH_done (by kernel_rfl) ?_ _
   refine NoPanic.normal ?_
   go_wp2_with fail
   go_meet
   case rel => exact ⟨rfl, rfl, (Kp.refl _).drew⟩
  case rest =>
  obtain ⟨rfl, rfl, hk⟩ := hcut
  rename World => W1
  have K1 := hid hk
  clear hk
  go_wp2_with fail
  go_ret
  exact ⟨_, rfl, HG.out.keep K1.out.size (fun b hb hl => ⟨hb, K1.out.block b hl⟩), Kp.kx (K0.out.trans K1.out), M0.out.keep (S := fun _ => False) (Kp.kx K1.out) (fun _ _ e => e.elim) (fun _ _ e => e) M0.out.own⟩
end Go.Proofs.YtnajcnhgeggngaaGreat.Way

/-! ### Sorted -/

namespace Go.Proofs.YtnajcnhgeggngaaGreat.Way
open Go.RowKit Go.Proofs.YtnajcnhgeggngaaGreat Go.Maps

theorem zero207 (w : World) : (zeroValue 207).run Tryz.prog w = .ok (.pointer none) w := by
 have := Tryz.zeroValue207
 go_simp
theorem Sp.lacks_lt (y : Sp) : y.lacks < 8 := by
 unfold Sp.lacks
 split <;> split <;> split <;> omega
structure SortD (hd : Nat) (all : List Sp) (ok : Nat → Prop) (R : World → Prop) (e : Ending) (w' : World) : Prop where
 ex : ∃ v, e = .returned v ∧ SoAt w' ok v hd all ∧ R w'
theorem MemOk.putS {M : Nat → Option Memo} {O : Nat → Prop} {w w' : World} {b hd : Nat} {W : Sp → List Sp} (h : MemOk M O w) (hb : M b = some (.so W hd)) (hat : MapAt w' b (fun x v => SoAt w (okB M O) v hd (W x))) (k : Kx (fun q => q = b) w w') : MemOk M O w' := by
 have on : ∀ d, okB M O d → d < w.heap.size → okB M O d ∧ w'.heap[d]? = w.heap[d]? := fun d hd hl => ⟨hd, k.block d hl (fun e => by rw [e] at hd; have := hd.2; rw [hb] at this; cases this)⟩
 refine ⟨fun c m hc => ?_, h.own⟩
 by_cases e : c = b
 ·
  subst e
  rw [hb] at hc
  injection hc with hc
  subst hc
  exact MapAt.imp hat rfl (fun x v q => q.keep k.size on)
 ·
  exact (h.at_ c m hc).keep (k.block c (h.at_ c m hc).lt e) k.size on
theorem so_put {M : Nat → Option Memo} {O : Nat → Prop} {w w' : World} {b hd : Nat} {W : Sp → List Sp} (hb : M b = some (.so W hd)) (k : Kx (fun q => q = b) w w') {v : Value} {hd' : Nat} {xs : List Sp} (h : SoAt w (okB M O) v hd' xs) : SoAt w' (okB M O) v hd' xs :=
 h.keep k.size (fun d hd hl => ⟨hd, k.block d hl (fun e => by rw [e] at hd; have := hd.2; rw [hb] at this; cases this)⟩)
theorem sorted_any (s : ByteArray) (bol : Bool) (M : Nat → Option Memo) (k low high n : Int) (t : W4) (P c : Nat) (kn : Option Nat) (rd st h : Nat) (kids : List Pt) (hh : h < 8) (hMc : M c = some (.so (ways s.data.toList bol (.mk k low high n t P kn (some c) rd st h kids)) h)) (HS : WSaid s bol M (.mk k low high n t P kn (some c) rd st h kids)) (O : Nat → Prop) (x : Sp) (hx : x.Ok) (hN : x.In s.size) (w : World) (hO : ∀ b, O b → b < w.heap.size) (hM : MemOk M O w) (hP : PtAt w (okB M O) (.mk k low high n t P kn (some c) rd st h kids)) :
  Calls Tryz.prog 134 #[wkv s bol, ptv P, spv x] w fun e w' => SortD h (ways s.data.toList bol (.mk k low high n t P kn (some c) rd st h kids) x) (okB M O) (fun w' => Km M w w' ∧ MemOk M O w') e w' := by
 obtain ⟨kv, hblk, hok⟩ : ∃ kv, w.heap[P]? = some (pto k low high n t kv rd st h kn (some c)) ∧ M P = none := by
  unfold PtAt at hP
  obtain ⟨h1, ⟨ad, c, h2, _⟩, _⟩ := hP
  exact ⟨_, h2, h1.2⟩
 have HMC := hid hMc
 have HX := hid hx
 have HH := hid hh
 have HB := hid hblk
 have HMP := hid (show ¬ M P ≠ none from fun e => e hok)
 have HM := hid hM
 have HO := hid hO
 have HMX := hid (show ¬ M (w.heap.size + 1) ≠ none from fun e => e (hM.lt (Nat.le_succ _)))
 have FD := hid (fun (W : World) (k0 : Kp w W) => HS.all O x W hx hN (fun b hb => Nat.lt_of_lt_of_le (hO b hb) k0.size) (PtAt.kp hP k0) (hM.keep (S := fun _ => False) (Kp.kx k0) (fun _ _ e => e.elim) (fun _ _ e => e) hM.own))
 obtain ⟨zs, hzs⟩ : ∃ zs, ways s.data.toList bol (.mk k low high n t P kn (some c) rd st h kids) x = zs := ⟨_, rfl⟩
 have HZS := hid hzs.symm
 have hfew := HS.few x hx hN
 have hgd := HS.good x hx hN
 rw [hzs] at FD hfew hgd ⊢
 obtain ⟨Z, hZ⟩ : ∃ Z, zs.length = Z := ⟨_, rfl⟩
 have HZL := hid hZ
 rw [hZ] at hfew
 have HZF := hid hfew
 have HGD := hid hgd
 clear hMc HS hx hN hO hM hP hblk hok hzs hZ hfew hh hgd
 go_enter Tryz.func134, Tryz.ntmps134
 go_upto_region 1 with fail
 refine opq (fun W0 => W0.heap[w.heap.size]? = some (.cells #[.string s, .bool bol] 70) ∧ W0.heap[(w.heap.size + 1)]? = some (spo x) ∧ W0.heap[P]? = some (pto k low high n t kv rd st h kn (some c)) ∧ Kp w W0) ⟨by exact bl_alloc (last_of _ _) _, by exact last_at _ _ _ (by simp), by exact bl_kp HB.out kpt, by exact kpt⟩ ?_
 rintro W0 ⟨xT0, xX0, xP0, xK0⟩
 have T0 := hid xT0
 have X0 := hid xX0
 have P0 := hid xP0
 have K0 := hid xK0
 clear xT0 xX0 xP0 xK0
 have M0 := hid (HM.out.keep (S := fun _ => False) (Kp.kx K0.out) (fun _ _ e => e.elim) (fun _ _ e => e) HM.out.own)
 have B0 : Hid (MapAt W0.drew c (fun x v => SoAt W0 (okB M O) v h (ways s.data.toList bol (.mk k low high n t P kn (some c) rd st h kids) x))) := MapAt.imp (M0.out.at_ c _ HMC.out) rfl (fun _ _ h => h)
 have LK := hid (B0.out.look Tryz.underlying128 (zero207 _) x HX.out)
 clear HB
 rcases LK.out with hl | ⟨v, hl, hG⟩
 ·
  have HL := hid hl
  clear hl LK
  go_cut [7, 8] (fun v q wc => v = .pointer none ∧ q = .bool false ∧ Kp W0 wc)
  case first =>
   have Q0 : Drew W0 W0.drew := rfl
   have MK : Hid (∀ W, Drew W0 W → W.cell? ⟨P, 13, none⟩ = some (.map (some c)) ∧ W.cell? ⟨(w.heap.size + 1), 0, none⟩ = some (.int .i8 x.a) ∧ W.cell? ⟨(w.heap.size + 1), 1, none⟩ = some (.int .i8 x.f0) ∧ W.cell? ⟨(w.heap.size + 1), 2, none⟩ = some (.int .i8 x.t0) ∧ W.cell? ⟨(w.heap.size + 1), 3, none⟩ = some (.int .i8 x.f1) ∧ W.cell? ⟨(w.heap.size + 1), 4, none⟩ = some (.int .i8 x.t1) ∧ W.cell? ⟨(w.heap.size + 1), 5, none⟩ = some (.int .i8 x.f2) ∧ W.cell? ⟨(w.heap.size + 1), 6, none⟩ = some (.int .i8 x.t2) ∧ (Instr.lookup 128 (.map (some c)) (spv x) true).run Tryz.prog W = .ok (.tuple #[.pointer none, .bool false]) W ∧ Hid (Drew W0 W)) := fun W k => ⟨(by rw [show W = W0.drew from k]; exact bl_cell (bl_drew P0.out) 13 _ rfl), (by rw [show W = W0.drew from k]; exact bl_cell (bl_drew X0.out) 0 _ rfl), (by rw [show W = W0.drew from k]; exact bl_cell (bl_drew X0.out) 1 _ rfl), (by rw [show W = W0.drew from k]; exact bl_cell (bl_drew X0.out) 2 _ rfl), (by rw [show W = W0.drew from k]; exact bl_cell (bl_drew X0.out) 3 _ rfl), (by rw [show W = W0.drew from k]; exact bl_cell (bl_drew X0.out) 4 _ rfl), (by rw [show W = W0.drew from k]; exact bl_cell (bl_drew X0.out) 5 _ rfl), (by rw [show W = W0.drew from k]; exact bl_cell (bl_drew X0.out) 6 _ rfl), (by rw [show W = W0.drew from k]; exact HL.out), k⟩
   refine wp_region_noPanic ?_
   refine hdrew MK Q0 (fun hH => ?_)
   have KQ := Q0
   refine tk 0 (some 14) (Op.move (Operand.tmp 1)) 71 (v := ?v0a1) rfl ?h0a1 hH ?_
   case h0a1 => intro _ _; go_simp; try with_reducible rfl
   try simp only [ps]
   refine tk 1 (some 15) (Op.nilCheck (Operand.tmp 14)) 0 (v := ?v1a2) rfl ?h1a2 hH ?_
   case h1a2 => intro _ _; go_simp; try with_reducible rfl
   try simp only [ps]
   refine tk 2 (some 16) (Op.fieldAddr 130 (Operand.tmp 15) 9) 0 (v := ?v2a3) rfl ?h2a3 hH ?_
   case h2a3 => intro _ _; go_simp; try with_reducible rfl
   try simp only [ps]
   refine tk 3 (some 17) (Op.load 128 (Operand.tmp 16)) 128 (v := ?v3a4) rfl ?h3a4 hH ?_
   case h3a4 => intro _ _; go_simp; try with_reducible rfl
   try simp only [ps]
   refine tk 4 (some 18) (Op.load 83 (Operand.tmp 5)) 83 (v := ?v4a5) rfl ?h4a5 hH ?_
   case h4a5 => intro _ _; go_simp; try with_reducible rfl
   try simp only [ps]
   refine tk 5 (some 19) (Op.lookup 128 (Operand.tmp 17) (Operand.tmp 18) true) 216 (v := ?v5a6) rfl ?h5a6 hH ?_
   case h5a6 => intro _ _; go_simp; try with_reducible rfl
   try simp only [ps]
   refine tk 6 (some 13) (Op.move (Operand.tmp 19)) 216 (v := ?v6a7) rfl ?h6a7 hH ?_
   case h6a7 => intro _ _; go_simp; try with_reducible rfl
   try simp only [ps]
   refine tk 7 (some 20) (Op.extract (Operand.tmp 13) 0) 207 (v := ?v7a8) rfl ?h7a8 hH ?_
   case h7a8 => intro _ _; go_simp; try with_reducible rfl
   try simp only [ps]
   refine tk 8 (some 21) (Op.extract (Operand.tmp 13) 1) 4 (v := ?v8a9) rfl ?h8a9 hH ?_
   case h8a9 => intro _ _; go_simp; try with_reducible rfl
   try simp only [ps]
   refine tk 9 (some 7) (Op.assign (Operand.tmp 20)) 207 (v := ?v9a10) rfl ?h9a10 hH ?_
   case h9a10 => intro _ _; go_simp; try with_reducible rfl
   try simp only [ps]
   refine tk 10 (some 8) (Op.assign (Operand.tmp 21)) 4 (v := ?v10a11) rfl ?h10a11 hH ?_
   case h10a11 => intro _ _; go_simp; try with_reducible rfl
   try simp only [ps]
   refine wpAnyH_done (by kernel_rfl) ?_ _
   refine NoPanic.normal ?_
   go_wp2_with fail
   go_meet
   case rel => exact ⟨rfl, rfl, (Kp.refl _).drew⟩
  case rest =>
  obtain ⟨rfl, rfl, hk⟩ := hcut
  rename World => W1
  have T1 := hid (bl_kp T0.out hk)
  have X1 := hid (bl_kp X0.out hk)
  have P1 := hid (bl_kp P0.out hk)
  have FD1 := hid (FD.out W1 (K0.out.trans hk))
  have K1 := hid (K0.out.trans hk)
  clear hk T0 X0 P0 FD HL B0 M0 K0
  have t0 := bl_cell (T1.out) 0 _ rfl
  have t1 := bl_cell (T1.out) 1 _ rfl
  obtain ⟨x0, x1, x2, x3, x4, x5, x6⟩ := cells7 (X1.out)
  go_wp2_with fail
  clear t0 t1 x0 x1 x2 x3 x4 x5 x6
  refine (FD1.out).mono ?_
  rintro e y2 ⟨⟨v, rfl, hv, hk, hm⟩⟩
  obtain ⟨ad, cc, hvv, hlc, -⟩ := hv.ex
  rw [HZL.out] at hvv hlc
  subst hvv
  have HV := hid hv
  have HM2 := hid hm
  have X2 := hid (bl_kx X1.out hk HMX.out)
  have P2 := hid (bl_kx P1.out hk HMP.out)
  have K2 := hid ((Kp.kx K1.out).trans hk)
  clear hv hk hm X1 P1 T1 K1 FD1
  go_upto_region 5 with fail
  refine opq (fun W2 => SoW y2.heap.size (.slice ad Z cc) h zs 0 (fun _ => .slice none 0 0) W2 ∧ Kp y2 W2) ⟨by exact SoW.start _ _ (last_of _ _), by exact kpt⟩ ?_
  rintro W2 ⟨xR2, xY2⟩
  have R2 := hid xR2
  have Y2 := hid xY2
  clear xR2 xY2
  have s0 := bl_cell (R2.out.b) 0 _ rfl
  go_wp2_with fail
  clear s0
  go_loopg [35] Z (fun gg i wr => ∃ (q : Nat) (f : Nat → Value), q + gg = Z ∧ i = .int .i64 (q : Int) ∧ SoW y2.heap.size (.slice ad Z cc) h zs q f wr ∧ Kp y2 wr)
  case atStart => exact ⟨0, _, by omega, rfl, R2.out, Y2.out⟩
  case round =>
   obtain ⟨q, f, hq, rfl, hR, hK⟩ := hrel
   have R6 := hid hR
   have Y6 := hid hK
   have X6 := hid (bl_kp X2.out hK)
   have P6 := hid (bl_kp P2.out hK)
   have S6 := hid (HV.out.keep (ok' := okB M O) hK.size (fun b hb hl => ⟨hb, hK.block b hl⟩))
   clear hR hK
   by_cases hlt : q < Z
   ·
    have gkw : IntKind.i64.wrap ((q : Int) + 1) = (q : Int) + 1 := by have := HZF.out; rw [IntKind.wrap_i64]; omega
    have ga : (q : Int) < (Z : Int) := by omega
    have g0 : (0 : Int) ≤ (q : Int) := by omega
    obtain ⟨y, hy⟩ : ∃ y, zs[q]? = some y := ⟨_, List.getElem?_eq_getElem (by rw [HZL.out]; exact hlt)⟩
    obtain ⟨ad2, c2, hv2, _, hc2⟩ := S6.out.ex
    injection hv2 with e1 e2 e3
    obtain ⟨b2, hbb, _, hbl, hce⟩ := hc2 (by rw [HZL.out]; omega)
    rw [← e1] at hbb
    subst hbb
    have hsp := hce q y hy
    have HY := hid hy
    have x0 := hsp.c0
    have x1 := hsp.c1
    have x2 := hsp.c2
    have x3 := hsp.c3
    have x4 := hsp.c4
    have x5 := hsp.c5
    have x6 := hsp.c6
    clear hsp hce hy e1 e2 e3 hc2
    obtain ⟨G, hG⟩ : ∃ G, cls h y = G := ⟨_, rfl⟩
    have HGE := hid hG
    have HG := hid (show G < 8 by rw [← hG]; exact and_lt8 _ _ HH.out)
    have LA := hid (fun W => lacks_any y W)
    have gand : bits .and .u8 ((y.lacks : Nat) : Int) (h : Int) = (G : Int) := by
     rw [← hG]
     exact u8_and y.lacks h (Sp.lacks_lt y) HH.out
    clear hG
    go_upto_region 8 with fail
    refine opq (fun W6 => W6.heap[wr.heap.size]? = some (spo y) ∧ W6.heap[P]? = some (pto k low high n t kv rd st h kn (some c)) ∧ SoW y2.heap.size (.slice (some ⟨b2, 0, none⟩) Z cc) h zs q f W6 ∧ Kp y2 W6) ⟨by exact last_of _ _, by exact bl_alloc P6.out _, by exact R6.out.kp ((Kp.refl _).alloc _), by exact Y6.out.alloc _⟩ ?_
    rintro W6 ⟨xY7, xP7, xR7, xK7⟩
    have Y7 := hid xY7
    have P7 := hid xP7
    have R7 := hid xR7
    have K7 := hid xK7
    clear xY7 xP7 xR7 xK7
    clear x0 x1 x2 x3 x4 x5 x6 R6 S6 Y6 X6 P6
    go_cut [12] (fun v wc => v = .int .u8 (G : Int) ∧ Kp W6 wc)
    case first =>
     have Q0 : Kp W6 W6.drew := (Kp.refl _).drew
     have MK : Hid (∀ W, Kp W6 W → W.cell? ⟨wr.heap.size, 0, none⟩ = some (.int .i8 y.a) ∧ W.cell? ⟨wr.heap.size, 1, none⟩ = some (.int .i8 y.f0) ∧ W.cell? ⟨wr.heap.size, 2, none⟩ = some (.int .i8 y.t0) ∧ W.cell? ⟨wr.heap.size, 3, none⟩ = some (.int .i8 y.f1) ∧ W.cell? ⟨wr.heap.size, 4, none⟩ = some (.int .i8 y.t1) ∧ W.cell? ⟨wr.heap.size, 5, none⟩ = some (.int .i8 y.f2) ∧ W.cell? ⟨wr.heap.size, 6, none⟩ = some (.int .i8 y.t2) ∧ W.cell? ⟨P, 11, none⟩ = some (.int .u8 (h : Int)) ∧ Hid (Kp W6 W)) := fun W k => ⟨bl_cell (bl_kp Y7.out k) 0 _ rfl, bl_cell (bl_kp Y7.out k) 1 _ rfl, bl_cell (bl_kp Y7.out k) 2 _ rfl, bl_cell (bl_kp Y7.out k) 3 _ rfl, bl_cell (bl_kp Y7.out k) 4 _ rfl, bl_cell (bl_kp Y7.out k) 5 _ rfl, bl_cell (bl_kp Y7.out k) 6 _ rfl, bl_cell (bl_kp P7.out k) 11 _ rfl, k⟩
     refine wp_region_noPanic ?_
     refine hdrew MK Q0 (fun hH => ?_)
     have KQ := Q0
     refine tk 0 (some 40) (Op.load 83 (Operand.tmp 11)) 83 (v := ?v0d1) rfl ?h0d1 hH ?_
     case h0d1 => intro _ _; go_simp; try with_reducible rfl
     try simp only [ps]
     refine tk 2 (some 42) (Op.move (Operand.tmp 1)) 71 (v := ?v2d2) rfl ?h2d2 hH ?_
     case h2d2 => intro _ _; go_simp; try with_reducible rfl
     try simp only [ps]
     refine tk 3 (some 43) (Op.nilCheck (Operand.tmp 42)) 0 (v := ?v3d3) rfl ?h3d3 hH ?_
     case h3d3 => intro _ _; go_simp; try with_reducible rfl
     try simp only [ps]
     refine tk 4 (some 44) (Op.fieldAddr 130 (Operand.tmp 43) 7) 0 (v := ?v4d4) rfl ?h4d4 hH ?_
     case h4d4 => intro _ _; go_simp; try with_reducible rfl
     try simp only [ps]
     refine tk 5 (some 45) (Op.load 75 (Operand.tmp 44)) 75 (v := ?v5d5) rfl ?h5d5 hH ?_
     case h5d5 => intro _ _; go_simp; try with_reducible rfl
     try simp only [ps]
     refine wpAnyH_ready (rs := [1]) (by kernel_rfl) (by simp) ?_
     refine AllReadyH.cons (o := { dst := some 41, op := Op.call { callee := Callee.value (Operand.func 141), args := #[Operand.tmp 40], argTypes := #[83] }, type := 75, pos := "repeat.go:91", after := #[{ on := 0, ground := Ground.data }], guard := none }) rfl (fun K hKq => ?_) AllReadyH.nil
     go_simp
     refine (LA.out _).mono ?_
     rintro e y1 ⟨rfl, kq⟩
     refine hKq.out _ _ (MK.out _ (KQ.trans kq)) (fun hN => ?_)
     clear kq
     clear hKq K hH KQ
     have hH := hN
     clear hN
     have KQ := hH.2.2.2.2.2.2.2.2.out
     try simp only [ps]
     refine tk 6 (some 46) (Op.binOp BinOp.and 75 (Operand.tmp 41) (Operand.tmp 45) 75) 75 (v := ?v6d6) rfl ?h6d6 hH ?_
     case h6d6 => intro _ _; go_simp; try with_reducible rfl
     try simp only [ps]
     refine tk 7 (some 12) (Op.assign (Operand.tmp 46)) 75 (v := ?v7d7) rfl ?h7d7 hH ?_
     case h7d7 => intro _ _; go_simp; try with_reducible rfl
     try simp only [ps]
     refine wpAnyH_done (by kernel_rfl) ?_ _
     refine NoPanic.normal ?_
     go_wp2_with fail
     go_meet
     case rel => exact ⟨rfl, KQ⟩
    case rest =>
    obtain ⟨rfl, hk⟩ := hcut
    rename World => W8
    have R8 := hid (R7.out.kp hk)
    have K8 := hid (K7.out.trans hk)
    have HSF := hid (show ¬ (f G).ownBlock = some y2.heap.size from fun e => by have := ((R8.out.row G HG.out).block _ e).1; omega)
    have g8 : (G : Int) < 8 := by have := HG.out; omega
    have g00 : (0 : Int) ≤ (G : Int) := by omega
    clear hk Y7 P7 R7 K7 gand LA
    go_upto_region 9 with fail
    have Q0 : Kx (fun b => (f G).ownBlock = some b) W8 W8.drew := (Kx.refl _ _).drew
    have MK : Hid (∀ W, Kx (fun b => (f G).ownBlock = some b) W8 W → W.cell? ⟨y2.heap.size, 1 + G, none⟩ = some (f G) ∧ Hid (Kx (fun b => (f G).ownBlock = some b) W8 W)) := fun W k => ⟨(cell_same (k.block _ (bl_lt R8.out.b) HSF.out) _).trans (sob_cell R8.out.b HG.out), k⟩
    refine wp_region_noPanic ?_
    refine hdrewZ 14 MK Q0 (fun hH => ?_)
    have KQ := Q0
    refine zk 14 0 [] (some 47) (Op.move (Operand.tmp 9)) 207 (v := ?v0e1) rfl ?h0e1 hH ?_
    case h0e1 => intro _ _; go_simp; try with_reducible rfl
    try simp only [ps]
    refine zk 14 1 [] (some 48) (Op.move (Operand.tmp 12)) 75 (v := ?v1e2) rfl ?h1e2 hH ?_
    case h1e2 => intro _ _; go_simp; try with_reducible rfl
    try simp only [ps]
    refine zk 14 2 [] (some 49) (Op.move (Operand.tmp 9)) 207 (v := ?v2e3) rfl ?h2e3 hH ?_
    case h2e3 => intro _ _; go_simp; try with_reducible rfl
    try simp only [ps]
    refine zk 14 3 [] (some 50) (Op.move (Operand.tmp 12)) 75 (v := ?v3e4) rfl ?h3e4 hH ?_
    case h3e4 => intro _ _; go_simp; try with_reducible rfl
    try simp only [ps]
    refine zk 14 4 [] (some 51) (Op.nilCheck (Operand.tmp 49)) 0 (v := ?v4e5) rfl ?h4e5 hH ?_
    case h4e5 => intro _ _; go_simp; try with_reducible rfl
    try simp only [ps]
    refine zk 14 5 [] (some 52) (Op.fieldAddr 212 (Operand.tmp 51) 1) 0 (v := ?v5e6) rfl ?h5e6 hH ?_
    case h5e6 => intro _ _; go_simp; try with_reducible rfl
    try simp only [ps]
    refine zk 14 6 [] (some 53) (Op.indexAddr 210 (Operand.tmp 52) (Operand.tmp 50)) 0 (v := ?v6e7) rfl ?h6e7 hH ?_
    case h6e7 => intro _ _; go_simp; try with_reducible rfl
    try simp only [ps]
    refine zk 14 7 [] (some 54) (Op.load 40 (Operand.tmp 53)) 40 (v := ?v7e8) rfl ?h7e8 hH ?_
    case h7e8 => intro _ _; go_simp; try with_reducible rfl
    try simp only [ps]
    refine zk 14 8 [] (some 55) (Op.move (Operand.tmp 10)) 3 (v := ?v8e9) rfl ?h8e9 hH ?_
    case h8e9 => intro _ _; go_simp; try with_reducible rfl
    try simp only [ps]
    refine zk 14 11 [13, 12] (some 58) (Op.nilCheck (Operand.tmp 47)) 0 (v := ?v11e10) rfl ?h11e10 hH ?_
    case h11e10 => intro _ _; go_simp; try with_reducible rfl
    try simp only [ps]
    refine zk 14 12 [13] (some 59) (Op.fieldAddr 212 (Operand.tmp 58) 1) 0 (v := ?v12e11) rfl ?h12e11 hH ?_
    case h12e11 => intro _ _; go_simp; try with_reducible rfl
    try simp only [ps]
    refine anyZ_ready (rs := [9]) (by kernel_rfl) (by simp) ?_
    refine AllZ.cons (o := { dst := some 56, op := Op.buildSlice 40 1 #[(0, Operand.tmp 55)], type := 40, pos := "repeat.go:92", after := #[{ on := 8, ground := Ground.data }], guard := none }) rfl (fun K hKq => ?_) AllZ.nil
    go_simp
    refine hKq.out _ _ (MK.out _ (KQ.alloc _)) (fun hN => ?_)
    clear hKq K hH KQ
    have hH := hN
    clear hN
    have KQ := hH.2.out
    try simp only [ps]
    refine anyZ_ready (rs := [10]) (by kernel_rfl) (by simp) ?_
    refine AllZ.cons (o := { dst := some 57, op := Op.call { callee := Callee.builtin Builtin.append, args := #[Operand.tmp 54, Operand.tmp 56], argTypes := #[40, 40] }, type := 40, pos := "repeat.go:92", after := #[{ on := 7, ground := Ground.data }, { on := 9, ground := Ground.data }], guard := none }) rfl (fun K hKq => ?_) AllZ.nil
    refine step_append_nu _ (by rfl) _ _ (by rfl) (y2.heap.size + 1) (f G) (plq h zs q G) q (by rfl) W8.heap.size (by rfl) ((R8.out.row G HG.out).kp (((Kp.refl _).drew).alloc _)) (bl_cell (last_of _ _) 0 _ rfl) (by have := plq_len h zs q G; have := HZF.out; omega) (by have := bl_lt R8.out.b; simp; omega) ?_
    rintro v' w' md
    obtain ⟨ad', c', hv', _⟩ := md.row.form
    obtain ⟨n', hn'⟩ : ∃ n', (plq h zs q G ++ [q]).length = n' := ⟨_, rfl⟩
    rw [hn'] at hv'
    subst hv'
    have MD := hid md
    clear md hn'
    refine hKq.out _ _ (MK.out _ (KQ.grown MD.out.grown (fun k e _ => e))) (fun hN => ?_)
    clear hKq K hH KQ
    have hH := hN
    clear hN
    have KQ := hH.2.out
    try simp only [ps]
    refine zk 14 13 [] (some 60) (Op.indexAddr 210 (Operand.tmp 59) (Operand.tmp 48)) 0 (v := ?v13e12) rfl ?h13e12 hH ?_
    case h13e12 => intro _ _; go_simp; try with_reducible rfl
    try simp only [ps]
    refine anyZ_ready (rs := [14]) (by kernel_rfl) (by simp) ?_
    refine AllZ.last (o := { dst := none, op := Op.store 40 (Operand.tmp 60) (Operand.tmp 57), type := 0, pos := "repeat.go:92", after := #[{ on := 13, ground := Ground.data }, { on := 10, ground := Ground.data }, { on := 10, ground := Ground.chain }, { on := 0, ground := Ground.phase }, { on := 1, ground := Ground.phase }, { on := 2, ground := Ground.phase }, { on := 3, ground := Ground.phase }, { on := 4, ground := Ground.phase }, { on := 5, ground := Ground.phase }, { on := 6, ground := Ground.phase }, { on := 7, ground := Ground.phase }, { on := 8, ground := Ground.phase }, { on := 9, ground := Ground.phase }, { on := 10, ground := Ground.phase }], guard := none }) rfl (Or.inl rfl) (fun K hKq => ?_) AllZ.nil
    have c1 := (cell_same (KQ.block _ (bl_lt R8.out.b) HSF.out) (1 + G)).trans (sob_cell R8.out.b HG.out)
    have f1 := bl_frozen ((KQ.block _ (bl_lt R8.out.b) HSF.out).trans R8.out.b) (1 + G)
    go_simp
    refine hKq.out _ _ ?_
    clear c1 f1
    clear hKq K
    try simp only [ps]
    refine anyZ_done (by kernel_rfl) ?_ _
    refine NoPanic.normal ?_
    go_wp2_with fail
    go_roundg (gk - 1)
    case measure => omega
    case rel => exact ⟨q + 1, turnF f G _, by omega, by go_num, (R8.out.kp (((Kp.refl _).drew).alloc _)).step HG.out HY.out HGE.out MD.out rfl, (((Kp.kx (S := fun _ => False) K8.out).past2 KQ (fun k hk e => by have := ((R8.out.row G HG.out).block k e).1; omega)).set (fun h => absurd h (Nat.lt_irrefl _)) _ _).kp⟩
   ·
    have ga : ¬ (q : Int) < (Z : Int) := by omega
    obtain rfl : q = Z := by omega
    have SA := hid ((show SoW y2.heap.size (.slice ad zs.length cc) h zs zs.length f wr from by rw [HZL.out]; exact R6.out).done (ok := okB M O) (by rw [HZL.out]; exact S6.out) (fun b hb => ⟨fun o => by have := HO.out b o; have := K2.out.size; omega, HM2.out.lt hb⟩))
    have M6 := hid (HM2.out.keep (S := fun _ => False) (Kp.kx Y6.out) (fun _ _ e => e.elim) (fun _ _ e => e) HM2.out.own)
    have K6 := hid (K2.out.then Y6.out)
    have BM : Hid (MapAt wr c (fun x v => SoAt wr (okB M O) v h (ways s.data.toList bol (.mk k low high n t P kn (some c) rd st h kids) x))) := M6.out.at_ c _ HMC.out
    rw [HZS.out] at SA
    go_upto_region 11 with fail
    have Q0 : Kp wr wr.drew := (Kp.refl _).drew
    have MK : Hid (∀ W, Kp wr W → W.cell? ⟨P, 13, none⟩ = some (.map (some c)) ∧ W.cell? ⟨(w.heap.size + 1), 0, none⟩ = some (.int .i8 x.a) ∧ W.cell? ⟨(w.heap.size + 1), 1, none⟩ = some (.int .i8 x.f0) ∧ W.cell? ⟨(w.heap.size + 1), 2, none⟩ = some (.int .i8 x.t0) ∧ W.cell? ⟨(w.heap.size + 1), 3, none⟩ = some (.int .i8 x.f1) ∧ W.cell? ⟨(w.heap.size + 1), 4, none⟩ = some (.int .i8 x.t1) ∧ W.cell? ⟨(w.heap.size + 1), 5, none⟩ = some (.int .i8 x.f2) ∧ W.cell? ⟨(w.heap.size + 1), 6, none⟩ = some (.int .i8 x.t2) ∧ Hid (Kp wr W)) := fun W k => ⟨bl_cell (bl_kp P6.out k) 13 _ rfl, bl_cell (bl_kp X6.out k) 0 _ rfl, bl_cell (bl_kp X6.out k) 1 _ rfl, bl_cell (bl_kp X6.out k) 2 _ rfl, bl_cell (bl_kp X6.out k) 3 _ rfl, bl_cell (bl_kp X6.out k) 4 _ rfl, bl_cell (bl_kp X6.out k) 5 _ rfl, bl_cell (bl_kp X6.out k) 6 _ rfl, k⟩
    refine wp_region_noPanic ?_
    refine hdrewZ 6 MK Q0 (fun hH => ?_)
    have KQ := Q0
    refine zk 6 0 [] (some 62) (Op.move (Operand.tmp 1)) 71 (v := ?v0b1) rfl ?h0b1 hH ?_
    case h0b1 => intro _ _; go_simp; try with_reducible rfl
    try simp only [ps]
    refine zk 6 1 [] (some 63) (Op.nilCheck (Operand.tmp 62)) 0 (v := ?v1b2) rfl ?h1b2 hH ?_
    case h1b2 => intro _ _; go_simp; try with_reducible rfl
    try simp only [ps]
    refine zk 6 2 [] (some 64) (Op.fieldAddr 130 (Operand.tmp 63) 9) 0 (v := ?v2b3) rfl ?h2b3 hH ?_
    case h2b3 => intro _ _; go_simp; try with_reducible rfl
    try simp only [ps]
    refine zk 6 3 [] (some 65) (Op.load 128 (Operand.tmp 64)) 128 (v := ?v3b4) rfl ?h3b4 hH ?_
    case h3b4 => intro _ _; go_simp; try with_reducible rfl
    try simp only [ps]
    refine zk 6 4 [] (some 66) (Op.load 83 (Operand.tmp 5)) 83 (v := ?v4b5) rfl ?h4b5 hH ?_
    case h4b5 => intro _ _; go_simp; try with_reducible rfl
    try simp only [ps]
    refine zk 6 5 [] (some 67) (Op.move (Operand.tmp 9)) 207 (v := ?v5b6) rfl ?h5b6 hH ?_
    case h5b6 => intro _ _; go_simp; try with_reducible rfl
    try simp only [ps]
    refine anyZ_ready (rs := [6]) (by kernel_rfl) (by simp) ?_
    refine AllZ.last (o := { dst := none, op := Op.mapUpdate 128 (Operand.tmp 65) (Operand.tmp 66) (Operand.tmp 67), type := 0, pos := "repeat.go:94", after := #[{ on := 3, ground := Ground.data }, { on := 4, ground := Ground.data }, { on := 5, ground := Ground.data }, { on := 0, ground := Ground.phase }, { on := 1, ground := Ground.phase }, { on := 2, ground := Ground.phase }, { on := 3, ground := Ground.phase }, { on := 4, ground := Ground.phase }, { on := 5, ground := Ground.phase }], guard := none }) rfl (Or.inl rfl) (fun K hKq => ?_) AllZ.nil
    obtain ⟨wm, hrun, hset, hg⟩ := ((BM.out.imp (KQ.block c BM.out.lt) (fun _ _ h => h) : MapAt _ c (fun x v => SoAt wr (okB M O) v h (ways s.data.toList bol (.mk k low high n t P kn (some c) rd st h kids) x)))).put Tryz.underlying128 x HX.out (.pointer (some ⟨y2.heap.size, 0, none⟩)) SA.out
    have HSET := hid hset
    have KG := hid ((Kp.kx (S := fun q => q = c) KQ).grown hg (fun k e _ => by injection e with e; exact e.symm))
    clear hset hg
    go_simp
    refine hKq.out _ _ ?_
    clear hrun
    clear hKq K
    try simp only [ps]
    refine anyZ_done (by kernel_rfl) ?_ _
    refine NoPanic.normal ?_
    go_wp2_with fail
    go_ret
    exact ⟨_, rfl, by rw [HZS.out]; exact so_put HMC.out KG.out SA.out, (K6.out.trans (KG.out.mono (fun k _ e => by rw [e, HMC.out]; exact fun h => by cases h))), M6.out.putS HMC.out HSET.out KG.out⟩
 ·
  have HL := hid hl
  have HG := hid hG
  clear hl LK hG
  go_cut [7, 8] (fun u q wc => u = v ∧ q = .bool true ∧ Kp W0 wc)
  case first =>
   have Q0 : Drew W0 W0.drew := rfl
   have MK : Hid (∀ W, Drew W0 W → W.cell? ⟨P, 13, none⟩ = some (.map (some c)) ∧ W.cell? ⟨(w.heap.size + 1), 0, none⟩ = some (.int .i8 x.a) ∧ W.cell? ⟨(w.heap.size + 1), 1, none⟩ = some (.int .i8 x.f0) ∧ W.cell? ⟨(w.heap.size + 1), 2, none⟩ = some (.int .i8 x.t0) ∧ W.cell? ⟨(w.heap.size + 1), 3, none⟩ = some (.int .i8 x.f1) ∧ W.cell? ⟨(w.heap.size + 1), 4, none⟩ = some (.int .i8 x.t1) ∧ W.cell? ⟨(w.heap.size + 1), 5, none⟩ = some (.int .i8 x.f2) ∧ W.cell? ⟨(w.heap.size + 1), 6, none⟩ = some (.int .i8 x.t2) ∧ (Instr.lookup 128 (.map (some c)) (spv x) true).run Tryz.prog W = .ok (.tuple #[v, .bool true]) W ∧ Hid (Drew W0 W)) := fun W k => ⟨(by rw [show W = W0.drew from k]; exact bl_cell (bl_drew P0.out) 13 _ rfl), (by rw [show W = W0.drew from k]; exact bl_cell (bl_drew X0.out) 0 _ rfl), (by rw [show W = W0.drew from k]; exact bl_cell (bl_drew X0.out) 1 _ rfl), (by rw [show W = W0.drew from k]; exact bl_cell (bl_drew X0.out) 2 _ rfl), (by rw [show W = W0.drew from k]; exact bl_cell (bl_drew X0.out) 3 _ rfl), (by rw [show W = W0.drew from k]; exact bl_cell (bl_drew X0.out) 4 _ rfl), (by rw [show W = W0.drew from k]; exact bl_cell (bl_drew X0.out) 5 _ rfl), (by rw [show W = W0.drew from k]; exact bl_cell (bl_drew X0.out) 6 _ rfl), (by rw [show W = W0.drew from k]; exact HL.out), k⟩
   refine wp_region_noPanic ?_
   refine hdrew MK Q0 (fun hH => ?_)
   have KQ := Q0
   refine tk 0 (some 14) (Op.move (Operand.tmp 1)) 71 (v := ?v0c1) rfl ?h0c1 hH ?_
   case h0c1 => intro _ _; go_simp; try with_reducible rfl
   try simp only [ps]
   refine tk 1 (some 15) (Op.nilCheck (Operand.tmp 14)) 0 (v := ?v1c2) rfl ?h1c2 hH ?_
   case h1c2 => intro _ _; go_simp; try with_reducible rfl
   try simp only [ps]
   refine tk 2 (some 16) (Op.fieldAddr 130 (Operand.tmp 15) 9) 0 (v := ?v2c3) rfl ?h2c3 hH ?_
   case h2c3 => intro _ _; go_simp; try with_reducible rfl
   try simp only [ps]
   refine tk 3 (some 17) (Op.load 128 (Operand.tmp 16)) 128 (v := ?v3c4) rfl ?h3c4 hH ?_
   case h3c4 => intro _ _; go_simp; try with_reducible rfl
   try simp only [ps]
   refine tk 4 (some 18) (Op.load 83 (Operand.tmp 5)) 83 (v := ?v4c5) rfl ?h4c5 hH ?_
   case h4c5 => intro _ _; go_simp; try with_reducible rfl
   try simp only [ps]
   refine tk 5 (some 19) (Op.lookup 128 (Operand.tmp 17) (Operand.tmp 18) true) 216 (v := ?v5c6) rfl ?h5c6 hH ?_
   case h5c6 => intro _ _; go_simp; try with_reducible rfl
   try simp only [ps]
   refine tk 6 (some 13) (Op.move (Operand.tmp 19)) 216 (v := ?v6c7) rfl ?h6c7 hH ?_
   case h6c7 => intro _ _; go_simp; try with_reducible rfl
   try simp only [ps]
   refine tk 7 (some 20) (Op.extract (Operand.tmp 13) 0) 207 (v := ?v7c8) rfl ?h7c8 hH ?_
   case h7c8 => intro _ _; go_simp; try with_reducible rfl
   try simp only [ps]
   refine tk 8 (some 21) (Op.extract (Operand.tmp 13) 1) 4 (v := ?v8c9) rfl ?h8c9 hH ?_
   case h8c9 => intro _ _; go_simp; try with_reducible rfl
   try simp only [ps]
   refine tk 9 (some 7) (Op.assign (Operand.tmp 20)) 207 (v := ?v9c10) rfl ?h9c10 hH ?_
   case h9c10 => intro _ _; go_simp; try with_reducible rfl
   try simp only [ps]
   refine tk 10 (some 8) (Op.assign (Operand.tmp 21)) 4 (v := ?v10c11) rfl ?h10c11 hH ?_
   case h10c11 => intro _ _; go_simp; try with_reducible rfl
   try simp only [ps]
   refine wpAnyH_done (by kernel_rfl) ?_ _
   refine NoPanic.normal ?_
   go_wp2_with fail
   go_meet
   case rel => exact ⟨rfl, rfl, (Kp.refl _).drew⟩
  case rest =>
  obtain ⟨rfl, rfl, hk⟩ := hcut
  rename World => W1
  have K1 := hid hk
  clear hk
  go_wp2_with fail
  go_ret
  exact ⟨_, rfl, by rw [HZS.out]; exact HG.out.keep K1.out.size (fun b hb hl => ⟨hb, K1.out.block b hl⟩), Kp.kx (K0.out.trans K1.out), M0.out.keep (S := fun _ => False) (Kp.kx K1.out) (fun _ _ e => e.elim) (fun _ _ e => e) M0.out.own⟩
end Go.Proofs.YtnajcnhgeggngaaGreat.Way

/-! ### Next -/

namespace Go.Proofs.YtnajcnhgeggngaaGreat.Way
open Go.RowKit Go.Proofs.YtnajcnhgeggngaaGreat Go.Maps

theorem pick_succ {all : List Sp} {x y : Sp} {ps : List Nat} {q j : Nat} (hj : ps[q]? = some j) (hy : all[j]? = some y) : pickL all x (ps.take (q + 1)) = pickL all x (ps.take q) ++ [y.behind x] := by
 obtain ⟨hl, he⟩ := List.getElem?_eq_some_iff.1 hj
 unfold pickL
 rw [List.take_succ_eq_append_getElem hl, List.filterMap_append, he]
 simp [hy]
theorem pick_len (all : List Sp) (x : Sp) (ps : List Nat) : (pickL all x ps).length ≤ ps.length := List.length_filterMap_le _ _
structure NextD (s : ByteArray) (bol : Bool) (P : Nat) (M : Nat → Option Memo) (O : Nat → Prop) (base R B h : Nat) (xs : List Sp) (lv : Value) (pl : Nat) (sn : Option Nat) (r : List Sp × List Turn) (w : World) (e : Ending) (w' : World) : Prop where
 ex : ∃ v, e = .returned v ∧ SpL w' (okB M (oRep O R B lv sn)) v r.1 ∧ RepW s bol P M O base R B h xs r.2 lv pl sn w' ∧ Kx (fun b => M b ≠ none ∨ b = B) w w'
abbrev SortS (s : ByteArray) (bol : Bool) (M : Nat → Option Memo) (p : Pt) : Prop := ∀ (O : Nat → Prop) (x : Sp) (w : World), x.Ok → x.In s.size → (∀ b, O b → b < w.heap.size) → PtAt w (okB M O) p → MemOk M O w →
  Calls Tryz.prog 134 #[wkv s bol, ptv p.P, spv x] w fun e w' => SortD p.hd (ways s.data.toList bol p x) (okB M O) (fun w' => Km M w w' ∧ MemOk M O w') e w'
abbrev LeafS (s : ByteArray) (bol : Bool) (M : Nat → Option Memo) (p : Pt) : Prop := ∀ (O : Nat → Prop) (x : Sp) (w : World), x.Ok → x.In s.size → PtAt w (okB M O) p →
  Calls Tryz.prog 53 #[wkv s bol, ptv p.P, spv x] w fun e w' => WaysD (ways s.data.toList bol p x) (fun b => w.heap.size ≤ b) (Kp w) e w'
theorem RepW.lt {s : ByteArray} {bol : Bool} {P : Nat} {M : Nat → Option Memo} {O : Nat → Prop} {base R B h : Nat} {xs : List Sp} {S : List Turn} {lv : Value} {pl : Nat} {sn : Option Nat} {w : World} (q : RepW s bol P M O base R B h xs S lv pl sn w) (hO : ∀ b, O b → b < w.heap.size) : ∀ b, oRep O R B lv sn b → b < w.heap.size := by
 rintro b ((e | e | e | e) | e)
 ·
  exact hO b e
 ·
  rw [e]; exact bl_lt q.b
 ·
  exact (q.i.row.block b e).2
 ·
  exact (q.i.set b e).2.1.lt
 ·
  rw [e]; exact q.t.lt
theorem next_any (s : ByteArray) (bol : Bool) (P : Nat) (M : Nat → Option Memo) (O : Nat → Prop) (base R B h pl : Nat) (xs : List Sp) (S : List Turn) (lv : Value) (sn : Option Nat) (low high nn : Int) (t : W4) (kn so : Option Nat) (rdp st : Nat) (kid : Pt) (ks : List Pt) (hrd : rdp < 8) (hkr : kid.rd < 8) (HS : WSaid s bol M kid) (HSo : leafK kid.k = false → SortS s bol M kid) (HLf : leafK kid.k = true → LeafS s bol M kid) (n : Int) (hn0 : 0 ≤ n) (hn1 : n ≤ 100) (hlow0 : 0 ≤ low) (x : Sp) (hx : x.Ok) (hN : x.In s.size) (w : World) (hO : ∀ b, O b → b < w.heap.size) (hW : RepW s bol P M O base R B h xs S lv pl sn w) (hP : PtAt w (okB M (oRep O R B lv sn)) (.mk 4 low high nn t P kn so rdp st h (kid :: ks))) :
  Calls Tryz.prog 128 #[.pointer (some ⟨R, 0, none⟩), .int .i64 n, spv x] w fun e w' => NextD s bol P M O base R B h xs lv pl sn (nextP (leafK kid.k) (ways s.data.toList bol kid) kid.rd kid.hd rdp low high n x S) w e w' := by
 unfold PtAt at hP
 obtain ⟨hok, ⟨ad, c, hblk, hcap, hat⟩, hpts⟩ := hP
 unfold PtsAt at hpts
 obtain ⟨L, hL⟩ : ∃ L, (kid :: ks).length = L := ⟨_, rfl⟩
 have hL0 : 0 < L := by rw [← hL]; simp
 obtain ⟨bb, rfl, hbok, hbl, hce⟩ := hat (by simp)
 rw [hL] at hblk hcap
 obtain ⟨kk, klow, khigh, knn, kt, kkn, kso, kkids, kad, kc, hkid, hkok, hkblk, -, -⟩ := hpts.1.form
 obtain ⟨kkv, hkv⟩ : ∃ kkv, Value.slice kad kkids.length kc = kkv := ⟨_, rfl⟩
 rw [hkv] at hkblk
 have hkk : kid.k = kk := by rw [hkid]; rfl
 subst hkk
 have CB := hid (hce 0 kid rfl)
 have HP := hid hblk
 have HKB := hid hkblk
 have HX := hid hx
 have HN := hid hN
 have HO := hid hO
 have HW := hid hW
 have HMB := hid (show ¬ M bb ≠ none from fun e => e hbok.2)
 have HMP := hid (show ¬ M P ≠ none from fun e => e hok.2)
 have HMK := hid (show ¬ M kid.P ≠ none from fun e => e hkok.2)
 have HMR := hid (show ¬ M R ≠ none from fun e => e (hW.own R (Or.inl (Or.inl rfl))))
 have HPB := hid (show P ≠ B from fun e => hok.1 (Or.inr e))
 have HBL := hid hbl
 have HGD := hid HS.good
 have HFEW := hid (HS.few (x.only kid.rd) (hx.only kid.rd) (hN.only kid.rd))
 have HRD := hid hrd
 have OA := hid (fun W => only_any x kid.rd hkr W)
 have HMX := hid (show ¬ M w.heap.size ≠ none from fun e => e (hW.m.lt (Nat.le_refl _)))
 have LC0 := hid (fun (hl : leafK kid.k = true) (W : World) (k0 : Kp w W) => HLf hl (oRep O R B lv sn) x W hx hN (hpts.1.kp k0))
 have SC0 := hid (fun (hl : leafK kid.k = false) (W : World) (k0 : Kp w W) => HSo hl (oRep O R B lv sn) (x.only kid.rd) W (hx.only kid.rd) (hN.only kid.rd) (fun b hb => Nat.lt_of_lt_of_le (hW.lt hO b hb) k0.size) (hpts.1.kp k0) (hW.m.keep (S := fun _ => False) (Kp.kx k0) (fun _ _ e => e.elim) (fun _ _ e => e) hW.m.own))
 have HLE := hid (leaf_any kid.k klow khigh knn kt kkv kid.rd kid.st kid.hd kkn kso kid.P)
 obtain ⟨kf, hkf⟩ : ∃ kf, leafK kid.k = kf := ⟨_, rfl⟩
 rw [hkf] at HLE LC0 SC0 ⊢
 obtain ⟨n', hn'⟩ : ∃ n', (if high < 0 then min n low else n) = n' := ⟨_, rfl⟩
 have HN' := hid hn'
 have HNR := hid (show 0 ≤ n' ∧ n' ≤ 100 from by rw [← hn']; split <;> omega)
 have HNE : Hid (n = high → nextP kf (ways s.data.toList bol kid) kid.rd kid.hd rdp low high n x S = ([], S)) := fun e => by unfold nextP; rw [if_pos e]
 have HNL : Hid (n ≠ high → kf = true → nextP kf (ways s.data.toList bol kid) kid.rd kid.hd rdp low high n x S = (ways s.data.toList bol kid x, S)) := fun e1 e2 => by unfold nextP; rw [if_neg e1, if_pos e2]
 have HNS : Hid (n ≠ high → kf = false → nextP kf (ways s.data.toList bol kid) kid.rd kid.hd rdp low high n x S = (pickL (ways s.data.toList bol kid (x.only kid.rd)) x (unbL kid.hd (ways s.data.toList bol kid (x.only kid.rd)) (newCls rdp (ways s.data.toList bol kid (x.only kid.rd)) kid.hd n' x S).1), (newCls rdp (ways s.data.toList bol kid (x.only kid.rd)) kid.hd n' x S).2)) := fun e1 e2 => by unfold nextP; rw [if_neg e1, if_neg (by rw [e2]; decide), pick_all, hn']
 obtain ⟨NP, hNP⟩ : ∃ NP, nextP kf (ways s.data.toList bol kid) kid.rd kid.hd rdp low high n x S = NP := ⟨_, rfl⟩
 rw [hNP] at HNE HNL HNS ⊢
 clear hL hce hblk hkblk hx hN hO hW hok hbok hkok hbl hrd hkr HSo HLf HS hpts hat hkid hkv hkf hn' hNP hn0 hn1
 go_enter Tryz.func128, Tryz.ntmps128
 go_upto_region 1 with fail
 refine opq (fun W0 => W0.heap[w.heap.size]? = some (spo x) ∧ Kp w W0) ⟨by exact last_of _ _, by exact kpt⟩ ?_
 rintro W0 ⟨xX0, xK0⟩
 have X0 := hid xX0
 have K0 := hid xK0
 clear xX0 xK0
 have RW0 := hid (HW.out.kp K0.out)
 have R0 := hid (RW0.out.b)
 have P0 := hid (bl_kp HP.out K0.out)
 have KB0 := hid (bl_kp HKB.out K0.out)
 have r2 := bl_cell (R0.out) 2 _ rfl
 have p1 := bl_cell (P0.out) 1 _ rfl
 have p2 := bl_cell (P0.out) 2 _ rfl
 have p8 := bl_cell (P0.out) 8 _ rfl
 have b0 : W0.cell? ⟨bb, 0, none⟩ = some (ptv kid.P) := (cell_same (K0.out.block bb HBL.out) 0).trans CB.out
 go_upto_block 0 with fail
 go_cut [1] (fun v wc => v = .int .i64 n' ∧ n ≠ high ∧ kf = false ∧ Kp W0 wc)
 case first =>
  by_cases hnh : n = high
  ·
   subst hnh
   have HNP := hid (HNE.out rfl)
   clear HNE HNL HNS
   go_wp2_with fail
   go_ret
   exact ⟨⟨_, rfl, by rw [HNP.out]; exact spl_nil _ _ _ _, by rw [HNP.out]; exact RW0.out.kp ((by repeat (first | exact Kp.refl _ | refine Kp.drew ?_ | refine Kp.drewN _ ?_))), Kp.kx (K0.out.trans (by repeat (first | exact Kp.refl _ | refine Kp.drew ?_ | refine Kp.drewN _ ?_)))⟩⟩
  have hnb : (n == high) = false := by simp [hnh]
  cases kf with
  | true =>
   have HNP := hid (HNL.out hnh rfl)
   have LC := hid (LC0.out rfl)
   clear HNE HNL HNS
   go_wp2_with fail
   refine (HLE.out _ KB0.out).mono ?_
   rintro e w1 ⟨rfl, hw⟩
   rw [hw]
   clear hw w1
   go_upto_region 5 with fail
   clear r2 p1 p2 p8 b0
   have Q0 : Kp W0 W0.drew := (Kp.refl _).drew
   have MK : Hid (∀ W, Kp W0 W → W.cell? ⟨R, 0, none⟩ = some (.string s) ∧ W.cell? ⟨R, 1, none⟩ = some (.bool bol) ∧ W.cell? ⟨w.heap.size, 0, none⟩ = some (.int .i8 x.a) ∧ W.cell? ⟨w.heap.size, 1, none⟩ = some (.int .i8 x.f0) ∧ W.cell? ⟨w.heap.size, 2, none⟩ = some (.int .i8 x.t0) ∧ W.cell? ⟨w.heap.size, 3, none⟩ = some (.int .i8 x.f1) ∧ W.cell? ⟨w.heap.size, 4, none⟩ = some (.int .i8 x.t1) ∧ W.cell? ⟨w.heap.size, 5, none⟩ = some (.int .i8 x.f2) ∧ W.cell? ⟨w.heap.size, 6, none⟩ = some (.int .i8 x.t2) ∧ Hid (Kp W0 W)) := fun W k => ⟨bl_cell (bl_kp R0.out k) 0 _ rfl, bl_cell (bl_kp R0.out k) 1 _ rfl, bl_cell (bl_kp X0.out k) 0 _ rfl, bl_cell (bl_kp X0.out k) 1 _ rfl, bl_cell (bl_kp X0.out k) 2 _ rfl, bl_cell (bl_kp X0.out k) 3 _ rfl, bl_cell (bl_kp X0.out k) 4 _ rfl, bl_cell (bl_kp X0.out k) 5 _ rfl, bl_cell (bl_kp X0.out k) 6 _ rfl, k⟩
   refine wp_region_noPanic ?_
   refine hdrew MK Q0 (fun hH => ?_)
   have KQ := Q0
   refine tk 0 (some 34) (Op.move (Operand.tmp 0)) 198 (v := ?v0a1) rfl ?h0a1 hH ?_
   case h0a1 => intro _ _; go_simp; try with_reducible rfl
   try simp only [ps]
   refine tk 1 (some 35) (Op.nilCheck (Operand.tmp 34)) 0 (v := ?v1a2) rfl ?h1a2 hH ?_
   case h1a2 => intro _ _; go_simp; try with_reducible rfl
   try simp only [ps]
   refine tk 2 (some 36) (Op.fieldAddr 182 (Operand.tmp 35) 0) 0 (v := ?v2a3) rfl ?h2a3 hH ?_
   case h2a3 => intro _ _; go_simp; try with_reducible rfl
   try simp only [ps]
   refine tk 3 (some 37) (Op.load 70 (Operand.tmp 36)) 70 (v := ?v3a4) rfl ?h3a4 hH ?_
   case h3a4 => intro _ _; go_simp; try with_reducible rfl
   try simp only [ps]
   refine tk 4 (some 38) (Op.move (Operand.tmp 7)) 71 (v := ?v4a5) rfl ?h4a5 hH ?_
   case h4a5 => intro _ _; go_simp; try with_reducible rfl
   try simp only [ps]
   refine tk 5 (some 39) (Op.load 83 (Operand.tmp 5)) 83 (v := ?v5a6) rfl ?h5a6 hH ?_
   case h5a6 => intro _ _; go_simp; try with_reducible rfl
   try simp only [ps]
   refine wpAnyH_ready (rs := [6]) (by kernel_rfl) (by simp) ?_
   refine AllReadyH.cons (o := { dst := some 40, op := Op.call { callee := Callee.value (Operand.func 53), args := #[Operand.tmp 37, Operand.tmp 38, Operand.tmp 39], argTypes := #[70, 71, 83] }, type := 68, pos := "repeat.go:46", after := #[{ on := 3, ground := Ground.data }, { on := 4, ground := Ground.data }, { on := 5, ground := Ground.data }], guard := none }) rfl (fun K hKq => ?_) AllReadyH.nil
   go_simp
   refine (LC.out _ (K0.out.trans KQ)).mono ?_
   rintro e y2 ⟨⟨v, rfl, hv, hk⟩⟩
   have HV := hid hv
   have HK2 := hid (KQ.trans hk)
   refine hKq.out _ _ (MK.out _ (KQ.trans hk)) (fun hN => ?_)
   clear hv hk
   clear hKq K hH KQ
   have hH := hN
   clear hN
   have KQ := hH.2.2.2.2.2.2.2.2.2.out
   try simp only [ps]
   refine tk 7 (some 6) (Op.assign (Operand.tmp 40)) 68 (v := ?v7a7) rfl ?h7a7 hH ?_
   case h7a7 => intro _ _; go_simp; try with_reducible rfl
   try simp only [ps]
   refine wpAnyH_done (by kernel_rfl) ?_ _
   refine NoPanic.normal ?_
   go_wp2_with fail
   go_ret
   exact ⟨⟨_, rfl, by rw [HNP.out]; exact HV.out.keep (Nat.le_refl _) (fun b hb _ => ⟨⟨fun o => by have := RW0.out.lt (fun b o => Nat.lt_of_lt_of_le (HO.out b o) K0.out.size) b o; have := K0.out.size; have : W0.heap.size ≤ b := hb; omega, RW0.out.m.lt hb⟩, rfl⟩), by rw [HNP.out]; exact RW0.out.kp HK2.out, Kp.kx (K0.out.trans HK2.out)⟩⟩
  | false =>
   by_cases hh0 : high < 0
   ·
    have hmin : n' = min n low := by rw [← HN'.out, if_pos hh0]
    clear HNE HNL HNS
    go_wp2_with fail
    refine (HLE.out _ KB0.out).mono ?_
    rintro e w1 ⟨rfl, hw⟩
    rw [hw]
    clear hw w1
    go_wp2_with fail
    go_meet
    case rel => exact ⟨by rw [hmin], hnh, by first | rfl | trivial, (by repeat (first | exact Kp.refl _ | refine Kp.drew ?_ | refine Kp.drewN _ ?_))⟩
   ·
    have hmin : n' = n := by rw [← HN'.out, if_neg hh0]
    clear HNE HNL HNS
    go_wp2_with fail
    refine (HLE.out _ KB0.out).mono ?_
    rintro e w1 ⟨rfl, hw⟩
    rw [hw]
    clear hw w1
    go_wp2_with fail
    go_meet
    case rel => exact ⟨by rw [hmin], hnh, by first | rfl | trivial, (by repeat (first | exact Kp.refl _ | refine Kp.drew ?_ | refine Kp.drewN _ ?_))⟩
 case rest =>
 obtain ⟨rfl, hnh, rfl, hk⟩ := hcut
 rename World => W1
 have HNP := hid (HNS.out hnh rfl)
 have SC := hid (SC0.out rfl)
 have K1 := hid (K0.out.trans hk)
 have R1 := hid (bl_kp R0.out hk)
 have X1 := hid (bl_kp X0.out hk)
 have P1 := hid (bl_kp P0.out hk)
 have KB1 := hid (bl_kp KB0.out hk)
 have RW1 := hid (RW0.out.kp hk)
 clear HNE HNL HNS hk R0 X0 P0 KB0 RW0 K0 r2 p1 p2 p8 b0 HLE LC0 SC0 hnh
 obtain ⟨all, hall⟩ : ∃ all, ways s.data.toList bol kid (x.only kid.rd) = all := ⟨_, rfl⟩
 have HGA := hid (HGD.out (x.only kid.rd) (HX.out.only kid.rd) (HN.out.only kid.rd))
 rw [hall] at HNP SC HFEW HGA
 clear hall
 go_upto_region 8 with fail
 go_cut [8] (fun v wc => SoAt wc (okB M (oRep O R B lv sn)) v kid.hd all ∧ Kx (fun b => M b ≠ none) W1 wc ∧ MemOk M (oRep O R B lv sn) wc)
 case first =>
  have Q0 : Kx (fun b => M b ≠ none) W1 W1.drew := (Kx.refl _ _).drew
  have MK : Hid (∀ W, Kx (fun b => M b ≠ none) W1 W → W.cell? ⟨R, 0, none⟩ = some (.string s) ∧ W.cell? ⟨R, 1, none⟩ = some (.bool bol) ∧ W.cell? ⟨w.heap.size, 0, none⟩ = some (.int .i8 x.a) ∧ W.cell? ⟨w.heap.size, 1, none⟩ = some (.int .i8 x.f0) ∧ W.cell? ⟨w.heap.size, 2, none⟩ = some (.int .i8 x.t0) ∧ W.cell? ⟨w.heap.size, 3, none⟩ = some (.int .i8 x.f1) ∧ W.cell? ⟨w.heap.size, 4, none⟩ = some (.int .i8 x.t1) ∧ W.cell? ⟨w.heap.size, 5, none⟩ = some (.int .i8 x.f2) ∧ W.cell? ⟨w.heap.size, 6, none⟩ = some (.int .i8 x.t2) ∧ W.cell? ⟨kid.P, 9, none⟩ = some (.int .u8 (kid.rd : Int)) ∧ Hid (Kx (fun b => M b ≠ none) W1 W)) := fun W k => ⟨bl_cell (bl_kx R1.out k HMR.out) 0 _ rfl, bl_cell (bl_kx R1.out k HMR.out) 1 _ rfl, bl_cell (bl_kx X1.out k HMX.out) 0 _ rfl, bl_cell (bl_kx X1.out k HMX.out) 1 _ rfl, bl_cell (bl_kx X1.out k HMX.out) 2 _ rfl, bl_cell (bl_kx X1.out k HMX.out) 3 _ rfl, bl_cell (bl_kx X1.out k HMX.out) 4 _ rfl, bl_cell (bl_kx X1.out k HMX.out) 5 _ rfl, bl_cell (bl_kx X1.out k HMX.out) 6 _ rfl, bl_cell (bl_kx KB1.out k HMK.out) 9 _ rfl, k⟩
  refine wp_region_noPanic ?_
  refine hdrew MK Q0 (fun hH => ?_)
  have KQ := Q0
  refine tk 0 (some 59) (Op.move (Operand.tmp 0)) 198 (v := ?v0b1) rfl ?h0b1 hH ?_
  case h0b1 => intro _ _; go_simp; try with_reducible rfl
  try simp only [ps]
  refine tk 1 (some 60) (Op.nilCheck (Operand.tmp 59)) 0 (v := ?v1b2) rfl ?h1b2 hH ?_
  case h1b2 => intro _ _; go_simp; try with_reducible rfl
  try simp only [ps]
  refine tk 2 (some 61) (Op.fieldAddr 182 (Operand.tmp 60) 0) 0 (v := ?v2b3) rfl ?h2b3 hH ?_
  case h2b3 => intro _ _; go_simp; try with_reducible rfl
  try simp only [ps]
  refine tk 3 (some 62) (Op.load 70 (Operand.tmp 61)) 70 (v := ?v3b4) rfl ?h3b4 hH ?_
  case h3b4 => intro _ _; go_simp; try with_reducible rfl
  try simp only [ps]
  refine tk 4 (some 63) (Op.move (Operand.tmp 7)) 71 (v := ?v4b5) rfl ?h4b5 hH ?_
  case h4b5 => intro _ _; go_simp; try with_reducible rfl
  try simp only [ps]
  refine tk 5 (some 64) (Op.load 83 (Operand.tmp 5)) 83 (v := ?v5b6) rfl ?h5b6 hH ?_
  case h5b6 => intro _ _; go_simp; try with_reducible rfl
  try simp only [ps]
  refine tk 6 (some 65) (Op.move (Operand.tmp 7)) 71 (v := ?v6b7) rfl ?h6b7 hH ?_
  case h6b7 => intro _ _; go_simp; try with_reducible rfl
  try simp only [ps]
  refine tk 7 (some 66) (Op.nilCheck (Operand.tmp 65)) 0 (v := ?v7b8) rfl ?h7b8 hH ?_
  case h7b8 => intro _ _; go_simp; try with_reducible rfl
  try simp only [ps]
  refine tk 8 (some 67) (Op.fieldAddr 130 (Operand.tmp 66) 6) 0 (v := ?v8b9) rfl ?h8b9 hH ?_
  case h8b9 => intro _ _; go_simp; try with_reducible rfl
  try simp only [ps]
  refine tk 9 (some 68) (Op.fieldAddr 126 (Operand.tmp 67) 0) 0 (v := ?v9b10) rfl ?h9b10 hH ?_
  case h9b10 => intro _ _; go_simp; try with_reducible rfl
  try simp only [ps]
  refine tk 10 (some 69) (Op.load 75 (Operand.tmp 68)) 75 (v := ?v10b11) rfl ?h10b11 hH ?_
  case h10b11 => intro _ _; go_simp; try with_reducible rfl
  try simp only [ps]
  refine wpAnyH_ready (rs := [11]) (by kernel_rfl) (by simp) ?_
  refine AllReadyH.cons (o := { dst := some 70, op := Op.call { callee := Callee.value (Operand.func 55), args := #[Operand.tmp 64, Operand.tmp 69], argTypes := #[83, 75] }, type := 83, pos := "repeat.go:51", after := #[{ on := 5, ground := Ground.data }, { on := 10, ground := Ground.data }], guard := none }) rfl (fun K hKq => ?_) AllReadyH.nil
  go_simp
  refine (OA.out _).mono ?_
  rintro e y1 ⟨rfl, kq⟩
  have KY := hid (show Kp W1 y1 from ((Kp.refl W1).drew).trans kq)
  refine hKq.out _ _ (MK.out _ (Kp.kx KY.out)) (fun hN => ?_)
  clear kq
  clear hKq K hH KQ
  have hH := hN
  clear hN
  have KQ := hH.2.2.2.2.2.2.2.2.2.2.out
  try simp only [ps]
  refine wpAnyH_ready (rs := [12]) (by kernel_rfl) (by simp) ?_
  refine AllReadyH.cons (o := { dst := some 71, op := Op.call { callee := Callee.value (Operand.func 134), args := #[Operand.tmp 62, Operand.tmp 63, Operand.tmp 70], argTypes := #[70, 71, 83] }, type := 207, pos := "repeat.go:51", after := #[{ on := 3, ground := Ground.data }, { on := 4, ground := Ground.data }, { on := 11, ground := Ground.data }, { on := 11, ground := Ground.chain }], guard := none }) rfl (fun K hKq => ?_) AllReadyH.nil
  go_simp
  refine (SC.out y1 (K1.out.trans KY.out)).mono ?_
  rintro e y2 ⟨⟨v, rfl, hv, hk, hm⟩⟩
  have HV := hid hv
  have HK2 := hid hk
  have HM2 := hid hm
  clear hv hk hm
  refine hKq.out _ _ (MK.out _ ((Kp.kx KY.out).trans HK2.out)) (fun hN => ?_)
  clear hKq K hH KQ
  have hH := hN
  clear hN
  have KQ := hH.2.2.2.2.2.2.2.2.2.2.out
  try simp only [ps]
  refine tk 13 (some 8) (Op.assign (Operand.tmp 71)) 207 (v := ?v13b12) rfl ?h13b12 hH ?_
  case h13b12 => intro _ _; go_simp; try with_reducible rfl
  try simp only [ps]
  refine wpAnyH_done (by kernel_rfl) ?_ _
  refine NoPanic.normal ?_
  go_wp2_with fail
  go_meet
  case rel => exact ⟨HV.out, (Kp.kx KY.out).trans HK2.out, HM2.out⟩
 case rest =>
 obtain ⟨hso, hk, hm⟩ := hcut
 rename World => W2
 obtain ⟨T, llv, f, hvv, hT, hTb, hspl, hnu⟩ := hso.at
 subst hvv
 have SO2 := hid hso
 have T2 := hid hTb
 have HTO := hid hT
 have L2 := hid hspl
 have RW2 := hid (RW1.out.km hk hm)
 have X2 := hid (bl_kx X1.out hk HMX.out)
 have P2 := hid (bl_kx P1.out hk HMP.out)
 have K2 := hid ((Kp.kx (S := fun b => M b ≠ none) K1.out).trans hk)
 clear hso hT hTb hspl hnu hk hm R1 X1 P1 KB1 RW1 K1 SC OA HKB HP
 obtain ⟨x0, x1, x2, x3, x4, x5, x6⟩ := cells7 (X2.out)
 go_wp2_with fail
 clear x0 x1 x2 x3 x4 x5 x6
 refine (unbegun_any s bol P R B h pl lv sn 4 low high nn t _ rdp st h kn so HRD.out kid.hd all _ (okB M (oRep O R B lv sn)) (fun b hb e => hb.1 (Or.inr e)) HFEW.out n' HNR.out.1 HNR.out.2 x HX.out S W2 SO2.out RW2.out.b RW2.out.ne P2.out HPB.out RW2.out.t).mono ?_
 rintro e y3 hd0
 obtain ⟨v3, rfl, hnul, ht3, hk3⟩ := hd0.ex
 have RW3 := hid (RW2.out.turn hk3 ht3)
 have K3 := hid (show Kx (fun b => M b ≠ none ∨ b = B) w y3 from (K2.out.mono (fun _ _ e => Or.inl e)).trans (hk3.mono (fun _ _ e => Or.inr e)))
 have OKB : Hid (∀ b, okB M (oRep O R B lv sn) b → b < W2.heap.size → okB M (oRep O R B lv sn) b ∧ y3.heap[b]? = W2.heap[b]?) := fun b hb hl => ⟨hb, hk3.block b hl (fun e => hb.1 (Or.inr e))⟩
 have L3 := hid (L2.out.keep hk3.size OKB.out)
 have T3 := hid ((OKB.out T HTO.out (bl_lt T2.out)).2.trans T2.out)
 have HTL := hid (bl_lt T3.out)
 have X3 := hid (bl_kx X2.out hk3 (fun e => by have := K2.out.size; have h1 := RW2.out.t.lt; have h2 := HW.out.t.lt; omega))
 have HXL := hid (bl_lt X3.out)
 obtain ⟨ps, hps⟩ : ∃ ps, unbL kid.hd all (newCls rdp all kid.hd n' x S).1 = ps := ⟨_, rfl⟩
 have HPSL := hid (show ∀ j ∈ ps, j < all.length from by rw [← hps]; exact unb_lt)
 have HPSN := hid (show ps.length ≤ 4398046511104 from by rw [← hps]; exact Nat.le_trans (unb_len _ _ _) HFEW.out)
 rw [hps] at hnul HNP
 obtain ⟨Z, hZ⟩ : ∃ Z, ps.length = Z := ⟨_, rfl⟩
 obtain ⟨pad, pc, hpv, hpc, hpe⟩ := hnul.ex
 have HZ := hid hZ
 rw [hZ] at hpv hpc hpe HPSN
 subst hpv
 have HPE := hid hpe
 obtain ⟨lad, lc, hlv, hlc, hle⟩ := L3.out.ex
 obtain ⟨AL, hAL⟩ : ∃ AL, all.length = AL := ⟨_, rfl⟩
 rw [hAL] at hlv hlc hle
 have HAL := hid hAL
 have HLEX := hid hle
 subst hlv
 clear hd0 hnul ht3 hk3 hps hpe hZ hle hAL L2 T2 X2 P2 SO2 RW2 K2 HTO OKB
 go_wp2_with fail
 go_loopg [9, 78] Z (fun gg v i wr => ∃ (q : Nat), q + gg = Z ∧ i = .int .i64 (q : Int) ∧ SpR y3.heap.size wr v (pickL all x (ps.take q)) ∧ Kp y3 wr)
 case atStart => exact ⟨0, by omega, rfl, SpR.nil _ _, Kp.refl _⟩
 case round =>
  obtain ⟨q, hq, rfl, hR, hK⟩ := hrel
  have R6 := hid hR
  have K6 := hid hK
  obtain ⟨rad, rc, hvv, -⟩ := hR.form
  obtain ⟨N0, hN0⟩ : ∃ N0, (pickL all x (ps.take q)).length = N0 := ⟨_, rfl⟩
  rw [hN0] at hvv
  subst hvv
  clear hR hK hN0
  by_cases hlt : q < Z
  ·
   have gkw : IntKind.i64.wrap ((q : Int) + 1) = (q : Int) + 1 := by have := HPSN.out; rw [IntKind.wrap_i64]; omega
   have ga : (q : Int) < (Z : Int) := by omega
   have g0 : (0 : Int) ≤ (q : Int) := by omega
   obtain ⟨j, hj⟩ : ∃ j, ps[q]? = some j := ⟨_, List.getElem?_eq_getElem (by rw [HZ.out]; exact hlt)⟩
   have hjl : j < AL := by rw [← HAL.out]; exact HPSL.out j (List.mem_of_getElem? hj)
   obtain ⟨y, hy⟩ : ∃ y, all[j]? = some y := ⟨_, List.getElem?_eq_getElem (by rw [HAL.out]; exact hjl)⟩
   have gj : (j : Int) < (AL : Int) := by omega
   have gj0 : (0 : Int) ≤ (j : Int) := by omega
   obtain ⟨pb, rfl, -, hpl, hpcell⟩ := HPE.out (by omega)
   obtain ⟨lb, rfl, -, hll, hlcell⟩ := HLEX.out (by omega)
   have hsp := hlcell j y hy
   have HLL := hid hll
   have HTK : Hid (pickL all x (ps.take (q + 1)) = pickL all x (ps.take q) ++ [y.behind x]) := pick_succ hj hy
   have HZO := hid (show (y.behind x).Ok from (HGA.out y (List.mem_of_getElem? hy)).1.behind HX.out)
   have OB := hid (fun W => behind_any y x W)
   have c1 : wr.cell? ⟨pb, q, none⟩ = some (nuc j) := (cell_same (K6.out.block pb hpl) _).trans (hpcell q j hj)
   have HZL := hid (show (pickL all x (ps.take q)).length ≤ 5000000000000 from by have h1 := pick_len all x (ps.take q); rw [List.length_take, HZ.out] at h1; have := HPSN.out; omega)
   have C0 := hid hsp.c0
   have C1 := hid hsp.c1
   have C2 := hid hsp.c2
   have C3 := hid hsp.c3
   have C4 := hid hsp.c4
   have C5 := hid hsp.c5
   have C6 := hid hsp.c6
   obtain ⟨zs, hzs⟩ : ∃ zs, pickL all x (ps.take q) = zs := ⟨_, rfl⟩
   rw [hzs] at R6 HTK HZL
   have OFF : Hid (∀ (W : World), Kx (fun b => (Value.slice rad N0 rc).ownBlock = some b) wr W → ∀ (b o : Nat) (u : Value), b < y3.heap.size → y3.cell? ⟨b, o, none⟩ = some u → W.cell? ⟨b, o, none⟩ = some u) := fun W k b o u hb hu => (cell_same ((k.block b (Nat.lt_of_lt_of_le hb K6.out.size) (fun e => by have := (R6.out.block b e).1; omega)).trans (K6.out.block b hb)) o).trans hu
   clear hsp hj hy hpl hpcell hll hlcell hzs
   go_upto_region 13 with fail
   clear c1
   have Q0 : Kx (fun b => (Value.slice rad N0 rc).ownBlock = some b) wr wr.drew := (Kx.refl _ _).drew
   have MK : Hid (∀ W, Kx (fun b => (Value.slice rad N0 rc).ownBlock = some b) wr W → W.cell? ⟨T, 0, none⟩ = some (.slice (some ⟨lb, 0, none⟩) AL lc) ∧ W.cell? ⟨lb, j * 7, none⟩ = some (.int .i8 y.a) ∧ W.cell? ⟨lb, j * 7 + 1, none⟩ = some (.int .i8 y.f0) ∧ W.cell? ⟨lb, j * 7 + 2, none⟩ = some (.int .i8 y.t0) ∧ W.cell? ⟨lb, j * 7 + 3, none⟩ = some (.int .i8 y.f1) ∧ W.cell? ⟨lb, j * 7 + 4, none⟩ = some (.int .i8 y.t1) ∧ W.cell? ⟨lb, j * 7 + 5, none⟩ = some (.int .i8 y.f2) ∧ W.cell? ⟨lb, j * 7 + 6, none⟩ = some (.int .i8 y.t2) ∧ W.cell? ⟨w.heap.size, 0, none⟩ = some (.int .i8 x.a) ∧ W.cell? ⟨w.heap.size, 1, none⟩ = some (.int .i8 x.f0) ∧ W.cell? ⟨w.heap.size, 2, none⟩ = some (.int .i8 x.t0) ∧ W.cell? ⟨w.heap.size, 3, none⟩ = some (.int .i8 x.f1) ∧ W.cell? ⟨w.heap.size, 4, none⟩ = some (.int .i8 x.t1) ∧ W.cell? ⟨w.heap.size, 5, none⟩ = some (.int .i8 x.f2) ∧ W.cell? ⟨w.heap.size, 6, none⟩ = some (.int .i8 x.t2) ∧ Hid (Kx (fun b => (Value.slice rad N0 rc).ownBlock = some b) wr W)) := fun W k => ⟨OFF.out _ k _ _ _ HTL.out (bl_cell T3.out 0 _ rfl), OFF.out _ k _ _ _ HLL.out C0.out, OFF.out _ k _ _ _ HLL.out C1.out, OFF.out _ k _ _ _ HLL.out C2.out, OFF.out _ k _ _ _ HLL.out C3.out, OFF.out _ k _ _ _ HLL.out C4.out, OFF.out _ k _ _ _ HLL.out C5.out, OFF.out _ k _ _ _ HLL.out C6.out, OFF.out _ k _ _ _ HXL.out (bl_cell X3.out 0 _ rfl), OFF.out _ k _ _ _ HXL.out (bl_cell X3.out 1 _ rfl), OFF.out _ k _ _ _ HXL.out (bl_cell X3.out 2 _ rfl), OFF.out _ k _ _ _ HXL.out (bl_cell X3.out 3 _ rfl), OFF.out _ k _ _ _ HXL.out (bl_cell X3.out 4 _ rfl), OFF.out _ k _ _ _ HXL.out (bl_cell X3.out 5 _ rfl), OFF.out _ k _ _ _ HXL.out (bl_cell X3.out 6 _ rfl), k⟩
   refine wp_region_noPanic ?_
   refine hdrew MK Q0 (fun hH => ?_)
   have KQ := Q0
   refine tk 0 (some 82) (Op.move (Operand.tmp 9)) 68 (v := ?v0c1) rfl ?h0c1 hH ?_
   case h0c1 => intro _ _; go_simp; try with_reducible rfl
   try simp only [ps]
   refine tk 1 (some 83) (Op.move (Operand.tmp 8)) 207 (v := ?v1c2) rfl ?h1c2 hH ?_
   case h1c2 => intro _ _; go_simp; try with_reducible rfl
   try simp only [ps]
   refine tk 2 (some 84) (Op.nilCheck (Operand.tmp 83)) 0 (v := ?v2c3) rfl ?h2c3 hH ?_
   case h2c3 => intro _ _; go_simp; try with_reducible rfl
   try simp only [ps]
   refine tk 3 (some 85) (Op.fieldAddr 212 (Operand.tmp 84) 0) 0 (v := ?v3c4) rfl ?h3c4 hH ?_
   case h3c4 => intro _ _; go_simp; try with_reducible rfl
   try simp only [ps]
   refine tk 4 (some 86) (Op.load 68 (Operand.tmp 85)) 68 (v := ?v4c5) rfl ?h4c5 hH ?_
   case h4c5 => intro _ _; go_simp; try with_reducible rfl
   try simp only [ps]
   refine tk 5 (some 87) (Op.move (Operand.tmp 11)) 3 (v := ?v5c6) rfl ?h5c6 hH ?_
   case h5c6 => intro _ _; go_simp; try with_reducible rfl
   try simp only [ps]
   refine tk 6 (some 88) (Op.indexAddr 68 (Operand.tmp 86) (Operand.tmp 87)) 0 (v := ?v6c7) rfl ?h6c7 hH ?_
   case h6c7 => intro _ _; go_simp; try with_reducible rfl
   try simp only [ps]
   refine tk 7 (some 89) (Op.load 83 (Operand.tmp 88)) 83 (v := ?v7c8) rfl ?h7c8 hH ?_
   case h7c8 => intro _ _; go_simp; try with_reducible rfl
   try simp only [ps]
   refine tk 8 (some 90) (Op.load 83 (Operand.tmp 5)) 83 (v := ?v8c9) rfl ?h8c9 hH ?_
   case h8c9 => intro _ _; go_simp; try with_reducible rfl
   try simp only [ps]
   refine wpAnyH_ready (rs := [9]) (by kernel_rfl) (by simp) ?_
   refine AllReadyH.cons (o := { dst := some 91, op := Op.call { callee := Callee.value (Operand.func 127), args := #[Operand.tmp 89, Operand.tmp 90], argTypes := #[83, 83] }, type := 83, pos := "repeat.go:54", after := #[{ on := 7, ground := Ground.data }, { on := 8, ground := Ground.data }], guard := none }) rfl (fun K hKq => ?_) AllReadyH.nil
   go_simp
   refine (OB.out _).mono ?_
   rintro e yy ⟨rfl, kq⟩
   have KY := hid (show Kp wr yy from ((Kp.refl wr).drew).trans kq)
   refine hKq.out _ _ (MK.out _ (Kp.kx KY.out)) (fun hN => ?_)
   clear kq
   clear hKq K hH KQ
   have hH := hN
   clear hN
   have KQ := hH.2.2.2.2.2.2.2.2.2.2.2.2.2.2.2.out
   try simp only [ps]
   refine wpAnyH_ready (rs := [10]) (by kernel_rfl) (by simp) ?_
   refine AllReadyH.cons (o := { dst := some 92, op := Op.buildSlice 68 1 #[(0, Operand.tmp 91)], type := 68, pos := "repeat.go:54", after := #[{ on := 9, ground := Ground.data }], guard := none }) rfl (fun K hKq => ?_) AllReadyH.nil
   go_simp
   refine hKq.out _ _ (MK.out _ (KQ.alloc _)) (fun hN => ?_)
   clear hKq K hH KQ
   have hH := hN
   clear hN
   have KQ := hH.2.2.2.2.2.2.2.2.2.2.2.2.2.2.2.out
   try simp only [ps]
   refine wpAnyH_ready (rs := [11]) (by kernel_rfl) (by simp) ?_
   refine AllReadyH.cons (o := { dst := some 93, op := Op.call { callee := Callee.builtin Builtin.append, args := #[Operand.tmp 82, Operand.tmp 92], argTypes := #[68, 68] }, type := 68, pos := "repeat.go:54", after := #[{ on := 0, ground := Ground.data }, { on := 10, ground := Ground.data }, { on := 9, ground := Ground.chain }], guard := none }) rfl (fun K hKq => ?_) AllReadyH.nil
   refine step_append_sp _ (by rfl) _ _ (by rfl) y3.heap.size (.slice rad N0 rc) zs (y.behind x) (by rfl) yy.heap.size (by rfl) (R6.out.kp (KY.out.alloc _)) HZO.out (last_of _ _) HZL.out (by have := K6.out.size; have := KY.out.size; simp; omega) ?_
   rintro v' w' md
   obtain ⟨ad', c', hv', -⟩ := md.row.form
   obtain ⟨n', hn'⟩ : ∃ n', (zs ++ [y.behind x]).length = n' := ⟨_, rfl⟩
   rw [hn'] at hv'
   subst hv'
   have MD := hid md
   clear md hn'
   refine hKq.out _ _ (MK.out _ (KQ.grown MD.out.grown (fun k e _ => e))) (fun hN => ?_)
   clear hKq K hH KQ
   have hH := hN
   clear hN
   have KQ := hH.2.2.2.2.2.2.2.2.2.2.2.2.2.2.2.out
   try simp only [ps]
   refine tk 12 (some 9) (Op.assign (Operand.tmp 93)) 68 (v := ?v12c10) rfl ?h12c10 hH ?_
   case h12c10 => intro _ _; go_simp; try with_reducible rfl
   try simp only [ps]
   refine wpAnyH_done (by kernel_rfl) ?_ _
   refine NoPanic.normal ?_
   have KF := hid KQ
   go_wp2_with fail
   go_roundg (gk - 1)
   case measure => omega
   case rel => exact ⟨q + 1, by omega, by go_num, by rw [HTK.out]; exact MD.out.row, (((Kp.kx (S := fun _ => False) K6.out).past2 KF.out (fun b hb e => by have := (R6.out.block b e).1; omega))).kp⟩
  ·
   have ga : ¬ (q : Int) < (Z : Int) := by omega
   have HE : Hid (pickL all x (ps.take q) = pickL all x ps) := by
    show _ = _
    rw [List.take_of_length_le (by rw [HZ.out]; omega)]
   go_wp2_with fail
   go_ret
   exact ⟨⟨_, rfl, by rw [HNP.out]; show SpL _ _ _ (pickL all x ps); rw [← HE.out]; exact R6.out.spl (fun b e => ⟨fun o => by have := (R6.out.block b e).1; have := RW3.out.lt (fun b o => Nat.lt_of_lt_of_le (HO.out b o) K3.out.size) b o; omega, RW3.out.m.lt (R6.out.block b e).1⟩), by rw [HNP.out]; exact RW3.out.kp K6.out, K3.out.then K6.out⟩⟩
end Go.Proofs.YtnajcnhgeggngaaGreat.Way

/-! ### Beh -/

namespace Go.Proofs.YtnajcnhgeggngaaGreat.Way
open Go.RowKit Go.Proofs.YtnajcnhgeggngaaGreat Go.Maps

theorem okR_step {M : Nat → Option Memo} {O : Nat → Prop} {R B n : Nat} {lv lv' : Value} {sn sn' : Option Nat} (ho : ∀ b, lv'.ownBlock = some b → lv.ownBlock = some b ∨ n ≤ b) (hs : ∀ b, sn' = some b → sn = some b ∨ n ≤ b) {b : Nat} (hb : okB M (oRep O R B lv sn) b) (hl : b < n) : okB M (oRep O R B lv' sn') b := by
 refine ⟨fun q => hb.1 ?_, hb.2⟩
 rcases q with (q | q | q | q) | q
 ·
  exact Or.inl (Or.inl q)
 ·
  exact Or.inl (Or.inr (Or.inl q))
 ·
  rcases ho b q with e | e
  ·
   exact Or.inl (Or.inr (Or.inr (Or.inl e)))
  ·
   omega
 ·
  rcases hs b q with e | e
  ·
   exact Or.inl (Or.inr (Or.inr (Or.inr e)))
  ·
   omega
 ·
  exact Or.inr q
theorem repB_step {R B n : Nat} {lv lv' : Value} {sn sn' : Option Nat} (ho : ∀ b, lv'.ownBlock = some b → lv.ownBlock = some b ∨ n ≤ b) (hs : ∀ b, sn' = some b → sn = some b ∨ n ≤ b) {b : Nat} (hb : repB R B lv' sn' b) (hl : b < n) : repB R B lv sn b := by
 rcases hb with (q | q | q) | q
 ·
  exact Or.inl (Or.inl q)
 ·
  rcases ho b q with e | e
  ·
   exact Or.inl (Or.inr (Or.inl e))
  ·
   omega
 ·
  rcases hs b q with e | e
  ·
   exact Or.inl (Or.inr (Or.inr e))
  ·
   omega
 ·
  exact Or.inr q
theorem next_good {N : Nat} {W : Sp → List Sp} {lf : Bool} {krd khd rdp : Nat} {low high n : Int} {x : Sp} {bg : List Turn} (hW : ∀ x : Sp, x.Ok → x.In N → ∀ y ∈ W x, y.Ok ∧ y.In N ∧ x.a ≤ y.a) (hx : x.Ok) (hN : x.In N) : ∀ y ∈ (nextP lf W krd khd rdp low high n x bg).1, y.Ok ∧ y.In N ∧ x.a ≤ y.a := by
 intro y hy
 unfold nextP at hy
 split at hy
 ·
  cases hy
 ·
  split at hy
  ·
   exact hW x hx hN y hy
  ·
   obtain ⟨z, hz, rfl⟩ := List.mem_map.1 hy
   have hz := (List.mem_filter.1 hz).1
   obtain ⟨h1, h2, h3⟩ := hW (x.only krd) (hx.only krd) (hN.only krd) z hz
   exact ⟨h1.behind hx, h2.behind hN, h3⟩
theorem next_few {N : Nat} {W : Sp → List Sp} {lf : Bool} {krd khd rdp : Nat} {low high n : Int} {x : Sp} {bg : List Turn} (hW : ∀ x : Sp, x.Ok → x.In N → (W x).length ≤ 4398046511104) (hx : x.Ok) (hN : x.In N) : (nextP lf W krd khd rdp low high n x bg).1.length ≤ 4398046511104 := by
 unfold nextP
 split
 ·
  exact Nat.zero_le _
 ·
  split
  ·
   exact hW x hx hN
  ·
   rw [List.length_map]
   exact Nat.le_trans (List.length_filter_le _ _) (hW (x.only krd) (hx.only krd) (hN.only krd))
structure BehE (s : ByteArray) (bol : Bool) (P : Nat) (M : Nat → Option Memo) (O : Nat → Prop) (base R B h : Nat) (r : List Turn × List Sp) (lv : Value) (sn : Option Nat) (w : World) (e : Ending) (w' : World) : Prop where
 ex : e = .returned (.tuple #[]) ∧ ∃ lv' pl' sn', RepW s bol P M O base R B h r.2 r.1 lv' pl' sn' w' ∧ (∀ b, lv'.ownBlock = some b → lv.ownBlock = some b ∨ w.heap.size ≤ b) ∧ (∀ b, sn' = some b → sn = some b ∨ w.heap.size ≤ b) ∧ Kx (fun b => M b ≠ none ∨ repB R B lv sn b) w w'
abbrev BehS (s : ByteArray) (bol : Bool) (P : Nat) (M : Nat → Option Memo) (O : Nat → Prop) (base R B h : Nat) (low : Int) (NX : Int → Sp → List Turn → List Sp × List Turn) (p : Pt) (f : Nat) : Prop := ∀ (n : Int) (x : Sp) (xs : List Sp) (S : List Turn) (lv : Value) (pl : Nat) (sn : Option Nat) (w : World), 0 ≤ n → (low - n).toNat + (61 - x.a).toNat < f → n + ((low - n).toNat + (61 - x.a).toNat : Nat) ≤ 100 → x.Ok → x.In s.size → (∀ b, O b → b < w.heap.size) → RepW s bol P M O base R B h xs S lv pl sn w → PtAt w (okB M (oRep O R B lv sn)) p →
  Calls Tryz.prog 110 #[.pointer (some ⟨R, 0, none⟩), .int .i64 n, spv x] w fun e w' => BehE s bol P M O base R B h (behindP NX low h f n x (S, xs)) lv sn w e w'
theorem beh_less {low n xa ya : Int} {f : Nat} (h : n < low ∨ ¬ ya = xa) (hle : xa ≤ ya) (hy : ya ≤ 60) (hx : 0 ≤ n) (m : (low - n).toNat + (61 - xa).toNat < f + 1) (m2 : n + ((low - n).toNat + (61 - xa).toNat : Nat) ≤ 100) : (low - (n + 1)).toNat + (61 - ya).toNat < f ∧ n + 1 + ((low - (n + 1)).toNat + (61 - ya).toNat : Nat) ≤ 100 ∧ 0 ≤ n + 1 := by omega
theorem behind_step (s : ByteArray) (bol : Bool) (P : Nat) (M : Nat → Option Memo) (O : Nat → Prop) (base R B h : Nat) (low high nn : Int) (t : W4) (kn so : Option Nat) (rdp st : Nat) (kid : Pt) (ks : List Pt) (hrd : rdp < 8) (hkr : kid.rd < 8) (HS : WSaid s bol M kid) (HSo : leafK kid.k = false → SortS s bol M kid) (HLf : leafK kid.k = true → LeafS s bol M kid) (hlow0 : 0 ≤ low) (f : Nat) (IH : BehS s bol P M O base R B h low (nextP (leafK kid.k) (ways s.data.toList bol kid) kid.rd kid.hd rdp low high) (.mk 4 low high nn t P kn so rdp st h (kid :: ks)) f) : BehS s bol P M O base R B h low (nextP (leafK kid.k) (ways s.data.toList bol kid) kid.rd kid.hd rdp low high) (.mk 4 low high nn t P kn so rdp st h (kid :: ks)) (f + 1) := by
 intro n x xs S lv pl sn w hn0 hm hm2 hx hN hO hW hP
 obtain ⟨kv, hblk, hokP⟩ : ∃ kv, w.heap[P]? = some (pto 4 low high nn t kv rdp st h kn so) ∧ okB M (oRep O R B lv sn) P := by
  unfold PtAt at hP
  obtain ⟨h1, ⟨ad, c, h2, _⟩, _⟩ := hP
  exact ⟨_, h2, h1⟩
 have HN0 := hid hn0
 have HM := hid hm
 have HM2 := hid hm2
 have HX := hid hx
 have HN := hid hN
 have HO := hid hO
 have HW := hid hW
 have HPT := hid hP
 have HPB := hid hblk
 have HIH := hid IH
 have HXM := hid (show ¬ (M w.heap.size ≠ none ∨ repB R B lv sn w.heap.size) from fun e => e.elim (fun e => e (hW.m.lt (Nat.le_refl _))) (fun e => by
  rcases e with (e | e | e) | e
  ·
   have := bl_lt hW.b; omega
  ·
   have := (hW.i.row.block _ e).2; omega
  ·
   have := (hW.i.set _ e).2.1.lt; omega
  ·
   have := hW.t.lt; omega))
 have NC := hid (fun (W : World) (k0 : Kp w W) => next_any s bol P M O base R B h pl xs S lv sn low high nn t kn so rdp st kid ks hrd hkr HS HSo HLf n hn0 (by omega) hlow0 x hx hN W (fun b hb => Nat.lt_of_lt_of_le (hO b hb) k0.size) (hW.kp k0) (PtAt.kp hP k0))
 obtain ⟨zs, hzs⟩ : ∃ zs, ((nextP (leafK kid.k) (ways s.data.toList bol kid) kid.rd kid.hd rdp low high) n x S).1 = zs := ⟨_, rfl⟩
 obtain ⟨S1, hS1⟩ : ∃ S1, ((nextP (leafK kid.k) (ways s.data.toList bol kid) kid.rd kid.hd rdp low high) n x S).2 = S1 := ⟨_, rfl⟩
 have HGD := hid (show ∀ y ∈ zs, y.Ok ∧ y.In s.size ∧ x.a ≤ y.a from by rw [← hzs]; exact next_good HS.good hx hN)
 obtain ⟨Z, hZ⟩ : ∃ Z, zs.length = Z := ⟨_, rfl⟩
 have HZL := hid hZ
 have HZF := hid (show Z ≤ 4398046511104 from by rw [← hZ, ← hzs]; exact next_few HS.few hx hN)
 have HBEH : Hid (behindP (nextP (leafK kid.k) (ways s.data.toList bol kid) kid.rd kid.hd rdp low high) low h (f + 1) n x (S, xs) = if n < low then zs.foldl (fun acc y => if n < low ∨ ¬ y.a = x.a then behindP (nextP (leafK kid.k) (ways s.data.toList bol kid) kid.rd kid.hd rdp low high) low h f (n + 1) y acc else acc) (S1, xs) else ((zs.foldl (fun acc y => if n < low ∨ ¬ y.a = x.a then behindP (nextP (leafK kid.k) (ways s.data.toList bol kid) kid.rd kid.hd rdp low high) low h f (n + 1) y acc else acc) (S1, xs)).1, addL h (zs.foldl (fun acc y => if n < low ∨ ¬ y.a = x.a then behindP (nextP (leafK kid.k) (ways s.data.toList bol kid) kid.rd kid.hd rdp low high) low h f (n + 1) y acc else acc) (S1, xs)).2 x)) := by
  rw [← hzs, ← hS1]
  rfl
 obtain ⟨BE, hBE⟩ : ∃ BE, behindP (nextP (leafK kid.k) (ways s.data.toList bol kid) kid.rd kid.hd rdp low high) low h (f + 1) n x (S, xs) = BE := ⟨_, rfl⟩
 rw [hBE] at HBEH ⊢
 clear hn0 hm hm2 hx hN hO hW hP hblk IH hBE hrd hkr HS HSo HLf hZ
 obtain ⟨en, hen⟩ : ∃ en, decide (low ≤ n) = en := ⟨_, rfl⟩
 have HEN := hid hen
 go_enter Tryz.func110, Tryz.ntmps110
 go_upto_region 1 with fail
 refine opq (fun W0 => W0.heap[w.heap.size]? = some (spo x) ∧ Kp w W0) ⟨by exact last_of _ _, by exact kpt⟩ ?_
 rintro W0 ⟨xX0, xK0⟩
 have X0 := hid xX0
 have K0 := hid xK0
 clear xX0 xK0
 have RW0 := hid (HW.out.kp K0.out)
 have R0 := hid (RW0.out.b)
 have P0 := hid (bl_kp HPB.out K0.out)
 have r2 := bl_cell (R0.out) 2 _ rfl
 have p1 := bl_cell (P0.out) 1 _ rfl
 obtain ⟨x0, x1, x2, x3, x4, x5, x6⟩ := cells7 (X0.out)
 go_wp2_with fail
 clear r2 p1 x0 x1 x2 x3 x4 x5 x6 hen
 refine (NC.out _ K0.out).mono ?_
 rintro e w1 hd0
 obtain ⟨v, rfl, hsl, hr1, hk1⟩ := hd0.ex
 rw [hzs] at hsl
 rw [hS1] at hr1
 obtain ⟨ad, c, hvv, hzc, -⟩ := hsl.ex
 rw [HZL.out] at hvv hzc
 subst hvv
 have SL1 := hid hsl
 have RW1 := hid hr1
 have K1 := hid (show Kx (fun b => M b ≠ none ∨ repB R B lv sn b) W0 w1 from hk1.mono (fun _ _ e => e.imp id Or.inr))
 clear hd0 hsl hr1 hk1 hzs hS1 R0 P0
 go_wp2_with fail
 go_loopg [23] Z (fun gg i wr => ∃ (q : Nat) (st2 : List Turn × List Sp) (lv' : Value) (pl' : Nat) (sn' : Option Nat), q + gg = Z ∧ i = .int .i64 (q : Int) ∧ (zs.take q).foldl (fun acc y => if n < low ∨ ¬ y.a = x.a then behindP (nextP (leafK kid.k) (ways s.data.toList bol kid) kid.rd kid.hd rdp low high) low h f (n + 1) y acc else acc) (S1, xs) = st2 ∧ RepW s bol P M O base R B h st2.2 st2.1 lv' pl' sn' wr ∧ (∀ b, lv'.ownBlock = some b → lv.ownBlock = some b ∨ W0.heap.size ≤ b) ∧ (∀ b, sn' = some b → sn = some b ∨ W0.heap.size ≤ b) ∧ SpL wr (okB M (oRep O R B lv' sn')) (.slice ad Z c) zs ∧ Kx (fun b => M b ≠ none ∨ repB R B lv sn b) W0 wr)
 case atStart => exact ⟨0, (S1, xs), lv, pl, sn, by omega, rfl, rfl, RW1.out, fun _ e => Or.inl e, fun _ e => Or.inl e, SL1.out, K1.out⟩
 case round =>
  obtain ⟨q, st2, lv', pl', sn', hq, rfl, hst, hR, hlo, hso, hS, hK⟩ := hrel
  have HST := hid hst
  have R6 := hid hR
  have L6 := hid hlo
  have N6 := hid hso
  have S6 := hid hS
  have K6 := hid hK
  have X6 := hid (bl_kx X0.out hK HXM.out)
  have PT6 := hid (show PtAt wr (okB M (oRep O R B lv' sn')) (.mk 4 low high nn t P kn so rdp st h (kid :: ks)) from PtAt.keep (Nat.le_trans K0.out.size hK.size) (fun b hb hl => ⟨okR_step hlo hso hb (Nat.lt_of_lt_of_le hl K0.out.size), (hK.block b (Nat.lt_of_lt_of_le hl K0.out.size) (fun e => e.elim (fun e => e hb.2) (fun e => hb.1 (e.elim (fun e => Or.inl (Or.inr e)) Or.inr)))).trans (K0.out.block b hl)⟩) _ HPT.out)
  clear hst hR hlo hso hS hK
  by_cases hlt : q < Z
  ·
   have gkw : IntKind.i64.wrap ((q : Int) + 1) = (q : Int) + 1 := by have := HZF.out; rw [IntKind.wrap_i64]; omega
   have gkn : IntKind.i64.wrap (n + 1) = n + 1 := by have := HM2.out; have := HN0.out; rw [IntKind.wrap_i64]; omega
   have ga : (q : Int) < (Z : Int) := by omega
   have g0 : (0 : Int) ≤ (q : Int) := by omega
   obtain ⟨y, hy⟩ : ∃ y, zs[q]? = some y := ⟨_, List.getElem?_eq_getElem (by rw [HZL.out]; exact hlt)⟩
   obtain ⟨ad2, c2, hv2, _, hc2⟩ := S6.out.ex
   injection hv2 with e1 e2 e3
   obtain ⟨b2, hbb, _, hbl, hce⟩ := hc2 (by rw [HZL.out]; omega)
   rw [← e1] at hbb
   subst hbb
   have hsp := hce q y hy
   have HY := hid (HGD.out y (List.mem_of_getElem? hy))
   have HTK : Hid ((zs.take (q + 1)).foldl (fun acc y => if n < low ∨ ¬ y.a = x.a then behindP (nextP (leafK kid.k) (ways s.data.toList bol kid) kid.rd kid.hd rdp low high) low h f (n + 1) y acc else acc) (S1, xs) = if n < low ∨ ¬ y.a = x.a then behindP (nextP (leafK kid.k) (ways s.data.toList bol kid) kid.rd kid.hd rdp low high) low h f (n + 1) y st2 else st2) := by
    show _ = _
    rw [List.take_succ_eq_append_getElem (by rw [HZL.out]; exact hlt), List.foldl_append, (List.getElem?_eq_some_iff.1 hy).2, HST.out]
    rfl
   have x0 := hsp.c0
   have x1 := hsp.c1
   have x2 := hsp.c2
   have x3 := hsp.c3
   have x4 := hsp.c4
   have x5 := hsp.c5
   have x6 := hsp.c6
   clear hsp hce hy e1 e2 e3 hc2
   go_upto_region 5 with fail
   refine opq (fun W6 => W6.heap[wr.heap.size]? = some (spo y) ∧ W6.heap[w.heap.size]? = some (spo x) ∧ RepW s bol P M O base R B h st2.2 st2.1 lv' pl' sn' W6 ∧ SpL W6 (okB M (oRep O R B lv' sn')) (.slice (some ⟨b2, 0, none⟩) Z c) zs ∧ Kx (fun b => M b ≠ none ∨ repB R B lv sn b) W0 W6 ∧ PtAt W6 (okB M (oRep O R B lv' sn')) (.mk 4 low high nn t P kn so rdp st h (kid :: ks))) ⟨by exact last_of _ _, by exact bl_alloc X6.out _, by exact R6.out.kp ((Kp.refl _).alloc _), by exact S6.out.keep (by simp) (fun b hb hl => ⟨hb, ((Kp.refl _).alloc _).block _ hl⟩), by exact K6.out.alloc _, by exact PtAt.kp PT6.out ((Kp.refl _).alloc _)⟩ ?_
   rintro W6 ⟨xY7, xX7, xR7, xS7, xK7, xPT7⟩
   have Y7 := hid xY7
   have X7 := hid xX7
   have R7 := hid xR7
   have S7 := hid xS7
   have K7 := hid xK7
   have PT7 := hid xPT7
   clear xY7 xX7 xR7 xS7 xK7 xPT7
   clear x0 x1 x2 x3 x4 x5 x6 R6 S6 K6 X6 PT6
   obtain ⟨y0, y1, y2, y3, y4, y5, y6⟩ := cells7 (Y7.out)
   have xx := bl_cell (X7.out) 0 _ rfl
   have HIHY : Hid (n < low ∨ ¬ y.a = x.a → Calls Tryz.prog 110 #[.pointer (some ⟨R, 0, none⟩), .int .i64 (n + 1), spv y] W6 fun e w' => BehE s bol P M O base R B h (behindP (nextP (leafK kid.k) (ways s.data.toList bol kid) kid.rd kid.hd rdp low high) low h f (n + 1) y st2) lv' sn' W6 e w') := fun hc => by
    obtain ⟨m1, m2, m3⟩ := beh_less hc HY.out.2.2 HY.out.1.a1 HN0.out HM.out HM2.out
    exact HIH.out (n + 1) y st2.2 st2.1 lv' pl' sn' W6 m3 m1 m2 HY.out.1 HY.out.2.1 (fun b o => Nat.lt_of_lt_of_le (HO.out b o) (Nat.le_trans K0.out.size K7.out.size)) R7.out PT7.out
   by_cases hlow : low ≤ n
   ·
    have hen2 : en = true := by rw [← HEN.out]; exact decide_eq_true hlow
    subst hen2
    by_cases hya : y.a = x.a
    ·
     have hyb : (y.a == x.a) = true := by rw [hya]; exact beq_self_eq_true _
     have hyn : (y.a != x.a) = false := by rw [bne, hyb]; rfl
     have HTK2 : Hid ((zs.take (q + 1)).foldl (fun acc y => if n < low ∨ ¬ y.a = x.a then behindP (nextP (leafK kid.k) (ways s.data.toList bol kid) kid.rd kid.hd rdp low high) low h f (n + 1) y acc else acc) (S1, xs) = st2) := by
      show _ = _
      rw [HTK.out, if_neg (by omega)]
     clear HTK HIHY
     go_wp2_with fail
     go_roundg (gk - 1)
     case measure => omega
     case rel => exact ⟨q + 1, st2, lv', pl', sn', by omega, by go_num, HTK2.out, R7.out, L6.out, N6.out, S7.out.keep (Kp.size (a := W6) (Kp.refl _)) (fun b hb hl => ⟨hb, rfl⟩), K7.out⟩
    ·
     have hyb : (y.a == x.a) = false := by simp [hya]
     have hyn : (y.a != x.a) = true := by rw [bne, hyb]; rfl
     have HTK2 : Hid ((zs.take (q + 1)).foldl (fun acc y => if n < low ∨ ¬ y.a = x.a then behindP (nextP (leafK kid.k) (ways s.data.toList bol kid) kid.rd kid.hd rdp low high) low h f (n + 1) y acc else acc) (S1, xs) = behindP (nextP (leafK kid.k) (ways s.data.toList bol kid) kid.rd kid.hd rdp low high) low h f (n + 1) y st2) := by
      show _ = _
      rw [HTK.out, if_pos (Or.inr hya)]
     have HC := hid (HIHY.out (Or.inr hya))
     clear HTK HIHY
     go_wp2_with fail
     refine (HC.out).mono ?_
     rintro e w2 hd0
     obtain ⟨rfl, l2, p2, n2, hr2, ho2, hs2, hk2⟩ := hd0.ex
     have RC := hid hr2
     have LC := hid ho2
     have NC2 := hid hs2
     have KC := hid hk2
     clear hd0 hr2 ho2 hs2 hk2 y0 y1 y2 y3 y4 y5 y6 xx
     go_wp2_with fail
     go_roundg (gk - 1)
     case measure => omega
     case rel => exact ⟨q + 1, _, l2, p2, n2, by omega, by go_num, HTK2.out, RC.out, walk_own L6.out LC.out K7.out.size, walk_own N6.out NC2.out K7.out.size, S7.out.keep KC.out.size (fun b hb hl => ⟨okR_step LC.out NC2.out hb hl, KC.out.block b hl (fun e => e.elim (fun e => e hb.2) (fun e => hb.1 (e.elim (fun e => Or.inl (Or.inr e)) Or.inr)))⟩), K7.out.past2 KC.out (fun b hb e => e.imp id (fun e => repB_step L6.out N6.out e hb))⟩
   ·
    have hen2 : en = false := by rw [← HEN.out]; exact decide_eq_false hlow
    subst hen2
    have HTK2 : Hid ((zs.take (q + 1)).foldl (fun acc y => if n < low ∨ ¬ y.a = x.a then behindP (nextP (leafK kid.k) (ways s.data.toList bol kid) kid.rd kid.hd rdp low high) low h f (n + 1) y acc else acc) (S1, xs) = behindP (nextP (leafK kid.k) (ways s.data.toList bol kid) kid.rd kid.hd rdp low high) low h f (n + 1) y st2) := by
     show _ = _
     rw [HTK.out, if_pos (Or.inl (by omega))]
    have HC := hid (HIHY.out (Or.inl (by omega)))
    clear HTK HIHY
    go_wp2_with fail
    refine (HC.out).mono ?_
    rintro e w2 hd0
    obtain ⟨rfl, l2, p2, n2, hr2, ho2, hs2, hk2⟩ := hd0.ex
    have RC := hid hr2
    have LC := hid ho2
    have NC2 := hid hs2
    have KC := hid hk2
    clear hd0 hr2 ho2 hs2 hk2 y0 y1 y2 y3 y4 y5 y6 xx
    go_wp2_with fail
    go_roundg (gk - 1)
    case measure => omega
    case rel => exact ⟨q + 1, _, l2, p2, n2, by omega, by go_num, HTK2.out, RC.out, walk_own L6.out LC.out K7.out.size, walk_own N6.out NC2.out K7.out.size, S7.out.keep KC.out.size (fun b hb hl => ⟨okR_step LC.out NC2.out hb hl, KC.out.block b hl (fun e => e.elim (fun e => e hb.2) (fun e => hb.1 (e.elim (fun e => Or.inl (Or.inr e)) Or.inr)))⟩), K7.out.past2 KC.out (fun b hb e => e.imp id (fun e => repB_step L6.out N6.out e hb))⟩
  ·
   have ga : ¬ (q : Int) < (Z : Int) := by omega
   have HF : Hid (zs.foldl (fun acc y => if n < low ∨ ¬ y.a = x.a then behindP (nextP (leafK kid.k) (ways s.data.toList bol kid) kid.rd kid.hd rdp low high) low h f (n + 1) y acc else acc) (S1, xs) = st2) := by
    show _ = _
    rw [← HST.out, List.take_of_length_le (by rw [HZL.out]; omega)]
   rw [HF.out] at HBEH
   by_cases hlow : low ≤ n
   ·
    have hen2 : en = true := by rw [← HEN.out]; exact decide_eq_true hlow
    subst hen2
    have HB2 : Hid (BE = (st2.1, addL h st2.2 x)) := by show _ = _; rw [HBEH.out, if_neg (by omega)]
    go_upto_region 9 with fail
    have QD := hid (R6.out.kp (Kp.refl wr).drew)
    have HXR := hid (show ¬ rowB R lv' sn' w.heap.size from fun e => HXM.out (Or.inr (repB_step L6.out N6.out (Or.inl e) (bl_lt X0.out))))
    have Q0 : Kx (rowB R lv' sn') wr wr.drew := (Kx.refl _ _).drew
    have MK : Hid (∀ W, Kx (rowB R lv' sn') wr W → W.cell? ⟨w.heap.size, 0, none⟩ = some (.int .i8 x.a) ∧ W.cell? ⟨w.heap.size, 1, none⟩ = some (.int .i8 x.f0) ∧ W.cell? ⟨w.heap.size, 2, none⟩ = some (.int .i8 x.t0) ∧ W.cell? ⟨w.heap.size, 3, none⟩ = some (.int .i8 x.f1) ∧ W.cell? ⟨w.heap.size, 4, none⟩ = some (.int .i8 x.t1) ∧ W.cell? ⟨w.heap.size, 5, none⟩ = some (.int .i8 x.f2) ∧ W.cell? ⟨w.heap.size, 6, none⟩ = some (.int .i8 x.t2) ∧ Hid (Kx (rowB R lv' sn') wr W)) := fun W k => ⟨bl_cell (bl_kx X6.out k HXR.out) 0 _ rfl, bl_cell (bl_kx X6.out k HXR.out) 1 _ rfl, bl_cell (bl_kx X6.out k HXR.out) 2 _ rfl, bl_cell (bl_kx X6.out k HXR.out) 3 _ rfl, bl_cell (bl_kx X6.out k HXR.out) 4 _ rfl, bl_cell (bl_kx X6.out k HXR.out) 5 _ rfl, bl_cell (bl_kx X6.out k HXR.out) 6 _ rfl, k⟩
    refine wp_region_noPanic ?_
    refine hdrew MK Q0 (fun hH => ?_)
    have KQ := Q0
    refine tk 0 (some 43) (Op.move (Operand.tmp 0)) 198 (v := ?v0a1) rfl ?h0a1 hH ?_
    case h0a1 => intro _ _; go_simp; try with_reducible rfl
    try simp only [ps]
    refine tk 1 (some 44) (Op.nilCheck (Operand.tmp 43)) 0 (v := ?v1a2) rfl ?h1a2 hH ?_
    case h1a2 => intro _ _; go_simp; try with_reducible rfl
    try simp only [ps]
    refine tk 2 (some 45) (Op.fieldAddr 182 (Operand.tmp 44) 3) 0 (v := ?v2a3) rfl ?h2a3 hH ?_
    case h2a3 => intro _ _; go_simp; try with_reducible rfl
    try simp only [ps]
    refine tk 3 (some 46) (Op.load 83 (Operand.tmp 5)) 83 (v := ?v3a4) rfl ?h3a4 hH ?_
    case h3a4 => intro _ _; go_simp; try with_reducible rfl
    try simp only [ps]
    refine wpAnyH_ready (rs := [4]) (by kernel_rfl) (by simp) ?_
    refine AllReadyH.cons (o := { dst := some 47, op := Op.call { callee := Callee.value (Operand.func 126), args := #[Operand.tmp 45, Operand.tmp 46], argTypes := #[177, 83] }, type := 0, pos := "repeat.go:35", after := #[{ on := 2, ground := Ground.data }, { on := 3, ground := Ground.data }], guard := none }) rfl (fun K hKq => ?_) AllReadyH.nil
    go_simp
    refine (raddB_any R h pl' lv' sn' (.string s) (.bool bol) (ptv P) (.map (some B)) base st2.2 x HX.out _ QD.out.b QD.out.i QD.out.rb QD.out.le).mono ?_
    rintro e y2 hd0
    obtain ⟨he, l2, p2, n2, hr2, ho2, hs2, hk2⟩ := QD.out.add hd0
    subst he
    have RC := hid hr2
    have LC := hid ho2
    have NC2 := hid hs2
    have KC := hid hk2
    clear hd0 hr2 ho2 hs2 hk2
    refine hKq.out _ _ (MK.out _ ((Kx.refl _ _).drew.trans KC.out)) (fun hN => ?_)
    clear hKq K hH KQ
    have hH := hN
    clear hN
    have KQ := hH.2.2.2.2.2.2.2.out
    try simp only [ps]
    refine wpAnyH_done (by kernel_rfl) ?_ _
    refine NoPanic.normal ?_
    go_wp2_with fail
    refine bodyPost_end (v := .tuple #[]) (results_none rfl _ _ _) rfl ⟨rfl, l2, p2, n2, by rw [HB2.out]; exact RC.out, fun b e => (walk_own L6.out LC.out K6.out.size b e).imp id (fun e => Nat.le_trans K0.out.size e), fun b e => (walk_own N6.out NC2.out K6.out.size b e).imp id (fun e => Nat.le_trans K0.out.size e), (Kp.kx K0.out).trans (K6.out.past2 ((Kx.refl _ _).drew.trans KC.out) (fun b hb e => Or.inr (repB_step L6.out N6.out (Or.inl e) hb)))⟩
   ·
    have hen2 : en = false := by rw [← HEN.out]; exact decide_eq_false hlow
    subst hen2
    have HB2 : Hid (BE = st2) := by show _ = _; rw [HBEH.out, if_pos (by omega)]
    go_wp2_with fail
    refine bodyPost_end (v := .tuple #[]) (results_none rfl _ _ _) rfl ⟨rfl, lv', pl', sn', by rw [HB2.out]; exact R6.out, fun b e => (L6.out b e).imp id (fun e => Nat.le_trans K0.out.size e), fun b e => (N6.out b e).imp id (fun e => Nat.le_trans K0.out.size e), (Kp.kx K0.out).trans K6.out⟩
theorem behind_all {s : ByteArray} {bol : Bool} {P : Nat} {M : Nat → Option Memo} {O : Nat → Prop} {base R B h : Nat} {low : Int} {NX : Int → Sp → List Turn → List Sp × List Turn} {p : Pt} (H : ∀ f, BehS s bol P M O base R B h low NX p f → BehS s bol P M O base R B h low NX p (f + 1)) : ∀ f, BehS s bol P M O base R B h low NX p f
 | 0 => fun _ _ _ _ _ _ _ _ _ hm => absurd hm (Nat.not_lt_zero _)
 | f + 1 => H f (behind_all H f)
end Go.Proofs.YtnajcnhgeggngaaGreat.Way

/-! ### Rep2 -/

namespace Go.Proofs.YtnajcnhgeggngaaGreat.Way
open Go.RowKit Go.Proofs.YtnajcnhgeggngaaGreat

structure BehD (s : ByteArray) (bol : Bool) (P : Nat) (M : Nat → Option Memo) (O : Nat → Prop) (base R B h : Nat) (zs : List Sp) (lv : Value) (sn : Option Nat) (w : World) (e : Ending) (w' : World) : Prop where
 ex : e = .returned (.tuple #[]) ∧ ∃ S' lv' pl' sn', RepW s bol P M O base R B h zs S' lv' pl' sn' w' ∧ Kx (fun b => M b ≠ none ∨ repB R B lv sn b) w w'
theorem bl_set8 {w : World} {B : Nat} {a0 a1 a2 a3 a4 a5 a6 a7 : Value} {t : TypeId} (h : w.heap[B]? = some (.cells #[a0, a1, a2, a3, a4, a5, a6, a7] t)) (x0 x1 x2 x3 x4 x5 x6 x7 : Value) :
  ((((((((w.setCell ⟨B, 0, none⟩ x0).setCell ⟨B, 1, none⟩ x1).setCell ⟨B, 2, none⟩ x2).setCell ⟨B, 3, none⟩ x3).setCell ⟨B, 4, none⟩ x4).setCell ⟨B, 5, none⟩ x5).setCell ⟨B, 6, none⟩ x6).setCell ⟨B, 7, none⟩ x7).heap[B]? = some (.cells #[x0, x1, x2, x3, x4, x5, x6, x7] t) := by
 have h0 : (w.setCell ⟨B, 0, none⟩ x0).heap[B]? = some (.cells #[x0, a1, a2, a3, a4, a5, a6, a7] t) := bl_put h x0
 have h1 : ((w.setCell ⟨B, 0, none⟩ x0).setCell ⟨B, 1, none⟩ x1).heap[B]? = some (.cells #[x0, x1, a2, a3, a4, a5, a6, a7] t) := bl_put h0 x1
 have h2 : (((w.setCell ⟨B, 0, none⟩ x0).setCell ⟨B, 1, none⟩ x1).setCell ⟨B, 2, none⟩ x2).heap[B]? = some (.cells #[x0, x1, x2, a3, a4, a5, a6, a7] t) := bl_put h1 x2
 have h3 : ((((w.setCell ⟨B, 0, none⟩ x0).setCell ⟨B, 1, none⟩ x1).setCell ⟨B, 2, none⟩ x2).setCell ⟨B, 3, none⟩ x3).heap[B]? = some (.cells #[x0, x1, x2, x3, a4, a5, a6, a7] t) := bl_put h2 x3
 have h4 : (((((w.setCell ⟨B, 0, none⟩ x0).setCell ⟨B, 1, none⟩ x1).setCell ⟨B, 2, none⟩ x2).setCell ⟨B, 3, none⟩ x3).setCell ⟨B, 4, none⟩ x4).heap[B]? = some (.cells #[x0, x1, x2, x3, x4, a5, a6, a7] t) := bl_put h3 x4
 have h5 : ((((((w.setCell ⟨B, 0, none⟩ x0).setCell ⟨B, 1, none⟩ x1).setCell ⟨B, 2, none⟩ x2).setCell ⟨B, 3, none⟩ x3).setCell ⟨B, 4, none⟩ x4).setCell ⟨B, 5, none⟩ x5).heap[B]? = some (.cells #[x0, x1, x2, x3, x4, x5, a6, a7] t) := bl_put h4 x5
 have h6 : (((((((w.setCell ⟨B, 0, none⟩ x0).setCell ⟨B, 1, none⟩ x1).setCell ⟨B, 2, none⟩ x2).setCell ⟨B, 3, none⟩ x3).setCell ⟨B, 4, none⟩ x4).setCell ⟨B, 5, none⟩ x5).setCell ⟨B, 6, none⟩ x6).heap[B]? = some (.cells #[x0, x1, x2, x3, x4, x5, x6, a7] t) := bl_put h5 x6
 have h7 : ((((((((w.setCell ⟨B, 0, none⟩ x0).setCell ⟨B, 1, none⟩ x1).setCell ⟨B, 2, none⟩ x2).setCell ⟨B, 3, none⟩ x3).setCell ⟨B, 4, none⟩ x4).setCell ⟨B, 5, none⟩ x5).setCell ⟨B, 6, none⟩ x6).setCell ⟨B, 7, none⟩ x7).heap[B]? = some (.cells #[x0, x1, x2, x3, x4, x5, x6, x7] t) := bl_put h6 x7
 exact h7
theorem ks_set8 {w : World} {B : Nat} (x0 x1 x2 x3 x4 x5 x6 x7 : Value) : Ks B w ((((((((w.setCell ⟨B, 0, none⟩ x0).setCell ⟨B, 1, none⟩ x1).setCell ⟨B, 2, none⟩ x2).setCell ⟨B, 3, none⟩ x3).setCell ⟨B, 4, none⟩ x4).setCell ⟨B, 5, none⟩ x5).setCell ⟨B, 6, none⟩ x6).setCell ⟨B, 7, none⟩ x7) :=
 (((((((((Ks.refl B w).set 0 x0).set 1 x1).set 2 x2).set 3 x3).set 4 x4).set 5 x5).set 6 x6).set 7 x7)
theorem wrep_any (s : ByteArray) (bol : Bool) (M : Nat → Option Memo) (O : Nat → Prop) (k low high nn : Int) (t : W4) (P : Nat) (kv : Value) (rd st h : Nat) (kn so : Option Nat) (hh : h < 8) (x : Sp) (w : World) (hP : w.heap[P]? = some (pto k low high nn t kv rd st h kn so)) (hM : MemOk M O w) (hO : ∀ b, O b → b < w.heap.size) (zs : List Sp)
  (HB : ∀ R B W1, Kp w W1 → w.heap.size ≤ R → w.heap.size ≤ B → RepW s bol P M O W1.heap.size R B h [] [] (.slice none 0 0) 0 none W1 → Calls Tryz.prog 110 #[.pointer (some ⟨R, 0, none⟩), .int .i64 0, spv x] W1 fun e w' => BehD s bol P M O W1.heap.size R B h zs (.slice none 0 0) none W1 e w') :
  Calls Tryz.prog 85 #[wkv s bol, ptv P, spv x] w fun e w' => WaysD zs (okB M O) (fun w' => Km M w w' ∧ MemOk M O w') e w' := by
 have HP := hid hP
 have HM := hid hM
 have HO := hid hO
 have HD := hid HB
 clear hP hM hO HB
 go_enter Tryz.func85, Tryz.ntmps85
 go_upto_region 1 with fail
 refine opq (fun W0 => W0.heap[w.heap.size]? = some (.cells #[.string s, .bool bol] 70) ∧ W0.heap[(w.heap.size + 1)]? = some (spo x) ∧ W0.heap[P]? = some (pto k low high nn t kv rd st h kn so) ∧ Kp w W0) ⟨by exact bl_alloc (last_of _ _) _, by exact last_at _ _ _ (by simp), by exact bl_kp HP.out kpt, by exact kpt⟩ ?_
 rintro W0 ⟨xT0, xX0, xP0, xK0⟩
 have T0 := hid xT0
 have X0 := hid xX0
 have P0 := hid xP0
 have K0 := hid xK0
 clear xT0 xX0 xP0 xK0
 clear HP
 go_cut [7] (fun v wc => ∃ R B, v = .pointer (some ⟨R, 0, none⟩) ∧ W0.heap.size ≤ R ∧ W0.heap.size ≤ B ∧ R ≠ B ∧ wc.heap[R]? = some (roB s bol P B h (.slice none 0 0) 0 none) ∧ TurnsAt wc B [] ∧ Kp W0 wc)
 case first =>
  have Q0 : Kp W0 W0.drew := (Kp.refl _).drew
  have MK : Hid (∀ W, Kp W0 W → W.cell? ⟨w.heap.size, 0, none⟩ = some (.string s) ∧ W.cell? ⟨w.heap.size, 1, none⟩ = some (.bool bol) ∧ W.cell? ⟨P, 11, none⟩ = some (.int .u8 (h : Int)) ∧ Hid (Kp W0 W)) := fun W k => ⟨bl_cell (bl_kp T0.out k) 0 _ rfl, bl_cell (bl_kp T0.out k) 1 _ rfl, bl_cell (bl_kp P0.out k) 11 _ rfl, k⟩
  refine wp_region_noPanic ?_
  refine hdrewZ 10 MK Q0 (fun hH => ?_)
  have KQ := Q0
  refine zk 10 0 [] (some 8) (Op.load 70 (Operand.tmp 3)) 70 (v := ?v0a1) rfl ?h0a1 hH ?_
  case h0a1 => intro _ _; go_simp; try with_reducible rfl
  try simp only [ps]
  refine zk 10 1 [] (some 9) (Op.move (Operand.tmp 1)) 71 (v := ?v1a2) rfl ?h1a2 hH ?_
  case h1a2 => intro _ _; go_simp; try with_reducible rfl
  try simp only [ps]
  refine zk 10 3 [] (some 11) (Op.move (Operand.tmp 1)) 71 (v := ?v3a3) rfl ?h3a3 hH ?_
  case h3a3 => intro _ _; go_simp; try with_reducible rfl
  try simp only [ps]
  refine zk 10 4 [] (some 12) (Op.nilCheck (Operand.tmp 11)) 0 (v := ?v4a4) rfl ?h4a4 hH ?_
  case h4a4 => intro _ _; go_simp; try with_reducible rfl
  try simp only [ps]
  refine zk 10 5 [] (some 13) (Op.fieldAddr 130 (Operand.tmp 12) 7) 0 (v := ?v5a5) rfl ?h5a5 hH ?_
  case h5a5 => intro _ _; go_simp; try with_reducible rfl
  try simp only [ps]
  refine zk 10 6 [] (some 14) (Op.load 75 (Operand.tmp 13)) 75 (v := ?v6a6) rfl ?h6a6 hH ?_
  case h6a6 => intro _ _; go_simp; try with_reducible rfl
  try simp only [ps]
  refine zk 10 7 [] (some 15) (Op.build 177 #[(0, Operand.tmp 14)]) 177 (v := ?v7a7) rfl ?h7a7 hH ?_
  case h7a7 => intro _ _; go_simp; try with_reducible rfl
  try simp only [ps]
  refine anyZ_ready (rs := [2, 9]) (by kernel_rfl) (by simp) ?_
  refine AllZ.cons (o := { dst := some 10, op := Op.makeMap 180 none, type := 180, pos := "repeat.go:21", after := #[], guard := none }) rfl (fun K hKq => ?_) ?_
  ·
   go_simp
   change K _ ((W0.alloc (.map #[] 0)).drew)
   obtain ⟨U1, hU1⟩ : ∃ U, W0.alloc (.map #[] 0) = U := ⟨_, rfl⟩
   have k1 : Kp W0 U1 := by rw [← hU1]; exact (Kp.refl W0).alloc _
   have ky1 : Kp W0 U1 := by rw [← hU1]; exact (Kp.refl _).alloc _
   have MB1 : Hid (TurnsAt U1 W0.heap.size []) := by rw [← hU1]; exact TurnsAt.made _
   rw [hU1]
   clear hU1 ky1
   refine hKq.out _ _ (MK.out _ k1.drew) (fun hN => ?_)
   clear hKq K hH KQ
   have hH := hN
   clear hN
   have KQ := hH.2.2.2.out
   try simp only [ps]
   refine zk 10 8 [] (some 16) (Op.build 182 #[(0, Operand.tmp 8), (1, Operand.tmp 9), (2, Operand.tmp 10), (3, Operand.tmp 15)]) 182 (v := ?v8a8) rfl ?h8a8 hH ?_
   case h8a8 => intro _ _; go_simp; try with_reducible rfl
   try simp only [ps]
   refine anyZ_ready (rs := [9]) (by kernel_rfl) (by simp) ?_
   refine AllZ.cons (o := { dst := some 7, op := Op.alloc 182, type := 0, pos := "repeat.go:21", after := #[], guard := none }) rfl (fun K hKq => ?_) AllZ.nil
   go_simp
   change K _ ((U1.alloc (.cells #[.string ⟨#[]⟩, .bool false, .pointer none, .map none, .int .u8 0, .slice none 0 0, .int .u64 0, .map none] 182)).drew)
   obtain ⟨U2, hU2⟩ : ∃ U, U1.alloc (.cells #[.string ⟨#[]⟩, .bool false, .pointer none, .map none, .int .u8 0, .slice none 0 0, .int .u64 0, .map none] 182) = U := ⟨_, rfl⟩
   have k2 : Kp W0 U2 := by rw [← hU2]; exact k1.alloc _
   have ky2 : Kp U1 U2 := by rw [← hU2]; exact (Kp.refl _).alloc _
   have KC2 : Hid (U2.heap[U1.heap.size]? = some (.cells #[.string ⟨#[]⟩, .bool false, .pointer none, .map none, .int .u8 0, .slice none 0 0, .int .u64 0, .map none] 182)) := by rw [← hU2]; exact last_of _ _
   have MB2 : Hid (TurnsAt U2 W0.heap.size []) := MB1.out.same (ky2.block _ MB1.out.lt)
   rw [hU2]
   clear hU2 ky2
   refine hKq.out _ _ (MK.out _ k2.drew) (fun hN => ?_)
   clear hKq K hH KQ
   have hH := hN
   clear hN
   have KQ := hH.2.2.2.out
   try simp only [ps]
   refine anyZ_ready (rs := [10]) (by kernel_rfl) (by simp) ?_
   refine AllZ.last (o := { dst := none, op := Op.store 182 (Operand.tmp 7) (Operand.tmp 16), type := 0, pos := "repeat.go:21", after := #[{ on := 9, ground := Ground.data }, { on := 8, ground := Ground.data }, { on := 0, ground := Ground.phase }, { on := 1, ground := Ground.phase }, { on := 2, ground := Ground.phase }, { on := 3, ground := Ground.phase }, { on := 4, ground := Ground.phase }, { on := 5, ground := Ground.phase }, { on := 6, ground := Ground.phase }, { on := 7, ground := Ground.phase }, { on := 8, ground := Ground.phase }, { on := 9, ground := Ground.phase }], guard := none }) rfl (Or.inl rfl) (fun K hKq => ?_) AllZ.nil
   have hne : U1.heap.size ≠ W0.heap.size := by have := MB1.out.lt; omega
   obtain ⟨q0, fq0, q1, fq1, q2, fq2, q3, fq3, q4, fq4, q5, fq5, q6, fq6, q7, fq7⟩ := cellf8 (KC2.out)
   go_simp
   refine hKq.out _ _ ?_
   clear q0 fq0 q1 fq1 q2 fq2 q3 fq3 q4 fq4 q5 fq5 q6 fq6 q7 fq7
   clear hKq K
   try simp only [ps]
   refine anyZ_done (by kernel_rfl) ?_ _
   refine NoPanic.normal ?_
   go_wp2_with fail
   go_meet
   case rel => exact ⟨U1.heap.size, W0.heap.size, rfl, k1.size, Nat.le_refl _, hne, bl_drew (bl_set8 KC2.out _ _ _ _ _ _ _ _), MB2.out.same ((ks_set8 (B := U1.heap.size) _ _ _ _ _ _ _ _).drew.block _ MB2.out.lt hne.symm), Ks.up (ks_set8 (B := U1.heap.size) _ _ _ _ _ _ _ _).drew k2 (k1.size)⟩
  refine AllZ.cons (o := { dst := some 7, op := Op.alloc 182, type := 0, pos := "repeat.go:21", after := #[], guard := none }) rfl (fun K hKq => ?_) ?_
  ·
   go_simp
   change K _ ((W0.alloc (.cells #[.string ⟨#[]⟩, .bool false, .pointer none, .map none, .int .u8 0, .slice none 0 0, .int .u64 0, .map none] 182)).drew)
   obtain ⟨U1, hU1⟩ : ∃ U, W0.alloc (.cells #[.string ⟨#[]⟩, .bool false, .pointer none, .map none, .int .u8 0, .slice none 0 0, .int .u64 0, .map none] 182) = U := ⟨_, rfl⟩
   have k1 : Kp W0 U1 := by rw [← hU1]; exact (Kp.refl W0).alloc _
   have ky1 : Kp W0 U1 := by rw [← hU1]; exact (Kp.refl _).alloc _
   have KC1 : Hid (U1.heap[W0.heap.size]? = some (.cells #[.string ⟨#[]⟩, .bool false, .pointer none, .map none, .int .u8 0, .slice none 0 0, .int .u64 0, .map none] 182)) := by rw [← hU1]; exact last_of _ _
   rw [hU1]
   clear hU1 ky1
   refine hKq.out _ _ (MK.out _ k1.drew) (fun hN => ?_)
   clear hKq K hH KQ
   have hH := hN
   clear hN
   have KQ := hH.2.2.2.out
   try simp only [ps]
   refine anyZ_ready (rs := [2]) (by kernel_rfl) (by simp) ?_
   refine AllZ.cons (o := { dst := some 10, op := Op.makeMap 180 none, type := 180, pos := "repeat.go:21", after := #[], guard := none }) rfl (fun K hKq => ?_) AllZ.nil
   go_simp
   change K _ ((U1.alloc (.map #[] 0)).drew)
   obtain ⟨U2, hU2⟩ : ∃ U, U1.alloc (.map #[] 0) = U := ⟨_, rfl⟩
   have k2 : Kp W0 U2 := by rw [← hU2]; exact k1.alloc _
   have ky2 : Kp U1 U2 := by rw [← hU2]; exact (Kp.refl _).alloc _
   have MB2 : Hid (TurnsAt U2 U1.heap.size []) := by rw [← hU2]; exact TurnsAt.made _
   have KC2 : Hid (U2.heap[W0.heap.size]? = some (.cells #[.string ⟨#[]⟩, .bool false, .pointer none, .map none, .int .u8 0, .slice none 0 0, .int .u64 0, .map none] 182)) := bl_kp KC1.out ky2
   rw [hU2]
   clear hU2 ky2
   refine hKq.out _ _ (MK.out _ k2.drew) (fun hN => ?_)
   clear hKq K hH KQ
   have hH := hN
   clear hN
   have KQ := hH.2.2.2.out
   try simp only [ps]
   refine zk 10 8 [] (some 16) (Op.build 182 #[(0, Operand.tmp 8), (1, Operand.tmp 9), (2, Operand.tmp 10), (3, Operand.tmp 15)]) 182 (v := ?v8a9) rfl ?h8a9 hH ?_
   case h8a9 => intro _ _; go_simp; try with_reducible rfl
   try simp only [ps]
   refine anyZ_ready (rs := [10]) (by kernel_rfl) (by simp) ?_
   refine AllZ.last (o := { dst := none, op := Op.store 182 (Operand.tmp 7) (Operand.tmp 16), type := 0, pos := "repeat.go:21", after := #[{ on := 9, ground := Ground.data }, { on := 8, ground := Ground.data }, { on := 0, ground := Ground.phase }, { on := 1, ground := Ground.phase }, { on := 2, ground := Ground.phase }, { on := 3, ground := Ground.phase }, { on := 4, ground := Ground.phase }, { on := 5, ground := Ground.phase }, { on := 6, ground := Ground.phase }, { on := 7, ground := Ground.phase }, { on := 8, ground := Ground.phase }, { on := 9, ground := Ground.phase }], guard := none }) rfl (Or.inl rfl) (fun K hKq => ?_) AllZ.nil
   have hne : W0.heap.size ≠ U1.heap.size := by have := bl_lt KC1.out; omega
   obtain ⟨q0, fq0, q1, fq1, q2, fq2, q3, fq3, q4, fq4, q5, fq5, q6, fq6, q7, fq7⟩ := cellf8 (KC2.out)
   go_simp
   refine hKq.out _ _ ?_
   clear q0 fq0 q1 fq1 q2 fq2 q3 fq3 q4 fq4 q5 fq5 q6 fq6 q7 fq7
   clear hKq K
   try simp only [ps]
   refine anyZ_done (by kernel_rfl) ?_ _
   refine NoPanic.normal ?_
   go_wp2_with fail
   go_meet
   case rel => exact ⟨W0.heap.size, U1.heap.size, rfl, Nat.le_refl _, k1.size, hne, bl_drew (bl_set8 KC2.out _ _ _ _ _ _ _ _), MB2.out.same ((ks_set8 (B := W0.heap.size) _ _ _ _ _ _ _ _).drew.block _ MB2.out.lt hne.symm), Ks.up (ks_set8 (B := W0.heap.size) _ _ _ _ _ _ _ _).drew k2 (Nat.le_refl _)⟩
  exact AllZ.nil
 case rest =>
 obtain ⟨R, B, rfl, hR, hB, hne, hb, ht, hk⟩ := hcut
 rename World => W1
 have K1 := hid (K0.out.trans hk)
 have HR := hid (Nat.le_trans K0.out.size hR)
 have HBb := hid (Nat.le_trans K0.out.size hB)
 have RW := hid (RepW.new HM.out hh (K0.out.trans hk) (Nat.le_trans K0.out.size hR) (Nat.le_trans K0.out.size hB) hne hb ht)
 have X1 := hid (bl_kp X0.out hk)
 clear hR hB hne hb ht hk hh T0 X0 P0 K0
 obtain ⟨x0, x1, x2, x3, x4, x5, x6⟩ := cells7 (X1.out)
 go_wp2_with fail
 clear x0 x1 x2 x3 x4 x5 x6
 refine (HD.out R B W1 K1.out HR.out HBb.out RW.out).mono ?_
 rintro e y hd
 obtain ⟨rfl, S', lv', pl', sn', hr, hk⟩ := hd.ex
 have RC := hid hr
 have KC := hid hk
 clear hd hr hk
 have r5 := bl_cell (RC.out.b) 5 _ rfl
 go_wp2_with fail
 go_ret
 exact ⟨_, rfl, RC.out.spl (fun b o => Nat.lt_of_lt_of_le (HO.out b o) K1.out.size), Kx.past2 (S := fun b => M b ≠ none) (Kp.kx K1.out) KC.out (fun b hb e => by
  rcases e with e | (e | e | e) | e
  ·
   exact e
  ·
   have := HR.out; omega
  ·
   cases e
  ·
   cases e
  ·
   have := HBb.out; omega), RC.out.mem⟩
end Go.Proofs.YtnajcnhgeggngaaGreat.Way

/-! ### Found -/

namespace Go.Proofs.YtnajcnhgeggngaaGreat.Way
open Go.RowKit Go.Proofs.YtnajcnhgeggngaaGreat

structure FQ (Q : Ending → World → Prop) (e : Ending) (w' : World) : Prop where
 q : Q e w'
theorem found3_any (s : ByteArray) (bol : Bool) (low high n : Int) (t : W4) (P : Nat) (kv : Value) (rd st h : Nat) (kn so : Option Nat) (x : Sp) (w : World) (hP : w.heap[P]? = some (pto 3 low high n t kv rd st h kn so)) (Q : Ending → World → Prop) (HC : ∀ W, Kp w W → Calls Tryz.prog 83 #[wkv s bol, ptv P, spv x] W fun e w' => Q e w' ∧ ∃ v, e = .returned v) :
  Calls Tryz.prog 54 #[wkv s bol, ptv P, spv x] w fun e w' => FQ Q e w' := by
 have HP := hid hP
 have HD := hid HC
 clear hP HC
 go_enter Tryz.func54, Tryz.ntmps54
 go_upto_region 1 with fail
 refine opq (fun W0 => W0.heap[w.heap.size]? = some (.cells #[.string s, .bool bol] 70) ∧ W0.heap[(w.heap.size + 1)]? = some (spo x) ∧ W0.heap[P]? = some (pto 3 low high n t kv rd st h kn so) ∧ Kp w W0) ⟨by exact bl_alloc (last_of _ _) _, by exact last_at _ _ _ (by simp), by exact bl_kp HP.out kpt, by exact kpt⟩ ?_
 rintro W0 ⟨xT0, xX0, xP0, xK0⟩
 have T0 := hid xT0
 have X0 := hid xX0
 have P0 := hid xP0
 have K0 := hid xK0
 clear xT0 xX0 xP0 xK0
 have b0 := bl_cell (T0.out) 0 _ rfl
 have b1 := bl_cell (T0.out) 1 _ rfl
 obtain ⟨x0, x1, x2, x3, x4, x5, x6⟩ := cells7 (X0.out)
 obtain ⟨p0, p1, p2, p3, p4, p5, p6, p7, p8, p9, p10, p11, p12, p13⟩ := cells14 (P0.out)
 go_wp2_with fail
 refine (HD.out W0 K0.out).mono ?_
 rintro e y ⟨hq, v, rfl⟩
 have HQ := hid hq
 clear hq b0 b1 x0 x1 x2 x3 x4 x5 x6 p0 p1 p2 p3 p4 p5 p6 p7 p8 p9 p10 p11 p12 p13
 go_wp2_with fail
 go_ret
 exact ⟨HQ.out⟩
theorem found5_any (s : ByteArray) (bol : Bool) (low high n : Int) (t : W4) (P : Nat) (kv : Value) (rd st h : Nat) (kn so : Option Nat) (x : Sp) (w : World) (hP : w.heap[P]? = some (pto 5 low high n t kv rd st h kn so)) (Q : Ending → World → Prop) (HC : ∀ W, Kp w W → Calls Tryz.prog 84 #[wkv s bol, ptv P, spv x] W fun e w' => Q e w' ∧ ∃ v, e = .returned v) :
  Calls Tryz.prog 54 #[wkv s bol, ptv P, spv x] w fun e w' => FQ Q e w' := by
 have HP := hid hP
 have HD := hid HC
 clear hP HC
 go_enter Tryz.func54, Tryz.ntmps54
 go_upto_region 1 with fail
 refine opq (fun W0 => W0.heap[w.heap.size]? = some (.cells #[.string s, .bool bol] 70) ∧ W0.heap[(w.heap.size + 1)]? = some (spo x) ∧ W0.heap[P]? = some (pto 5 low high n t kv rd st h kn so) ∧ Kp w W0) ⟨by exact bl_alloc (last_of _ _) _, by exact last_at _ _ _ (by simp), by exact bl_kp HP.out kpt, by exact kpt⟩ ?_
 rintro W0 ⟨xT0, xX0, xP0, xK0⟩
 have T0 := hid xT0
 have X0 := hid xX0
 have P0 := hid xP0
 have K0 := hid xK0
 clear xT0 xX0 xP0 xK0
 have b0 := bl_cell (T0.out) 0 _ rfl
 have b1 := bl_cell (T0.out) 1 _ rfl
 obtain ⟨x0, x1, x2, x3, x4, x5, x6⟩ := cells7 (X0.out)
 obtain ⟨p0, p1, p2, p3, p4, p5, p6, p7, p8, p9, p10, p11, p12, p13⟩ := cells14 (P0.out)
 go_wp2_with fail
 refine (HD.out W0 K0.out).mono ?_
 rintro e y ⟨hq, v, rfl⟩
 have HQ := hid hq
 clear hq b0 b1 x0 x1 x2 x3 x4 x5 x6 p0 p1 p2 p3 p4 p5 p6 p7 p8 p9 p10 p11 p12 p13
 go_wp2_with fail
 go_ret
 exact ⟨HQ.out⟩
theorem found4_any (s : ByteArray) (bol : Bool) (low high n : Int) (t : W4) (P : Nat) (kv : Value) (rd st h : Nat) (kn so : Option Nat) (x : Sp) (w : World) (hP : w.heap[P]? = some (pto 4 low high n t kv rd st h kn so)) (Q : Ending → World → Prop) (HC : ∀ W, Kp w W → Calls Tryz.prog 85 #[wkv s bol, ptv P, spv x] W fun e w' => Q e w' ∧ ∃ v, e = .returned v) :
  Calls Tryz.prog 54 #[wkv s bol, ptv P, spv x] w fun e w' => FQ Q e w' := by
 have HP := hid hP
 have HD := hid HC
 clear hP HC
 go_enter Tryz.func54, Tryz.ntmps54
 go_upto_region 1 with fail
 refine opq (fun W0 => W0.heap[w.heap.size]? = some (.cells #[.string s, .bool bol] 70) ∧ W0.heap[(w.heap.size + 1)]? = some (spo x) ∧ W0.heap[P]? = some (pto 4 low high n t kv rd st h kn so) ∧ Kp w W0) ⟨by exact bl_alloc (last_of _ _) _, by exact last_at _ _ _ (by simp), by exact bl_kp HP.out kpt, by exact kpt⟩ ?_
 rintro W0 ⟨xT0, xX0, xP0, xK0⟩
 have T0 := hid xT0
 have X0 := hid xX0
 have P0 := hid xP0
 have K0 := hid xK0
 clear xT0 xX0 xP0 xK0
 have b0 := bl_cell (T0.out) 0 _ rfl
 have b1 := bl_cell (T0.out) 1 _ rfl
 obtain ⟨x0, x1, x2, x3, x4, x5, x6⟩ := cells7 (X0.out)
 obtain ⟨p0, p1, p2, p3, p4, p5, p6, p7, p8, p9, p10, p11, p12, p13⟩ := cells14 (P0.out)
 go_wp2_with fail
 refine (HD.out W0 K0.out).mono ?_
 rintro e y ⟨hq, v, rfl⟩
 have HQ := hid hq
 clear hq b0 b1 x0 x1 x2 x3 x4 x5 x6 p0 p1 p2 p3 p4 p5 p6 p7 p8 p9 p10 p11 p12 p13
 go_wp2_with fail
 go_ret
 exact ⟨HQ.out⟩
theorem found2_any (s : ByteArray) (bol : Bool) (M : Nat → Option Memo) (O : Nat → Prop) (low high n : Int) (t : W4) (P : Nat) (kv : Value) (rd st h : Nat) (kn so : Option Nat) (x : Sp) (w : World) (hP : w.heap[P]? = some (pto 2 low high n t kv rd st h kn so)) (hMP : M P = none) (hM : MemOk M O w) (zs : List Sp) (HC : ∀ W, Kp w W → Calls Tryz.prog 82 #[wkv s bol, kv, spv x] W fun e w' => WaysD zs (okB M O) (fun w' => Km M W w' ∧ MemOk M O w') e w') :
  Calls Tryz.prog 54 #[wkv s bol, ptv P, spv x] w fun e w' => WaysD zs (okB M O) (fun w' => Km M w w' ∧ MemOk M O w') e w' := by
 have HP := hid hP
 have HD := hid HC
 have HMP := hid (show ¬ M P ≠ none from fun e => e hMP)
 have HMT := hid (show ¬ M w.heap.size ≠ none from fun e => e (hM.lt (Nat.le_refl _)))
 have HMX := hid (show ¬ M (w.heap.size + 1) ≠ none from fun e => e (hM.lt (Nat.le_succ _)))
 clear hP HC hMP hM
 go_enter Tryz.func54, Tryz.ntmps54
 go_upto_region 1 with fail
 refine opq (fun W0 => W0.heap[w.heap.size]? = some (.cells #[.string s, .bool bol] 70) ∧ W0.heap[(w.heap.size + 1)]? = some (spo x) ∧ W0.heap[P]? = some (pto 2 low high n t kv rd st h kn so) ∧ Kp w W0) ⟨by exact bl_alloc (last_of _ _) _, by exact last_at _ _ _ (by simp), by exact bl_kp HP.out kpt, by exact kpt⟩ ?_
 rintro W0 ⟨xT0, xX0, xP0, xK0⟩
 have T0 := hid xT0
 have X0 := hid xX0
 have P0 := hid xP0
 have K0 := hid xK0
 clear xT0 xX0 xP0 xK0
 obtain ⟨p0, p1, p2, p3, p4, p5, p6, p7, p8, p9, p10, p11, p12, p13⟩ := cells14 (P0.out)
 have Q1 := hid ((Kp.refl W0).drew)
 go_upto_region 3 with fail
 clear p0 p1 p2 p3 p4 p5 p6 p7 p8 p9 p10 p11 p12 p13
 have Q0 : Kx (fun b => M b ≠ none) W0 W0.drew := (Kx.refl _ _).drew
 have MK : Hid (∀ W, Kx (fun b => M b ≠ none) W0 W → W.cell? ⟨w.heap.size, 0, none⟩ = some (.string s) ∧ W.cell? ⟨w.heap.size, 1, none⟩ = some (.bool bol) ∧ W.cell? ⟨(w.heap.size + 1), 0, none⟩ = some (.int .i8 x.a) ∧ W.cell? ⟨(w.heap.size + 1), 1, none⟩ = some (.int .i8 x.f0) ∧ W.cell? ⟨(w.heap.size + 1), 2, none⟩ = some (.int .i8 x.t0) ∧ W.cell? ⟨(w.heap.size + 1), 3, none⟩ = some (.int .i8 x.f1) ∧ W.cell? ⟨(w.heap.size + 1), 4, none⟩ = some (.int .i8 x.t1) ∧ W.cell? ⟨(w.heap.size + 1), 5, none⟩ = some (.int .i8 x.f2) ∧ W.cell? ⟨(w.heap.size + 1), 6, none⟩ = some (.int .i8 x.t2) ∧ W.cell? ⟨P, 8, none⟩ = some (kv) ∧ Hid (Kx (fun b => M b ≠ none) W0 W)) := fun W k => ⟨bl_cell (bl_kx T0.out k HMT.out) 0 _ rfl, bl_cell (bl_kx T0.out k HMT.out) 1 _ rfl, bl_cell (bl_kx X0.out k HMX.out) 0 _ rfl, bl_cell (bl_kx X0.out k HMX.out) 1 _ rfl, bl_cell (bl_kx X0.out k HMX.out) 2 _ rfl, bl_cell (bl_kx X0.out k HMX.out) 3 _ rfl, bl_cell (bl_kx X0.out k HMX.out) 4 _ rfl, bl_cell (bl_kx X0.out k HMX.out) 5 _ rfl, bl_cell (bl_kx X0.out k HMX.out) 6 _ rfl, bl_cell (bl_kx P0.out k HMP.out) 8 _ rfl, k⟩
 refine wp_region_noPanic ?_
 refine hdrew MK Q0 (fun hH => ?_)
 have KQ := Q0
 refine tk 0 (some 13) (Op.load 70 (Operand.tmp 3)) 70 (v := ?v0a1) rfl ?h0a1 hH ?_
 case h0a1 => intro _ _; go_simp; try with_reducible rfl
 try simp only [ps]
 refine tk 1 (some 14) (Op.move (Operand.tmp 1)) 71 (v := ?v1a2) rfl ?h1a2 hH ?_
 case h1a2 => intro _ _; go_simp; try with_reducible rfl
 try simp only [ps]
 refine tk 2 (some 15) (Op.nilCheck (Operand.tmp 14)) 0 (v := ?v2a3) rfl ?h2a3 hH ?_
 case h2a3 => intro _ _; go_simp; try with_reducible rfl
 try simp only [ps]
 refine tk 3 (some 16) (Op.fieldAddr 130 (Operand.tmp 15) 5) 0 (v := ?v3a4) rfl ?h3a4 hH ?_
 case h3a4 => intro _ _; go_simp; try with_reducible rfl
 try simp only [ps]
 refine tk 4 (some 17) (Op.load 124 (Operand.tmp 16)) 124 (v := ?v4a5) rfl ?h4a5 hH ?_
 case h4a5 => intro _ _; go_simp; try with_reducible rfl
 try simp only [ps]
 refine tk 5 (some 18) (Op.load 83 (Operand.tmp 5)) 83 (v := ?v5a6) rfl ?h5a6 hH ?_
 case h5a6 => intro _ _; go_simp; try with_reducible rfl
 try simp only [ps]
 refine wpAnyH_ready (rs := [6]) (by kernel_rfl) (by simp) ?_
 refine AllReadyH.cons (o := { dst := some 19, op := Op.call { callee := Callee.value (Operand.func 82), args := #[Operand.tmp 13, Operand.tmp 17, Operand.tmp 18], argTypes := #[70, 124, 83] }, type := 68, pos := "walk.go:40", after := #[{ on := 0, ground := Ground.data }, { on := 4, ground := Ground.data }, { on := 5, ground := Ground.data }], guard := none }) rfl (fun K hKq => ?_) AllReadyH.nil
 go_simp
 refine (HD.out _ (K0.out.trans Q1.out)).mono ?_
 rintro e y ⟨⟨v, rfl, hv, hk, hm⟩⟩
 have HV := hid hv
 have HK2 := hid hk
 have HM2 := hid hm
 clear hv hk hm
 refine hKq.out _ _ (MK.out _ ((Kp.kx Q1.out).trans HK2.out)) (fun hN => ?_)
 clear hKq K hH KQ
 have hH := hN
 clear hN
 have KQ := hH.2.2.2.2.2.2.2.2.2.2.out
 try simp only [ps]
 refine tk 7 (some 6) (Op.assign (Operand.tmp 19)) 68 (v := ?v7a7) rfl ?h7a7 hH ?_
 case h7a7 => intro _ _; go_simp; try with_reducible rfl
 try simp only [ps]
 refine wpAnyH_done (by kernel_rfl) ?_ _
 refine NoPanic.normal ?_
 go_wp2_with fail
 go_ret
 exact ⟨_, rfl, HV.out, (Kp.kx (K0.out.trans Q1.out)).trans HK2.out, HM2.out⟩
end Go.Proofs.YtnajcnhgeggngaaGreat.Way

/-! ### Group -/

namespace Go.Proofs.YtnajcnhgeggngaaGreat.Way
open Go.RowKit Go.Proofs.YtnajcnhgeggngaaGreat

theorem Sp.Ok.put {n : Int} {x y : Sp} (hx : x.Ok) (hn : n = 1 ∨ n = 2 ∨ n = 3) (hy : y.Ok) (hxy : x.a ≤ y.a) : (y.put n x.a y.a).Ok := by
 have h1 := hx.a0
 have h2 := hy.a1
 have hs : Spn x.a y.a := Or.inr ⟨by omega, by omega, by omega⟩
 rcases hn with rfl | rfl | rfl
 ·
  exact ⟨hy.a0, hy.a1, hs, hy.s1, hy.s2⟩
 ·
  exact ⟨hy.a0, hy.a1, hy.s0, hs, hy.s2⟩
 ·
  exact ⟨hy.a0, hy.a1, hy.s0, hy.s1, hs⟩
theorem wgroup1_any (s : ByteArray) (bol : Bool) (_ : s.size ≤ 60) (M : Nat → Option Memo) (k low high : Int) (t : W4) (P : Nat) (kn so : Option Nat) (rd st h : Nat) (kid : Pt) (ks : List Pt) (HS : WSaid s bol M kid) (O : Nat → Prop) (x : Sp) (hx : x.Ok) (hN : x.In s.size) (w : World) (hO : ∀ b, O b → b < w.heap.size) (hM : MemOk M O w) (hP : PtAt w (okB M O) (.mk k low high 1 t P kn so rd st h (kid :: ks))) :
  Calls Tryz.prog 84 #[wkv s bol, ptv P, spv x] w fun e w' => WaysD ((ways s.data.toList bol kid x).map (fun y => y.put 1 x.a y.a)) (okB M O) (fun w' => Km M w w' ∧ MemOk M O w') e w' := by
 unfold PtAt at hP
 obtain ⟨hok, ⟨ad, c, hblk, hcap, hat⟩, hpts⟩ := hP
 unfold PtsAt at hpts
 obtain ⟨L, hL⟩ : ∃ L, (kid :: ks).length = L := ⟨_, rfl⟩
 have hL0 : 0 < L := by rw [← hL]; simp
 obtain ⟨bb, rfl, hbok, hbl, hce⟩ := hat (by simp)
 rw [hL] at hblk hcap
 have HKID := hid hpts.1
 have CBw := hid (hce 0 kid rfl)
 have HBLw := hid hbl
 have HMB := hid (show ¬ M bb ≠ none from fun e => e hbok.2)
 have HMP := hid (show ¬ M P ≠ none from fun e => e hok.2)
 have HX := hid hx
 have HN := hid hN
 have HO := hid hO
 have HM := hid hM
 have HP := hid hblk
 have HGD := hid (HS.good x hx hN)
 have WSw := hid (fun (W : World) (k0 : Kp w W) => HS.all O x W hx hN (fun b hb => Nat.lt_of_lt_of_le (hO b hb) k0.size) (hpts.1.kp k0) (hM.keep (S := fun _ => False) (Kp.kx k0) (fun _ _ e => e.elim) (fun _ _ e => e) hM.own))
 obtain ⟨zs, hzs⟩ : ∃ zs, ways s.data.toList bol kid x = zs := ⟨_, rfl⟩
 have hfew := HS.few x hx hN
 rw [hzs] at WSw HGD hfew ⊢
 obtain ⟨Z, hZ⟩ : ∃ Z, zs.length = Z := ⟨_, rfl⟩
 have HZL := hid hZ
 rw [hZ] at hfew
 have HZF := hid hfew
 clear hok hblk hat hpts hL hbok hbl hce hx hN hO hM HS hzs hZ hfew
 go_enter Tryz.func84, Tryz.ntmps84
 go_upto_region 2 with fail
 refine opq (fun W0 => W0.heap[w.heap.size]? = some (.cells #[.string s, .bool bol] 70) ∧ W0.heap[(w.heap.size + 1)]? = some (spo x) ∧ W0.heap[P]? = some (pto k low high 1 t (.slice (some ⟨bb, 0, none⟩) L c) rd st h kn so) ∧ Kp w W0) ⟨by exact bl_alloc (last_of _ _) _, by exact last_at _ _ _ (by simp), by exact bl_kp HP.out kpt, by exact kpt⟩ ?_
 rintro W0 ⟨xT0, xX0, xP0, xK0⟩
 have T0 := hid xT0
 have X0 := hid xX0
 have P0 := hid xP0
 have K0 := hid xK0
 clear xT0 xX0 xP0 xK0
 have CB := hid ((cell_same (K0.out.block _ HBLw.out) _).trans CBw.out)
 have HBL := hid (Nat.lt_of_lt_of_le HBLw.out K0.out.size)
 have WS := hid (fun (W : World) (k : Kp W0 W) => WSw.out W (K0.out.trans k))
 have HMT := hid (show ¬ M w.heap.size ≠ none from fun e => e (HM.out.lt (Nat.le_refl _)))
 have HMX := hid (show ¬ M (w.heap.size + 1) ≠ none from fun e => e (HM.out.lt (Nat.le_succ _)))
 have Q1 := hid (((Kp.refl W0).drew))
 clear CBw HBLw WSw HP
 go_cut [18, 19, 20] (fun v l i wc => ∃ ad2 c2, v = .slice ad2 Z c2 ∧ l = .int .i64 (Z : Int) ∧ i = .int .i64 0 ∧ Z ≤ c2 ∧ SpL wc (okB M O) (.slice ad2 Z c2) zs ∧ Kx (fun b => M b ≠ none) W0 wc ∧ MemOk M O wc)
 case first =>
  have Q0 : Kx (fun b => M b ≠ none) W0 W0.drew := (Kx.refl _ _).drew
  have MK : Hid (∀ W, Kx (fun b => M b ≠ none) W0 W → W.cell? ⟨w.heap.size, 0, none⟩ = some (.string s) ∧ W.cell? ⟨w.heap.size, 1, none⟩ = some (.bool bol) ∧ W.cell? ⟨(w.heap.size + 1), 0, none⟩ = some (.int .i8 x.a) ∧ W.cell? ⟨(w.heap.size + 1), 1, none⟩ = some (.int .i8 x.f0) ∧ W.cell? ⟨(w.heap.size + 1), 2, none⟩ = some (.int .i8 x.t0) ∧ W.cell? ⟨(w.heap.size + 1), 3, none⟩ = some (.int .i8 x.f1) ∧ W.cell? ⟨(w.heap.size + 1), 4, none⟩ = some (.int .i8 x.t1) ∧ W.cell? ⟨(w.heap.size + 1), 5, none⟩ = some (.int .i8 x.f2) ∧ W.cell? ⟨(w.heap.size + 1), 6, none⟩ = some (.int .i8 x.t2) ∧ W.cell? ⟨P, 8, none⟩ = some (.slice (some ⟨bb, 0, none⟩) L c) ∧ W.cell? ⟨bb, 0, none⟩ = some (ptv kid.P) ∧ Hid (Kx (fun b => M b ≠ none) W0 W)) := fun W k => ⟨bl_cell (bl_kx T0.out k HMT.out) 0 _ rfl, bl_cell (bl_kx T0.out k HMT.out) 1 _ rfl, bl_cell (bl_kx X0.out k HMX.out) 0 _ rfl, bl_cell (bl_kx X0.out k HMX.out) 1 _ rfl, bl_cell (bl_kx X0.out k HMX.out) 2 _ rfl, bl_cell (bl_kx X0.out k HMX.out) 3 _ rfl, bl_cell (bl_kx X0.out k HMX.out) 4 _ rfl, bl_cell (bl_kx X0.out k HMX.out) 5 _ rfl, bl_cell (bl_kx X0.out k HMX.out) 6 _ rfl, bl_cell (bl_kx P0.out k HMP.out) 8 _ rfl, (cell_same (k.block _ HBL.out HMB.out) _).trans CB.out, k⟩
  refine wp_region_noPanic ?_
  refine hdrew MK Q0 (fun hH => ?_)
  have KQ := Q0
  refine tk 0 (some 10) (Op.load 70 (Operand.tmp 3)) 70 (v := ?v0a1) rfl ?h0a1 hH ?_
  case h0a1 => intro _ _; go_simp; try with_reducible rfl
  try simp only [ps]
  refine tk 1 (some 11) (Op.move (Operand.tmp 1)) 71 (v := ?v1a2) rfl ?h1a2 hH ?_
  case h1a2 => intro _ _; go_simp; try with_reducible rfl
  try simp only [ps]
  refine tk 2 (some 12) (Op.nilCheck (Operand.tmp 11)) 0 (v := ?v2a3) rfl ?h2a3 hH ?_
  case h2a3 => intro _ _; go_simp; try with_reducible rfl
  try simp only [ps]
  refine tk 3 (some 13) (Op.fieldAddr 130 (Operand.tmp 12) 5) 0 (v := ?v3a4) rfl ?h3a4 hH ?_
  case h3a4 => intro _ _; go_simp; try with_reducible rfl
  try simp only [ps]
  refine tk 4 (some 14) (Op.load 124 (Operand.tmp 13)) 124 (v := ?v4a5) rfl ?h4a5 hH ?_
  case h4a5 => intro _ _; go_simp; try with_reducible rfl
  try simp only [ps]
  refine tk 5 (some 15) (Op.indexAddr 124 (Operand.tmp 14) (Operand.const (Value.int IntKind.i64 0))) 0 (v := ?v5a6) rfl ?h5a6 hH ?_
  case h5a6 => intro _ _; go_simp; try with_reducible rfl
  try simp only [ps]
  refine tk 6 (some 16) (Op.load 71 (Operand.tmp 15)) 71 (v := ?v6a7) rfl ?h6a7 hH ?_
  case h6a7 => intro _ _; go_simp; try with_reducible rfl
  try simp only [ps]
  refine tk 7 (some 17) (Op.load 83 (Operand.tmp 5)) 83 (v := ?v7a8) rfl ?h7a8 hH ?_
  case h7a8 => intro _ _; go_simp; try with_reducible rfl
  try simp only [ps]
  refine tk 10 (some 20) (Op.move (Operand.const (Value.int IntKind.i64 0))) 3 (v := ?v10a9) rfl ?h10a9 hH ?_
  case h10a9 => intro _ _; go_simp; try with_reducible rfl
  try simp only [ps]
  refine wpAnyH_ready (rs := [8]) (by kernel_rfl) (by simp) ?_
  refine AllReadyH.cons (o := { dst := some 18, op := Op.call { callee := Callee.value (Operand.func 34), args := #[Operand.tmp 10, Operand.tmp 16, Operand.tmp 17], argTypes := #[70, 71, 83] }, type := 68, pos := "walk.go:98", after := #[{ on := 0, ground := Ground.data }, { on := 6, ground := Ground.data }, { on := 7, ground := Ground.data }], guard := none }) rfl (fun K hKq => ?_) AllReadyH.nil
  go_simp
  refine (WS.out _ Q1.out).mono ?_
  rintro e y2 ⟨⟨v, rfl, hv, hk, hm⟩⟩
  obtain ⟨ad2, c2, hvv, hlc, hce⟩ := hv.ex
  rw [HZL.out] at hvv hlc
  subst hvv
  have HV := hid hv
  have HK2 := hid hk
  have HM2 := hid hm
  clear hv hk hm hce
  refine hKq.out _ _ (MK.out _ ((Kp.kx Q1.out).trans HK2.out)) (fun hN => ?_)
  clear hKq K hH KQ
  have hH := hN
  clear hN
  have KQ := hH.2.2.2.2.2.2.2.2.2.2.2.out
  try simp only [ps]
  refine tk 9 (some 19) (Op.call { callee := Callee.builtin Builtin.len, args := #[Operand.tmp 18], argTypes := #[68] }) 3 (v := ?v9a10) rfl ?h9a10 hH ?_
  case h9a10 => intro _ _; go_simp; try with_reducible rfl
  try simp only [ps]
  refine wpAnyH_done (by kernel_rfl) ?_ _
  refine NoPanic.normal ?_
  go_wp2_with fail
  go_meet
  case rel => exact ⟨ad2, c2, rfl, rfl, rfl, hlc, HV.out, (Kp.kx Q1.out).trans HK2.out, HM2.out⟩
 case rest =>
 obtain ⟨ad2, c2, rfl, rfl, rfl, hzc, hsl, hkx, hmc⟩ := hcut
 rename World => wc
 have S1 := hid hsl
 have X1 := hid (bl_kx X0.out hkx HMX.out)
 have P1 := hid (bl_kx P0.out hkx HMP.out)
 have M1 := hid hmc
 have K1 := hid ((Kp.kx K0.out).trans hkx)
 have SO := hid (show ∀ b, O b → b < wc.heap.size from fun b o => Nat.lt_of_lt_of_le (HO.out b o) K1.out.size)
 clear hsl hkx hmc X0 P0 T0 K0 WS HMT HMX HMP HMB CB HBL Q1 HKID HO HM
 go_wp2_with fail
 go_loopg [7, 20] Z (fun gg v i wr => ∃ (q : Nat), q + gg = Z ∧ i = .int .i64 (q : Int) ∧ SpR wc.heap.size wr v ((zs.take q).map (fun y => y.put 1 x.a y.a)) ∧ Kx (fun _ => False) wc wr)
 case atStart => exact ⟨0, by omega, rfl, SpR.nil _ _, Kx.refl _ _⟩
 case round =>
  obtain ⟨q, hq, rfl, hR, hK⟩ := hrel
  have R6 := hid hR
  have K6 := hid hK
  have X6 := hid (bl_kx X1.out hK id)
  have P6 := hid (bl_kx P1.out hK id)
  have S6 := hid (S1.out.keep (ok' := okB M O) hK.size (fun b hb hl => ⟨hb, hK.block b hl id⟩))
  obtain ⟨rad, rc, hvv, -⟩ := hR.form
  obtain ⟨N0, hN0⟩ : ∃ N0, ((zs.take q).map (fun y => y.put 1 x.a y.a)).length = N0 := ⟨_, rfl⟩
  rw [hN0] at hvv
  subst hvv
  clear hR hK hN0
  by_cases hlt : q < Z
  ·
   have gkw : IntKind.i64.wrap ((q : Int) + 1) = (q : Int) + 1 := by have := HZF.out; rw [IntKind.wrap_i64]; omega
   have ga : (q : Int) < (Z : Int) := by omega
   have g0 : (0 : Int) ≤ (q : Int) := by omega
   obtain ⟨y, hy⟩ : ∃ y, zs[q]? = some y := ⟨_, List.getElem?_eq_getElem (by rw [HZL.out]; exact hlt)⟩
   obtain ⟨ad3, c3, hv2, _, hc2⟩ := S6.out.ex
   injection hv2 with e1 e2 e3
   obtain ⟨b2, hbb, _, hbl, hce⟩ := hc2 (by rw [HZL.out]; omega)
   rw [← e1] at hbb
   subst hbb
   have hsp := hce q y hy
   have HY := hid (HGD.out y (List.mem_of_getElem? hy))
   have HTK : Hid ((zs.take (q + 1)).map (fun y => y.put 1 x.a y.a) = (zs.take q).map (fun y => y.put 1 x.a y.a) ++ [y.put 1 x.a y.a]) := by
    show _ = _
    rw [List.take_succ_eq_append_getElem (by rw [HZL.out]; exact hlt), List.map_append, (List.getElem?_eq_some_iff.1 hy).2]
    rfl
   have HLEN := hid (show ((zs.take q).map (fun y => y.put 1 x.a y.a)).length ≤ 5000000000000 by rw [List.length_map, List.length_take]; have := HZF.out; omega)
   have x0 := hsp.c0
   have x1 := hsp.c1
   have x2 := hsp.c2
   have x3 := hsp.c3
   have x4 := hsp.c4
   have x5 := hsp.c5
   have x6 := hsp.c6
   clear hsp hce hy e1 e2 e3 hc2
   obtain ⟨ys, hys⟩ : ∃ ys, (zs.take q).map (fun y => y.put 1 x.a y.a) = ys := ⟨_, rfl⟩
   rw [hys] at R6 HTK HLEN
   clear hys
   go_upto_region 5 with fail
   refine opq (fun W6 => W6.heap[wr.heap.size]? = some (spo y) ∧ W6.heap[(w.heap.size + 1)]? = some (spo x) ∧ W6.heap[P]? = some (pto k low high 1 t (.slice (some ⟨bb, 0, none⟩) L c) rd st h kn so) ∧ SpR wc.heap.size W6 (.slice rad N0 rc) ys ∧ Kx (fun _ => False) wc W6) ⟨by exact last_of _ _, by exact bl_alloc X6.out _, by exact bl_alloc P6.out _, by exact R6.out.kp ((Kp.refl _).alloc _), by exact K6.out.alloc _⟩ ?_
   rintro W6 ⟨xY7, xX7, xP7, xR7, xK7⟩
   have Y7 := hid xY7
   have X7 := hid xX7
   have P7 := hid xP7
   have R7 := hid xR7
   have K7 := hid xK7
   clear xY7 xX7 xP7 xR7 xK7
   have HRY := hid (show ∀ b, (Value.slice rad N0 rc).ownBlock = some b → wc.heap.size ≤ b ∧ b < wr.heap.size from fun b e => R6.out.block b e)
   have HSW := hid K6.out.size
   clear x0 x1 x2 x3 x4 x5 x6 X6 P6 R6 S6 K6
   obtain ⟨z, hz⟩ : ∃ z, y.put 1 x.a y.a = z := ⟨_, rfl⟩
   have HZOK := hid (show z.Ok by rw [← hz]; exact HX.out.put ((Or.inl rfl)) HY.out.1 HY.out.2.2)
   have HZE : Hid (spo (y.put 1 x.a y.a) = spo z) := by show _ = _; rw [hz]
   rw [hz] at HTK
   clear hz
   have gkn : IntKind.i64.wrap 0 = 0 := by rw [IntKind.wrap_i64]; omega
   go_cut [] (fun we => we.heap[wr.heap.size]? = some (spo z) ∧ Ks wr.heap.size W6 we)
   case first =>
    have Q0 : Kp W6 W6.drew := (Kp.refl _).drew
    have MK : Hid (∀ W, Kp W6 W → W.cell? ⟨P, 3, none⟩ = some (.int .i64 1) ∧ W.cell? ⟨(w.heap.size + 1), 0, none⟩ = some (.int .i8 x.a) ∧ W.cell? ⟨wr.heap.size, 0, none⟩ = some (.int .i8 y.a) ∧ Hid (Kp W6 W)) := fun W k => ⟨bl_cell (bl_kp P7.out k) 3 _ rfl, bl_cell (bl_kp X7.out k) 0 _ rfl, bl_cell (bl_kp Y7.out k) 0 _ rfl, k⟩
    refine wp_region_noPanic ?_
    refine hdrewZ 12 MK Q0 (fun hH => ?_)
    have KQ := Q0
    refine zk 12 0 [] (some 24) (Op.move (Operand.tmp 1)) 71 (v := ?v0b1) rfl ?h0b1 hH ?_
    case h0b1 => intro _ _; go_simp; try with_reducible rfl
    try simp only [ps]
    refine zk 12 1 [] (some 25) (Op.nilCheck (Operand.tmp 24)) 0 (v := ?v1b2) rfl ?h1b2 hH ?_
    case h1b2 => intro _ _; go_simp; try with_reducible rfl
    try simp only [ps]
    refine zk 12 2 [] (some 26) (Op.fieldAddr 130 (Operand.tmp 25) 3) 0 (v := ?v2b3) rfl ?h2b3 hH ?_
    case h2b3 => intro _ _; go_simp; try with_reducible rfl
    try simp only [ps]
    refine zk 12 3 [] (some 27) (Op.load 3 (Operand.tmp 26)) 3 (v := ?v3b4) rfl ?h3b4 hH ?_
    case h3b4 => intro _ _; go_simp; try with_reducible rfl
    try simp only [ps]
    refine zk 12 4 [] (some 28) (Op.binOp BinOp.sub 3 (Operand.tmp 27) (Operand.const (Value.int IntKind.i64 1)) 3) 3 (v := ?v4b5) rfl ?h4b5 hH ?_
    case h4b5 => intro _ _; go_simp; try with_reducible rfl
    try simp only [ps]
    refine zk 12 5 [] (some 29) (Op.fieldAddr 83 (Operand.tmp 5) 0) 0 (v := ?v5b6) rfl ?h5b6 hH ?_
    case h5b6 => intro _ _; go_simp; try with_reducible rfl
    try simp only [ps]
    refine zk 12 6 [] (some 30) (Op.load 78 (Operand.tmp 29)) 78 (v := ?v6b7) rfl ?h6b7 hH ?_
    case h6b7 => intro _ _; go_simp; try with_reducible rfl
    try simp only [ps]
    refine zk 12 7 [] (some 31) (Op.fieldAddr 83 (Operand.tmp 9) 0) 0 (v := ?v7b8) rfl ?h7b8 hH ?_
    case h7b8 => intro _ _; go_simp; try with_reducible rfl
    try simp only [ps]
    refine zk 12 8 [] (some 32) (Op.load 78 (Operand.tmp 31)) 78 (v := ?v8b9) rfl ?h8b9 hH ?_
    case h8b9 => intro _ _; go_simp; try with_reducible rfl
    try simp only [ps]
    refine zk 12 9 [] (some 33) (Op.build 80 #[(0, Operand.tmp 30), (1, Operand.tmp 32)]) 80 (v := ?v9b10) rfl ?h9b10 hH ?_
    case h9b10 => intro _ _; go_simp; try with_reducible rfl
    try simp only [ps]
    refine zk 12 10 [11] (some 34) (Op.fieldAddr 83 (Operand.tmp 9) 1) 0 (v := ?v10b11) rfl ?h10b11 hH ?_
    case h10b11 => intro _ _; go_simp; try with_reducible rfl
    try simp only [ps]
    refine zk 12 11 [] (some 35) (Op.indexAddr 81 (Operand.tmp 34) (Operand.tmp 28)) 0 (v := ?v11b12) rfl ?h11b12 hH ?_
    case h11b12 => intro _ _; go_simp; try with_reducible rfl
    try simp only [ps]
    refine anyZ_ready (rs := [12]) (by kernel_rfl) (by simp) ?_
    refine AllZ.last (o := { dst := none, op := Op.store 80 (Operand.tmp 35) (Operand.tmp 33), type := 0, pos := "walk.go:99", after := #[{ on := 11, ground := Ground.data }, { on := 9, ground := Ground.data }, { on := 0, ground := Ground.phase }, { on := 1, ground := Ground.phase }, { on := 2, ground := Ground.phase }, { on := 3, ground := Ground.phase }, { on := 4, ground := Ground.phase }, { on := 5, ground := Ground.phase }, { on := 6, ground := Ground.phase }, { on := 7, ground := Ground.phase }, { on := 8, ground := Ground.phase }, { on := 9, ground := Ground.phase }], guard := none }) rfl (Or.inl rfl) (fun K hKq => ?_) AllZ.nil
    have l1 := bl_cell (bl_drew Y7.out) 1 _ rfl
    have l2 := bl_cell (bl_drew Y7.out) 2 _ rfl
    have fl1 := bl_frozen (bl_drew Y7.out) 1
    have fl2 := bl_frozen (bl_drew Y7.out) 2
    have m2 := bl_cell Y7.out 2 _ rfl
    have fm2 := bl_frozen Y7.out 2
    go_simp
    refine hKq.out _ _ ?_
    clear l1 l2 fl1 fl2 m2 fm2
    clear hKq K
    try simp only [ps]
    refine anyZ_done (by kernel_rfl) ?_ _
    refine NoPanic.normal ?_
    go_wp2_with fail
    go_meet
    case rel => exact ⟨by rw [← HZE.out]; exact bl_put (bl_put Y7.out _) _, (((Ks.refl _ _).set _ _).set _ _).drew⟩

   case rest =>
   obtain ⟨hu4, hk4⟩ := hcut
   rename World => W7
   have Y8 := hid hu4
   have R8 := hid (R7.out.turn (w' := W7) (fun b hb hl => hk4.block b hl (by have := (HRY.out b hb).2; omega)))
   have K8 := hid (hk4.up (Kx.kp K7.out) HSW.out)
   have A8 := hid (R8.out.kp ((Kp.refl W7).alloc (spo z)))
   clear hu4 hk4 Y7 X7 P7 R7 K7
   obtain ⟨y0, y1, y2, y3, y4, y5, y6⟩ := cells7 (Y8.out)
   go_wp2_with (at_builtin; go_must (refine wpList_append_sp (W7.alloc (spo z)) (by rfl) _ _ (by rfl) wc.heap.size (.slice rad N0 rc) ys z (by rfl) W7.heap.size (by rfl) A8 HZOK ?h1 ?h2 ?h3 ?_))
   case h1 => exact last_of _ _
   case h2 => exact HLEN.out
   case h3 => have := K8.out.size; simp; omega
   intro v' w' md
   have MD := hid md
   clear md y0 y1 y2 y3 y4 y5 y6
   obtain ⟨rad', rc', hv', -⟩ := MD.out.row.form
   obtain ⟨N1, hN1⟩ : ∃ N1, (ys ++ [z]).length = N1 := ⟨_, rfl⟩
   rw [hN1] at hv'
   subst hv'
   clear hN1
   go_wp2_with fail
   go_roundg (gk - 1)
   case measure => omega
   case rel => exact ⟨q + 1, by omega, by go_num, by rw [HTK.out]; exact MD.out.row, ((Kp.kx (K8.out.alloc _)).grown MD.out.grown (fun k e hk => by have := (HRY.out k e).1; omega))⟩
  ·
   have ga : ¬ (q : Int) < (Z : Int) := by omega
   have HE : Hid ((zs.take q).map (fun y => y.put 1 x.a y.a) = zs.map (fun y => y.put 1 x.a y.a)) := by
    show _ = _
    rw [List.take_of_length_le (by rw [HZL.out]; omega)]
   go_wp2_with fail
   go_ret
   exact ⟨_, rfl, by rw [← HE.out]; exact R6.out.spl (fun b e => ⟨fun o => by have := (R6.out.block b e).1; have := SO.out b o; omega, M1.out.lt (R6.out.block b e).1⟩), K1.out.trans (Kp.kx (Kx.kp K6.out)), M1.out.keep (S := fun _ => False) K6.out (fun _ _ e => e.elim) (fun _ _ e => e) M1.out.own⟩
theorem wgroup2_any (s : ByteArray) (bol : Bool) (_ : s.size ≤ 60) (M : Nat → Option Memo) (k low high : Int) (t : W4) (P : Nat) (kn so : Option Nat) (rd st h : Nat) (kid : Pt) (ks : List Pt) (HS : WSaid s bol M kid) (O : Nat → Prop) (x : Sp) (hx : x.Ok) (hN : x.In s.size) (w : World) (hO : ∀ b, O b → b < w.heap.size) (hM : MemOk M O w) (hP : PtAt w (okB M O) (.mk k low high 2 t P kn so rd st h (kid :: ks))) :
  Calls Tryz.prog 84 #[wkv s bol, ptv P, spv x] w fun e w' => WaysD ((ways s.data.toList bol kid x).map (fun y => y.put 2 x.a y.a)) (okB M O) (fun w' => Km M w w' ∧ MemOk M O w') e w' := by
 unfold PtAt at hP
 obtain ⟨hok, ⟨ad, c, hblk, hcap, hat⟩, hpts⟩ := hP
 unfold PtsAt at hpts
 obtain ⟨L, hL⟩ : ∃ L, (kid :: ks).length = L := ⟨_, rfl⟩
 have hL0 : 0 < L := by rw [← hL]; simp
 obtain ⟨bb, rfl, hbok, hbl, hce⟩ := hat (by simp)
 rw [hL] at hblk hcap
 have HKID := hid hpts.1
 have CBw := hid (hce 0 kid rfl)
 have HBLw := hid hbl
 have HMB := hid (show ¬ M bb ≠ none from fun e => e hbok.2)
 have HMP := hid (show ¬ M P ≠ none from fun e => e hok.2)
 have HX := hid hx
 have HN := hid hN
 have HO := hid hO
 have HM := hid hM
 have HP := hid hblk
 have HGD := hid (HS.good x hx hN)
 have WSw := hid (fun (W : World) (k0 : Kp w W) => HS.all O x W hx hN (fun b hb => Nat.lt_of_lt_of_le (hO b hb) k0.size) (hpts.1.kp k0) (hM.keep (S := fun _ => False) (Kp.kx k0) (fun _ _ e => e.elim) (fun _ _ e => e) hM.own))
 obtain ⟨zs, hzs⟩ : ∃ zs, ways s.data.toList bol kid x = zs := ⟨_, rfl⟩
 have hfew := HS.few x hx hN
 rw [hzs] at WSw HGD hfew ⊢
 obtain ⟨Z, hZ⟩ : ∃ Z, zs.length = Z := ⟨_, rfl⟩
 have HZL := hid hZ
 rw [hZ] at hfew
 have HZF := hid hfew
 clear hok hblk hat hpts hL hbok hbl hce hx hN hO hM HS hzs hZ hfew
 go_enter Tryz.func84, Tryz.ntmps84
 go_upto_region 2 with fail
 refine opq (fun W0 => W0.heap[w.heap.size]? = some (.cells #[.string s, .bool bol] 70) ∧ W0.heap[(w.heap.size + 1)]? = some (spo x) ∧ W0.heap[P]? = some (pto k low high 2 t (.slice (some ⟨bb, 0, none⟩) L c) rd st h kn so) ∧ Kp w W0) ⟨by exact bl_alloc (last_of _ _) _, by exact last_at _ _ _ (by simp), by exact bl_kp HP.out kpt, by exact kpt⟩ ?_
 rintro W0 ⟨xT0, xX0, xP0, xK0⟩
 have T0 := hid xT0
 have X0 := hid xX0
 have P0 := hid xP0
 have K0 := hid xK0
 clear xT0 xX0 xP0 xK0
 have CB := hid ((cell_same (K0.out.block _ HBLw.out) _).trans CBw.out)
 have HBL := hid (Nat.lt_of_lt_of_le HBLw.out K0.out.size)
 have WS := hid (fun (W : World) (k : Kp W0 W) => WSw.out W (K0.out.trans k))
 have HMT := hid (show ¬ M w.heap.size ≠ none from fun e => e (HM.out.lt (Nat.le_refl _)))
 have HMX := hid (show ¬ M (w.heap.size + 1) ≠ none from fun e => e (HM.out.lt (Nat.le_succ _)))
 have Q1 := hid (((Kp.refl W0).drew))
 clear CBw HBLw WSw HP
 go_cut [18, 19, 20] (fun v l i wc => ∃ ad2 c2, v = .slice ad2 Z c2 ∧ l = .int .i64 (Z : Int) ∧ i = .int .i64 0 ∧ Z ≤ c2 ∧ SpL wc (okB M O) (.slice ad2 Z c2) zs ∧ Kx (fun b => M b ≠ none) W0 wc ∧ MemOk M O wc)
 case first =>
  have Q0 : Kx (fun b => M b ≠ none) W0 W0.drew := (Kx.refl _ _).drew
  have MK : Hid (∀ W, Kx (fun b => M b ≠ none) W0 W → W.cell? ⟨w.heap.size, 0, none⟩ = some (.string s) ∧ W.cell? ⟨w.heap.size, 1, none⟩ = some (.bool bol) ∧ W.cell? ⟨(w.heap.size + 1), 0, none⟩ = some (.int .i8 x.a) ∧ W.cell? ⟨(w.heap.size + 1), 1, none⟩ = some (.int .i8 x.f0) ∧ W.cell? ⟨(w.heap.size + 1), 2, none⟩ = some (.int .i8 x.t0) ∧ W.cell? ⟨(w.heap.size + 1), 3, none⟩ = some (.int .i8 x.f1) ∧ W.cell? ⟨(w.heap.size + 1), 4, none⟩ = some (.int .i8 x.t1) ∧ W.cell? ⟨(w.heap.size + 1), 5, none⟩ = some (.int .i8 x.f2) ∧ W.cell? ⟨(w.heap.size + 1), 6, none⟩ = some (.int .i8 x.t2) ∧ W.cell? ⟨P, 8, none⟩ = some (.slice (some ⟨bb, 0, none⟩) L c) ∧ W.cell? ⟨bb, 0, none⟩ = some (ptv kid.P) ∧ Hid (Kx (fun b => M b ≠ none) W0 W)) := fun W k => ⟨bl_cell (bl_kx T0.out k HMT.out) 0 _ rfl, bl_cell (bl_kx T0.out k HMT.out) 1 _ rfl, bl_cell (bl_kx X0.out k HMX.out) 0 _ rfl, bl_cell (bl_kx X0.out k HMX.out) 1 _ rfl, bl_cell (bl_kx X0.out k HMX.out) 2 _ rfl, bl_cell (bl_kx X0.out k HMX.out) 3 _ rfl, bl_cell (bl_kx X0.out k HMX.out) 4 _ rfl, bl_cell (bl_kx X0.out k HMX.out) 5 _ rfl, bl_cell (bl_kx X0.out k HMX.out) 6 _ rfl, bl_cell (bl_kx P0.out k HMP.out) 8 _ rfl, (cell_same (k.block _ HBL.out HMB.out) _).trans CB.out, k⟩
  refine wp_region_noPanic ?_
  refine hdrew MK Q0 (fun hH => ?_)
  have KQ := Q0
  refine tk 0 (some 10) (Op.load 70 (Operand.tmp 3)) 70 (v := ?v0a1) rfl ?h0a1 hH ?_
  case h0a1 => intro _ _; go_simp; try with_reducible rfl
  try simp only [ps]
  refine tk 1 (some 11) (Op.move (Operand.tmp 1)) 71 (v := ?v1a2) rfl ?h1a2 hH ?_
  case h1a2 => intro _ _; go_simp; try with_reducible rfl
  try simp only [ps]
  refine tk 2 (some 12) (Op.nilCheck (Operand.tmp 11)) 0 (v := ?v2a3) rfl ?h2a3 hH ?_
  case h2a3 => intro _ _; go_simp; try with_reducible rfl
  try simp only [ps]
  refine tk 3 (some 13) (Op.fieldAddr 130 (Operand.tmp 12) 5) 0 (v := ?v3a4) rfl ?h3a4 hH ?_
  case h3a4 => intro _ _; go_simp; try with_reducible rfl
  try simp only [ps]
  refine tk 4 (some 14) (Op.load 124 (Operand.tmp 13)) 124 (v := ?v4a5) rfl ?h4a5 hH ?_
  case h4a5 => intro _ _; go_simp; try with_reducible rfl
  try simp only [ps]
  refine tk 5 (some 15) (Op.indexAddr 124 (Operand.tmp 14) (Operand.const (Value.int IntKind.i64 0))) 0 (v := ?v5a6) rfl ?h5a6 hH ?_
  case h5a6 => intro _ _; go_simp; try with_reducible rfl
  try simp only [ps]
  refine tk 6 (some 16) (Op.load 71 (Operand.tmp 15)) 71 (v := ?v6a7) rfl ?h6a7 hH ?_
  case h6a7 => intro _ _; go_simp; try with_reducible rfl
  try simp only [ps]
  refine tk 7 (some 17) (Op.load 83 (Operand.tmp 5)) 83 (v := ?v7a8) rfl ?h7a8 hH ?_
  case h7a8 => intro _ _; go_simp; try with_reducible rfl
  try simp only [ps]
  refine tk 10 (some 20) (Op.move (Operand.const (Value.int IntKind.i64 0))) 3 (v := ?v10a9) rfl ?h10a9 hH ?_
  case h10a9 => intro _ _; go_simp; try with_reducible rfl
  try simp only [ps]
  refine wpAnyH_ready (rs := [8]) (by kernel_rfl) (by simp) ?_
  refine AllReadyH.cons (o := { dst := some 18, op := Op.call { callee := Callee.value (Operand.func 34), args := #[Operand.tmp 10, Operand.tmp 16, Operand.tmp 17], argTypes := #[70, 71, 83] }, type := 68, pos := "walk.go:98", after := #[{ on := 0, ground := Ground.data }, { on := 6, ground := Ground.data }, { on := 7, ground := Ground.data }], guard := none }) rfl (fun K hKq => ?_) AllReadyH.nil
  go_simp
  refine (WS.out _ Q1.out).mono ?_
  rintro e y2 ⟨⟨v, rfl, hv, hk, hm⟩⟩
  obtain ⟨ad2, c2, hvv, hlc, hce⟩ := hv.ex
  rw [HZL.out] at hvv hlc
  subst hvv
  have HV := hid hv
  have HK2 := hid hk
  have HM2 := hid hm
  clear hv hk hm hce
  refine hKq.out _ _ (MK.out _ ((Kp.kx Q1.out).trans HK2.out)) (fun hN => ?_)
  clear hKq K hH KQ
  have hH := hN
  clear hN
  have KQ := hH.2.2.2.2.2.2.2.2.2.2.2.out
  try simp only [ps]
  refine tk 9 (some 19) (Op.call { callee := Callee.builtin Builtin.len, args := #[Operand.tmp 18], argTypes := #[68] }) 3 (v := ?v9a10) rfl ?h9a10 hH ?_
  case h9a10 => intro _ _; go_simp; try with_reducible rfl
  try simp only [ps]
  refine wpAnyH_done (by kernel_rfl) ?_ _
  refine NoPanic.normal ?_
  go_wp2_with fail
  go_meet
  case rel => exact ⟨ad2, c2, rfl, rfl, rfl, hlc, HV.out, (Kp.kx Q1.out).trans HK2.out, HM2.out⟩
 case rest =>
 obtain ⟨ad2, c2, rfl, rfl, rfl, hzc, hsl, hkx, hmc⟩ := hcut
 rename World => wc
 have S1 := hid hsl
 have X1 := hid (bl_kx X0.out hkx HMX.out)
 have P1 := hid (bl_kx P0.out hkx HMP.out)
 have M1 := hid hmc
 have K1 := hid ((Kp.kx K0.out).trans hkx)
 have SO := hid (show ∀ b, O b → b < wc.heap.size from fun b o => Nat.lt_of_lt_of_le (HO.out b o) K1.out.size)
 clear hsl hkx hmc X0 P0 T0 K0 WS HMT HMX HMP HMB CB HBL Q1 HKID HO HM
 go_wp2_with fail
 go_loopg [7, 20] Z (fun gg v i wr => ∃ (q : Nat), q + gg = Z ∧ i = .int .i64 (q : Int) ∧ SpR wc.heap.size wr v ((zs.take q).map (fun y => y.put 2 x.a y.a)) ∧ Kx (fun _ => False) wc wr)
 case atStart => exact ⟨0, by omega, rfl, SpR.nil _ _, Kx.refl _ _⟩
 case round =>
  obtain ⟨q, hq, rfl, hR, hK⟩ := hrel
  have R6 := hid hR
  have K6 := hid hK
  have X6 := hid (bl_kx X1.out hK id)
  have P6 := hid (bl_kx P1.out hK id)
  have S6 := hid (S1.out.keep (ok' := okB M O) hK.size (fun b hb hl => ⟨hb, hK.block b hl id⟩))
  obtain ⟨rad, rc, hvv, -⟩ := hR.form
  obtain ⟨N0, hN0⟩ : ∃ N0, ((zs.take q).map (fun y => y.put 2 x.a y.a)).length = N0 := ⟨_, rfl⟩
  rw [hN0] at hvv
  subst hvv
  clear hR hK hN0
  by_cases hlt : q < Z
  ·
   have gkw : IntKind.i64.wrap ((q : Int) + 1) = (q : Int) + 1 := by have := HZF.out; rw [IntKind.wrap_i64]; omega
   have ga : (q : Int) < (Z : Int) := by omega
   have g0 : (0 : Int) ≤ (q : Int) := by omega
   obtain ⟨y, hy⟩ : ∃ y, zs[q]? = some y := ⟨_, List.getElem?_eq_getElem (by rw [HZL.out]; exact hlt)⟩
   obtain ⟨ad3, c3, hv2, _, hc2⟩ := S6.out.ex
   injection hv2 with e1 e2 e3
   obtain ⟨b2, hbb, _, hbl, hce⟩ := hc2 (by rw [HZL.out]; omega)
   rw [← e1] at hbb
   subst hbb
   have hsp := hce q y hy
   have HY := hid (HGD.out y (List.mem_of_getElem? hy))
   have HTK : Hid ((zs.take (q + 1)).map (fun y => y.put 2 x.a y.a) = (zs.take q).map (fun y => y.put 2 x.a y.a) ++ [y.put 2 x.a y.a]) := by
    show _ = _
    rw [List.take_succ_eq_append_getElem (by rw [HZL.out]; exact hlt), List.map_append, (List.getElem?_eq_some_iff.1 hy).2]
    rfl
   have HLEN := hid (show ((zs.take q).map (fun y => y.put 2 x.a y.a)).length ≤ 5000000000000 by rw [List.length_map, List.length_take]; have := HZF.out; omega)
   have x0 := hsp.c0
   have x1 := hsp.c1
   have x2 := hsp.c2
   have x3 := hsp.c3
   have x4 := hsp.c4
   have x5 := hsp.c5
   have x6 := hsp.c6
   clear hsp hce hy e1 e2 e3 hc2
   obtain ⟨ys, hys⟩ : ∃ ys, (zs.take q).map (fun y => y.put 2 x.a y.a) = ys := ⟨_, rfl⟩
   rw [hys] at R6 HTK HLEN
   clear hys
   go_upto_region 5 with fail
   refine opq (fun W6 => W6.heap[wr.heap.size]? = some (spo y) ∧ W6.heap[(w.heap.size + 1)]? = some (spo x) ∧ W6.heap[P]? = some (pto k low high 2 t (.slice (some ⟨bb, 0, none⟩) L c) rd st h kn so) ∧ SpR wc.heap.size W6 (.slice rad N0 rc) ys ∧ Kx (fun _ => False) wc W6) ⟨by exact last_of _ _, by exact bl_alloc X6.out _, by exact bl_alloc P6.out _, by exact R6.out.kp ((Kp.refl _).alloc _), by exact K6.out.alloc _⟩ ?_
   rintro W6 ⟨xY7, xX7, xP7, xR7, xK7⟩
   have Y7 := hid xY7
   have X7 := hid xX7
   have P7 := hid xP7
   have R7 := hid xR7
   have K7 := hid xK7
   clear xY7 xX7 xP7 xR7 xK7
   have HRY := hid (show ∀ b, (Value.slice rad N0 rc).ownBlock = some b → wc.heap.size ≤ b ∧ b < wr.heap.size from fun b e => R6.out.block b e)
   have HSW := hid K6.out.size
   clear x0 x1 x2 x3 x4 x5 x6 X6 P6 R6 S6 K6
   obtain ⟨z, hz⟩ : ∃ z, y.put 2 x.a y.a = z := ⟨_, rfl⟩
   have HZOK := hid (show z.Ok by rw [← hz]; exact HX.out.put ((Or.inr (Or.inl rfl))) HY.out.1 HY.out.2.2)
   have HZE : Hid (spo (y.put 2 x.a y.a) = spo z) := by show _ = _; rw [hz]
   rw [hz] at HTK
   clear hz
   have gkn : IntKind.i64.wrap 1 = 1 := by rw [IntKind.wrap_i64]; omega
   go_cut [] (fun we => we.heap[wr.heap.size]? = some (spo z) ∧ Ks wr.heap.size W6 we)
   case first =>
    have Q0 : Kp W6 W6.drew := (Kp.refl _).drew
    have MK : Hid (∀ W, Kp W6 W → W.cell? ⟨P, 3, none⟩ = some (.int .i64 2) ∧ W.cell? ⟨(w.heap.size + 1), 0, none⟩ = some (.int .i8 x.a) ∧ W.cell? ⟨wr.heap.size, 0, none⟩ = some (.int .i8 y.a) ∧ Hid (Kp W6 W)) := fun W k => ⟨bl_cell (bl_kp P7.out k) 3 _ rfl, bl_cell (bl_kp X7.out k) 0 _ rfl, bl_cell (bl_kp Y7.out k) 0 _ rfl, k⟩
    refine wp_region_noPanic ?_
    refine hdrewZ 12 MK Q0 (fun hH => ?_)
    have KQ := Q0
    refine zk 12 0 [] (some 24) (Op.move (Operand.tmp 1)) 71 (v := ?v0b1) rfl ?h0b1 hH ?_
    case h0b1 => intro _ _; go_simp; try with_reducible rfl
    try simp only [ps]
    refine zk 12 1 [] (some 25) (Op.nilCheck (Operand.tmp 24)) 0 (v := ?v1b2) rfl ?h1b2 hH ?_
    case h1b2 => intro _ _; go_simp; try with_reducible rfl
    try simp only [ps]
    refine zk 12 2 [] (some 26) (Op.fieldAddr 130 (Operand.tmp 25) 3) 0 (v := ?v2b3) rfl ?h2b3 hH ?_
    case h2b3 => intro _ _; go_simp; try with_reducible rfl
    try simp only [ps]
    refine zk 12 3 [] (some 27) (Op.load 3 (Operand.tmp 26)) 3 (v := ?v3b4) rfl ?h3b4 hH ?_
    case h3b4 => intro _ _; go_simp; try with_reducible rfl
    try simp only [ps]
    refine zk 12 4 [] (some 28) (Op.binOp BinOp.sub 3 (Operand.tmp 27) (Operand.const (Value.int IntKind.i64 1)) 3) 3 (v := ?v4b5) rfl ?h4b5 hH ?_
    case h4b5 => intro _ _; go_simp; try with_reducible rfl
    try simp only [ps]
    refine zk 12 5 [] (some 29) (Op.fieldAddr 83 (Operand.tmp 5) 0) 0 (v := ?v5b6) rfl ?h5b6 hH ?_
    case h5b6 => intro _ _; go_simp; try with_reducible rfl
    try simp only [ps]
    refine zk 12 6 [] (some 30) (Op.load 78 (Operand.tmp 29)) 78 (v := ?v6b7) rfl ?h6b7 hH ?_
    case h6b7 => intro _ _; go_simp; try with_reducible rfl
    try simp only [ps]
    refine zk 12 7 [] (some 31) (Op.fieldAddr 83 (Operand.tmp 9) 0) 0 (v := ?v7b8) rfl ?h7b8 hH ?_
    case h7b8 => intro _ _; go_simp; try with_reducible rfl
    try simp only [ps]
    refine zk 12 8 [] (some 32) (Op.load 78 (Operand.tmp 31)) 78 (v := ?v8b9) rfl ?h8b9 hH ?_
    case h8b9 => intro _ _; go_simp; try with_reducible rfl
    try simp only [ps]
    refine zk 12 9 [] (some 33) (Op.build 80 #[(0, Operand.tmp 30), (1, Operand.tmp 32)]) 80 (v := ?v9b10) rfl ?h9b10 hH ?_
    case h9b10 => intro _ _; go_simp; try with_reducible rfl
    try simp only [ps]
    refine zk 12 10 [11] (some 34) (Op.fieldAddr 83 (Operand.tmp 9) 1) 0 (v := ?v10b11) rfl ?h10b11 hH ?_
    case h10b11 => intro _ _; go_simp; try with_reducible rfl
    try simp only [ps]
    refine zk 12 11 [] (some 35) (Op.indexAddr 81 (Operand.tmp 34) (Operand.tmp 28)) 0 (v := ?v11b12) rfl ?h11b12 hH ?_
    case h11b12 => intro _ _; go_simp; try with_reducible rfl
    try simp only [ps]
    refine anyZ_ready (rs := [12]) (by kernel_rfl) (by simp) ?_
    refine AllZ.last (o := { dst := none, op := Op.store 80 (Operand.tmp 35) (Operand.tmp 33), type := 0, pos := "walk.go:99", after := #[{ on := 11, ground := Ground.data }, { on := 9, ground := Ground.data }, { on := 0, ground := Ground.phase }, { on := 1, ground := Ground.phase }, { on := 2, ground := Ground.phase }, { on := 3, ground := Ground.phase }, { on := 4, ground := Ground.phase }, { on := 5, ground := Ground.phase }, { on := 6, ground := Ground.phase }, { on := 7, ground := Ground.phase }, { on := 8, ground := Ground.phase }, { on := 9, ground := Ground.phase }], guard := none }) rfl (Or.inl rfl) (fun K hKq => ?_) AllZ.nil
    have l3 := bl_cell (bl_drew Y7.out) 3 _ rfl
    have l4 := bl_cell (bl_drew Y7.out) 4 _ rfl
    have fl3 := bl_frozen (bl_drew Y7.out) 3
    have fl4 := bl_frozen (bl_drew Y7.out) 4
    have m4 := bl_cell Y7.out 4 _ rfl
    have fm4 := bl_frozen Y7.out 4
    go_simp
    refine hKq.out _ _ ?_
    clear l3 l4 fl3 fl4 m4 fm4
    clear hKq K
    try simp only [ps]
    refine anyZ_done (by kernel_rfl) ?_ _
    refine NoPanic.normal ?_
    go_wp2_with fail
    go_meet
    case rel => exact ⟨by rw [← HZE.out]; exact bl_put (bl_put Y7.out _) _, (((Ks.refl _ _).set _ _).set _ _).drew⟩

   case rest =>
   obtain ⟨hu4, hk4⟩ := hcut
   rename World => W7
   have Y8 := hid hu4
   have R8 := hid (R7.out.turn (w' := W7) (fun b hb hl => hk4.block b hl (by have := (HRY.out b hb).2; omega)))
   have K8 := hid (hk4.up (Kx.kp K7.out) HSW.out)
   have A8 := hid (R8.out.kp ((Kp.refl W7).alloc (spo z)))
   clear hu4 hk4 Y7 X7 P7 R7 K7
   obtain ⟨y0, y1, y2, y3, y4, y5, y6⟩ := cells7 (Y8.out)
   go_wp2_with (at_builtin; go_must (refine wpList_append_sp (W7.alloc (spo z)) (by rfl) _ _ (by rfl) wc.heap.size (.slice rad N0 rc) ys z (by rfl) W7.heap.size (by rfl) A8 HZOK ?h1 ?h2 ?h3 ?_))
   case h1 => exact last_of _ _
   case h2 => exact HLEN.out
   case h3 => have := K8.out.size; simp; omega
   intro v' w' md
   have MD := hid md
   clear md y0 y1 y2 y3 y4 y5 y6
   obtain ⟨rad', rc', hv', -⟩ := MD.out.row.form
   obtain ⟨N1, hN1⟩ : ∃ N1, (ys ++ [z]).length = N1 := ⟨_, rfl⟩
   rw [hN1] at hv'
   subst hv'
   clear hN1
   go_wp2_with fail
   go_roundg (gk - 1)
   case measure => omega
   case rel => exact ⟨q + 1, by omega, by go_num, by rw [HTK.out]; exact MD.out.row, ((Kp.kx (K8.out.alloc _)).grown MD.out.grown (fun k e hk => by have := (HRY.out k e).1; omega))⟩
  ·
   have ga : ¬ (q : Int) < (Z : Int) := by omega
   have HE : Hid ((zs.take q).map (fun y => y.put 2 x.a y.a) = zs.map (fun y => y.put 2 x.a y.a)) := by
    show _ = _
    rw [List.take_of_length_le (by rw [HZL.out]; omega)]
   go_wp2_with fail
   go_ret
   exact ⟨_, rfl, by rw [← HE.out]; exact R6.out.spl (fun b e => ⟨fun o => by have := (R6.out.block b e).1; have := SO.out b o; omega, M1.out.lt (R6.out.block b e).1⟩), K1.out.trans (Kp.kx (Kx.kp K6.out)), M1.out.keep (S := fun _ => False) K6.out (fun _ _ e => e.elim) (fun _ _ e => e) M1.out.own⟩
theorem wgroup3_any (s : ByteArray) (bol : Bool) (_ : s.size ≤ 60) (M : Nat → Option Memo) (k low high : Int) (t : W4) (P : Nat) (kn so : Option Nat) (rd st h : Nat) (kid : Pt) (ks : List Pt) (HS : WSaid s bol M kid) (O : Nat → Prop) (x : Sp) (hx : x.Ok) (hN : x.In s.size) (w : World) (hO : ∀ b, O b → b < w.heap.size) (hM : MemOk M O w) (hP : PtAt w (okB M O) (.mk k low high 3 t P kn so rd st h (kid :: ks))) :
  Calls Tryz.prog 84 #[wkv s bol, ptv P, spv x] w fun e w' => WaysD ((ways s.data.toList bol kid x).map (fun y => y.put 3 x.a y.a)) (okB M O) (fun w' => Km M w w' ∧ MemOk M O w') e w' := by
 unfold PtAt at hP
 obtain ⟨hok, ⟨ad, c, hblk, hcap, hat⟩, hpts⟩ := hP
 unfold PtsAt at hpts
 obtain ⟨L, hL⟩ : ∃ L, (kid :: ks).length = L := ⟨_, rfl⟩
 have hL0 : 0 < L := by rw [← hL]; simp
 obtain ⟨bb, rfl, hbok, hbl, hce⟩ := hat (by simp)
 rw [hL] at hblk hcap
 have HKID := hid hpts.1
 have CBw := hid (hce 0 kid rfl)
 have HBLw := hid hbl
 have HMB := hid (show ¬ M bb ≠ none from fun e => e hbok.2)
 have HMP := hid (show ¬ M P ≠ none from fun e => e hok.2)
 have HX := hid hx
 have HN := hid hN
 have HO := hid hO
 have HM := hid hM
 have HP := hid hblk
 have HGD := hid (HS.good x hx hN)
 have WSw := hid (fun (W : World) (k0 : Kp w W) => HS.all O x W hx hN (fun b hb => Nat.lt_of_lt_of_le (hO b hb) k0.size) (hpts.1.kp k0) (hM.keep (S := fun _ => False) (Kp.kx k0) (fun _ _ e => e.elim) (fun _ _ e => e) hM.own))
 obtain ⟨zs, hzs⟩ : ∃ zs, ways s.data.toList bol kid x = zs := ⟨_, rfl⟩
 have hfew := HS.few x hx hN
 rw [hzs] at WSw HGD hfew ⊢
 obtain ⟨Z, hZ⟩ : ∃ Z, zs.length = Z := ⟨_, rfl⟩
 have HZL := hid hZ
 rw [hZ] at hfew
 have HZF := hid hfew
 clear hok hblk hat hpts hL hbok hbl hce hx hN hO hM HS hzs hZ hfew
 go_enter Tryz.func84, Tryz.ntmps84
 go_upto_region 2 with fail
 refine opq (fun W0 => W0.heap[w.heap.size]? = some (.cells #[.string s, .bool bol] 70) ∧ W0.heap[(w.heap.size + 1)]? = some (spo x) ∧ W0.heap[P]? = some (pto k low high 3 t (.slice (some ⟨bb, 0, none⟩) L c) rd st h kn so) ∧ Kp w W0) ⟨by exact bl_alloc (last_of _ _) _, by exact last_at _ _ _ (by simp), by exact bl_kp HP.out kpt, by exact kpt⟩ ?_
 rintro W0 ⟨xT0, xX0, xP0, xK0⟩
 have T0 := hid xT0
 have X0 := hid xX0
 have P0 := hid xP0
 have K0 := hid xK0
 clear xT0 xX0 xP0 xK0
 have CB := hid ((cell_same (K0.out.block _ HBLw.out) _).trans CBw.out)
 have HBL := hid (Nat.lt_of_lt_of_le HBLw.out K0.out.size)
 have WS := hid (fun (W : World) (k : Kp W0 W) => WSw.out W (K0.out.trans k))
 have HMT := hid (show ¬ M w.heap.size ≠ none from fun e => e (HM.out.lt (Nat.le_refl _)))
 have HMX := hid (show ¬ M (w.heap.size + 1) ≠ none from fun e => e (HM.out.lt (Nat.le_succ _)))
 have Q1 := hid (((Kp.refl W0).drew))
 clear CBw HBLw WSw HP
 go_cut [18, 19, 20] (fun v l i wc => ∃ ad2 c2, v = .slice ad2 Z c2 ∧ l = .int .i64 (Z : Int) ∧ i = .int .i64 0 ∧ Z ≤ c2 ∧ SpL wc (okB M O) (.slice ad2 Z c2) zs ∧ Kx (fun b => M b ≠ none) W0 wc ∧ MemOk M O wc)
 case first =>
  have Q0 : Kx (fun b => M b ≠ none) W0 W0.drew := (Kx.refl _ _).drew
  have MK : Hid (∀ W, Kx (fun b => M b ≠ none) W0 W → W.cell? ⟨w.heap.size, 0, none⟩ = some (.string s) ∧ W.cell? ⟨w.heap.size, 1, none⟩ = some (.bool bol) ∧ W.cell? ⟨(w.heap.size + 1), 0, none⟩ = some (.int .i8 x.a) ∧ W.cell? ⟨(w.heap.size + 1), 1, none⟩ = some (.int .i8 x.f0) ∧ W.cell? ⟨(w.heap.size + 1), 2, none⟩ = some (.int .i8 x.t0) ∧ W.cell? ⟨(w.heap.size + 1), 3, none⟩ = some (.int .i8 x.f1) ∧ W.cell? ⟨(w.heap.size + 1), 4, none⟩ = some (.int .i8 x.t1) ∧ W.cell? ⟨(w.heap.size + 1), 5, none⟩ = some (.int .i8 x.f2) ∧ W.cell? ⟨(w.heap.size + 1), 6, none⟩ = some (.int .i8 x.t2) ∧ W.cell? ⟨P, 8, none⟩ = some (.slice (some ⟨bb, 0, none⟩) L c) ∧ W.cell? ⟨bb, 0, none⟩ = some (ptv kid.P) ∧ Hid (Kx (fun b => M b ≠ none) W0 W)) := fun W k => ⟨bl_cell (bl_kx T0.out k HMT.out) 0 _ rfl, bl_cell (bl_kx T0.out k HMT.out) 1 _ rfl, bl_cell (bl_kx X0.out k HMX.out) 0 _ rfl, bl_cell (bl_kx X0.out k HMX.out) 1 _ rfl, bl_cell (bl_kx X0.out k HMX.out) 2 _ rfl, bl_cell (bl_kx X0.out k HMX.out) 3 _ rfl, bl_cell (bl_kx X0.out k HMX.out) 4 _ rfl, bl_cell (bl_kx X0.out k HMX.out) 5 _ rfl, bl_cell (bl_kx X0.out k HMX.out) 6 _ rfl, bl_cell (bl_kx P0.out k HMP.out) 8 _ rfl, (cell_same (k.block _ HBL.out HMB.out) _).trans CB.out, k⟩
  refine wp_region_noPanic ?_
  refine hdrew MK Q0 (fun hH => ?_)
  have KQ := Q0
  refine tk 0 (some 10) (Op.load 70 (Operand.tmp 3)) 70 (v := ?v0a1) rfl ?h0a1 hH ?_
  case h0a1 => intro _ _; go_simp; try with_reducible rfl
  try simp only [ps]
  refine tk 1 (some 11) (Op.move (Operand.tmp 1)) 71 (v := ?v1a2) rfl ?h1a2 hH ?_
  case h1a2 => intro _ _; go_simp; try with_reducible rfl
  try simp only [ps]
  refine tk 2 (some 12) (Op.nilCheck (Operand.tmp 11)) 0 (v := ?v2a3) rfl ?h2a3 hH ?_
  case h2a3 => intro _ _; go_simp; try with_reducible rfl
  try simp only [ps]
  refine tk 3 (some 13) (Op.fieldAddr 130 (Operand.tmp 12) 5) 0 (v := ?v3a4) rfl ?h3a4 hH ?_
  case h3a4 => intro _ _; go_simp; try with_reducible rfl
  try simp only [ps]
  refine tk 4 (some 14) (Op.load 124 (Operand.tmp 13)) 124 (v := ?v4a5) rfl ?h4a5 hH ?_
  case h4a5 => intro _ _; go_simp; try with_reducible rfl
  try simp only [ps]
  refine tk 5 (some 15) (Op.indexAddr 124 (Operand.tmp 14) (Operand.const (Value.int IntKind.i64 0))) 0 (v := ?v5a6) rfl ?h5a6 hH ?_
  case h5a6 => intro _ _; go_simp; try with_reducible rfl
  try simp only [ps]
  refine tk 6 (some 16) (Op.load 71 (Operand.tmp 15)) 71 (v := ?v6a7) rfl ?h6a7 hH ?_
  case h6a7 => intro _ _; go_simp; try with_reducible rfl
  try simp only [ps]
  refine tk 7 (some 17) (Op.load 83 (Operand.tmp 5)) 83 (v := ?v7a8) rfl ?h7a8 hH ?_
  case h7a8 => intro _ _; go_simp; try with_reducible rfl
  try simp only [ps]
  refine tk 10 (some 20) (Op.move (Operand.const (Value.int IntKind.i64 0))) 3 (v := ?v10a9) rfl ?h10a9 hH ?_
  case h10a9 => intro _ _; go_simp; try with_reducible rfl
  try simp only [ps]
  refine wpAnyH_ready (rs := [8]) (by kernel_rfl) (by simp) ?_
  refine AllReadyH.cons (o := { dst := some 18, op := Op.call { callee := Callee.value (Operand.func 34), args := #[Operand.tmp 10, Operand.tmp 16, Operand.tmp 17], argTypes := #[70, 71, 83] }, type := 68, pos := "walk.go:98", after := #[{ on := 0, ground := Ground.data }, { on := 6, ground := Ground.data }, { on := 7, ground := Ground.data }], guard := none }) rfl (fun K hKq => ?_) AllReadyH.nil
  go_simp
  refine (WS.out _ Q1.out).mono ?_
  rintro e y2 ⟨⟨v, rfl, hv, hk, hm⟩⟩
  obtain ⟨ad2, c2, hvv, hlc, hce⟩ := hv.ex
  rw [HZL.out] at hvv hlc
  subst hvv
  have HV := hid hv
  have HK2 := hid hk
  have HM2 := hid hm
  clear hv hk hm hce
  refine hKq.out _ _ (MK.out _ ((Kp.kx Q1.out).trans HK2.out)) (fun hN => ?_)
  clear hKq K hH KQ
  have hH := hN
  clear hN
  have KQ := hH.2.2.2.2.2.2.2.2.2.2.2.out
  try simp only [ps]
  refine tk 9 (some 19) (Op.call { callee := Callee.builtin Builtin.len, args := #[Operand.tmp 18], argTypes := #[68] }) 3 (v := ?v9a10) rfl ?h9a10 hH ?_
  case h9a10 => intro _ _; go_simp; try with_reducible rfl
  try simp only [ps]
  refine wpAnyH_done (by kernel_rfl) ?_ _
  refine NoPanic.normal ?_
  go_wp2_with fail
  go_meet
  case rel => exact ⟨ad2, c2, rfl, rfl, rfl, hlc, HV.out, (Kp.kx Q1.out).trans HK2.out, HM2.out⟩
 case rest =>
 obtain ⟨ad2, c2, rfl, rfl, rfl, hzc, hsl, hkx, hmc⟩ := hcut
 rename World => wc
 have S1 := hid hsl
 have X1 := hid (bl_kx X0.out hkx HMX.out)
 have P1 := hid (bl_kx P0.out hkx HMP.out)
 have M1 := hid hmc
 have K1 := hid ((Kp.kx K0.out).trans hkx)
 have SO := hid (show ∀ b, O b → b < wc.heap.size from fun b o => Nat.lt_of_lt_of_le (HO.out b o) K1.out.size)
 clear hsl hkx hmc X0 P0 T0 K0 WS HMT HMX HMP HMB CB HBL Q1 HKID HO HM
 go_wp2_with fail
 go_loopg [7, 20] Z (fun gg v i wr => ∃ (q : Nat), q + gg = Z ∧ i = .int .i64 (q : Int) ∧ SpR wc.heap.size wr v ((zs.take q).map (fun y => y.put 3 x.a y.a)) ∧ Kx (fun _ => False) wc wr)
 case atStart => exact ⟨0, by omega, rfl, SpR.nil _ _, Kx.refl _ _⟩
 case round =>
  obtain ⟨q, hq, rfl, hR, hK⟩ := hrel
  have R6 := hid hR
  have K6 := hid hK
  have X6 := hid (bl_kx X1.out hK id)
  have P6 := hid (bl_kx P1.out hK id)
  have S6 := hid (S1.out.keep (ok' := okB M O) hK.size (fun b hb hl => ⟨hb, hK.block b hl id⟩))
  obtain ⟨rad, rc, hvv, -⟩ := hR.form
  obtain ⟨N0, hN0⟩ : ∃ N0, ((zs.take q).map (fun y => y.put 3 x.a y.a)).length = N0 := ⟨_, rfl⟩
  rw [hN0] at hvv
  subst hvv
  clear hR hK hN0
  by_cases hlt : q < Z
  ·
   have gkw : IntKind.i64.wrap ((q : Int) + 1) = (q : Int) + 1 := by have := HZF.out; rw [IntKind.wrap_i64]; omega
   have ga : (q : Int) < (Z : Int) := by omega
   have g0 : (0 : Int) ≤ (q : Int) := by omega
   obtain ⟨y, hy⟩ : ∃ y, zs[q]? = some y := ⟨_, List.getElem?_eq_getElem (by rw [HZL.out]; exact hlt)⟩
   obtain ⟨ad3, c3, hv2, _, hc2⟩ := S6.out.ex
   injection hv2 with e1 e2 e3
   obtain ⟨b2, hbb, _, hbl, hce⟩ := hc2 (by rw [HZL.out]; omega)
   rw [← e1] at hbb
   subst hbb
   have hsp := hce q y hy
   have HY := hid (HGD.out y (List.mem_of_getElem? hy))
   have HTK : Hid ((zs.take (q + 1)).map (fun y => y.put 3 x.a y.a) = (zs.take q).map (fun y => y.put 3 x.a y.a) ++ [y.put 3 x.a y.a]) := by
    show _ = _
    rw [List.take_succ_eq_append_getElem (by rw [HZL.out]; exact hlt), List.map_append, (List.getElem?_eq_some_iff.1 hy).2]
    rfl
   have HLEN := hid (show ((zs.take q).map (fun y => y.put 3 x.a y.a)).length ≤ 5000000000000 by rw [List.length_map, List.length_take]; have := HZF.out; omega)
   have x0 := hsp.c0
   have x1 := hsp.c1
   have x2 := hsp.c2
   have x3 := hsp.c3
   have x4 := hsp.c4
   have x5 := hsp.c5
   have x6 := hsp.c6
   clear hsp hce hy e1 e2 e3 hc2
   obtain ⟨ys, hys⟩ : ∃ ys, (zs.take q).map (fun y => y.put 3 x.a y.a) = ys := ⟨_, rfl⟩
   rw [hys] at R6 HTK HLEN
   clear hys
   go_upto_region 5 with fail
   refine opq (fun W6 => W6.heap[wr.heap.size]? = some (spo y) ∧ W6.heap[(w.heap.size + 1)]? = some (spo x) ∧ W6.heap[P]? = some (pto k low high 3 t (.slice (some ⟨bb, 0, none⟩) L c) rd st h kn so) ∧ SpR wc.heap.size W6 (.slice rad N0 rc) ys ∧ Kx (fun _ => False) wc W6) ⟨by exact last_of _ _, by exact bl_alloc X6.out _, by exact bl_alloc P6.out _, by exact R6.out.kp ((Kp.refl _).alloc _), by exact K6.out.alloc _⟩ ?_
   rintro W6 ⟨xY7, xX7, xP7, xR7, xK7⟩
   have Y7 := hid xY7
   have X7 := hid xX7
   have P7 := hid xP7
   have R7 := hid xR7
   have K7 := hid xK7
   clear xY7 xX7 xP7 xR7 xK7
   have HRY := hid (show ∀ b, (Value.slice rad N0 rc).ownBlock = some b → wc.heap.size ≤ b ∧ b < wr.heap.size from fun b e => R6.out.block b e)
   have HSW := hid K6.out.size
   clear x0 x1 x2 x3 x4 x5 x6 X6 P6 R6 S6 K6
   obtain ⟨z, hz⟩ : ∃ z, y.put 3 x.a y.a = z := ⟨_, rfl⟩
   have HZOK := hid (show z.Ok by rw [← hz]; exact HX.out.put ((Or.inr (Or.inr rfl))) HY.out.1 HY.out.2.2)
   have HZE : Hid (spo (y.put 3 x.a y.a) = spo z) := by show _ = _; rw [hz]
   rw [hz] at HTK
   clear hz
   have gkn : IntKind.i64.wrap 2 = 2 := by rw [IntKind.wrap_i64]; omega
   go_cut [] (fun we => we.heap[wr.heap.size]? = some (spo z) ∧ Ks wr.heap.size W6 we)
   case first =>
    have Q0 : Kp W6 W6.drew := (Kp.refl _).drew
    have MK : Hid (∀ W, Kp W6 W → W.cell? ⟨P, 3, none⟩ = some (.int .i64 3) ∧ W.cell? ⟨(w.heap.size + 1), 0, none⟩ = some (.int .i8 x.a) ∧ W.cell? ⟨wr.heap.size, 0, none⟩ = some (.int .i8 y.a) ∧ Hid (Kp W6 W)) := fun W k => ⟨bl_cell (bl_kp P7.out k) 3 _ rfl, bl_cell (bl_kp X7.out k) 0 _ rfl, bl_cell (bl_kp Y7.out k) 0 _ rfl, k⟩
    refine wp_region_noPanic ?_
    refine hdrewZ 12 MK Q0 (fun hH => ?_)
    have KQ := Q0
    refine zk 12 0 [] (some 24) (Op.move (Operand.tmp 1)) 71 (v := ?v0b1) rfl ?h0b1 hH ?_
    case h0b1 => intro _ _; go_simp; try with_reducible rfl
    try simp only [ps]
    refine zk 12 1 [] (some 25) (Op.nilCheck (Operand.tmp 24)) 0 (v := ?v1b2) rfl ?h1b2 hH ?_
    case h1b2 => intro _ _; go_simp; try with_reducible rfl
    try simp only [ps]
    refine zk 12 2 [] (some 26) (Op.fieldAddr 130 (Operand.tmp 25) 3) 0 (v := ?v2b3) rfl ?h2b3 hH ?_
    case h2b3 => intro _ _; go_simp; try with_reducible rfl
    try simp only [ps]
    refine zk 12 3 [] (some 27) (Op.load 3 (Operand.tmp 26)) 3 (v := ?v3b4) rfl ?h3b4 hH ?_
    case h3b4 => intro _ _; go_simp; try with_reducible rfl
    try simp only [ps]
    refine zk 12 4 [] (some 28) (Op.binOp BinOp.sub 3 (Operand.tmp 27) (Operand.const (Value.int IntKind.i64 1)) 3) 3 (v := ?v4b5) rfl ?h4b5 hH ?_
    case h4b5 => intro _ _; go_simp; try with_reducible rfl
    try simp only [ps]
    refine zk 12 5 [] (some 29) (Op.fieldAddr 83 (Operand.tmp 5) 0) 0 (v := ?v5b6) rfl ?h5b6 hH ?_
    case h5b6 => intro _ _; go_simp; try with_reducible rfl
    try simp only [ps]
    refine zk 12 6 [] (some 30) (Op.load 78 (Operand.tmp 29)) 78 (v := ?v6b7) rfl ?h6b7 hH ?_
    case h6b7 => intro _ _; go_simp; try with_reducible rfl
    try simp only [ps]
    refine zk 12 7 [] (some 31) (Op.fieldAddr 83 (Operand.tmp 9) 0) 0 (v := ?v7b8) rfl ?h7b8 hH ?_
    case h7b8 => intro _ _; go_simp; try with_reducible rfl
    try simp only [ps]
    refine zk 12 8 [] (some 32) (Op.load 78 (Operand.tmp 31)) 78 (v := ?v8b9) rfl ?h8b9 hH ?_
    case h8b9 => intro _ _; go_simp; try with_reducible rfl
    try simp only [ps]
    refine zk 12 9 [] (some 33) (Op.build 80 #[(0, Operand.tmp 30), (1, Operand.tmp 32)]) 80 (v := ?v9b10) rfl ?h9b10 hH ?_
    case h9b10 => intro _ _; go_simp; try with_reducible rfl
    try simp only [ps]
    refine zk 12 10 [11] (some 34) (Op.fieldAddr 83 (Operand.tmp 9) 1) 0 (v := ?v10b11) rfl ?h10b11 hH ?_
    case h10b11 => intro _ _; go_simp; try with_reducible rfl
    try simp only [ps]
    refine zk 12 11 [] (some 35) (Op.indexAddr 81 (Operand.tmp 34) (Operand.tmp 28)) 0 (v := ?v11b12) rfl ?h11b12 hH ?_
    case h11b12 => intro _ _; go_simp; try with_reducible rfl
    try simp only [ps]
    refine anyZ_ready (rs := [12]) (by kernel_rfl) (by simp) ?_
    refine AllZ.last (o := { dst := none, op := Op.store 80 (Operand.tmp 35) (Operand.tmp 33), type := 0, pos := "walk.go:99", after := #[{ on := 11, ground := Ground.data }, { on := 9, ground := Ground.data }, { on := 0, ground := Ground.phase }, { on := 1, ground := Ground.phase }, { on := 2, ground := Ground.phase }, { on := 3, ground := Ground.phase }, { on := 4, ground := Ground.phase }, { on := 5, ground := Ground.phase }, { on := 6, ground := Ground.phase }, { on := 7, ground := Ground.phase }, { on := 8, ground := Ground.phase }, { on := 9, ground := Ground.phase }], guard := none }) rfl (Or.inl rfl) (fun K hKq => ?_) AllZ.nil
    have l5 := bl_cell (bl_drew Y7.out) 5 _ rfl
    have l6 := bl_cell (bl_drew Y7.out) 6 _ rfl
    have fl5 := bl_frozen (bl_drew Y7.out) 5
    have fl6 := bl_frozen (bl_drew Y7.out) 6
    have m6 := bl_cell Y7.out 6 _ rfl
    have fm6 := bl_frozen Y7.out 6
    go_simp
    refine hKq.out _ _ ?_
    clear l5 l6 fl5 fl6 m6 fm6
    clear hKq K
    try simp only [ps]
    refine anyZ_done (by kernel_rfl) ?_ _
    refine NoPanic.normal ?_
    go_wp2_with fail
    go_meet
    case rel => exact ⟨by rw [← HZE.out]; exact bl_put (bl_put Y7.out _) _, (((Ks.refl _ _).set _ _).set _ _).drew⟩

   case rest =>
   obtain ⟨hu4, hk4⟩ := hcut
   rename World => W7
   have Y8 := hid hu4
   have R8 := hid (R7.out.turn (w' := W7) (fun b hb hl => hk4.block b hl (by have := (HRY.out b hb).2; omega)))
   have K8 := hid (hk4.up (Kx.kp K7.out) HSW.out)
   have A8 := hid (R8.out.kp ((Kp.refl W7).alloc (spo z)))
   clear hu4 hk4 Y7 X7 P7 R7 K7
   obtain ⟨y0, y1, y2, y3, y4, y5, y6⟩ := cells7 (Y8.out)
   go_wp2_with (at_builtin; go_must (refine wpList_append_sp (W7.alloc (spo z)) (by rfl) _ _ (by rfl) wc.heap.size (.slice rad N0 rc) ys z (by rfl) W7.heap.size (by rfl) A8 HZOK ?h1 ?h2 ?h3 ?_))
   case h1 => exact last_of _ _
   case h2 => exact HLEN.out
   case h3 => have := K8.out.size; simp; omega
   intro v' w' md
   have MD := hid md
   clear md y0 y1 y2 y3 y4 y5 y6
   obtain ⟨rad', rc', hv', -⟩ := MD.out.row.form
   obtain ⟨N1, hN1⟩ : ∃ N1, (ys ++ [z]).length = N1 := ⟨_, rfl⟩
   rw [hN1] at hv'
   subst hv'
   clear hN1
   go_wp2_with fail
   go_roundg (gk - 1)
   case measure => omega
   case rel => exact ⟨q + 1, by omega, by go_num, by rw [HTK.out]; exact MD.out.row, ((Kp.kx (K8.out.alloc _)).grown MD.out.grown (fun k e hk => by have := (HRY.out k e).1; omega))⟩
  ·
   have ga : ¬ (q : Int) < (Z : Int) := by omega
   have HE : Hid ((zs.take q).map (fun y => y.put 3 x.a y.a) = zs.map (fun y => y.put 3 x.a y.a)) := by
    show _ = _
    rw [List.take_of_length_le (by rw [HZL.out]; omega)]
   go_wp2_with fail
   go_ret
   exact ⟨_, rfl, by rw [← HE.out]; exact R6.out.spl (fun b e => ⟨fun o => by have := (R6.out.block b e).1; have := SO.out b o; omega, M1.out.lt (R6.out.block b e).1⟩), K1.out.trans (Kp.kx (Kx.kp K6.out)), M1.out.keep (S := fun _ => False) K6.out (fun _ _ e => e.elim) (fun _ _ e => e) M1.out.own⟩
end Go.Proofs.YtnajcnhgeggngaaGreat.Way

/-! ### WOk -/

namespace Go.Proofs.YtnajcnhgeggngaaGreat.Way
open Go.RowKit Go.Proofs.YtnajcnhgeggngaaGreat Go.Maps

theorem foldl_inv {α β : Type} {G : β → Prop} {F : β → α → β} : ∀ (l : List α) (s : β), G s → (∀ s y, y ∈ l → G s → G (F s y)) → G (l.foldl F s)
 | [], _, h, _ => h
 | a :: l, s, h, hF => foldl_inv l (F s a) (hF s a (List.mem_cons_self ..) h) (fun s y hy => hF s y (List.mem_cons_of_mem _ hy))
theorem addL_nd {h : Nat} {l : List Sp} {x : Sp} (hl : (l.map (Sp.only h)).Nodup) : ((addL h l x).map (Sp.only h)).Nodup := by
 unfold addL
 split
 ·
  exact hl
 ·
  rename_i hn
  rw [List.map_append, List.nodup_append]
  refine ⟨hl, List.pairwise_singleton _ _, fun a ha b hb e => hn ?_⟩
  rw [List.map_cons, List.map_nil, List.mem_singleton] at hb
  obtain ⟨y, hy, rfl⟩ := List.mem_map.1 ha
  rw [List.any_eq_true]
  exact ⟨y, hy, by rw [e, hb]; exact beq_self_eq_true _⟩
theorem walkF_nd {W : Sp → List Sp} {rd h : Nat} {acc : List Sp} {x : Sp} (ha : (acc.map (Sp.only h)).Nodup) : ((walkF W rd h acc x).map (Sp.only h)).Nodup :=
 foldl_inv (G := fun (a : List Sp) => (a.map (Sp.only h)).Nodup) _ _ ha (fun _ _ _ hs => addL_nd hs)
def Good (N : Nat) (lo : Int) (l : List Sp) : Prop := ∀ y ∈ l, y.Ok ∧ y.In N ∧ lo ≤ y.a
theorem Good.few {N h : Nat} {lo : Int} {l : List Sp} (hg : Good N lo l) (hn : (l.map (Sp.only h)).Nodup) : l.length ≤ 4398046511104 := few_spots h l (fun y hy => (hg y hy).1) hn
def GoodW (N : Nat) (W : Sp → List Sp) : Prop := ∀ x : Sp, x.Ok → x.In N → ∀ y ∈ W x, y.Ok ∧ y.In N ∧ x.a ≤ y.a
theorem cat_good {L : List UInt8} {bol : Bool} {N : Nat} {lo : Int} : ∀ (kids : List Pt) (l : List Sp), (∀ (j : Nat) q, kids[j]? = some q → GoodW N (ways L bol q)) → Good N lo l → l.length ≤ 4398046511104 → Good N lo (catW L bol kids l) ∧ (catW L bol kids l).length ≤ 4398046511104
 | [], l, _, hl, hf => by unfold catW; exact ⟨hl, hf⟩
 | p :: ps, l, hk, hl, _ => by
  unfold catW
  have h1 : Good N lo (l.foldl (walkF (ways L bol p) p.rd p.hd) []) := walks_good (hk 0 p rfl) l hl (fun y hy => by cases hy)
  have h2 : ((l.foldl (walkF (ways L bol p) p.rd p.hd) []).map (Sp.only p.hd)).Nodup := foldl_inv (G := fun (a : List Sp) => (a.map (Sp.only p.hd)).Nodup) _ _ List.nodup_nil (fun _ _ _ hs => walkF_nd hs)
  exact cat_good ps _ (fun j q hj => hk (j + 1) q hj) h1 (h1.few h2)
theorem alt_good {L : List UInt8} {bol : Bool} {N h : Nat} {x : Sp} (hx : x.Ok) (hN : x.In N) : ∀ (kids : List Pt) (acc : List Sp), (∀ (j : Nat) q, kids[j]? = some q → GoodW N (ways L bol q)) → Good N x.a acc → (acc.map (Sp.only h)).Nodup → Good N x.a (altW L bol h kids x acc) ∧ ((altW L bol h kids x acc).map (Sp.only h)).Nodup
 | [], acc, _, ha, hn => by unfold altW; exact ⟨ha, hn⟩
 | p :: ps, acc, hk, ha, hn => by
  unfold altW
  exact alt_good hx hN ps _ (fun j q hj => hk (j + 1) q hj) (walkF_good (hk 0 p rfl) ⟨hx, hN, Int.le_refl _⟩ ha) (walkF_nd hn)
def GB (N : Nat) (lo : Int) (h : Nat) (st : List Turn × List Sp) : Prop := Good N lo st.2 ∧ (st.2.map (Sp.only h)).Nodup
theorem beh_good {N h : Nat} {lo low : Int} {NX : Int → Sp → List Turn → List Sp × List Turn} (hNX : ∀ n (x : Sp) bg, x.Ok → x.In N → ∀ y ∈ (NX n x bg).1, y.Ok ∧ y.In N ∧ x.a ≤ y.a) : ∀ (f : Nat) (n : Int) (x : Sp) (st : List Turn × List Sp), x.Ok → x.In N → lo ≤ x.a → GB N lo h st → GB N lo h (behindP NX low h f n x st)
 | 0, _, _, _, _, _, _, hs => hs
 | f + 1, n, x, st, hx, hN, hl, hs => by
  have h1 : GB N lo h ((NX n x st.1).1.foldl (fun s y => if n < low ∨ ¬ y.a = x.a then behindP NX low h f (n + 1) y s else s) ((NX n x st.1).2, st.2)) := foldl_inv (G := GB N lo h) _ _ hs (fun s y hy hs => by
   obtain ⟨a1, a2, a3⟩ := hNX n x st.1 hx hN y hy
   split
   ·
    exact beh_good hNX f (n + 1) y s a1 a2 (Int.le_trans hl a3) hs
   ·
    exact hs)
  unfold behindP
  simp only
  split
  ·
   exact h1
  ·
   exact ⟨addL_good h1.1 ⟨hx, hN, hl⟩, addL_nd h1.2⟩
theorem rep_good {N h : Nat} {W : Sp → List Sp} {lf : Bool} {krd khd rdp : Nat} {low high : Int} (hW : GoodW N W) {x : Sp} (hx : x.Ok) (hN : x.In N) : GB N x.a h (behindP (nextP lf W krd khd rdp low high) low h 90 0 x ([], [])) :=
 beh_good (fun _ _ _ hx hN => next_good hW hx hN) 90 0 x ([], []) hx hN (Int.le_refl _) ⟨(fun y hy => by cases hy), List.nodup_nil⟩
theorem put_in {N : Nat} {n : Int} {x y : Sp} (hN : y.In N) : (y.put n x.a y.a).In N := by
 unfold Sp.put
 split
 ·
  exact ⟨hN.a, hN.a, hN.t1, hN.t2⟩
 ·
  split
  ·
   exact ⟨hN.a, hN.t0, hN.a, hN.t2⟩
  ·
   exact ⟨hN.a, hN.t0, hN.t1, hN.a⟩
theorem put_a (n f t : Int) (y : Sp) : (y.put n f t).a = y.a := by
 unfold Sp.put
 split
 ·
  rfl
 ·
  split <;> rfl
theorem ways_leaf {L : List UInt8} {bol : Bool} {k low high n : Int} {t : W4} {P rd st hd : Nat} {kn so : Option Nat} {kids : List Pt} (hl : leafK k = true) (x : Sp) : ways L bol (.mk k low high n t P kn so rd st hd kids) x = leafP L bol k n t x := by
 unfold leafK at hl
 have h2 : ¬ k = 2 := fun e => by subst e; cases hl
 have h3 : ¬ k = 3 := fun e => by subst e; cases hl
 have h5 : ¬ k = 5 := fun e => by subst e; cases hl
 have h4 : ¬ k = 4 := fun e => by subst e; cases hl
 unfold ways
 rw [if_neg h2, if_neg h3, if_neg h5, if_neg h4]
theorem leaf_good {L : List UInt8} {bol : Bool} {k n : Int} {t : W4} (h60 : L.length ≤ 60) : GoodW L.length (leafP L bol k n t) := by
 intro x hx hN y hy
 unfold leafP at hy
 split at hy
 ·
  rename_i m hm
  obtain ⟨h0, h1⟩ := step_le hx hN hm
  rw [List.mem_singleton.1 hy]
  obtain ⟨a1, a2⟩ := moved_good h60 hx hN h0 h1
  exact ⟨a1, a2, by show x.a ≤ x.a + m; omega⟩
 ·
  cases hy
theorem leaf_few (L : List UInt8) (bol : Bool) (k n : Int) (t : W4) (x : Sp) : (leafP L bol k n t x).length ≤ 1 := by
 unfold leafP
 split <;> simp
theorem hc_of {f : FuncId} {args : Array Value} {zs : List Sp} {ok : Nat → Prop} {M : Nat → Option Memo} {O : Nat → Prop} {w W : World} (k0 : Kp w W) (h : Calls Tryz.prog f args W fun e w' => WaysD zs ok (fun w' => Km M W w' ∧ MemOk M O w') e w') : Calls Tryz.prog f args W fun e w' => WaysD zs ok (fun w' => Km M w w' ∧ MemOk M O w') e w' ∧ ∃ v, e = .returned v := by
 refine h.mono ?_
 rintro e w' ⟨v, rfl, hv, hk, hm⟩
 exact ⟨⟨v, rfl, hv, (Kp.kx k0).trans hk, hm⟩, v, rfl⟩
theorem memok_kp {M : Nat → Option Memo} {O : Nat → Prop} {w W : World} (hM : MemOk M O w) (k0 : Kp w W) : MemOk M O W := hM.keep (S := fun _ => False) (Kp.kx k0) (fun _ _ e => e.elim) (fun _ _ e => e) hM.own
theorem waysl_any (s : ByteArray) (bol : Bool) (h60 : s.size ≤ 60) (M : Nat → Option Memo) (k low high n : Int) (t : W4) (P : Nat) (kn so : Option Nat) (rd st h : Nat) (kids : List Pt) (hlf : leafK k = true) (hk : LeafOk k n t) (O : Nat → Prop) (x : Sp) (hx : x.Ok) (hN : x.In s.size) (w : World) (hO : ∀ b, O b → b < w.heap.size) (hM : MemOk M O w) (hP : PtAt w (okB M O) (.mk k low high n t P kn so rd st h kids)) :
  Calls Tryz.prog 34 #[wkv s bol, ptv P, spv x] w fun e w' => WaysD (leafP s.data.toList bol k n t x) (okB M O) (fun w' => Km M w w' ∧ MemOk M O w') e w' := by
 obtain ⟨kv, hblk, hok⟩ : ∃ kv, w.heap[P]? = some (pto k low high n t kv rd st h kn so) ∧ M P = none := by
  unfold PtAt at hP
  obtain ⟨h1, ⟨ad, c, h2, _⟩, _⟩ := hP
  exact ⟨_, h2, h1.2⟩
 have HLF := hid hlf
 have HB := hid hblk
 have HM := hid hM
 have HO := hid hO
 have FD := hid (fun (W : World) (k0 : Kp w W) => wleaf_any k low high n t kv rd st h kn so P s bol x W (bl_kp hblk k0) h60 hx hN hk)
 have HLE := hid (leaf_any k low high n t kv rd st h kn so P)
 clear hlf hx hN hO hM hP hblk hok hk
 go_enter Tryz.func34, Tryz.ntmps34
 go_upto_region 1 with fail
 refine opq (fun W0 => W0.heap[w.heap.size]? = some (.cells #[.string s, .bool bol] 70) ∧ W0.heap[(w.heap.size + 1)]? = some (spo x) ∧ W0.heap[P]? = some (pto k low high n t kv rd st h kn so) ∧ Kp w W0) ⟨by exact bl_alloc (last_of _ _) _, by exact last_at _ _ _ (by simp), by exact bl_kp HB.out kpt, by exact kpt⟩ ?_
 rintro W0 ⟨xT0, xX0, xP0, xK0⟩
 have T0 := hid xT0
 have X0 := hid xX0
 have P0 := hid xP0
 have K0 := hid xK0
 clear xT0 xX0 xP0 xK0
 clear HB
 go_wp2_with fail
 refine (HLE.out _ P0.out).mono ?_
 rintro e w1 ⟨rfl, hw⟩
 rw [hw, HLF.out]
 clear HLE hw w1
 have b0 := bl_cell (T0.out) 0 _ rfl
 have b1 := bl_cell (T0.out) 1 _ rfl
 obtain ⟨x0, x1, x2, x3, x4, x5, x6⟩ := cells7 (X0.out)
 go_wp2_with fail
 refine (FD.out W0 K0.out).mono ?_
 rintro e y ⟨⟨v, rfl, hv, hk⟩⟩
 have HV := hid hv
 have K1 := hid (K0.out.trans hk)
 clear hv hk b0 b1 x0 x1 x2 x3 x4 x5 x6
 go_wp2_with fail
 go_ret
 exact ⟨_, rfl, HV.out.keep (Nat.le_refl _) (fun b hb _ => ⟨⟨fun o => by have := HO.out b o; have := K0.out.size; have : W0.heap.size ≤ b := hb; omega, HM.out.lt (Nat.le_trans K0.out.size hb)⟩, rfl⟩), Kp.kx K1.out, memok_kp HM.out K1.out⟩
mutual
def PtW (M : Nat → Option Memo) (L : List UInt8) (bol : Bool) : Pt → Prop
 | .mk k low high n t P kn so rd st hd kids => (rd < 8 ∧ st < 8 ∧ hd < 8) ∧ (leafK k = true → LeafOk k n t) ∧ (leafK k = false → (∃ b, kn = some b ∧ M b = some (.kn (ways L bol (.mk k low high n t P kn so rd st hd kids)))) ∧ (∃ c, so = some c ∧ M c = some (.so (ways L bol (.mk k low high n t P kn so rd st hd kids)) hd))) ∧ (k = 5 → (n = 1 ∨ n = 2 ∨ n = 3) ∧ kids ≠ []) ∧ (k = 4 → (0 ≤ low ∧ low ≤ 20) ∧ kids ≠ []) ∧ kids.length ≤ 4398046511104 ∧ PtsW M L bol kids
def PtsW (M : Nat → Option Memo) (L : List UInt8) (bol : Bool) : List Pt → Prop
 | [] => True
 | p :: ps => PtW M L bol p ∧ PtsW M L bol ps
end
theorem PtsW.get {M : Nat → Option Memo} {L : List UInt8} {bol : Bool} : ∀ {ps : List Pt}, PtsW M L bol ps → ∀ (j : Nat) p, ps[j]? = some p → PtW M L bol p
 | [], _, j, p, hj => by simp at hj
 | q :: qs, h, 0, p, hj => by
  unfold PtsW at h
  simp at hj
  subst hj
  exact h.1
 | q :: qs, h, j + 1, p, hj => by
  unfold PtsW at h
  simp at hj
  exact h.2.get j p hj
theorem PtW.wd {M : Nat → Option Memo} {L : List UInt8} {bol : Bool} {p : Pt} (h : PtW M L bol p) : p.rd < 8 ∧ p.st < 8 ∧ p.hd < 8 := by
 cases p
 unfold PtW at h
 exact h.1
theorem PtsW.wd {M : Nat → Option Memo} {L : List UInt8} {bol : Bool} : ∀ {ps : List Pt}, PtsW M L bol ps → WdOk ps
 | [], _ => trivial
 | p :: ps, h => by
  unfold PtsW at h
  exact ⟨⟨h.1.wd.1, h.1.wd.2.1⟩, PtsW.wd h.2⟩
theorem sortS_of {s : ByteArray} {bol : Bool} {M : Nat → Option Memo} {p : Pt} (h : PtW M s.data.toList bol p) (HS : WSaid s bol M p) (hl : leafK p.k = false) : SortS s bol M p := by
 obtain ⟨k, low, high, n, t, P, kn, so, rd, st, hd, kids⟩ := p
 unfold PtW at h
 obtain ⟨-, c, rfl, hc⟩ := h.2.2.1 hl
 exact fun O x w hx hN hO hP hM => sorted_any s bol M k low high n t P c kn rd st hd kids h.1.2.2 hc HS O x hx hN w hO hM hP
theorem leafS_of {s : ByteArray} {bol : Bool} (h60 : s.size ≤ 60) {M : Nat → Option Memo} {p : Pt} (h : PtW M s.data.toList bol p) (hl : leafK p.k = true) : LeafS s bol M p := by
 obtain ⟨k, low, high, n, t, P, kn, so, rd, st, hd, kids⟩ := p
 unfold PtW at h
 intro O x w hx hN hP
 have hl' : leafK k = true := hl
 rw [ways_leaf hl']
 unfold PtAt at hP
 obtain ⟨_, ⟨ad, c, h2, _⟩, _⟩ := hP
 exact wleaf_any k low high n t _ rd st hd kn so P s bol x w h2 h60 hx hN (h.2.1 hl)
theorem ways2 {L : List UInt8} {bol : Bool} {low high n : Int} {t : W4} {P rd st hd : Nat} {kn so : Option Nat} {kids : List Pt} (x : Sp) : ways L bol (.mk 2 low high n t P kn so rd st hd kids) x = catW L bol kids [x] := by
 unfold ways
 rw [if_pos rfl]
theorem ways3 {L : List UInt8} {bol : Bool} {low high n : Int} {t : W4} {P rd st hd : Nat} {kn so : Option Nat} {kids : List Pt} (x : Sp) : ways L bol (.mk 3 low high n t P kn so rd st hd kids) x = altW L bol hd kids x [] := by
 unfold ways
 rw [if_neg (by decide), if_pos rfl]
theorem ways5 {L : List UInt8} {bol : Bool} {low high n : Int} {t : W4} {P rd st hd : Nat} {kn so : Option Nat} {kid : Pt} {ks : List Pt} (x : Sp) : ways L bol (.mk 5 low high n t P kn so rd st hd (kid :: ks)) x = (ways L bol kid x).map (fun y => y.put n x.a y.a) := by
 have h : ways L bol (.mk 5 low high n t P kn so rd st hd (kid :: ks)) x = (fstW L bol (kid :: ks) x).map (fun y => y.put n x.a y.a) := by
  unfold ways
  rw [if_neg (by decide), if_neg (by decide), if_pos rfl]
 rw [h]
 unfold fstW
 rfl
theorem ways4 {L : List UInt8} {bol : Bool} {low high n : Int} {t : W4} {P rd st hd : Nat} {kn so : Option Nat} {kid : Pt} {ks : List Pt} (x : Sp) : ways L bol (.mk 4 low high n t P kn so rd st hd (kid :: ks)) x = (behindP (nextP (leafK kid.k) (ways L bol kid) kid.rd kid.hd rd low high) low hd 90 0 x ([], [])).2 := by
 have h : ways L bol (.mk 4 low high n t P kn so rd st hd (kid :: ks)) x = repP (leafK kid.k) (fstW L bol (kid :: ks)) kid.rd kid.hd rd low high hd x := by
  unfold ways
  rw [if_neg (by decide), if_neg (by decide), if_neg (by decide), if_pos rfl]
  rfl
 rw [h]
 have h2 : fstW L bol (kid :: ks) = ways L bol kid := by
  funext y
  unfold fstW
  rfl
 rw [h2]
 rfl
theorem found_rep {s : ByteArray} {bol : Bool} (h60 : s.size ≤ 60) {M : Nat → Option Memo} {low high n : Int} {t : W4} {P rd st hd : Nat} {kn so : Option Nat} {kid : Pt} {ks : List Pt} (hrd : rd < 8) (hhd : hd < 8) (hlow : 0 ≤ low ∧ low ≤ 20) (hW : PtW M s.data.toList bol kid) (HS : WSaid s bol M kid) : FoundD s bol M P (.mk 4 low high n t P kn so rd st hd (kid :: ks)) := by
 intro O x w hx hN hO hP hM
 rw [ways4]
 have hP0 := hP
 unfold PtAt at hP
 obtain ⟨h1, ⟨ad, c, h2, _⟩, _⟩ := hP
 refine (found4_any s bol low high n t P _ rd st hd kn so x w h2 (fun e w' => WaysD _ (okB M O) (fun w' => Km M w w' ∧ MemOk M O w') e w') (fun W k0 => hc_of k0 (wrep_any s bol M O 4 low high n t P _ rd st hd kn so hhd x W (bl_kp h2 k0) (memok_kp hM k0) (fun b o => Nat.lt_of_lt_of_le (hO b o) k0.size) _ (fun R B W1 k1 hR hB hRW => ?_)))).mono (fun _ _ h => h.q)
 refine (behind_all (fun f IH => behind_step s bol P M O W1.heap.size R B hd low high n t kn so rd st kid ks hrd hW.wd.1 HS (sortS_of hW HS) (leafS_of h60 hW) hlow.1 f IH) 90 0 x [] [] (.slice none 0 0) 0 none W1 (Int.le_refl _) (by have := hx.a0; omega) (by have := hx.a0; omega) hx hN (fun b o => Nat.lt_of_lt_of_le (hO b o) (k0.trans k1).size) hRW (PtAt.keep (k0.trans k1).size (fun b hb hl => ⟨⟨fun o => ?h1, hb.2⟩, (k0.trans k1).block b hl⟩) _ hP0)).mono ?h2
 case h1 =>
  have := k0.size
  rcases o with (o | o | o | o) | o
  ·
   exact hb.1 o
  ·
   omega
  ·
   cases o
  ·
   cases o
  ·
   omega
 case h2 =>
  rintro e w' ⟨rfl, l2, p2, n2, hr, -, -, hk⟩
  exact ⟨rfl, _, l2, p2, n2, hr, hk⟩
theorem found_row {s : ByteArray} {bol : Bool} (h60 : s.size ≤ 60) {M : Nat → Option Memo} {low high n : Int} {t : W4} {P rd st hd : Nat} {kn so : Option Nat} {kids : List Pt} (hf : kids.length ≤ 4398046511104) (hW : PtsW M s.data.toList bol kids) (HS : ∀ (j : Nat) q, kids[j]? = some q → WSaid s bol M q) : FoundD s bol M P (.mk 2 low high n t P kn so rd st hd kids) := by
 intro O x w hx hN hO hP hM
 rw [ways2]
 unfold PtAt at hP
 obtain ⟨h1, ⟨ad, c, h2, h3, h4⟩, h5⟩ := hP
 exact found2_any s bol M O low high n t P _ rd st hd kn so x w h2 h1.2 hM _ (fun W k0 => wcat_any s bol h60 M kids HS hW.wd (fun j q hj => (hW.get j q hj).wd.2.2) hf O x hx hN W (fun b o => Nat.lt_of_lt_of_le (hO b o) k0.size) (memok_kp hM k0) ad c (KidS.kp ⟨h3, h4⟩ k0) (PtsAt.kp h5 k0))
theorem found_alt {s : ByteArray} {bol : Bool} (h60 : s.size ≤ 60) {M : Nat → Option Memo} {low high n : Int} {t : W4} {P rd st hd : Nat} {kn so : Option Nat} {kids : List Pt} (hhd : hd < 8) (hf : kids.length ≤ 4398046511104) (hW : PtsW M s.data.toList bol kids) (HS : ∀ (j : Nat) q, kids[j]? = some q → WSaid s bol M q) : FoundD s bol M P (.mk 3 low high n t P kn so rd st hd kids) := by
 intro O x w hx hN hO hP hM
 rw [ways3]
 have hP0 := hP
 unfold PtAt at hP
 obtain ⟨h1, ⟨ad, c, h2, h3, h4⟩, h5⟩ := hP
 exact (found3_any s bol low high n t P _ rd st hd kn so x w h2 (fun e w' => WaysD _ (okB M O) (fun w' => Km M w w' ∧ MemOk M O w') e w') (fun W k0 => hc_of k0 (walt_any s bol h60 M (.mk 3 low high n t P kn so rd st hd kids) HS hW.wd hhd hf O x hx hN W (fun b o => Nat.lt_of_lt_of_le (hO b o) k0.size) (memok_kp hM k0) (PtAt.kp hP0 k0)))).mono (fun _ _ h => h.q)
theorem found_group {s : ByteArray} {bol : Bool} (h60 : s.size ≤ 60) {M : Nat → Option Memo} {low high n : Int} {t : W4} {P rd st hd : Nat} {kn so : Option Nat} {kid : Pt} {ks : List Pt} (hn : n = 1 ∨ n = 2 ∨ n = 3) (HS : WSaid s bol M kid) : FoundD s bol M P (.mk 5 low high n t P kn so rd st hd (kid :: ks)) := by
 intro O x w hx hN hO hP hM
 rw [ways5]
 have hP0 := hP
 unfold PtAt at hP
 obtain ⟨h1, ⟨ad, c, h2, h3, h4⟩, h5⟩ := hP
 refine (found5_any s bol low high n t P _ rd st hd kn so x w h2 (fun e w' => WaysD _ (okB M O) (fun w' => Km M w w' ∧ MemOk M O w') e w') (fun W k0 => hc_of k0 ?_)).mono (fun _ _ h => h.q)
 rcases hn with rfl | rfl | rfl
 ·
  exact wgroup1_any s bol h60 M 5 low high t P kn so rd st hd kid ks HS O x hx hN W (fun b o => Nat.lt_of_lt_of_le (hO b o) k0.size) (memok_kp hM k0) (PtAt.kp hP0 k0)
 ·
  exact wgroup2_any s bol h60 M 5 low high t P kn so rd st hd kid ks HS O x hx hN W (fun b o => Nat.lt_of_lt_of_le (hO b o) k0.size) (memok_kp hM k0) (PtAt.kp hP0 k0)
 ·
  exact wgroup3_any s bol h60 M 5 low high t P kn so rd st hd kid ks HS O x hx hN W (fun b o => Nat.lt_of_lt_of_le (hO b o) k0.size) (memok_kp hM k0) (PtAt.kp hP0 k0)
theorem wsaid_of {s : ByteArray} {bol : Bool} (h60 : s.size ≤ 60) {M : Nat → Option Memo} {k low high n : Int} {t : W4} {P rd st hd : Nat} {kn so : Option Nat} {kids : List Pt} (h : PtW M s.data.toList bol (.mk k low high n t P kn so rd st hd kids)) (HS : ∀ (j : Nat) q, kids[j]? = some q → WSaid s bol M q) : WSaid s bol M (.mk k low high n t P kn so rd st hd kids) := by
 unfold PtW at h
 obtain ⟨⟨w1, w2, w3⟩, hl, hm, h5, h4, hf, hks⟩ := h
 have hsz : s.data.toList.length = s.size := by rw [Array.length_toList]; rfl
 cases hk : leafK k with
 | true =>
  refine ⟨fun x hx hN => ?_, fun x hx hN => ?_, fun O x w hx hN hO hP hM => ?_⟩
  ·
   rw [ways_leaf hk]
   rw [← hsz] at h60 hN ⊢
   exact leaf_good h60 x hx hN
  ·
   rw [ways_leaf hk]
   exact Nat.le_trans (leaf_few ..) (by omega)
  ·
   rw [ways_leaf hk]
   exact waysl_any s bol h60 M k low high n t P kn so rd st hd kids hk (hl hk) O x hx hN w hO hM hP
 | false =>
  obtain ⟨⟨b, rfl, hb⟩, -⟩ := hm hk
  have hgw : ∀ (j : Nat) q, kids[j]? = some q → GoodW s.size (ways s.data.toList bol q) := fun j q hj => (HS j q hj).good
  have all : FoundD s bol M P (.mk k low high n t P (some b) so rd st hd kids) → ∀ (O : Nat → Prop) (x : Sp) (w : World), x.Ok → x.In s.size → (∀ b, O b → b < w.heap.size) → PtAt w (okB M O) (.mk k low high n t P (some b) so rd st hd kids) → MemOk M O w → Calls Tryz.prog 34 #[wkv s bol, ptv P, spv x] w fun e w' => WaysD (ways s.data.toList bol (.mk k low high n t P (some b) so rd st hd kids) x) (okB M O) (fun w' => Km M w w' ∧ MemOk M O w') e w' := fun HF O x w hx hN hO hP hM => ways_any s bol M k low high n t P b so rd st hd kids hk hb HF O x hx hN w hO hM hP
  have hkk : k = 2 ∨ k = 3 ∨ k = 5 ∨ k = 4 := by
   unfold leafK at hk
   by_cases e2 : k = 2
   ·
    exact Or.inl e2
   by_cases e3 : k = 3
   ·
    exact Or.inr (Or.inl e3)
   by_cases e5 : k = 5
   ·
    exact Or.inr (Or.inr (Or.inl e5))
   by_cases e4 : k = 4
   ·
    exact Or.inr (Or.inr (Or.inr e4))
   simp [e2, e3, e4, e5] at hk
  rcases hkk with rfl | rfl | rfl | rfl
  ·
   have hg : ∀ x : Sp, x.Ok → x.In s.size → Good s.size x.a (catW s.data.toList bol kids [x]) ∧ (catW s.data.toList bol kids [x]).length ≤ 4398046511104 := fun x hx hN => cat_good kids [x] hgw (fun y hy => by rw [List.mem_singleton.1 hy]; exact ⟨hx, hN, Int.le_refl _⟩) (by rw [List.length_singleton]; omega)
   exact ⟨fun x hx hN => by rw [ways2]; exact (hg x hx hN).1, fun x hx hN => by rw [ways2]; exact (hg x hx hN).2, all (found_row h60 hf hks HS)⟩
  ·
   have hg : ∀ x : Sp, x.Ok → x.In s.size → Good s.size x.a (altW s.data.toList bol hd kids x []) ∧ ((altW s.data.toList bol hd kids x []).map (Sp.only hd)).Nodup := fun x hx hN => alt_good hx hN kids [] hgw (fun y hy => by cases hy) List.nodup_nil
   exact ⟨fun x hx hN => by rw [ways3]; exact (hg x hx hN).1, fun x hx hN => by rw [ways3]; exact (hg x hx hN).1.few (hg x hx hN).2, all (found_alt h60 w3 hf hks HS)⟩
  ·
   obtain ⟨hn, hne⟩ := h5 rfl
   cases kids with
   | nil => exact absurd rfl hne
   | cons kid ks =>
    have hS := HS 0 kid rfl
    refine ⟨fun x hx hN y hy => ?_, fun x hx hN => ?_, all (found_group h60 hn hS)⟩
    ·
     rw [ways5] at hy
     obtain ⟨z, hz, rfl⟩ := List.mem_map.1 hy
     obtain ⟨a1, a2, a3⟩ := hS.good x hx hN z hz
     exact ⟨hx.put hn a1 a3, put_in a2, by rw [put_a]; exact a3⟩
    ·
     rw [ways5, List.length_map]
     exact hS.few x hx hN
  ·
   obtain ⟨hlow, hne⟩ := h4 rfl
   cases kids with
   | nil => exact absurd rfl hne
   | cons kid ks =>
    have hS := HS 0 kid rfl
    have hg : ∀ x : Sp, x.Ok → x.In s.size → GB s.size x.a hd (behindP (nextP (leafK kid.k) (ways s.data.toList bol kid) kid.rd kid.hd rd low high) low hd 90 0 x ([], [])) := fun x hx hN => rep_good (hgw 0 kid rfl) hx hN
    exact ⟨fun x hx hN => by rw [ways4]; exact (hg x hx hN).1, fun x hx hN => by rw [ways4]; exact (hg x hx hN).1.few (hg x hx hN).2, all (found_rep h60 w1 w3 hlow (hks.get 0 kid rfl) hS)⟩
mutual
theorem wsaid {s : ByteArray} {bol : Bool} (h60 : s.size ≤ 60) {M : Nat → Option Memo} : ∀ (p : Pt), PtW M s.data.toList bol p → WSaid s bol M p
 | .mk k low high n t P kn so rd st hd kids, h => wsaid_of h60 h (wsaids h60 kids (by unfold PtW at h; exact h.2.2.2.2.2.2))
theorem wsaids {s : ByteArray} {bol : Bool} (h60 : s.size ≤ 60) {M : Nat → Option Memo} : ∀ (ps : List Pt), PtsW M s.data.toList bol ps → ∀ (j : Nat) q, ps[j]? = some q → WSaid s bol M q
 | [], _, j, q, hj => by simp at hj
 | p :: ps, h, 0, q, hj => by
  simp at hj
  subst hj
  unfold PtsW at h
  exact wsaid h60 p h.1
 | p :: ps, h, j + 1, q, hj => by
  simp at hj
  unfold PtsW at h
  exact wsaids h60 ps h.2 j q hj
end
end Go.Proofs.YtnajcnhgeggngaaGreat.Way
