/-
  Texts of this claim: Ways, Sorted.
-/
import Derived.Test.YtnajcnhgeggngaaGreatM26
import Derived.Test.YtnajcnhgeggngaaGreatM17

/-! ### Ways -/

namespace Go.Proofs.YtnajcnhgeggngaaGreat.Way
set_option maxHeartbeats 2000000
set_option maxRecDepth 100000
open Go.RowKit Go.Proofs.YtnajcnhgeggngaaGreat Go.Maps

theorem zero68 (w : World) : (zeroValue 68).run Tryz.prog w = .ok (.slice none 0 0) w := by
 have := Tryz.zeroValue68
 go_simp
theorem MemOk.put {M : Nat → Option Memo} {O : Nat → Prop} {w w' : World} {b : Nat} {W : Sp → List Sp} (h : MemOk M O w) (hb : M b = some (.kn W)) (hat : MapAt w' b (fun x v => SpL w (okB M O) v (W x))) (k : Kx (fun q => q = b) w w') : MemOk M O w' := by
 have on : ∀ d, okB M O d → d < w.heap.size → okB M O d ∧ w'.heap[d]? = w.heap[d]? := fun d hd hl => ⟨hd, k.block d hl (fun e => by rw [e] at hd; have := hd.2; rw [hb] at this; cases this)⟩
 refine ⟨fun c m hc => ?_, h.own⟩
 by_cases e : c = b
 ·
  subst e
  rw [hb] at hc
  injection hc with hc
  subst hc
  exact MapAt.imp hat rfl (fun x v q => q.keep k.size on)
 ·
  exact (h.at_ c m hc).keep (k.block c (h.at_ c m hc).lt e) k.size on
theorem spl_put {M : Nat → Option Memo} {O : Nat → Prop} {w w' : World} {b : Nat} {W : Sp → List Sp} (hb : M b = some (.kn W)) (k : Kx (fun q => q = b) w w') {v : Value} {xs : List Sp} (h : SpL w (okB M O) v xs) : SpL w' (okB M O) v xs :=
 h.keep k.size (fun d hd hl => ⟨hd, k.block d hl (fun e => by rw [e] at hd; have := hd.2; rw [hb] at this; cases this)⟩)
abbrev Drew (a b : World) : Prop := b = a.drew
abbrev FoundD (s : ByteArray) (bol : Bool) (M : Nat → Option Memo) (P : Nat) (p : Pt) : Prop := ∀ (O : Nat → Prop) (x : Sp) (w : World), x.Ok → x.In s.size → (∀ b, O b → b < w.heap.size) → PtAt w (okB M O) p → MemOk M O w →
  Calls Tryz.prog 54 #[wkv s bol, ptv P, spv x] w fun e w' => WaysD (ways s.data.toList bol p x) (okB M O) (fun w' => Km M w w' ∧ MemOk M O w') e w'
theorem ways_any (s : ByteArray) (bol : Bool) (M : Nat → Option Memo) (k low high n : Int) (t : W4) (P b : Nat) (so : Option Nat) (rd st h : Nat) (kids : List Pt) (hlf : leafK k = false) (hMb : M b = some (.kn (ways s.data.toList bol (.mk k low high n t P (some b) so rd st h kids)))) (HF : FoundD s bol M P (.mk k low high n t P (some b) so rd st h kids)) (O : Nat → Prop) (x : Sp) (hx : x.Ok) (hN : x.In s.size) (w : World) (hO : ∀ b, O b → b < w.heap.size) (hM : MemOk M O w) (hP : PtAt w (okB M O) (.mk k low high n t P (some b) so rd st h kids)) :
  Calls Tryz.prog 34 #[wkv s bol, ptv P, spv x] w fun e w' => WaysD (ways s.data.toList bol (.mk k low high n t P (some b) so rd st h kids) x) (okB M O) (fun w' => Km M w w' ∧ MemOk M O w') e w' := by
 obtain ⟨kv, hblk, hok⟩ : ∃ kv, w.heap[P]? = some (pto k low high n t kv rd st h (some b) so) ∧ M P = none := by
  unfold PtAt at hP
  obtain ⟨h1, ⟨ad, c, h2, _⟩, _⟩ := hP
  exact ⟨_, h2, h1.2⟩
 have HLF := hid hlf
 have HMB := hid hMb
 have HX := hid hx
 have HB := hid hblk
 have HMP := hid (show ¬ M P ≠ none from fun e => e hok)
 have HM := hid hM
 have HMX := hid (show ¬ M (w.heap.size + 1) ≠ none from fun e => e (hM.lt (Nat.le_succ _)))
 have FD := hid (fun (W : World) (k0 : Kp w W) => HF O x W hx hN (fun b hb => Nat.lt_of_lt_of_le (hO b hb) k0.size) (PtAt.kp hP k0) (hM.keep (S := fun _ => False) (Kp.kx k0) (fun _ _ e => e.elim) (fun _ _ e => e) hM.own))
 have HLE := hid (leaf_any k low high n t kv rd st h (some b) so P)
 clear hlf hMb HF hx hN hO hM hP hblk hok
 go_enter Tryz.func34, Tryz.ntmps34
 go_upto_region 1 with fail
 refine opq (fun W0 => W0.heap[w.heap.size]? = some (.cells #[.string s, .bool bol] 70) ∧ W0.heap[(w.heap.size + 1)]? = some (spo x) ∧ W0.heap[P]? = some (pto k low high n t kv rd st h (some b) so) ∧ Kp w W0) ⟨by exact bl_alloc (last_of _ _) _, by exact last_at _ _ _ (by simp), by exact bl_kp HB.out kpt, by exact kpt⟩ ?_
 rintro W0 ⟨xT0, xX0, xP0, xK0⟩
 have T0 := hid xT0
 have X0 := hid xX0
 have P0 := hid xP0
 have K0 := hid xK0
 clear xT0 xX0 xP0 xK0
 have M0 := hid (HM.out.keep (S := fun _ => False) (Kp.kx K0.out) (fun _ _ e => e.elim) (fun _ _ e => e) HM.out.own)
 have B0 : Hid (MapAt W0.drew b (fun x v => SpL W0 (okB M O) v (ways s.data.toList bol (.mk k low high n t P (some b) so rd st h kids) x))) := MapAt.imp (M0.out.at_ b _ HMB.out) rfl (fun _ _ h => h)
 have LK := hid (B0.out.look Tryz.underlying127 (zero68 _) x HX.out)
 clear HB
 go_wp2_with fail
 refine (HLE.out _ P0.out).mono ?_
 rintro e w1 ⟨rfl, hw⟩
 rw [hw, HLF.out]
 clear HLE hw w1
 go_upto_region 3 with fail
 rcases LK.out with hl | ⟨v, hl, hG⟩
 ·
  have HL := hid hl
  clear hl LK
  go_cut [7, 8] (fun v q wc => v = .slice none 0 0 ∧ q = .bool false ∧ Kp W0 wc)
  case first =>
   have Q0 : Drew W0 W0.drew := rfl
   have MK : Hid (∀ W, Drew W0 W → W.cell? ⟨P, 12, none⟩ = some (.map (some b)) ∧ W.cell? ⟨(w.heap.size + 1), 0, none⟩ = some (.int .i8 x.a) ∧ W.cell? ⟨(w.heap.size + 1), 1, none⟩ = some (.int .i8 x.f0) ∧ W.cell? ⟨(w.heap.size + 1), 2, none⟩ = some (.int .i8 x.t0) ∧ W.cell? ⟨(w.heap.size + 1), 3, none⟩ = some (.int .i8 x.f1) ∧ W.cell? ⟨(w.heap.size + 1), 4, none⟩ = some (.int .i8 x.t1) ∧ W.cell? ⟨(w.heap.size + 1), 5, none⟩ = some (.int .i8 x.f2) ∧ W.cell? ⟨(w.heap.size + 1), 6, none⟩ = some (.int .i8 x.t2) ∧ (Instr.lookup 127 (.map (some b)) (spv x) true).run Tryz.prog W = .ok (.tuple #[.slice none 0 0, .bool false]) W ∧ Hid (Drew W0 W)) := fun W k => ⟨(by rw [show W = W0.drew from k]; exact bl_cell (bl_drew P0.out) 12 _ rfl), (by rw [show W = W0.drew from k]; exact bl_cell (bl_drew X0.out) 0 _ rfl), (by rw [show W = W0.drew from k]; exact bl_cell (bl_drew X0.out) 1 _ rfl), (by rw [show W = W0.drew from k]; exact bl_cell (bl_drew X0.out) 2 _ rfl), (by rw [show W = W0.drew from k]; exact bl_cell (bl_drew X0.out) 3 _ rfl), (by rw [show W = W0.drew from k]; exact bl_cell (bl_drew X0.out) 4 _ rfl), (by rw [show W = W0.drew from k]; exact bl_cell (bl_drew X0.out) 5 _ rfl), (by rw [show W = W0.drew from k]; exact bl_cell (bl_drew X0.out) 6 _ rfl), (by rw [show W = W0.drew from k]; exact HL.out), k⟩
   refine wp_region_noPanic ?_
   refine hdrew MK Q0 (fun hH => ?_)
   have KQ := Q0
   refine tk 0 (some 16) (Op.move (Operand.tmp 1)) 71 (v := ?v0a1) rfl ?h0a1 hH ?_
   case h0a1 => intro _ _; go_simp; try with_reducible rfl
   try simp only [ps]
   refine tk 1 (some 17) (Op.nilCheck (Operand.tmp 16)) 0 (v := ?v1a2) rfl ?h1a2 hH ?_
   case h1a2 => intro _ _; go_simp; try with_reducible rfl
   try simp only [ps]
   refine tk 2 (some 18) (Op.fieldAddr 130 (Operand.tmp 17) 8) 0 (v := ?v2a3) rfl ?h2a3 hH ?_
   case h2a3 => intro _ _; go_simp; try with_reducible rfl
   try simp only [ps]
   refine tk 3 (some 19) (Op.load 127 (Operand.tmp 18)) 127 (v := ?v3a4) rfl ?h3a4 hH ?_
   case h3a4 => intro _ _; go_simp; try with_reducible rfl
   try simp only [ps]
   refine tk 4 (some 20) (Op.load 83 (Operand.tmp 5)) 83 (v := ?v4a5) rfl ?h4a5 hH ?_
   case h4a5 => intro _ _; go_simp; try with_reducible rfl
   try simp only [ps]
   refine tk 5 (some 21) (Op.lookup 127 (Operand.tmp 19) (Operand.tmp 20) true) 136 (v := ?v5a6) rfl ?h5a6 hH ?_
   case h5a6 => intro _ _; go_simp; try with_reducible rfl
   try simp only [ps]
   refine tk 6 (some 15) (Op.move (Operand.tmp 21)) 136 (v := ?v6a7) rfl ?h6a7 hH ?_
   case h6a7 => intro _ _; go_simp; try with_reducible rfl
   try simp only [ps]
   refine tk 7 (some 22) (Op.extract (Operand.tmp 15) 0) 68 (v := ?v7a8) rfl ?h7a8 hH ?_
   case h7a8 => intro _ _; go_simp; try with_reducible rfl
   try simp only [ps]
   refine tk 8 (some 23) (Op.extract (Operand.tmp 15) 1) 4 (v := ?v8a9) rfl ?h8a9 hH ?_
   case h8a9 => intro _ _; go_simp; try with_reducible rfl
   try simp only [ps]
   refine tk 9 (some 7) (Op.assign (Operand.tmp 22)) 68 (v := ?v9a10) rfl ?h9a10 hH ?_
   case h9a10 => intro _ _; go_simp; try with_reducible rfl
   try simp only [ps]
   refine tk 10 (some 8) (Op.assign (Operand.tmp 23)) 4 (v := ?v10a11) rfl ?h10a11 hH ?_
   case h10a11 => intro _ _; go_simp; try with_reducible rfl
   try simp only [ps]
   refine wpAnyH_done (by kernel_rfl) ?_ _
   refine NoPanic.normal ?_
   go_wp2_with fail
   go_meet
   case rel => exact ⟨rfl, rfl, (Kp.refl _).drew⟩
  case rest =>
  obtain ⟨rfl, rfl, hk⟩ := hcut
  rename World => W1
  have T1 := hid (bl_kp T0.out hk)
  have X1 := hid (bl_kp X0.out hk)
  have P1 := hid (bl_kp P0.out hk)
  have FD1 := hid (FD.out W1 (K0.out.trans hk))
  have K1 := hid (K0.out.trans hk)
  clear hk T0 X0 P0 FD HL B0 M0 K0
  have t0 := bl_cell (T1.out) 0 _ rfl
  have t1 := bl_cell (T1.out) 1 _ rfl
  obtain ⟨x0, x1, x2, x3, x4, x5, x6⟩ := cells7 (X1.out)
  go_wp2_with fail
  clear t0 t1 x0 x1 x2 x3 x4 x5 x6
  refine (FD1.out).mono ?_
  rintro e y2 ⟨⟨v, rfl, hv, hk, hm⟩⟩
  have HV := hid hv
  have HM2 := hid hm
  have BM : Hid (MapAt y2 b (fun x v => SpL y2 (okB M O) v (ways s.data.toList bol (.mk k low high n t P (some b) so rd st h kids) x))) := hm.at_ b _ HMB.out
  have X2 := hid (bl_kx X1.out hk HMX.out)
  have P2 := hid (bl_kx P1.out hk HMP.out)
  have K2 := hid ((Kp.kx K1.out).trans hk)
  clear hv hk hm X1 P1 T1 K1 FD1
  go_upto_region 6 with fail
  have Q0 : Kp y2 y2.drew := (Kp.refl _).drew
  have MK : Hid (∀ W, Kp y2 W → W.cell? ⟨P, 12, none⟩ = some (.map (some b)) ∧ W.cell? ⟨(w.heap.size + 1), 0, none⟩ = some (.int .i8 x.a) ∧ W.cell? ⟨(w.heap.size + 1), 1, none⟩ = some (.int .i8 x.f0) ∧ W.cell? ⟨(w.heap.size + 1), 2, none⟩ = some (.int .i8 x.t0) ∧ W.cell? ⟨(w.heap.size + 1), 3, none⟩ = some (.int .i8 x.f1) ∧ W.cell? ⟨(w.heap.size + 1), 4, none⟩ = some (.int .i8 x.t1) ∧ W.cell? ⟨(w.heap.size + 1), 5, none⟩ = some (.int .i8 x.f2) ∧ W.cell? ⟨(w.heap.size + 1), 6, none⟩ = some (.int .i8 x.t2) ∧ Hid (Kp y2 W)) := fun W k => ⟨bl_cell (bl_kp P2.out k) 12 _ rfl, bl_cell (bl_kp X2.out k) 0 _ rfl, bl_cell (bl_kp X2.out k) 1 _ rfl, bl_cell (bl_kp X2.out k) 2 _ rfl, bl_cell (bl_kp X2.out k) 3 _ rfl, bl_cell (bl_kp X2.out k) 4 _ rfl, bl_cell (bl_kp X2.out k) 5 _ rfl, bl_cell (bl_kp X2.out k) 6 _ rfl, k⟩
  refine wp_region_noPanic ?_
  refine hdrewZ 6 MK Q0 (fun hH => ?_)
  have KQ := Q0
  refine zk 6 0 [] (some 30) (Op.move (Operand.tmp 1)) 71 (v := ?v0b1) rfl ?h0b1 hH ?_
  case h0b1 => intro _ _; go_simp; try with_reducible rfl
  try simp only [ps]
  refine zk 6 1 [] (some 31) (Op.nilCheck (Operand.tmp 30)) 0 (v := ?v1b2) rfl ?h1b2 hH ?_
  case h1b2 => intro _ _; go_simp; try with_reducible rfl
  try simp only [ps]
  refine zk 6 2 [] (some 32) (Op.fieldAddr 130 (Operand.tmp 31) 8) 0 (v := ?v2b3) rfl ?h2b3 hH ?_
  case h2b3 => intro _ _; go_simp; try with_reducible rfl
  try simp only [ps]
  refine zk 6 3 [] (some 33) (Op.load 127 (Operand.tmp 32)) 127 (v := ?v3b4) rfl ?h3b4 hH ?_
  case h3b4 => intro _ _; go_simp; try with_reducible rfl
  try simp only [ps]
  refine zk 6 4 [] (some 34) (Op.load 83 (Operand.tmp 5)) 83 (v := ?v4b5) rfl ?h4b5 hH ?_
  case h4b5 => intro _ _; go_simp; try with_reducible rfl
  try simp only [ps]
  refine zk 6 5 [] (some 35) (Op.move (Operand.tmp 7)) 68 (v := ?v5b6) rfl ?h5b6 hH ?_
  case h5b6 => intro _ _; go_simp; try with_reducible rfl
  try simp only [ps]
  refine anyZ_ready (rs := [6]) (by kernel_rfl) (by simp) ?_
  refine AllZ.last (o := { dst := none, op := Op.mapUpdate 127 (Operand.tmp 33) (Operand.tmp 34) (Operand.tmp 35), type := 0, pos := "walk.go:32", after := #[{ on := 3, ground := Ground.data }, { on := 4, ground := Ground.data }, { on := 5, ground := Ground.data }, { on := 0, ground := Ground.phase }, { on := 1, ground := Ground.phase }, { on := 2, ground := Ground.phase }, { on := 3, ground := Ground.phase }, { on := 4, ground := Ground.phase }, { on := 5, ground := Ground.phase }], guard := none }) rfl (Or.inl rfl) (fun K hKq => ?_) AllZ.nil
  obtain ⟨wm, hrun, hset, hg⟩ := ((BM.out.imp (KQ.block b BM.out.lt) (fun _ _ h => h) : MapAt _ b (fun x v => SpL y2 (okB M O) v (ways s.data.toList bol (.mk k low high n t P (some b) so rd st h kids) x)))).put Tryz.underlying127 x HX.out v HV.out
  have HSET := hid hset
  have KG := hid ((Kp.kx (S := fun q => q = b) KQ).grown hg (fun k e _ => by injection e with e; exact e.symm))
  clear hset hg
  go_simp
  refine hKq.out _ _ ?_
  clear hrun
  clear hKq K
  try simp only [ps]
  refine anyZ_done (by kernel_rfl) ?_ _
  refine NoPanic.normal ?_
  go_wp2_with fail
  go_ret
  exact ⟨_, rfl, spl_put HMB.out KG.out HV.out, K2.out.trans (KG.out.mono (fun k _ e => by rw [e, HMB.out]; exact fun h => by cases h)), HM2.out.put HMB.out HSET.out KG.out⟩
 ·
  have HL := hid hl
  have HG := hid hG
  clear hl LK hG
  go_cut [7, 8] (fun u q wc => u = v ∧ q = .bool true ∧ Kp W0 wc)
  case first =>
   have Q0 : Drew W0 W0.drew := rfl
   have MK : Hid (∀ W, Drew W0 W → W.cell? ⟨P, 12, none⟩ = some (.map (some b)) ∧ W.cell? ⟨(w.heap.size + 1), 0, none⟩ = some (.int .i8 x.a) ∧ W.cell? ⟨(w.heap.size + 1), 1, none⟩ = some (.int .i8 x.f0) ∧ W.cell? ⟨(w.heap.size + 1), 2, none⟩ = some (.int .i8 x.t0) ∧ W.cell? ⟨(w.heap.size + 1), 3, none⟩ = some (.int .i8 x.f1) ∧ W.cell? ⟨(w.heap.size + 1), 4, none⟩ = some (.int .i8 x.t1) ∧ W.cell? ⟨(w.heap.size + 1), 5, none⟩ = some (.int .i8 x.f2) ∧ W.cell? ⟨(w.heap.size + 1), 6, none⟩ = some (.int .i8 x.t2) ∧ (Instr.lookup 127 (.map (some b)) (spv x) true).run Tryz.prog W = .ok (.tuple #[v, .bool true]) W ∧ Hid (Drew W0 W)) := fun W k => ⟨(by rw [show W = W0.drew from k]; exact bl_cell (bl_drew P0.out) 12 _ rfl), (by rw [show W = W0.drew from k]; exact bl_cell (bl_drew X0.out) 0 _ rfl), (by rw [show W = W0.drew from k]; exact bl_cell (bl_drew X0.out) 1 _ rfl), (by rw [show W = W0.drew from k]; exact bl_cell (bl_drew X0.out) 2 _ rfl), (by rw [show W = W0.drew from k]; exact bl_cell (bl_drew X0.out) 3 _ rfl), (by rw [show W = W0.drew from k]; exact bl_cell (bl_drew X0.out) 4 _ rfl), (by rw [show W = W0.drew from k]; exact bl_cell (bl_drew X0.out) 5 _ rfl), (by rw [show W = W0.drew from k]; exact bl_cell (bl_drew X0.out) 6 _ rfl), (by rw [show W = W0.drew from k]; exact HL.out), k⟩
   refine wp_region_noPanic ?_
   refine hdrew MK Q0 (fun hH => ?_)
   have KQ := Q0
   refine tk 0 (some 16) (Op.move (Operand.tmp 1)) 71 (v := ?v0c1) rfl ?h0c1 hH ?_
   case h0c1 => intro _ _; go_simp; try with_reducible rfl
   try simp only [ps]
   refine tk 1 (some 17) (Op.nilCheck (Operand.tmp 16)) 0 (v := ?v1c2) rfl ?h1c2 hH ?_
   case h1c2 => intro _ _; go_simp; try with_reducible rfl
   try simp only [ps]
   refine tk 2 (some 18) (Op.fieldAddr 130 (Operand.tmp 17) 8) 0 (v := ?v2c3) rfl ?h2c3 hH ?_
   case h2c3 => intro _ _; go_simp; try with_reducible rfl
   try simp only [ps]
   refine tk 3 (some 19) (Op.load 127 (Operand.tmp 18)) 127 (v := ?v3c4) rfl ?h3c4 hH ?_
   case h3c4 => intro _ _; go_simp; try with_reducible rfl
   try simp only [ps]
   refine tk 4 (some 20) (Op.load 83 (Operand.tmp 5)) 83 (v := ?v4c5) rfl ?h4c5 hH ?_
   case h4c5 => intro _ _; go_simp; try with_reducible rfl
   try simp only [ps]
   refine tk 5 (some 21) (Op.lookup 127 (Operand.tmp 19) (Operand.tmp 20) true) 136 (v := ?v5c6) rfl ?h5c6 hH ?_
   case h5c6 => intro _ _; go_simp; try with_reducible rfl
   try simp only [ps]
   refine tk 6 (some 15) (Op.move (Operand.tmp 21)) 136 (v := ?v6c7) rfl ?h6c7 hH ?_
   case h6c7 => intro _ _; go_simp; try with_reducible rfl
   try simp only [ps]
   refine tk 7 (some 22) (Op.extract (Operand.tmp 15) 0) 68 (v := ?v7c8) rfl ?h7c8 hH ?_
   case h7c8 => intro _ _; go_simp; try with_reducible rfl
   try simp only [ps]
   refine tk 8 (some 23) (Op.extract (Operand.tmp 15) 1) 4 (v := ?v8c9) rfl ?h8c9 hH ?_
   case h8c9 => intro _ _; go_simp; try with_reducible rfl
   try simp only [ps]
   refine tk 9 (some 7) (Op.assign (Operand.tmp 22)) 68 (v := ?v9c10) rfl ?h9c10 hH ?_
   case h9c10 => intro _ _; go_simp; try with_reducible rfl
   try simp only [ps]
   refine tk 10 (some 8) (Op.assign (Operand.tmp 23)) 4 (v := ?v10c11) rfl ?h10c11 hH ?_
   case h10c11 => intro _ _; go_simp; try with_reducible rfl
   try simp only [ps]
   refine wpAnyH_done (by kernel_rfl) ?_ _
   refine NoPanic.normal ?_
   go_wp2_with fail
   go_meet
   case rel => exact ⟨rfl, rfl, (Kp.refl _).drew⟩
  case rest =>
  obtain ⟨rfl, rfl, hk⟩ := hcut
  rename World => W1
  have K1 := hid hk
  clear hk
  go_wp2_with fail
  go_ret
  exact ⟨_, rfl, HG.out.keep K1.out.size (fun b hb hl => ⟨hb, K1.out.block b hl⟩), Kp.kx (K0.out.trans K1.out), M0.out.keep (S := fun _ => False) (Kp.kx K1.out) (fun _ _ e => e.elim) (fun _ _ e => e) M0.out.own⟩
end Go.Proofs.YtnajcnhgeggngaaGreat.Way

/-! ### Sorted -/

namespace Go.Proofs.YtnajcnhgeggngaaGreat.Way
set_option maxHeartbeats 2000000
set_option maxRecDepth 100000
open Go.RowKit Go.Proofs.YtnajcnhgeggngaaGreat Go.Maps

theorem zero207 (w : World) : (zeroValue 207).run Tryz.prog w = .ok (.pointer none) w := by
 have := Tryz.zeroValue207
 go_simp
theorem Sp.lacks_lt (y : Sp) : y.lacks < 8 := by
 unfold Sp.lacks
 split <;> split <;> split <;> omega
structure SortD (hd : Nat) (all : List Sp) (ok : Nat → Prop) (R : World → Prop) (e : Ending) (w' : World) : Prop where
 ex : ∃ v, e = .returned v ∧ SoAt w' ok v hd all ∧ R w'
theorem MemOk.putS {M : Nat → Option Memo} {O : Nat → Prop} {w w' : World} {b hd : Nat} {W : Sp → List Sp} (h : MemOk M O w) (hb : M b = some (.so W hd)) (hat : MapAt w' b (fun x v => SoAt w (okB M O) v hd (W x))) (k : Kx (fun q => q = b) w w') : MemOk M O w' := by
 have on : ∀ d, okB M O d → d < w.heap.size → okB M O d ∧ w'.heap[d]? = w.heap[d]? := fun d hd hl => ⟨hd, k.block d hl (fun e => by rw [e] at hd; have := hd.2; rw [hb] at this; cases this)⟩
 refine ⟨fun c m hc => ?_, h.own⟩
 by_cases e : c = b
 ·
  subst e
  rw [hb] at hc
  injection hc with hc
  subst hc
  exact MapAt.imp hat rfl (fun x v q => q.keep k.size on)
 ·
  exact (h.at_ c m hc).keep (k.block c (h.at_ c m hc).lt e) k.size on
theorem so_put {M : Nat → Option Memo} {O : Nat → Prop} {w w' : World} {b hd : Nat} {W : Sp → List Sp} (hb : M b = some (.so W hd)) (k : Kx (fun q => q = b) w w') {v : Value} {hd' : Nat} {xs : List Sp} (h : SoAt w (okB M O) v hd' xs) : SoAt w' (okB M O) v hd' xs :=
 h.keep k.size (fun d hd hl => ⟨hd, k.block d hl (fun e => by rw [e] at hd; have := hd.2; rw [hb] at this; cases this)⟩)
theorem sorted_any (s : ByteArray) (bol : Bool) (M : Nat → Option Memo) (k low high n : Int) (t : W4) (P c : Nat) (kn : Option Nat) (rd st h : Nat) (kids : List Pt) (hh : h < 8) (hMc : M c = some (.so (ways s.data.toList bol (.mk k low high n t P kn (some c) rd st h kids)) h)) (HS : WSaid s bol M (.mk k low high n t P kn (some c) rd st h kids)) (O : Nat → Prop) (x : Sp) (hx : x.Ok) (hN : x.In s.size) (w : World) (hO : ∀ b, O b → b < w.heap.size) (hM : MemOk M O w) (hP : PtAt w (okB M O) (.mk k low high n t P kn (some c) rd st h kids)) :
  Calls Tryz.prog 134 #[wkv s bol, ptv P, spv x] w fun e w' => SortD h (ways s.data.toList bol (.mk k low high n t P kn (some c) rd st h kids) x) (okB M O) (fun w' => Km M w w' ∧ MemOk M O w') e w' := by
 obtain ⟨kv, hblk, hok⟩ : ∃ kv, w.heap[P]? = some (pto k low high n t kv rd st h kn (some c)) ∧ M P = none := by
  unfold PtAt at hP
  obtain ⟨h1, ⟨ad, c, h2, _⟩, _⟩ := hP
  exact ⟨_, h2, h1.2⟩
 have HMC := hid hMc
 have HX := hid hx
 have HH := hid hh
 have HB := hid hblk
 have HMP := hid (show ¬ M P ≠ none from fun e => e hok)
 have HM := hid hM
 have HO := hid hO
 have HMX := hid (show ¬ M (w.heap.size + 1) ≠ none from fun e => e (hM.lt (Nat.le_succ _)))
 have FD := hid (fun (W : World) (k0 : Kp w W) => HS.all O x W hx hN (fun b hb => Nat.lt_of_lt_of_le (hO b hb) k0.size) (PtAt.kp hP k0) (hM.keep (S := fun _ => False) (Kp.kx k0) (fun _ _ e => e.elim) (fun _ _ e => e) hM.own))
 obtain ⟨zs, hzs⟩ : ∃ zs, ways s.data.toList bol (.mk k low high n t P kn (some c) rd st h kids) x = zs := ⟨_, rfl⟩
 have HZS := hid hzs.symm
 have hfew := HS.few x hx hN
 have hgd := HS.good x hx hN
 rw [hzs] at FD hfew hgd ⊢
 obtain ⟨Z, hZ⟩ : ∃ Z, zs.length = Z := ⟨_, rfl⟩
 have HZL := hid hZ
 rw [hZ] at hfew
 have HZF := hid hfew
 have HGD := hid hgd
 clear hMc HS hx hN hO hM hP hblk hok hzs hZ hfew hh hgd
 go_enter Tryz.func134, Tryz.ntmps134
 go_upto_region 1 with fail
 refine opq (fun W0 => W0.heap[w.heap.size]? = some (.cells #[.string s, .bool bol] 70) ∧ W0.heap[(w.heap.size + 1)]? = some (spo x) ∧ W0.heap[P]? = some (pto k low high n t kv rd st h kn (some c)) ∧ Kp w W0) ⟨by exact bl_alloc (last_of _ _) _, by exact last_at _ _ _ (by simp), by exact bl_kp HB.out kpt, by exact kpt⟩ ?_
 rintro W0 ⟨xT0, xX0, xP0, xK0⟩
 have T0 := hid xT0
 have X0 := hid xX0
 have P0 := hid xP0
 have K0 := hid xK0
 clear xT0 xX0 xP0 xK0
 have M0 := hid (HM.out.keep (S := fun _ => False) (Kp.kx K0.out) (fun _ _ e => e.elim) (fun _ _ e => e) HM.out.own)
 have B0 : Hid (MapAt W0.drew c (fun x v => SoAt W0 (okB M O) v h (ways s.data.toList bol (.mk k low high n t P kn (some c) rd st h kids) x))) := MapAt.imp (M0.out.at_ c _ HMC.out) rfl (fun _ _ h => h)
 have LK := hid (B0.out.look Tryz.underlying128 (zero207 _) x HX.out)
 clear HB
 rcases LK.out with hl | ⟨v, hl, hG⟩
 ·
  have HL := hid hl
  clear hl LK
  go_cut [7, 8] (fun v q wc => v = .pointer none ∧ q = .bool false ∧ Kp W0 wc)
  case first =>
   have Q0 : Drew W0 W0.drew := rfl
   have MK : Hid (∀ W, Drew W0 W → W.cell? ⟨P, 13, none⟩ = some (.map (some c)) ∧ W.cell? ⟨(w.heap.size + 1), 0, none⟩ = some (.int .i8 x.a) ∧ W.cell? ⟨(w.heap.size + 1), 1, none⟩ = some (.int .i8 x.f0) ∧ W.cell? ⟨(w.heap.size + 1), 2, none⟩ = some (.int .i8 x.t0) ∧ W.cell? ⟨(w.heap.size + 1), 3, none⟩ = some (.int .i8 x.f1) ∧ W.cell? ⟨(w.heap.size + 1), 4, none⟩ = some (.int .i8 x.t1) ∧ W.cell? ⟨(w.heap.size + 1), 5, none⟩ = some (.int .i8 x.f2) ∧ W.cell? ⟨(w.heap.size + 1), 6, none⟩ = some (.int .i8 x.t2) ∧ (Instr.lookup 128 (.map (some c)) (spv x) true).run Tryz.prog W = .ok (.tuple #[.pointer none, .bool false]) W ∧ Hid (Drew W0 W)) := fun W k => ⟨(by rw [show W = W0.drew from k]; exact bl_cell (bl_drew P0.out) 13 _ rfl), (by rw [show W = W0.drew from k]; exact bl_cell (bl_drew X0.out) 0 _ rfl), (by rw [show W = W0.drew from k]; exact bl_cell (bl_drew X0.out) 1 _ rfl), (by rw [show W = W0.drew from k]; exact bl_cell (bl_drew X0.out) 2 _ rfl), (by rw [show W = W0.drew from k]; exact bl_cell (bl_drew X0.out) 3 _ rfl), (by rw [show W = W0.drew from k]; exact bl_cell (bl_drew X0.out) 4 _ rfl), (by rw [show W = W0.drew from k]; exact bl_cell (bl_drew X0.out) 5 _ rfl), (by rw [show W = W0.drew from k]; exact bl_cell (bl_drew X0.out) 6 _ rfl), (by rw [show W = W0.drew from k]; exact HL.out), k⟩
   refine wp_region_noPanic ?_
   refine hdrew MK Q0 (fun hH => ?_)
   have KQ := Q0
   refine tk 0 (some 14) (Op.move (Operand.tmp 1)) 71 (v := ?v0a1) rfl ?h0a1 hH ?_
   case h0a1 => intro _ _; go_simp; try with_reducible rfl
   try simp only [ps]
   refine tk 1 (some 15) (Op.nilCheck (Operand.tmp 14)) 0 (v := ?v1a2) rfl ?h1a2 hH ?_
   case h1a2 => intro _ _; go_simp; try with_reducible rfl
   try simp only [ps]
   refine tk 2 (some 16) (Op.fieldAddr 130 (Operand.tmp 15) 9) 0 (v := ?v2a3) rfl ?h2a3 hH ?_
   case h2a3 => intro _ _; go_simp; try with_reducible rfl
   try simp only [ps]
   refine tk 3 (some 17) (Op.load 128 (Operand.tmp 16)) 128 (v := ?v3a4) rfl ?h3a4 hH ?_
   case h3a4 => intro _ _; go_simp; try with_reducible rfl
   try simp only [ps]
   refine tk 4 (some 18) (Op.load 83 (Operand.tmp 5)) 83 (v := ?v4a5) rfl ?h4a5 hH ?_
   case h4a5 => intro _ _; go_simp; try with_reducible rfl
   try simp only [ps]
   refine tk 5 (some 19) (Op.lookup 128 (Operand.tmp 17) (Operand.tmp 18) true) 216 (v := ?v5a6) rfl ?h5a6 hH ?_
   case h5a6 => intro _ _; go_simp; try with_reducible rfl
   try simp only [ps]
   refine tk 6 (some 13) (Op.move (Operand.tmp 19)) 216 (v := ?v6a7) rfl ?h6a7 hH ?_
   case h6a7 => intro _ _; go_simp; try with_reducible rfl
   try simp only [ps]
   refine tk 7 (some 20) (Op.extract (Operand.tmp 13) 0) 207 (v := ?v7a8) rfl ?h7a8 hH ?_
   case h7a8 => intro _ _; go_simp; try with_reducible rfl
   try simp only [ps]
   refine tk 8 (some 21) (Op.extract (Operand.tmp 13) 1) 4 (v := ?v8a9) rfl ?h8a9 hH ?_
   case h8a9 => intro _ _; go_simp; try with_reducible rfl
   try simp only [ps]
   refine tk 9 (some 7) (Op.assign (Operand.tmp 20)) 207 (v := ?v9a10) rfl ?h9a10 hH ?_
   case h9a10 => intro _ _; go_simp; try with_reducible rfl
   try simp only [ps]
   refine tk 10 (some 8) (Op.assign (Operand.tmp 21)) 4 (v := ?v10a11) rfl ?h10a11 hH ?_
   case h10a11 => intro _ _; go_simp; try with_reducible rfl
   try simp only [ps]
   refine wpAnyH_done (by kernel_rfl) ?_ _
   refine NoPanic.normal ?_
   go_wp2_with fail
   go_meet
   case rel => exact ⟨rfl, rfl, (Kp.refl _).drew⟩
  case rest =>
  obtain ⟨rfl, rfl, hk⟩ := hcut
  rename World => W1
  have T1 := hid (bl_kp T0.out hk)
  have X1 := hid (bl_kp X0.out hk)
  have P1 := hid (bl_kp P0.out hk)
  have FD1 := hid (FD.out W1 (K0.out.trans hk))
  have K1 := hid (K0.out.trans hk)
  clear hk T0 X0 P0 FD HL B0 M0 K0
  have t0 := bl_cell (T1.out) 0 _ rfl
  have t1 := bl_cell (T1.out) 1 _ rfl
  obtain ⟨x0, x1, x2, x3, x4, x5, x6⟩ := cells7 (X1.out)
  go_wp2_with fail
  clear t0 t1 x0 x1 x2 x3 x4 x5 x6
  refine (FD1.out).mono ?_
  rintro e y2 ⟨⟨v, rfl, hv, hk, hm⟩⟩
  obtain ⟨ad, cc, hvv, hlc, -⟩ := hv.ex
  rw [HZL.out] at hvv hlc
  subst hvv
  have HV := hid hv
  have HM2 := hid hm
  have X2 := hid (bl_kx X1.out hk HMX.out)
  have P2 := hid (bl_kx P1.out hk HMP.out)
  have K2 := hid ((Kp.kx K1.out).trans hk)
  clear hv hk hm X1 P1 T1 K1 FD1
  go_upto_region 5 with fail
  refine opq (fun W2 => SoW y2.heap.size (.slice ad Z cc) h zs 0 (fun _ => .slice none 0 0) W2 ∧ Kp y2 W2) ⟨by exact SoW.start _ _ (last_of _ _), by exact kpt⟩ ?_
  rintro W2 ⟨xR2, xY2⟩
  have R2 := hid xR2
  have Y2 := hid xY2
  clear xR2 xY2
  have s0 := bl_cell (R2.out.b) 0 _ rfl
  go_wp2_with fail
  clear s0
  go_loopg [35] Z (fun gg i wr => ∃ (q : Nat) (f : Nat → Value), q + gg = Z ∧ i = .int .i64 (q : Int) ∧ SoW y2.heap.size (.slice ad Z cc) h zs q f wr ∧ Kp y2 wr)
  case atStart => exact ⟨0, _, by omega, rfl, R2.out, Y2.out⟩
  case round =>
   obtain ⟨q, f, hq, rfl, hR, hK⟩ := hrel
   have R6 := hid hR
   have Y6 := hid hK
   have X6 := hid (bl_kp X2.out hK)
   have P6 := hid (bl_kp P2.out hK)
   have S6 := hid (HV.out.keep (ok' := okB M O) hK.size (fun b hb hl => ⟨hb, hK.block b hl⟩))
   clear hR hK
   by_cases hlt : q < Z
   ·
    have gkw : IntKind.i64.wrap ((q : Int) + 1) = (q : Int) + 1 := by have := HZF.out; rw [IntKind.wrap_i64]; omega
    have ga : (q : Int) < (Z : Int) := by omega
    have g0 : (0 : Int) ≤ (q : Int) := by omega
    obtain ⟨y, hy⟩ : ∃ y, zs[q]? = some y := ⟨_, List.getElem?_eq_getElem (by rw [HZL.out]; exact hlt)⟩
    obtain ⟨ad2, c2, hv2, _, hc2⟩ := S6.out.ex
    injection hv2 with e1 e2 e3
    obtain ⟨b2, hbb, _, hbl, hce⟩ := hc2 (by rw [HZL.out]; omega)
    rw [← e1] at hbb
    subst hbb
    have hsp := hce q y hy
    have HY := hid hy
    have x0 := hsp.c0
    have x1 := hsp.c1
    have x2 := hsp.c2
    have x3 := hsp.c3
    have x4 := hsp.c4
    have x5 := hsp.c5
    have x6 := hsp.c6
    clear hsp hce hy e1 e2 e3 hc2
    obtain ⟨G, hG⟩ : ∃ G, cls h y = G := ⟨_, rfl⟩
    have HGE := hid hG
    have HG := hid (show G < 8 by rw [← hG]; exact and_lt8 _ _ HH.out)
    have LA := hid (fun W => lacks_any y W)
    have gand : bits .and .u8 ((y.lacks : Nat) : Int) (h : Int) = (G : Int) := by
     rw [← hG]
     exact u8_and y.lacks h (Sp.lacks_lt y) HH.out
    clear hG
    go_upto_region 8 with fail
    refine opq (fun W6 => W6.heap[wr.heap.size]? = some (spo y) ∧ W6.heap[P]? = some (pto k low high n t kv rd st h kn (some c)) ∧ SoW y2.heap.size (.slice (some ⟨b2, 0, none⟩) Z cc) h zs q f W6 ∧ Kp y2 W6) ⟨by exact last_of _ _, by exact bl_alloc P6.out _, by exact R6.out.kp ((Kp.refl _).alloc _), by exact Y6.out.alloc _⟩ ?_
    rintro W6 ⟨xY7, xP7, xR7, xK7⟩
    have Y7 := hid xY7
    have P7 := hid xP7
    have R7 := hid xR7
    have K7 := hid xK7
    clear xY7 xP7 xR7 xK7
    clear x0 x1 x2 x3 x4 x5 x6 R6 S6 Y6 X6 P6
    go_cut [12] (fun v wc => v = .int .u8 (G : Int) ∧ Kp W6 wc)
    case first =>
     have Q0 : Kp W6 W6.drew := (Kp.refl _).drew
     have MK : Hid (∀ W, Kp W6 W → W.cell? ⟨wr.heap.size, 0, none⟩ = some (.int .i8 y.a) ∧ W.cell? ⟨wr.heap.size, 1, none⟩ = some (.int .i8 y.f0) ∧ W.cell? ⟨wr.heap.size, 2, none⟩ = some (.int .i8 y.t0) ∧ W.cell? ⟨wr.heap.size, 3, none⟩ = some (.int .i8 y.f1) ∧ W.cell? ⟨wr.heap.size, 4, none⟩ = some (.int .i8 y.t1) ∧ W.cell? ⟨wr.heap.size, 5, none⟩ = some (.int .i8 y.f2) ∧ W.cell? ⟨wr.heap.size, 6, none⟩ = some (.int .i8 y.t2) ∧ W.cell? ⟨P, 11, none⟩ = some (.int .u8 (h : Int)) ∧ Hid (Kp W6 W)) := fun W k => ⟨bl_cell (bl_kp Y7.out k) 0 _ rfl, bl_cell (bl_kp Y7.out k) 1 _ rfl, bl_cell (bl_kp Y7.out k) 2 _ rfl, bl_cell (bl_kp Y7.out k) 3 _ rfl, bl_cell (bl_kp Y7.out k) 4 _ rfl, bl_cell (bl_kp Y7.out k) 5 _ rfl, bl_cell (bl_kp Y7.out k) 6 _ rfl, bl_cell (bl_kp P7.out k) 11 _ rfl, k⟩
     refine wp_region_noPanic ?_
     refine hdrew MK Q0 (fun hH => ?_)
     have KQ := Q0
     refine tk 0 (some 40) (Op.load 83 (Operand.tmp 11)) 83 (v := ?v0d1) rfl ?h0d1 hH ?_
     case h0d1 => intro _ _; go_simp; try with_reducible rfl
     try simp only [ps]
     refine tk 2 (some 42) (Op.move (Operand.tmp 1)) 71 (v := ?v2d2) rfl ?h2d2 hH ?_
     case h2d2 => intro _ _; go_simp; try with_reducible rfl
     try simp only [ps]
     refine tk 3 (some 43) (Op.nilCheck (Operand.tmp 42)) 0 (v := ?v3d3) rfl ?h3d3 hH ?_
     case h3d3 => intro _ _; go_simp; try with_reducible rfl
     try simp only [ps]
     refine tk 4 (some 44) (Op.fieldAddr 130 (Operand.tmp 43) 7) 0 (v := ?v4d4) rfl ?h4d4 hH ?_
     case h4d4 => intro _ _; go_simp; try with_reducible rfl
     try simp only [ps]
     refine tk 5 (some 45) (Op.load 75 (Operand.tmp 44)) 75 (v := ?v5d5) rfl ?h5d5 hH ?_
     case h5d5 => intro _ _; go_simp; try with_reducible rfl
     try simp only [ps]
     refine wpAnyH_ready (rs := [1]) (by kernel_rfl) (by simp) ?_
     refine AllReadyH.cons (o := { dst := some 41, op := Op.call { callee := Callee.value (Operand.func 141), args := #[Operand.tmp 40], argTypes := #[83] }, type := 75, pos := "repeat.go:91", after := #[{ on := 0, ground := Ground.data }], guard := none }) rfl (fun K hKq => ?_) AllReadyH.nil
     go_simp
     refine (LA.out _).mono ?_
     rintro e y1 ⟨rfl, kq⟩
     refine hKq.out _ _ (MK.out _ (KQ.trans kq)) (fun hN => ?_)
     clear kq
     clear hKq K hH KQ
     have hH := hN
     clear hN
     have KQ := hH.2.2.2.2.2.2.2.2.out
     try simp only [ps]
     refine tk 6 (some 46) (Op.binOp BinOp.and 75 (Operand.tmp 41) (Operand.tmp 45) 75) 75 (v := ?v6d6) rfl ?h6d6 hH ?_
     case h6d6 => intro _ _; go_simp; try with_reducible rfl
     try simp only [ps]
     refine tk 7 (some 12) (Op.assign (Operand.tmp 46)) 75 (v := ?v7d7) rfl ?h7d7 hH ?_
     case h7d7 => intro _ _; go_simp; try with_reducible rfl
     try simp only [ps]
     refine wpAnyH_done (by kernel_rfl) ?_ _
     refine NoPanic.normal ?_
     go_wp2_with fail
     go_meet
     case rel => exact ⟨rfl, KQ⟩
    case rest =>
    obtain ⟨rfl, hk⟩ := hcut
    rename World => W8
    have R8 := hid (R7.out.kp hk)
    have K8 := hid (K7.out.trans hk)
    have HSF := hid (show ¬ (f G).ownBlock = some y2.heap.size from fun e => by have := ((R8.out.row G HG.out).block _ e).1; omega)
    have g8 : (G : Int) < 8 := by have := HG.out; omega
    have g00 : (0 : Int) ≤ (G : Int) := by omega
    clear hk Y7 P7 R7 K7 gand LA
    go_upto_region 9 with fail
    have Q0 : Kx (fun b => (f G).ownBlock = some b) W8 W8.drew := (Kx.refl _ _).drew
    have MK : Hid (∀ W, Kx (fun b => (f G).ownBlock = some b) W8 W → W.cell? ⟨y2.heap.size, 1 + G, none⟩ = some (f G) ∧ Hid (Kx (fun b => (f G).ownBlock = some b) W8 W)) := fun W k => ⟨(cell_same (k.block _ (bl_lt R8.out.b) HSF.out) _).trans (sob_cell R8.out.b HG.out), k⟩
    refine wp_region_noPanic ?_
    refine hdrewZ 14 MK Q0 (fun hH => ?_)
    have KQ := Q0
    refine zk 14 0 [] (some 47) (Op.move (Operand.tmp 9)) 207 (v := ?v0e1) rfl ?h0e1 hH ?_
    case h0e1 => intro _ _; go_simp; try with_reducible rfl
    try simp only [ps]
    refine zk 14 1 [] (some 48) (Op.move (Operand.tmp 12)) 75 (v := ?v1e2) rfl ?h1e2 hH ?_
    case h1e2 => intro _ _; go_simp; try with_reducible rfl
    try simp only [ps]
    refine zk 14 2 [] (some 49) (Op.move (Operand.tmp 9)) 207 (v := ?v2e3) rfl ?h2e3 hH ?_
    case h2e3 => intro _ _; go_simp; try with_reducible rfl
    try simp only [ps]
    refine zk 14 3 [] (some 50) (Op.move (Operand.tmp 12)) 75 (v := ?v3e4) rfl ?h3e4 hH ?_
    case h3e4 => intro _ _; go_simp; try with_reducible rfl
    try simp only [ps]
    refine zk 14 4 [] (some 51) (Op.nilCheck (Operand.tmp 49)) 0 (v := ?v4e5) rfl ?h4e5 hH ?_
    case h4e5 => intro _ _; go_simp; try with_reducible rfl
    try simp only [ps]
    refine zk 14 5 [] (some 52) (Op.fieldAddr 212 (Operand.tmp 51) 1) 0 (v := ?v5e6) rfl ?h5e6 hH ?_
    case h5e6 => intro _ _; go_simp; try with_reducible rfl
    try simp only [ps]
    refine zk 14 6 [] (some 53) (Op.indexAddr 210 (Operand.tmp 52) (Operand.tmp 50)) 0 (v := ?v6e7) rfl ?h6e7 hH ?_
    case h6e7 => intro _ _; go_simp; try with_reducible rfl
    try simp only [ps]
    refine zk 14 7 [] (some 54) (Op.load 40 (Operand.tmp 53)) 40 (v := ?v7e8) rfl ?h7e8 hH ?_
    case h7e8 => intro _ _; go_simp; try with_reducible rfl
    try simp only [ps]
    refine zk 14 8 [] (some 55) (Op.move (Operand.tmp 10)) 3 (v := ?v8e9) rfl ?h8e9 hH ?_
    case h8e9 => intro _ _; go_simp; try with_reducible rfl
    try simp only [ps]
    refine zk 14 11 [13, 12] (some 58) (Op.nilCheck (Operand.tmp 47)) 0 (v := ?v11e10) rfl ?h11e10 hH ?_
    case h11e10 => intro _ _; go_simp; try with_reducible rfl
    try simp only [ps]
    refine zk 14 12 [13] (some 59) (Op.fieldAddr 212 (Operand.tmp 58) 1) 0 (v := ?v12e11) rfl ?h12e11 hH ?_
    case h12e11 => intro _ _; go_simp; try with_reducible rfl
    try simp only [ps]
    refine anyZ_ready (rs := [9]) (by kernel_rfl) (by simp) ?_
    refine AllZ.cons (o := { dst := some 56, op := Op.buildSlice 40 1 #[(0, Operand.tmp 55)], type := 40, pos := "repeat.go:92", after := #[{ on := 8, ground := Ground.data }], guard := none }) rfl (fun K hKq => ?_) AllZ.nil
    go_simp
    refine hKq.out _ _ (MK.out _ (KQ.alloc _)) (fun hN => ?_)
    clear hKq K hH KQ
    have hH := hN
    clear hN
    have KQ := hH.2.out
    try simp only [ps]
    refine anyZ_ready (rs := [10]) (by kernel_rfl) (by simp) ?_
    refine AllZ.cons (o := { dst := some 57, op := Op.call { callee := Callee.builtin Builtin.append, args := #[Operand.tmp 54, Operand.tmp 56], argTypes := #[40, 40] }, type := 40, pos := "repeat.go:92", after := #[{ on := 7, ground := Ground.data }, { on := 9, ground := Ground.data }], guard := none }) rfl (fun K hKq => ?_) AllZ.nil
    refine step_append_nu _ (by rfl) _ _ (by rfl) (y2.heap.size + 1) (f G) (plq h zs q G) q (by rfl) W8.heap.size (by rfl) ((R8.out.row G HG.out).kp (((Kp.refl _).drew).alloc _)) (bl_cell (last_of _ _) 0 _ rfl) (by have := plq_len h zs q G; have := HZF.out; omega) (by have := bl_lt R8.out.b; simp; omega) ?_
    rintro v' w' md
    obtain ⟨ad', c', hv', _⟩ := md.row.form
    obtain ⟨n', hn'⟩ : ∃ n', (plq h zs q G ++ [q]).length = n' := ⟨_, rfl⟩
    rw [hn'] at hv'
    subst hv'
    have MD := hid md
    clear md hn'
    refine hKq.out _ _ (MK.out _ (KQ.grown MD.out.grown (fun k e _ => e))) (fun hN => ?_)
    clear hKq K hH KQ
    have hH := hN
    clear hN
    have KQ := hH.2.out
    try simp only [ps]
    refine zk 14 13 [] (some 60) (Op.indexAddr 210 (Operand.tmp 59) (Operand.tmp 48)) 0 (v := ?v13e12) rfl ?h13e12 hH ?_
    case h13e12 => intro _ _; go_simp; try with_reducible rfl
    try simp only [ps]
    refine anyZ_ready (rs := [14]) (by kernel_rfl) (by simp) ?_
    refine AllZ.last (o := { dst := none, op := Op.store 40 (Operand.tmp 60) (Operand.tmp 57), type := 0, pos := "repeat.go:92", after := #[{ on := 13, ground := Ground.data }, { on := 10, ground := Ground.data }, { on := 10, ground := Ground.chain }, { on := 0, ground := Ground.phase }, { on := 1, ground := Ground.phase }, { on := 2, ground := Ground.phase }, { on := 3, ground := Ground.phase }, { on := 4, ground := Ground.phase }, { on := 5, ground := Ground.phase }, { on := 6, ground := Ground.phase }, { on := 7, ground := Ground.phase }, { on := 8, ground := Ground.phase }, { on := 9, ground := Ground.phase }, { on := 10, ground := Ground.phase }], guard := none }) rfl (Or.inl rfl) (fun K hKq => ?_) AllZ.nil
    have c1 := (cell_same (KQ.block _ (bl_lt R8.out.b) HSF.out) (1 + G)).trans (sob_cell R8.out.b HG.out)
    have f1 := bl_frozen ((KQ.block _ (bl_lt R8.out.b) HSF.out).trans R8.out.b) (1 + G)
    go_simp
    refine hKq.out _ _ ?_
    clear c1 f1
    clear hKq K
    try simp only [ps]
    refine anyZ_done (by kernel_rfl) ?_ _
    refine NoPanic.normal ?_
    go_wp2_with fail
    go_roundg (gk - 1)
    case measure => omega
    case rel => exact ⟨q + 1, turnF f G _, by omega, by go_num, (R8.out.kp (((Kp.refl _).drew).alloc _)).step HG.out HY.out HGE.out MD.out rfl, (((Kp.kx (S := fun _ => False) K8.out).past2 KQ (fun k hk e => by have := ((R8.out.row G HG.out).block k e).1; omega)).set (fun h => absurd h (Nat.lt_irrefl _)) _ _).kp⟩
   ·
    have ga : ¬ (q : Int) < (Z : Int) := by omega
    obtain rfl : q = Z := by omega
    have SA := hid ((show SoW y2.heap.size (.slice ad zs.length cc) h zs zs.length f wr from by rw [HZL.out]; exact R6.out).done (ok := okB M O) (by rw [HZL.out]; exact S6.out) (fun b hb => ⟨fun o => by have := HO.out b o; have := K2.out.size; omega, HM2.out.lt hb⟩))
    have M6 := hid (HM2.out.keep (S := fun _ => False) (Kp.kx Y6.out) (fun _ _ e => e.elim) (fun _ _ e => e) HM2.out.own)
    have K6 := hid (K2.out.then Y6.out)
    have BM : Hid (MapAt wr c (fun x v => SoAt wr (okB M O) v h (ways s.data.toList bol (.mk k low high n t P kn (some c) rd st h kids) x))) := M6.out.at_ c _ HMC.out
    rw [HZS.out] at SA
    go_upto_region 11 with fail
    have Q0 : Kp wr wr.drew := (Kp.refl _).drew
    have MK : Hid (∀ W, Kp wr W → W.cell? ⟨P, 13, none⟩ = some (.map (some c)) ∧ W.cell? ⟨(w.heap.size + 1), 0, none⟩ = some (.int .i8 x.a) ∧ W.cell? ⟨(w.heap.size + 1), 1, none⟩ = some (.int .i8 x.f0) ∧ W.cell? ⟨(w.heap.size + 1), 2, none⟩ = some (.int .i8 x.t0) ∧ W.cell? ⟨(w.heap.size + 1), 3, none⟩ = some (.int .i8 x.f1) ∧ W.cell? ⟨(w.heap.size + 1), 4, none⟩ = some (.int .i8 x.t1) ∧ W.cell? ⟨(w.heap.size + 1), 5, none⟩ = some (.int .i8 x.f2) ∧ W.cell? ⟨(w.heap.size + 1), 6, none⟩ = some (.int .i8 x.t2) ∧ Hid (Kp wr W)) := fun W k => ⟨bl_cell (bl_kp P6.out k) 13 _ rfl, bl_cell (bl_kp X6.out k) 0 _ rfl, bl_cell (bl_kp X6.out k) 1 _ rfl, bl_cell (bl_kp X6.out k) 2 _ rfl, bl_cell (bl_kp X6.out k) 3 _ rfl, bl_cell (bl_kp X6.out k) 4 _ rfl, bl_cell (bl_kp X6.out k) 5 _ rfl, bl_cell (bl_kp X6.out k) 6 _ rfl, k⟩
    refine wp_region_noPanic ?_
    refine hdrewZ 6 MK Q0 (fun hH => ?_)
    have KQ := Q0
    refine zk 6 0 [] (some 62) (Op.move (Operand.tmp 1)) 71 (v := ?v0b1) rfl ?h0b1 hH ?_
    case h0b1 => intro _ _; go_simp; try with_reducible rfl
    try simp only [ps]
    refine zk 6 1 [] (some 63) (Op.nilCheck (Operand.tmp 62)) 0 (v := ?v1b2) rfl ?h1b2 hH ?_
    case h1b2 => intro _ _; go_simp; try with_reducible rfl
    try simp only [ps]
    refine zk 6 2 [] (some 64) (Op.fieldAddr 130 (Operand.tmp 63) 9) 0 (v := ?v2b3) rfl ?h2b3 hH ?_
    case h2b3 => intro _ _; go_simp; try with_reducible rfl
    try simp only [ps]
    refine zk 6 3 [] (some 65) (Op.load 128 (Operand.tmp 64)) 128 (v := ?v3b4) rfl ?h3b4 hH ?_
    case h3b4 => intro _ _; go_simp; try with_reducible rfl
    try simp only [ps]
    refine zk 6 4 [] (some 66) (Op.load 83 (Operand.tmp 5)) 83 (v := ?v4b5) rfl ?h4b5 hH ?_
    case h4b5 => intro _ _; go_simp; try with_reducible rfl
    try simp only [ps]
    refine zk 6 5 [] (some 67) (Op.move (Operand.tmp 9)) 207 (v := ?v5b6) rfl ?h5b6 hH ?_
    case h5b6 => intro _ _; go_simp; try with_reducible rfl
    try simp only [ps]
    refine anyZ_ready (rs := [6]) (by kernel_rfl) (by simp) ?_
    refine AllZ.last (o := { dst := none, op := Op.mapUpdate 128 (Operand.tmp 65) (Operand.tmp 66) (Operand.tmp 67), type := 0, pos := "repeat.go:94", after := #[{ on := 3, ground := Ground.data }, { on := 4, ground := Ground.data }, { on := 5, ground := Ground.data }, { on := 0, ground := Ground.phase }, { on := 1, ground := Ground.phase }, { on := 2, ground := Ground.phase }, { on := 3, ground := Ground.phase }, { on := 4, ground := Ground.phase }, { on := 5, ground := Ground.phase }], guard := none }) rfl (Or.inl rfl) (fun K hKq => ?_) AllZ.nil
    obtain ⟨wm, hrun, hset, hg⟩ := ((BM.out.imp (KQ.block c BM.out.lt) (fun _ _ h => h) : MapAt _ c (fun x v => SoAt wr (okB M O) v h (ways s.data.toList bol (.mk k low high n t P kn (some c) rd st h kids) x)))).put Tryz.underlying128 x HX.out (.pointer (some ⟨y2.heap.size, 0, none⟩)) SA.out
    have HSET := hid hset
    have KG := hid ((Kp.kx (S := fun q => q = c) KQ).grown hg (fun k e _ => by injection e with e; exact e.symm))
    clear hset hg
    go_simp
    refine hKq.out _ _ ?_
    clear hrun
    clear hKq K
    try simp only [ps]
    refine anyZ_done (by kernel_rfl) ?_ _
    refine NoPanic.normal ?_
    go_wp2_with fail
    go_ret
    exact ⟨_, rfl, by rw [HZS.out]; exact so_put HMC.out KG.out SA.out, (K6.out.trans (KG.out.mono (fun k _ e => by rw [e, HMC.out]; exact fun h => by cases h))), M6.out.putS HMC.out HSET.out KG.out⟩
 ·
  have HL := hid hl
  have HG := hid hG
  clear hl LK hG
  go_cut [7, 8] (fun u q wc => u = v ∧ q = .bool true ∧ Kp W0 wc)
  case first =>
   have Q0 : Drew W0 W0.drew := rfl
   have MK : Hid (∀ W, Drew W0 W → W.cell? ⟨P, 13, none⟩ = some (.map (some c)) ∧ W.cell? ⟨(w.heap.size + 1), 0, none⟩ = some (.int .i8 x.a) ∧ W.cell? ⟨(w.heap.size + 1), 1, none⟩ = some (.int .i8 x.f0) ∧ W.cell? ⟨(w.heap.size + 1), 2, none⟩ = some (.int .i8 x.t0) ∧ W.cell? ⟨(w.heap.size + 1), 3, none⟩ = some (.int .i8 x.f1) ∧ W.cell? ⟨(w.heap.size + 1), 4, none⟩ = some (.int .i8 x.t1) ∧ W.cell? ⟨(w.heap.size + 1), 5, none⟩ = some (.int .i8 x.f2) ∧ W.cell? ⟨(w.heap.size + 1), 6, none⟩ = some (.int .i8 x.t2) ∧ (Instr.lookup 128 (.map (some c)) (spv x) true).run Tryz.prog W = .ok (.tuple #[v, .bool true]) W ∧ Hid (Drew W0 W)) := fun W k => ⟨(by rw [show W = W0.drew from k]; exact bl_cell (bl_drew P0.out) 13 _ rfl), (by rw [show W = W0.drew from k]; exact bl_cell (bl_drew X0.out) 0 _ rfl), (by rw [show W = W0.drew from k]; exact bl_cell (bl_drew X0.out) 1 _ rfl), (by rw [show W = W0.drew from k]; exact bl_cell (bl_drew X0.out) 2 _ rfl), (by rw [show W = W0.drew from k]; exact bl_cell (bl_drew X0.out) 3 _ rfl), (by rw [show W = W0.drew from k]; exact bl_cell (bl_drew X0.out) 4 _ rfl), (by rw [show W = W0.drew from k]; exact bl_cell (bl_drew X0.out) 5 _ rfl), (by rw [show W = W0.drew from k]; exact bl_cell (bl_drew X0.out) 6 _ rfl), (by rw [show W = W0.drew from k]; exact HL.out), k⟩
   refine wp_region_noPanic ?_
   refine hdrew MK Q0 (fun hH => ?_)
   have KQ := Q0
   refine tk 0 (some 14) (Op.move (Operand.tmp 1)) 71 (v := ?v0c1) rfl ?h0c1 hH ?_
   case h0c1 => intro _ _; go_simp; try with_reducible rfl
   try simp only [ps]
   refine tk 1 (some 15) (Op.nilCheck (Operand.tmp 14)) 0 (v := ?v1c2) rfl ?h1c2 hH ?_
   case h1c2 => intro _ _; go_simp; try with_reducible rfl
   try simp only [ps]
   refine tk 2 (some 16) (Op.fieldAddr 130 (Operand.tmp 15) 9) 0 (v := ?v2c3) rfl ?h2c3 hH ?_
   case h2c3 => intro _ _; go_simp; try with_reducible rfl
   try simp only [ps]
   refine tk 3 (some 17) (Op.load 128 (Operand.tmp 16)) 128 (v := ?v3c4) rfl ?h3c4 hH ?_
   case h3c4 => intro _ _; go_simp; try with_reducible rfl
   try simp only [ps]
   refine tk 4 (some 18) (Op.load 83 (Operand.tmp 5)) 83 (v := ?v4c5) rfl ?h4c5 hH ?_
   case h4c5 => intro _ _; go_simp; try with_reducible rfl
   try simp only [ps]
   refine tk 5 (some 19) (Op.lookup 128 (Operand.tmp 17) (Operand.tmp 18) true) 216 (v := ?v5c6) rfl ?h5c6 hH ?_
   case h5c6 => intro _ _; go_simp; try with_reducible rfl
   try simp only [ps]
   refine tk 6 (some 13) (Op.move (Operand.tmp 19)) 216 (v := ?v6c7) rfl ?h6c7 hH ?_
   case h6c7 => intro _ _; go_simp; try with_reducible rfl
   try simp only [ps]
   refine tk 7 (some 20) (Op.extract (Operand.tmp 13) 0) 207 (v := ?v7c8) rfl ?h7c8 hH ?_
   case h7c8 => intro _ _; go_simp; try with_reducible rfl
   try simp only [ps]
   refine tk 8 (some 21) (Op.extract (Operand.tmp 13) 1) 4 (v := ?v8c9) rfl ?h8c9 hH ?_
   case h8c9 => intro _ _; go_simp; try with_reducible rfl
   try simp only [ps]
   refine tk 9 (some 7) (Op.assign (Operand.tmp 20)) 207 (v := ?v9c10) rfl ?h9c10 hH ?_
   case h9c10 => intro _ _; go_simp; try with_reducible rfl
   try simp only [ps]
   refine tk 10 (some 8) (Op.assign (Operand.tmp 21)) 4 (v := ?v10c11) rfl ?h10c11 hH ?_
   case h10c11 => intro _ _; go_simp; try with_reducible rfl
   try simp only [ps]
   refine wpAnyH_done (by kernel_rfl) ?_ _
   refine NoPanic.normal ?_
   go_wp2_with fail
   go_meet
   case rel => exact ⟨rfl, rfl, (Kp.refl _).drew⟩
  case rest =>
  obtain ⟨rfl, rfl, hk⟩ := hcut
  rename World => W1
  have K1 := hid hk
  clear hk
  go_wp2_with fail
  go_ret
  exact ⟨_, rfl, by rw [HZS.out]; exact HG.out.keep K1.out.size (fun b hb hl => ⟨hb, K1.out.block b hl⟩), Kp.kx (K0.out.trans K1.out), M0.out.keep (S := fun _ => False) (Kp.kx K1.out) (fun _ _ e => e.elim) (fun _ _ e => e) M0.out.own⟩
end Go.Proofs.YtnajcnhgeggngaaGreat.Way
