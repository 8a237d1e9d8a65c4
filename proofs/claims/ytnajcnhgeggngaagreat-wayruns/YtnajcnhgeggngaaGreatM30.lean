/-
  Texts of this claim: Group.
-/
import Derived.Test.YtnajcnhgeggngaaGreatM26

/-! ### Group -/

namespace Go.Proofs.YtnajcnhgeggngaaGreat.Way
set_option maxHeartbeats 2000000
set_option maxRecDepth 100000
open Go.RowKit Go.Proofs.YtnajcnhgeggngaaGreat

theorem Sp.Ok.put {n : Int} {x y : Sp} (hx : x.Ok) (hn : n = 1 ∨ n = 2 ∨ n = 3) (hy : y.Ok) (hxy : x.a ≤ y.a) : (y.put n x.a y.a).Ok := by
 have h1 := hx.a0
 have h2 := hy.a1
 have hs : Spn x.a y.a := Or.inr ⟨by omega, by omega, by omega⟩
 rcases hn with rfl | rfl | rfl
 ·
  exact ⟨hy.a0, hy.a1, hs, hy.s1, hy.s2⟩
 ·
  exact ⟨hy.a0, hy.a1, hy.s0, hs, hy.s2⟩
 ·
  exact ⟨hy.a0, hy.a1, hy.s0, hy.s1, hs⟩
theorem wgroup1_any (s : ByteArray) (bol : Bool) (_ : s.size ≤ 60) (M : Nat → Option Memo) (k low high : Int) (t : W4) (P : Nat) (kn so : Option Nat) (rd st h : Nat) (kid : Pt) (ks : List Pt) (HS : WSaid s bol M kid) (O : Nat → Prop) (x : Sp) (hx : x.Ok) (hN : x.In s.size) (w : World) (hO : ∀ b, O b → b < w.heap.size) (hM : MemOk M O w) (hP : PtAt w (okB M O) (.mk k low high 1 t P kn so rd st h (kid :: ks))) :
  Calls Tryz.prog 84 #[wkv s bol, ptv P, spv x] w fun e w' => WaysD ((ways s.data.toList bol kid x).map (fun y => y.put 1 x.a y.a)) (okB M O) (fun w' => Km M w w' ∧ MemOk M O w') e w' := by
 unfold PtAt at hP
 obtain ⟨hok, ⟨ad, c, hblk, hcap, hat⟩, hpts⟩ := hP
 unfold PtsAt at hpts
 obtain ⟨L, hL⟩ : ∃ L, (kid :: ks).length = L := ⟨_, rfl⟩
 have hL0 : 0 < L := by rw [← hL]; simp
 obtain ⟨bb, rfl, hbok, hbl, hce⟩ := hat (by simp)
 rw [hL] at hblk hcap
 have HKID := hid hpts.1
 have CBw := hid (hce 0 kid rfl)
 have HBLw := hid hbl
 have HMB := hid (show ¬ M bb ≠ none from fun e => e hbok.2)
 have HMP := hid (show ¬ M P ≠ none from fun e => e hok.2)
 have HX := hid hx
 have HN := hid hN
 have HO := hid hO
 have HM := hid hM
 have HP := hid hblk
 have HGD := hid (HS.good x hx hN)
 have WSw := hid (fun (W : World) (k0 : Kp w W) => HS.all O x W hx hN (fun b hb => Nat.lt_of_lt_of_le (hO b hb) k0.size) (hpts.1.kp k0) (hM.keep (S := fun _ => False) (Kp.kx k0) (fun _ _ e => e.elim) (fun _ _ e => e) hM.own))
 obtain ⟨zs, hzs⟩ : ∃ zs, ways s.data.toList bol kid x = zs := ⟨_, rfl⟩
 have hfew := HS.few x hx hN
 rw [hzs] at WSw HGD hfew ⊢
 obtain ⟨Z, hZ⟩ : ∃ Z, zs.length = Z := ⟨_, rfl⟩
 have HZL := hid hZ
 rw [hZ] at hfew
 have HZF := hid hfew
 clear hok hblk hat hpts hL hbok hbl hce hx hN hO hM HS hzs hZ hfew
 go_enter Tryz.func84, Tryz.ntmps84
 go_upto_region 2 with fail
 refine opq (fun W0 => W0.heap[w.heap.size]? = some (.cells #[.string s, .bool bol] 70) ∧ W0.heap[(w.heap.size + 1)]? = some (spo x) ∧ W0.heap[P]? = some (pto k low high 1 t (.slice (some ⟨bb, 0, none⟩) L c) rd st h kn so) ∧ Kp w W0) ⟨by exact bl_alloc (last_of _ _) _, by exact last_at _ _ _ (by simp), by exact bl_kp HP.out kpt, by exact kpt⟩ ?_
 rintro W0 ⟨xT0, xX0, xP0, xK0⟩
 have T0 := hid xT0
 have X0 := hid xX0
 have P0 := hid xP0
 have K0 := hid xK0
 clear xT0 xX0 xP0 xK0
 have CB := hid ((cell_same (K0.out.block _ HBLw.out) _).trans CBw.out)
 have HBL := hid (Nat.lt_of_lt_of_le HBLw.out K0.out.size)
 have WS := hid (fun (W : World) (k : Kp W0 W) => WSw.out W (K0.out.trans k))
 have HMT := hid (show ¬ M w.heap.size ≠ none from fun e => e (HM.out.lt (Nat.le_refl _)))
 have HMX := hid (show ¬ M (w.heap.size + 1) ≠ none from fun e => e (HM.out.lt (Nat.le_succ _)))
 have Q1 := hid (((Kp.refl W0).drew))
 clear CBw HBLw WSw HP
 go_cut [18, 19, 20] (fun v l i wc => ∃ ad2 c2, v = .slice ad2 Z c2 ∧ l = .int .i64 (Z : Int) ∧ i = .int .i64 0 ∧ Z ≤ c2 ∧ SpL wc (okB M O) (.slice ad2 Z c2) zs ∧ Kx (fun b => M b ≠ none) W0 wc ∧ MemOk M O wc)
 case first =>
  have Q0 : Kx (fun b => M b ≠ none) W0 W0.drew := (Kx.refl _ _).drew
  have MK : Hid (∀ W, Kx (fun b => M b ≠ none) W0 W → W.cell? ⟨w.heap.size, 0, none⟩ = some (.string s) ∧ W.cell? ⟨w.heap.size, 1, none⟩ = some (.bool bol) ∧ W.cell? ⟨(w.heap.size + 1), 0, none⟩ = some (.int .i8 x.a) ∧ W.cell? ⟨(w.heap.size + 1), 1, none⟩ = some (.int .i8 x.f0) ∧ W.cell? ⟨(w.heap.size + 1), 2, none⟩ = some (.int .i8 x.t0) ∧ W.cell? ⟨(w.heap.size + 1), 3, none⟩ = some (.int .i8 x.f1) ∧ W.cell? ⟨(w.heap.size + 1), 4, none⟩ = some (.int .i8 x.t1) ∧ W.cell? ⟨(w.heap.size + 1), 5, none⟩ = some (.int .i8 x.f2) ∧ W.cell? ⟨(w.heap.size + 1), 6, none⟩ = some (.int .i8 x.t2) ∧ W.cell? ⟨P, 8, none⟩ = some (.slice (some ⟨bb, 0, none⟩) L c) ∧ W.cell? ⟨bb, 0, none⟩ = some (ptv kid.P) ∧ Hid (Kx (fun b => M b ≠ none) W0 W)) := fun W k => ⟨bl_cell (bl_kx T0.out k HMT.out) 0 _ rfl, bl_cell (bl_kx T0.out k HMT.out) 1 _ rfl, bl_cell (bl_kx X0.out k HMX.out) 0 _ rfl, bl_cell (bl_kx X0.out k HMX.out) 1 _ rfl, bl_cell (bl_kx X0.out k HMX.out) 2 _ rfl, bl_cell (bl_kx X0.out k HMX.out) 3 _ rfl, bl_cell (bl_kx X0.out k HMX.out) 4 _ rfl, bl_cell (bl_kx X0.out k HMX.out) 5 _ rfl, bl_cell (bl_kx X0.out k HMX.out) 6 _ rfl, bl_cell (bl_kx P0.out k HMP.out) 8 _ rfl, (cell_same (k.block _ HBL.out HMB.out) _).trans CB.out, k⟩
  refine wp_region_noPanic ?_
  refine hdrew MK Q0 (fun hH => ?_)
  have KQ := Q0
  refine tk 0 (some 10) (Op.load 70 (Operand.tmp 3)) 70 (v := ?v0a1) rfl ?h0a1 hH ?_
  case h0a1 => intro _ _; go_simp; try with_reducible rfl
  try simp only [ps]
  refine tk 1 (some 11) (Op.move (Operand.tmp 1)) 71 (v := ?v1a2) rfl ?h1a2 hH ?_
  case h1a2 => intro _ _; go_simp; try with_reducible rfl
  try simp only [ps]
  refine tk 2 (some 12) (Op.nilCheck (Operand.tmp 11)) 0 (v := ?v2a3) rfl ?h2a3 hH ?_
  case h2a3 => intro _ _; go_simp; try with_reducible rfl
  try simp only [ps]
  refine tk 3 (some 13) (Op.fieldAddr 130 (Operand.tmp 12) 5) 0 (v := ?v3a4) rfl ?h3a4 hH ?_
  case h3a4 => intro _ _; go_simp; try with_reducible rfl
  try simp only [ps]
  refine tk 4 (some 14) (Op.load 124 (Operand.tmp 13)) 124 (v := ?v4a5) rfl ?h4a5 hH ?_
  case h4a5 => intro _ _; go_simp; try with_reducible rfl
  try simp only [ps]
  refine tk 5 (some 15) (Op.indexAddr 124 (Operand.tmp 14) (Operand.const (Value.int IntKind.i64 0))) 0 (v := ?v5a6) rfl ?h5a6 hH ?_
  case h5a6 => intro _ _; go_simp; try with_reducible rfl
  try simp only [ps]
  refine tk 6 (some 16) (Op.load 71 (Operand.tmp 15)) 71 (v := ?v6a7) rfl ?h6a7 hH ?_
  case h6a7 => intro _ _; go_simp; try with_reducible rfl
  try simp only [ps]
  refine tk 7 (some 17) (Op.load 83 (Operand.tmp 5)) 83 (v := ?v7a8) rfl ?h7a8 hH ?_
  case h7a8 => intro _ _; go_simp; try with_reducible rfl
  try simp only [ps]
  refine tk 10 (some 20) (Op.move (Operand.const (Value.int IntKind.i64 0))) 3 (v := ?v10a9) rfl ?h10a9 hH ?_
  case h10a9 => intro _ _; go_simp; try with_reducible rfl
  try simp only [ps]
  refine wpAnyH_ready (rs := [8]) (by kernel_rfl) (by simp) ?_
  refine AllReadyH.cons (o := { dst := some 18, op := Op.call { callee := Callee.value (Operand.func 34), args := #[Operand.tmp 10, Operand.tmp 16, Operand.tmp 17], argTypes := #[70, 71, 83] }, type := 68, pos := "walk.go:98", after := #[{ on := 0, ground := Ground.data }, { on := 6, ground := Ground.data }, { on := 7, ground := Ground.data }], guard := none }) rfl (fun K hKq => ?_) AllReadyH.nil
  go_simp
  refine (WS.out _ Q1.out).mono ?_
  rintro e y2 ⟨⟨v, rfl, hv, hk, hm⟩⟩
  obtain ⟨ad2, c2, hvv, hlc, hce⟩ := hv.ex
  rw [HZL.out] at hvv hlc
  subst hvv
  have HV := hid hv
  have HK2 := hid hk
  have HM2 := hid hm
  clear hv hk hm hce
  refine hKq.out _ _ (MK.out _ ((Kp.kx Q1.out).trans HK2.out)) (fun hN => ?_)
  clear hKq K hH KQ
  have hH := hN
  clear hN
  have KQ := hH.2.2.2.2.2.2.2.2.2.2.2.out
  try simp only [ps]
  refine tk 9 (some 19) (Op.call { callee := Callee.builtin Builtin.len, args := #[Operand.tmp 18], argTypes := #[68] }) 3 (v := ?v9a10) rfl ?h9a10 hH ?_
  case h9a10 => intro _ _; go_simp; try with_reducible rfl
  try simp only [ps]
  refine wpAnyH_done (by kernel_rfl) ?_ _
  refine NoPanic.normal ?_
  go_wp2_with fail
  go_meet
  case rel => exact ⟨ad2, c2, rfl, rfl, rfl, hlc, HV.out, (Kp.kx Q1.out).trans HK2.out, HM2.out⟩
 case rest =>
 obtain ⟨ad2, c2, rfl, rfl, rfl, hzc, hsl, hkx, hmc⟩ := hcut
 rename World => wc
 have S1 := hid hsl
 have X1 := hid (bl_kx X0.out hkx HMX.out)
 have P1 := hid (bl_kx P0.out hkx HMP.out)
 have M1 := hid hmc
 have K1 := hid ((Kp.kx K0.out).trans hkx)
 have SO := hid (show ∀ b, O b → b < wc.heap.size from fun b o => Nat.lt_of_lt_of_le (HO.out b o) K1.out.size)
 clear hsl hkx hmc X0 P0 T0 K0 WS HMT HMX HMP HMB CB HBL Q1 HKID HO HM
 go_wp2_with fail
 go_loopg [7, 20] Z (fun gg v i wr => ∃ (q : Nat), q + gg = Z ∧ i = .int .i64 (q : Int) ∧ SpR wc.heap.size wr v ((zs.take q).map (fun y => y.put 1 x.a y.a)) ∧ Kx (fun _ => False) wc wr)
 case atStart => exact ⟨0, by omega, rfl, SpR.nil _ _, Kx.refl _ _⟩
 case round =>
  obtain ⟨q, hq, rfl, hR, hK⟩ := hrel
  have R6 := hid hR
  have K6 := hid hK
  have X6 := hid (bl_kx X1.out hK id)
  have P6 := hid (bl_kx P1.out hK id)
  have S6 := hid (S1.out.keep (ok' := okB M O) hK.size (fun b hb hl => ⟨hb, hK.block b hl id⟩))
  obtain ⟨rad, rc, hvv, -⟩ := hR.form
  obtain ⟨N0, hN0⟩ : ∃ N0, ((zs.take q).map (fun y => y.put 1 x.a y.a)).length = N0 := ⟨_, rfl⟩
  rw [hN0] at hvv
  subst hvv
  clear hR hK hN0
  by_cases hlt : q < Z
  ·
   have gkw : IntKind.i64.wrap ((q : Int) + 1) = (q : Int) + 1 := by have := HZF.out; rw [IntKind.wrap_i64]; omega
   have ga : (q : Int) < (Z : Int) := by omega
   have g0 : (0 : Int) ≤ (q : Int) := by omega
   obtain ⟨y, hy⟩ : ∃ y, zs[q]? = some y := ⟨_, List.getElem?_eq_getElem (by rw [HZL.out]; exact hlt)⟩
   obtain ⟨ad3, c3, hv2, _, hc2⟩ := S6.out.ex
   injection hv2 with e1 e2 e3
   obtain ⟨b2, hbb, _, hbl, hce⟩ := hc2 (by rw [HZL.out]; omega)
   rw [← e1] at hbb
   subst hbb
   have hsp := hce q y hy
   have HY := hid (HGD.out y (List.mem_of_getElem? hy))
   have HTK : Hid ((zs.take (q + 1)).map (fun y => y.put 1 x.a y.a) = (zs.take q).map (fun y => y.put 1 x.a y.a) ++ [y.put 1 x.a y.a]) := by
    show _ = _
    rw [List.take_succ_eq_append_getElem (by rw [HZL.out]; exact hlt), List.map_append, (List.getElem?_eq_some_iff.1 hy).2]
    rfl
   have HLEN := hid (show ((zs.take q).map (fun y => y.put 1 x.a y.a)).length ≤ 5000000000000 by rw [List.length_map, List.length_take]; have := HZF.out; omega)
   have x0 := hsp.c0
   have x1 := hsp.c1
   have x2 := hsp.c2
   have x3 := hsp.c3
   have x4 := hsp.c4
   have x5 := hsp.c5
   have x6 := hsp.c6
   clear hsp hce hy e1 e2 e3 hc2
   obtain ⟨ys, hys⟩ : ∃ ys, (zs.take q).map (fun y => y.put 1 x.a y.a) = ys := ⟨_, rfl⟩
   rw [hys] at R6 HTK HLEN
   clear hys
   go_upto_region 5 with fail
   refine opq (fun W6 => W6.heap[wr.heap.size]? = some (spo y) ∧ W6.heap[(w.heap.size + 1)]? = some (spo x) ∧ W6.heap[P]? = some (pto k low high 1 t (.slice (some ⟨bb, 0, none⟩) L c) rd st h kn so) ∧ SpR wc.heap.size W6 (.slice rad N0 rc) ys ∧ Kx (fun _ => False) wc W6) ⟨by exact last_of _ _, by exact bl_alloc X6.out _, by exact bl_alloc P6.out _, by exact R6.out.kp ((Kp.refl _).alloc _), by exact K6.out.alloc _⟩ ?_
   rintro W6 ⟨xY7, xX7, xP7, xR7, xK7⟩
   have Y7 := hid xY7
   have X7 := hid xX7
   have P7 := hid xP7
   have R7 := hid xR7
   have K7 := hid xK7
   clear xY7 xX7 xP7 xR7 xK7
   have HRY := hid (show ∀ b, (Value.slice rad N0 rc).ownBlock = some b → wc.heap.size ≤ b ∧ b < wr.heap.size from fun b e => R6.out.block b e)
   have HSW := hid K6.out.size
   clear x0 x1 x2 x3 x4 x5 x6 X6 P6 R6 S6 K6
   obtain ⟨z, hz⟩ : ∃ z, y.put 1 x.a y.a = z := ⟨_, rfl⟩
   have HZOK := hid (show z.Ok by rw [← hz]; exact HX.out.put ((Or.inl rfl)) HY.out.1 HY.out.2.2)
   have HZE : Hid (spo (y.put 1 x.a y.a) = spo z) := by show _ = _; rw [hz]
   rw [hz] at HTK
   clear hz
   have gkn : IntKind.i64.wrap 0 = 0 := by rw [IntKind.wrap_i64]; omega
   go_cut [] (fun we => we.heap[wr.heap.size]? = some (spo z) ∧ Ks wr.heap.size W6 we)
   case first =>
    have Q0 : Kp W6 W6.drew := (Kp.refl _).drew
    have MK : Hid (∀ W, Kp W6 W → W.cell? ⟨P, 3, none⟩ = some (.int .i64 1) ∧ W.cell? ⟨(w.heap.size + 1), 0, none⟩ = some (.int .i8 x.a) ∧ W.cell? ⟨wr.heap.size, 0, none⟩ = some (.int .i8 y.a) ∧ Hid (Kp W6 W)) := fun W k => ⟨bl_cell (bl_kp P7.out k) 3 _ rfl, bl_cell (bl_kp X7.out k) 0 _ rfl, bl_cell (bl_kp Y7.out k) 0 _ rfl, k⟩
    refine wp_region_noPanic ?_
    refine hdrewZ 12 MK Q0 (fun hH => ?_)
    have KQ := Q0
    refine zk 12 0 [] (some 24) (Op.move (Operand.tmp 1)) 71 (v := ?v0b1) rfl ?h0b1 hH ?_
    case h0b1 => intro _ _; go_simp; try with_reducible rfl
    try simp only [ps]
    refine zk 12 1 [] (some 25) (Op.nilCheck (Operand.tmp 24)) 0 (v := ?v1b2) rfl ?h1b2 hH ?_
    case h1b2 => intro _ _; go_simp; try with_reducible rfl
    try simp only [ps]
    refine zk 12 2 [] (some 26) (Op.fieldAddr 130 (Operand.tmp 25) 3) 0 (v := ?v2b3) rfl ?h2b3 hH ?_
    case h2b3 => intro _ _; go_simp; try with_reducible rfl
    try simp only [ps]
    refine zk 12 3 [] (some 27) (Op.load 3 (Operand.tmp 26)) 3 (v := ?v3b4) rfl ?h3b4 hH ?_
    case h3b4 => intro _ _; go_simp; try with_reducible rfl
    try simp only [ps]
    refine zk 12 4 [] (some 28) (Op.binOp BinOp.sub 3 (Operand.tmp 27) (Operand.const (Value.int IntKind.i64 1)) 3) 3 (v := ?v4b5) rfl ?h4b5 hH ?_
    case h4b5 => intro _ _; go_simp; try with_reducible rfl
    try simp only [ps]
    refine zk 12 5 [] (some 29) (Op.fieldAddr 83 (Operand.tmp 5) 0) 0 (v := ?v5b6) rfl ?h5b6 hH ?_
    case h5b6 => intro _ _; go_simp; try with_reducible rfl
    try simp only [ps]
    refine zk 12 6 [] (some 30) (Op.load 78 (Operand.tmp 29)) 78 (v := ?v6b7) rfl ?h6b7 hH ?_
    case h6b7 => intro _ _; go_simp; try with_reducible rfl
    try simp only [ps]
    refine zk 12 7 [] (some 31) (Op.fieldAddr 83 (Operand.tmp 9) 0) 0 (v := ?v7b8) rfl ?h7b8 hH ?_
    case h7b8 => intro _ _; go_simp; try with_reducible rfl
    try simp only [ps]
    refine zk 12 8 [] (some 32) (Op.load 78 (Operand.tmp 31)) 78 (v := ?v8b9) rfl ?h8b9 hH ?_
    case h8b9 => intro _ _; go_simp; try with_reducible rfl
    try simp only [ps]
    refine zk 12 9 [] (some 33) (Op.build 80 #[(0, Operand.tmp 30), (1, Operand.tmp 32)]) 80 (v := ?v9b10) rfl ?h9b10 hH ?_
    case h9b10 => intro _ _; go_simp; try with_reducible rfl
    try simp only [ps]
    refine zk 12 10 [11] (some 34) (Op.fieldAddr 83 (Operand.tmp 9) 1) 0 (v := ?v10b11) rfl ?h10b11 hH ?_
    case h10b11 => intro _ _; go_simp; try with_reducible rfl
    try simp only [ps]
    refine zk 12 11 [] (some 35) (Op.indexAddr 81 (Operand.tmp 34) (Operand.tmp 28)) 0 (v := ?v11b12) rfl ?h11b12 hH ?_
    case h11b12 => intro _ _; go_simp; try with_reducible rfl
    try simp only [ps]
    refine anyZ_ready (rs := [12]) (by kernel_rfl) (by simp) ?_
    refine AllZ.last (o := { dst := none, op := Op.store 80 (Operand.tmp 35) (Operand.tmp 33), type := 0, pos := "walk.go:99", after := #[{ on := 11, ground := Ground.data }, { on := 9, ground := Ground.data }, { on := 0, ground := Ground.phase }, { on := 1, ground := Ground.phase }, { on := 2, ground := Ground.phase }, { on := 3, ground := Ground.phase }, { on := 4, ground := Ground.phase }, { on := 5, ground := Ground.phase }, { on := 6, ground := Ground.phase }, { on := 7, ground := Ground.phase }, { on := 8, ground := Ground.phase }, { on := 9, ground := Ground.phase }], guard := none }) rfl (Or.inl rfl) (fun K hKq => ?_) AllZ.nil
    have l1 := bl_cell (bl_drew Y7.out) 1 _ rfl
    have l2 := bl_cell (bl_drew Y7.out) 2 _ rfl
    have fl1 := bl_frozen (bl_drew Y7.out) 1
    have fl2 := bl_frozen (bl_drew Y7.out) 2
    have m2 := bl_cell Y7.out 2 _ rfl
    have fm2 := bl_frozen Y7.out 2
    go_simp
    refine hKq.out _ _ ?_
    clear l1 l2 fl1 fl2 m2 fm2
    clear hKq K
    try simp only [ps]
    refine anyZ_done (by kernel_rfl) ?_ _
    refine NoPanic.normal ?_
    go_wp2_with fail
    go_meet
    case rel => exact ⟨by rw [← HZE.out]; exact bl_put (bl_put Y7.out _) _, (((Ks.refl _ _).set _ _).set _ _).drew⟩

   case rest =>
   obtain ⟨hu4, hk4⟩ := hcut
   rename World => W7
   have Y8 := hid hu4
   have R8 := hid (R7.out.turn (w' := W7) (fun b hb hl => hk4.block b hl (by have := (HRY.out b hb).2; omega)))
   have K8 := hid (hk4.up (Kx.kp K7.out) HSW.out)
   have A8 := hid (R8.out.kp ((Kp.refl W7).alloc (spo z)))
   clear hu4 hk4 Y7 X7 P7 R7 K7
   obtain ⟨y0, y1, y2, y3, y4, y5, y6⟩ := cells7 (Y8.out)
   go_wp2_with (at_builtin; go_must (refine wpList_append_sp (W7.alloc (spo z)) (by rfl) _ _ (by rfl) wc.heap.size (.slice rad N0 rc) ys z (by rfl) W7.heap.size (by rfl) A8 HZOK ?h1 ?h2 ?h3 ?_))
   case h1 => exact last_of _ _
   case h2 => exact HLEN.out
   case h3 => have := K8.out.size; simp; omega
   intro v' w' md
   have MD := hid md
   clear md y0 y1 y2 y3 y4 y5 y6
   obtain ⟨rad', rc', hv', -⟩ := MD.out.row.form
   obtain ⟨N1, hN1⟩ : ∃ N1, (ys ++ [z]).length = N1 := ⟨_, rfl⟩
   rw [hN1] at hv'
   subst hv'
   clear hN1
   go_wp2_with fail
   go_roundg (gk - 1)
   case measure => omega
   case rel => exact ⟨q + 1, by omega, by go_num, by rw [HTK.out]; exact MD.out.row, ((Kp.kx (K8.out.alloc _)).grown MD.out.grown (fun k e hk => by have := (HRY.out k e).1; omega))⟩
  ·
   have ga : ¬ (q : Int) < (Z : Int) := by omega
   have HE : Hid ((zs.take q).map (fun y => y.put 1 x.a y.a) = zs.map (fun y => y.put 1 x.a y.a)) := by
    show _ = _
    rw [List.take_of_length_le (by rw [HZL.out]; omega)]
   go_wp2_with fail
   go_ret
   exact ⟨_, rfl, by rw [← HE.out]; exact R6.out.spl (fun b e => ⟨fun o => by have := (R6.out.block b e).1; have := SO.out b o; omega, M1.out.lt (R6.out.block b e).1⟩), K1.out.trans (Kp.kx (Kx.kp K6.out)), M1.out.keep (S := fun _ => False) K6.out (fun _ _ e => e.elim) (fun _ _ e => e) M1.out.own⟩
theorem wgroup2_any (s : ByteArray) (bol : Bool) (_ : s.size ≤ 60) (M : Nat → Option Memo) (k low high : Int) (t : W4) (P : Nat) (kn so : Option Nat) (rd st h : Nat) (kid : Pt) (ks : List Pt) (HS : WSaid s bol M kid) (O : Nat → Prop) (x : Sp) (hx : x.Ok) (hN : x.In s.size) (w : World) (hO : ∀ b, O b → b < w.heap.size) (hM : MemOk M O w) (hP : PtAt w (okB M O) (.mk k low high 2 t P kn so rd st h (kid :: ks))) :
  Calls Tryz.prog 84 #[wkv s bol, ptv P, spv x] w fun e w' => WaysD ((ways s.data.toList bol kid x).map (fun y => y.put 2 x.a y.a)) (okB M O) (fun w' => Km M w w' ∧ MemOk M O w') e w' := by
 unfold PtAt at hP
 obtain ⟨hok, ⟨ad, c, hblk, hcap, hat⟩, hpts⟩ := hP
 unfold PtsAt at hpts
 obtain ⟨L, hL⟩ : ∃ L, (kid :: ks).length = L := ⟨_, rfl⟩
 have hL0 : 0 < L := by rw [← hL]; simp
 obtain ⟨bb, rfl, hbok, hbl, hce⟩ := hat (by simp)
 rw [hL] at hblk hcap
 have HKID := hid hpts.1
 have CBw := hid (hce 0 kid rfl)
 have HBLw := hid hbl
 have HMB := hid (show ¬ M bb ≠ none from fun e => e hbok.2)
 have HMP := hid (show ¬ M P ≠ none from fun e => e hok.2)
 have HX := hid hx
 have HN := hid hN
 have HO := hid hO
 have HM := hid hM
 have HP := hid hblk
 have HGD := hid (HS.good x hx hN)
 have WSw := hid (fun (W : World) (k0 : Kp w W) => HS.all O x W hx hN (fun b hb => Nat.lt_of_lt_of_le (hO b hb) k0.size) (hpts.1.kp k0) (hM.keep (S := fun _ => False) (Kp.kx k0) (fun _ _ e => e.elim) (fun _ _ e => e) hM.own))
 obtain ⟨zs, hzs⟩ : ∃ zs, ways s.data.toList bol kid x = zs := ⟨_, rfl⟩
 have hfew := HS.few x hx hN
 rw [hzs] at WSw HGD hfew ⊢
 obtain ⟨Z, hZ⟩ : ∃ Z, zs.length = Z := ⟨_, rfl⟩
 have HZL := hid hZ
 rw [hZ] at hfew
 have HZF := hid hfew
 clear hok hblk hat hpts hL hbok hbl hce hx hN hO hM HS hzs hZ hfew
 go_enter Tryz.func84, Tryz.ntmps84
 go_upto_region 2 with fail
 refine opq (fun W0 => W0.heap[w.heap.size]? = some (.cells #[.string s, .bool bol] 70) ∧ W0.heap[(w.heap.size + 1)]? = some (spo x) ∧ W0.heap[P]? = some (pto k low high 2 t (.slice (some ⟨bb, 0, none⟩) L c) rd st h kn so) ∧ Kp w W0) ⟨by exact bl_alloc (last_of _ _) _, by exact last_at _ _ _ (by simp), by exact bl_kp HP.out kpt, by exact kpt⟩ ?_
 rintro W0 ⟨xT0, xX0, xP0, xK0⟩
 have T0 := hid xT0
 have X0 := hid xX0
 have P0 := hid xP0
 have K0 := hid xK0
 clear xT0 xX0 xP0 xK0
 have CB := hid ((cell_same (K0.out.block _ HBLw.out) _).trans CBw.out)
 have HBL := hid (Nat.lt_of_lt_of_le HBLw.out K0.out.size)
 have WS := hid (fun (W : World) (k : Kp W0 W) => WSw.out W (K0.out.trans k))
 have HMT := hid (show ¬ M w.heap.size ≠ none from fun e => e (HM.out.lt (Nat.le_refl _)))
 have HMX := hid (show ¬ M (w.heap.size + 1) ≠ none from fun e => e (HM.out.lt (Nat.le_succ _)))
 have Q1 := hid (((Kp.refl W0).drew))
 clear CBw HBLw WSw HP
 go_cut [18, 19, 20] (fun v l i wc => ∃ ad2 c2, v = .slice ad2 Z c2 ∧ l = .int .i64 (Z : Int) ∧ i = .int .i64 0 ∧ Z ≤ c2 ∧ SpL wc (okB M O) (.slice ad2 Z c2) zs ∧ Kx (fun b => M b ≠ none) W0 wc ∧ MemOk M O wc)
 case first =>
  have Q0 : Kx (fun b => M b ≠ none) W0 W0.drew := (Kx.refl _ _).drew
  have MK : Hid (∀ W, Kx (fun b => M b ≠ none) W0 W → W.cell? ⟨w.heap.size, 0, none⟩ = some (.string s) ∧ W.cell? ⟨w.heap.size, 1, none⟩ = some (.bool bol) ∧ W.cell? ⟨(w.heap.size + 1), 0, none⟩ = some (.int .i8 x.a) ∧ W.cell? ⟨(w.heap.size + 1), 1, none⟩ = some (.int .i8 x.f0) ∧ W.cell? ⟨(w.heap.size + 1), 2, none⟩ = some (.int .i8 x.t0) ∧ W.cell? ⟨(w.heap.size + 1), 3, none⟩ = some (.int .i8 x.f1) ∧ W.cell? ⟨(w.heap.size + 1), 4, none⟩ = some (.int .i8 x.t1) ∧ W.cell? ⟨(w.heap.size + 1), 5, none⟩ = some (.int .i8 x.f2) ∧ W.cell? ⟨(w.heap.size + 1), 6, none⟩ = some (.int .i8 x.t2) ∧ W.cell? ⟨P, 8, none⟩ = some (.slice (some ⟨bb, 0, none⟩) L c) ∧ W.cell? ⟨bb, 0, none⟩ = some (ptv kid.P) ∧ Hid (Kx (fun b => M b ≠ none) W0 W)) := fun W k => ⟨bl_cell (bl_kx T0.out k HMT.out) 0 _ rfl, bl_cell (bl_kx T0.out k HMT.out) 1 _ rfl, bl_cell (bl_kx X0.out k HMX.out) 0 _ rfl, bl_cell (bl_kx X0.out k HMX.out) 1 _ rfl, bl_cell (bl_kx X0.out k HMX.out) 2 _ rfl, bl_cell (bl_kx X0.out k HMX.out) 3 _ rfl, bl_cell (bl_kx X0.out k HMX.out) 4 _ rfl, bl_cell (bl_kx X0.out k HMX.out) 5 _ rfl, bl_cell (bl_kx X0.out k HMX.out) 6 _ rfl, bl_cell (bl_kx P0.out k HMP.out) 8 _ rfl, (cell_same (k.block _ HBL.out HMB.out) _).trans CB.out, k⟩
  refine wp_region_noPanic ?_
  refine hdrew MK Q0 (fun hH => ?_)
  have KQ := Q0
  refine tk 0 (some 10) (Op.load 70 (Operand.tmp 3)) 70 (v := ?v0a1) rfl ?h0a1 hH ?_
  case h0a1 => intro _ _; go_simp; try with_reducible rfl
  try simp only [ps]
  refine tk 1 (some 11) (Op.move (Operand.tmp 1)) 71 (v := ?v1a2) rfl ?h1a2 hH ?_
  case h1a2 => intro _ _; go_simp; try with_reducible rfl
  try simp only [ps]
  refine tk 2 (some 12) (Op.nilCheck (Operand.tmp 11)) 0 (v := ?v2a3) rfl ?h2a3 hH ?_
  case h2a3 => intro _ _; go_simp; try with_reducible rfl
  try simp only [ps]
  refine tk 3 (some 13) (Op.fieldAddr 130 (Operand.tmp 12) 5) 0 (v := ?v3a4) rfl ?h3a4 hH ?_
  case h3a4 => intro _ _; go_simp; try with_reducible rfl
  try simp only [ps]
  refine tk 4 (some 14) (Op.load 124 (Operand.tmp 13)) 124 (v := ?v4a5) rfl ?h4a5 hH ?_
  case h4a5 => intro _ _; go_simp; try with_reducible rfl
  try simp only [ps]
  refine tk 5 (some 15) (Op.indexAddr 124 (Operand.tmp 14) (Operand.const (Value.int IntKind.i64 0))) 0 (v := ?v5a6) rfl ?h5a6 hH ?_
  case h5a6 => intro _ _; go_simp; try with_reducible rfl
  try simp only [ps]
  refine tk 6 (some 16) (Op.load 71 (Operand.tmp 15)) 71 (v := ?v6a7) rfl ?h6a7 hH ?_
  case h6a7 => intro _ _; go_simp; try with_reducible rfl
  try simp only [ps]
  refine tk 7 (some 17) (Op.load 83 (Operand.tmp 5)) 83 (v := ?v7a8) rfl ?h7a8 hH ?_
  case h7a8 => intro _ _; go_simp; try with_reducible rfl
  try simp only [ps]
  refine tk 10 (some 20) (Op.move (Operand.const (Value.int IntKind.i64 0))) 3 (v := ?v10a9) rfl ?h10a9 hH ?_
  case h10a9 => intro _ _; go_simp; try with_reducible rfl
  try simp only [ps]
  refine wpAnyH_ready (rs := [8]) (by kernel_rfl) (by simp) ?_
  refine AllReadyH.cons (o := { dst := some 18, op := Op.call { callee := Callee.value (Operand.func 34), args := #[Operand.tmp 10, Operand.tmp 16, Operand.tmp 17], argTypes := #[70, 71, 83] }, type := 68, pos := "walk.go:98", after := #[{ on := 0, ground := Ground.data }, { on := 6, ground := Ground.data }, { on := 7, ground := Ground.data }], guard := none }) rfl (fun K hKq => ?_) AllReadyH.nil
  go_simp
  refine (WS.out _ Q1.out).mono ?_
  rintro e y2 ⟨⟨v, rfl, hv, hk, hm⟩⟩
  obtain ⟨ad2, c2, hvv, hlc, hce⟩ := hv.ex
  rw [HZL.out] at hvv hlc
  subst hvv
  have HV := hid hv
  have HK2 := hid hk
  have HM2 := hid hm
  clear hv hk hm hce
  refine hKq.out _ _ (MK.out _ ((Kp.kx Q1.out).trans HK2.out)) (fun hN => ?_)
  clear hKq K hH KQ
  have hH := hN
  clear hN
  have KQ := hH.2.2.2.2.2.2.2.2.2.2.2.out
  try simp only [ps]
  refine tk 9 (some 19) (Op.call { callee := Callee.builtin Builtin.len, args := #[Operand.tmp 18], argTypes := #[68] }) 3 (v := ?v9a10) rfl ?h9a10 hH ?_
  case h9a10 => intro _ _; go_simp; try with_reducible rfl
  try simp only [ps]
  refine wpAnyH_done (by kernel_rfl) ?_ _
  refine NoPanic.normal ?_
  go_wp2_with fail
  go_meet
  case rel => exact ⟨ad2, c2, rfl, rfl, rfl, hlc, HV.out, (Kp.kx Q1.out).trans HK2.out, HM2.out⟩
 case rest =>
 obtain ⟨ad2, c2, rfl, rfl, rfl, hzc, hsl, hkx, hmc⟩ := hcut
 rename World => wc
 have S1 := hid hsl
 have X1 := hid (bl_kx X0.out hkx HMX.out)
 have P1 := hid (bl_kx P0.out hkx HMP.out)
 have M1 := hid hmc
 have K1 := hid ((Kp.kx K0.out).trans hkx)
 have SO := hid (show ∀ b, O b → b < wc.heap.size from fun b o => Nat.lt_of_lt_of_le (HO.out b o) K1.out.size)
 clear hsl hkx hmc X0 P0 T0 K0 WS HMT HMX HMP HMB CB HBL Q1 HKID HO HM
 go_wp2_with fail
 go_loopg [7, 20] Z (fun gg v i wr => ∃ (q : Nat), q + gg = Z ∧ i = .int .i64 (q : Int) ∧ SpR wc.heap.size wr v ((zs.take q).map (fun y => y.put 2 x.a y.a)) ∧ Kx (fun _ => False) wc wr)
 case atStart => exact ⟨0, by omega, rfl, SpR.nil _ _, Kx.refl _ _⟩
 case round =>
  obtain ⟨q, hq, rfl, hR, hK⟩ := hrel
  have R6 := hid hR
  have K6 := hid hK
  have X6 := hid (bl_kx X1.out hK id)
  have P6 := hid (bl_kx P1.out hK id)
  have S6 := hid (S1.out.keep (ok' := okB M O) hK.size (fun b hb hl => ⟨hb, hK.block b hl id⟩))
  obtain ⟨rad, rc, hvv, -⟩ := hR.form
  obtain ⟨N0, hN0⟩ : ∃ N0, ((zs.take q).map (fun y => y.put 2 x.a y.a)).length = N0 := ⟨_, rfl⟩
  rw [hN0] at hvv
  subst hvv
  clear hR hK hN0
  by_cases hlt : q < Z
  ·
   have gkw : IntKind.i64.wrap ((q : Int) + 1) = (q : Int) + 1 := by have := HZF.out; rw [IntKind.wrap_i64]; omega
   have ga : (q : Int) < (Z : Int) := by omega
   have g0 : (0 : Int) ≤ (q : Int) := by omega
   obtain ⟨y, hy⟩ : ∃ y, zs[q]? = some y := ⟨_, List.getElem?_eq_getElem (by rw [HZL.out]; exact hlt)⟩
   obtain ⟨ad3, c3, hv2, _, hc2⟩ := S6.out.ex
   injection hv2 with e1 e2 e3
   obtain ⟨b2, hbb, _, hbl, hce⟩ := hc2 (by rw [HZL.out]; omega)
   rw [← e1] at hbb
   subst hbb
   have hsp := hce q y hy
   have HY := hid (HGD.out y (List.mem_of_getElem? hy))
   have HTK : Hid ((zs.take (q + 1)).map (fun y => y.put 2 x.a y.a) = (zs.take q).map (fun y => y.put 2 x.a y.a) ++ [y.put 2 x.a y.a]) := by
    show _ = _
    rw [List.take_succ_eq_append_getElem (by rw [HZL.out]; exact hlt), List.map_append, (List.getElem?_eq_some_iff.1 hy).2]
    rfl
   have HLEN := hid (show ((zs.take q).map (fun y => y.put 2 x.a y.a)).length ≤ 5000000000000 by rw [List.length_map, List.length_take]; have := HZF.out; omega)
   have x0 := hsp.c0
   have x1 := hsp.c1
   have x2 := hsp.c2
   have x3 := hsp.c3
   have x4 := hsp.c4
   have x5 := hsp.c5
   have x6 := hsp.c6
   clear hsp hce hy e1 e2 e3 hc2
   obtain ⟨ys, hys⟩ : ∃ ys, (zs.take q).map (fun y => y.put 2 x.a y.a) = ys := ⟨_, rfl⟩
   rw [hys] at R6 HTK HLEN
   clear hys
   go_upto_region 5 with fail
   refine opq (fun W6 => W6.heap[wr.heap.size]? = some (spo y) ∧ W6.heap[(w.heap.size + 1)]? = some (spo x) ∧ W6.heap[P]? = some (pto k low high 2 t (.slice (some ⟨bb, 0, none⟩) L c) rd st h kn so) ∧ SpR wc.heap.size W6 (.slice rad N0 rc) ys ∧ Kx (fun _ => False) wc W6) ⟨by exact last_of _ _, by exact bl_alloc X6.out _, by exact bl_alloc P6.out _, by exact R6.out.kp ((Kp.refl _).alloc _), by exact K6.out.alloc _⟩ ?_
   rintro W6 ⟨xY7, xX7, xP7, xR7, xK7⟩
   have Y7 := hid xY7
   have X7 := hid xX7
   have P7 := hid xP7
   have R7 := hid xR7
   have K7 := hid xK7
   clear xY7 xX7 xP7 xR7 xK7
   have HRY := hid (show ∀ b, (Value.slice rad N0 rc).ownBlock = some b → wc.heap.size ≤ b ∧ b < wr.heap.size from fun b e => R6.out.block b e)
   have HSW := hid K6.out.size
   clear x0 x1 x2 x3 x4 x5 x6 X6 P6 R6 S6 K6
   obtain ⟨z, hz⟩ : ∃ z, y.put 2 x.a y.a = z := ⟨_, rfl⟩
   have HZOK := hid (show z.Ok by rw [← hz]; exact HX.out.put ((Or.inr (Or.inl rfl))) HY.out.1 HY.out.2.2)
   have HZE : Hid (spo (y.put 2 x.a y.a) = spo z) := by show _ = _; rw [hz]
   rw [hz] at HTK
   clear hz
   have gkn : IntKind.i64.wrap 1 = 1 := by rw [IntKind.wrap_i64]; omega
   go_cut [] (fun we => we.heap[wr.heap.size]? = some (spo z) ∧ Ks wr.heap.size W6 we)
   case first =>
    have Q0 : Kp W6 W6.drew := (Kp.refl _).drew
    have MK : Hid (∀ W, Kp W6 W → W.cell? ⟨P, 3, none⟩ = some (.int .i64 2) ∧ W.cell? ⟨(w.heap.size + 1), 0, none⟩ = some (.int .i8 x.a) ∧ W.cell? ⟨wr.heap.size, 0, none⟩ = some (.int .i8 y.a) ∧ Hid (Kp W6 W)) := fun W k => ⟨bl_cell (bl_kp P7.out k) 3 _ rfl, bl_cell (bl_kp X7.out k) 0 _ rfl, bl_cell (bl_kp Y7.out k) 0 _ rfl, k⟩
    refine wp_region_noPanic ?_
    refine hdrewZ 12 MK Q0 (fun hH => ?_)
    have KQ := Q0
    refine zk 12 0 [] (some 24) (Op.move (Operand.tmp 1)) 71 (v := ?v0b1) rfl ?h0b1 hH ?_
    case h0b1 => intro _ _; go_simp; try with_reducible rfl
    try simp only [ps]
    refine zk 12 1 [] (some 25) (Op.nilCheck (Operand.tmp 24)) 0 (v := ?v1b2) rfl ?h1b2 hH ?_
    case h1b2 => intro _ _; go_simp; try with_reducible rfl
    try simp only [ps]
    refine zk 12 2 [] (some 26) (Op.fieldAddr 130 (Operand.tmp 25) 3) 0 (v := ?v2b3) rfl ?h2b3 hH ?_
    case h2b3 => intro _ _; go_simp; try with_reducible rfl
    try simp only [ps]
    refine zk 12 3 [] (some 27) (Op.load 3 (Operand.tmp 26)) 3 (v := ?v3b4) rfl ?h3b4 hH ?_
    case h3b4 => intro _ _; go_simp; try with_reducible rfl
    try simp only [ps]
    refine zk 12 4 [] (some 28) (Op.binOp BinOp.sub 3 (Operand.tmp 27) (Operand.const (Value.int IntKind.i64 1)) 3) 3 (v := ?v4b5) rfl ?h4b5 hH ?_
    case h4b5 => intro _ _; go_simp; try with_reducible rfl
    try simp only [ps]
    refine zk 12 5 [] (some 29) (Op.fieldAddr 83 (Operand.tmp 5) 0) 0 (v := ?v5b6) rfl ?h5b6 hH ?_
    case h5b6 => intro _ _; go_simp; try with_reducible rfl
    try simp only [ps]
    refine zk 12 6 [] (some 30) (Op.load 78 (Operand.tmp 29)) 78 (v := ?v6b7) rfl ?h6b7 hH ?_
    case h6b7 => intro _ _; go_simp; try with_reducible rfl
    try simp only [ps]
    refine zk 12 7 [] (some 31) (Op.fieldAddr 83 (Operand.tmp 9) 0) 0 (v := ?v7b8) rfl ?h7b8 hH ?_
    case h7b8 => intro _ _; go_simp; try with_reducible rfl
    try simp only [ps]
    refine zk 12 8 [] (some 32) (Op.load 78 (Operand.tmp 31)) 78 (v := ?v8b9) rfl ?h8b9 hH ?_
    case h8b9 => intro _ _; go_simp; try with_reducible rfl
    try simp only [ps]
    refine zk 12 9 [] (some 33) (Op.build 80 #[(0, Operand.tmp 30), (1, Operand.tmp 32)]) 80 (v := ?v9b10) rfl ?h9b10 hH ?_
    case h9b10 => intro _ _; go_simp; try with_reducible rfl
    try simp only [ps]
    refine zk 12 10 [11] (some 34) (Op.fieldAddr 83 (Operand.tmp 9) 1) 0 (v := ?v10b11) rfl ?h10b11 hH ?_
    case h10b11 => intro _ _; go_simp; try with_reducible rfl
    try simp only [ps]
    refine zk 12 11 [] (some 35) (Op.indexAddr 81 (Operand.tmp 34) (Operand.tmp 28)) 0 (v := ?v11b12) rfl ?h11b12 hH ?_
    case h11b12 => intro _ _; go_simp; try with_reducible rfl
    try simp only [ps]
    refine anyZ_ready (rs := [12]) (by kernel_rfl) (by simp) ?_
    refine AllZ.last (o := { dst := none, op := Op.store 80 (Operand.tmp 35) (Operand.tmp 33), type := 0, pos := "walk.go:99", after := #[{ on := 11, ground := Ground.data }, { on := 9, ground := Ground.data }, { on := 0, ground := Ground.phase }, { on := 1, ground := Ground.phase }, { on := 2, ground := Ground.phase }, { on := 3, ground := Ground.phase }, { on := 4, ground := Ground.phase }, { on := 5, ground := Ground.phase }, { on := 6, ground := Ground.phase }, { on := 7, ground := Ground.phase }, { on := 8, ground := Ground.phase }, { on := 9, ground := Ground.phase }], guard := none }) rfl (Or.inl rfl) (fun K hKq => ?_) AllZ.nil
    have l3 := bl_cell (bl_drew Y7.out) 3 _ rfl
    have l4 := bl_cell (bl_drew Y7.out) 4 _ rfl
    have fl3 := bl_frozen (bl_drew Y7.out) 3
    have fl4 := bl_frozen (bl_drew Y7.out) 4
    have m4 := bl_cell Y7.out 4 _ rfl
    have fm4 := bl_frozen Y7.out 4
    go_simp
    refine hKq.out _ _ ?_
    clear l3 l4 fl3 fl4 m4 fm4
    clear hKq K
    try simp only [ps]
    refine anyZ_done (by kernel_rfl) ?_ _
    refine NoPanic.normal ?_
    go_wp2_with fail
    go_meet
    case rel => exact ⟨by rw [← HZE.out]; exact bl_put (bl_put Y7.out _) _, (((Ks.refl _ _).set _ _).set _ _).drew⟩

   case rest =>
   obtain ⟨hu4, hk4⟩ := hcut
   rename World => W7
   have Y8 := hid hu4
   have R8 := hid (R7.out.turn (w' := W7) (fun b hb hl => hk4.block b hl (by have := (HRY.out b hb).2; omega)))
   have K8 := hid (hk4.up (Kx.kp K7.out) HSW.out)
   have A8 := hid (R8.out.kp ((Kp.refl W7).alloc (spo z)))
   clear hu4 hk4 Y7 X7 P7 R7 K7
   obtain ⟨y0, y1, y2, y3, y4, y5, y6⟩ := cells7 (Y8.out)
   go_wp2_with (at_builtin; go_must (refine wpList_append_sp (W7.alloc (spo z)) (by rfl) _ _ (by rfl) wc.heap.size (.slice rad N0 rc) ys z (by rfl) W7.heap.size (by rfl) A8 HZOK ?h1 ?h2 ?h3 ?_))
   case h1 => exact last_of _ _
   case h2 => exact HLEN.out
   case h3 => have := K8.out.size; simp; omega
   intro v' w' md
   have MD := hid md
   clear md y0 y1 y2 y3 y4 y5 y6
   obtain ⟨rad', rc', hv', -⟩ := MD.out.row.form
   obtain ⟨N1, hN1⟩ : ∃ N1, (ys ++ [z]).length = N1 := ⟨_, rfl⟩
   rw [hN1] at hv'
   subst hv'
   clear hN1
   go_wp2_with fail
   go_roundg (gk - 1)
   case measure => omega
   case rel => exact ⟨q + 1, by omega, by go_num, by rw [HTK.out]; exact MD.out.row, ((Kp.kx (K8.out.alloc _)).grown MD.out.grown (fun k e hk => by have := (HRY.out k e).1; omega))⟩
  ·
   have ga : ¬ (q : Int) < (Z : Int) := by omega
   have HE : Hid ((zs.take q).map (fun y => y.put 2 x.a y.a) = zs.map (fun y => y.put 2 x.a y.a)) := by
    show _ = _
    rw [List.take_of_length_le (by rw [HZL.out]; omega)]
   go_wp2_with fail
   go_ret
   exact ⟨_, rfl, by rw [← HE.out]; exact R6.out.spl (fun b e => ⟨fun o => by have := (R6.out.block b e).1; have := SO.out b o; omega, M1.out.lt (R6.out.block b e).1⟩), K1.out.trans (Kp.kx (Kx.kp K6.out)), M1.out.keep (S := fun _ => False) K6.out (fun _ _ e => e.elim) (fun _ _ e => e) M1.out.own⟩
theorem wgroup3_any (s : ByteArray) (bol : Bool) (_ : s.size ≤ 60) (M : Nat → Option Memo) (k low high : Int) (t : W4) (P : Nat) (kn so : Option Nat) (rd st h : Nat) (kid : Pt) (ks : List Pt) (HS : WSaid s bol M kid) (O : Nat → Prop) (x : Sp) (hx : x.Ok) (hN : x.In s.size) (w : World) (hO : ∀ b, O b → b < w.heap.size) (hM : MemOk M O w) (hP : PtAt w (okB M O) (.mk k low high 3 t P kn so rd st h (kid :: ks))) :
  Calls Tryz.prog 84 #[wkv s bol, ptv P, spv x] w fun e w' => WaysD ((ways s.data.toList bol kid x).map (fun y => y.put 3 x.a y.a)) (okB M O) (fun w' => Km M w w' ∧ MemOk M O w') e w' := by
 unfold PtAt at hP
 obtain ⟨hok, ⟨ad, c, hblk, hcap, hat⟩, hpts⟩ := hP
 unfold PtsAt at hpts
 obtain ⟨L, hL⟩ : ∃ L, (kid :: ks).length = L := ⟨_, rfl⟩
 have hL0 : 0 < L := by rw [← hL]; simp
 obtain ⟨bb, rfl, hbok, hbl, hce⟩ := hat (by simp)
 rw [hL] at hblk hcap
 have HKID := hid hpts.1
 have CBw := hid (hce 0 kid rfl)
 have HBLw := hid hbl
 have HMB := hid (show ¬ M bb ≠ none from fun e => e hbok.2)
 have HMP := hid (show ¬ M P ≠ none from fun e => e hok.2)
 have HX := hid hx
 have HN := hid hN
 have HO := hid hO
 have HM := hid hM
 have HP := hid hblk
 have HGD := hid (HS.good x hx hN)
 have WSw := hid (fun (W : World) (k0 : Kp w W) => HS.all O x W hx hN (fun b hb => Nat.lt_of_lt_of_le (hO b hb) k0.size) (hpts.1.kp k0) (hM.keep (S := fun _ => False) (Kp.kx k0) (fun _ _ e => e.elim) (fun _ _ e => e) hM.own))
 obtain ⟨zs, hzs⟩ : ∃ zs, ways s.data.toList bol kid x = zs := ⟨_, rfl⟩
 have hfew := HS.few x hx hN
 rw [hzs] at WSw HGD hfew ⊢
 obtain ⟨Z, hZ⟩ : ∃ Z, zs.length = Z := ⟨_, rfl⟩
 have HZL := hid hZ
 rw [hZ] at hfew
 have HZF := hid hfew
 clear hok hblk hat hpts hL hbok hbl hce hx hN hO hM HS hzs hZ hfew
 go_enter Tryz.func84, Tryz.ntmps84
 go_upto_region 2 with fail
 refine opq (fun W0 => W0.heap[w.heap.size]? = some (.cells #[.string s, .bool bol] 70) ∧ W0.heap[(w.heap.size + 1)]? = some (spo x) ∧ W0.heap[P]? = some (pto k low high 3 t (.slice (some ⟨bb, 0, none⟩) L c) rd st h kn so) ∧ Kp w W0) ⟨by exact bl_alloc (last_of _ _) _, by exact last_at _ _ _ (by simp), by exact bl_kp HP.out kpt, by exact kpt⟩ ?_
 rintro W0 ⟨xT0, xX0, xP0, xK0⟩
 have T0 := hid xT0
 have X0 := hid xX0
 have P0 := hid xP0
 have K0 := hid xK0
 clear xT0 xX0 xP0 xK0
 have CB := hid ((cell_same (K0.out.block _ HBLw.out) _).trans CBw.out)
 have HBL := hid (Nat.lt_of_lt_of_le HBLw.out K0.out.size)
 have WS := hid (fun (W : World) (k : Kp W0 W) => WSw.out W (K0.out.trans k))
 have HMT := hid (show ¬ M w.heap.size ≠ none from fun e => e (HM.out.lt (Nat.le_refl _)))
 have HMX := hid (show ¬ M (w.heap.size + 1) ≠ none from fun e => e (HM.out.lt (Nat.le_succ _)))
 have Q1 := hid (((Kp.refl W0).drew))
 clear CBw HBLw WSw HP
 go_cut [18, 19, 20] (fun v l i wc => ∃ ad2 c2, v = .slice ad2 Z c2 ∧ l = .int .i64 (Z : Int) ∧ i = .int .i64 0 ∧ Z ≤ c2 ∧ SpL wc (okB M O) (.slice ad2 Z c2) zs ∧ Kx (fun b => M b ≠ none) W0 wc ∧ MemOk M O wc)
 case first =>
  have Q0 : Kx (fun b => M b ≠ none) W0 W0.drew := (Kx.refl _ _).drew
  have MK : Hid (∀ W, Kx (fun b => M b ≠ none) W0 W → W.cell? ⟨w.heap.size, 0, none⟩ = some (.string s) ∧ W.cell? ⟨w.heap.size, 1, none⟩ = some (.bool bol) ∧ W.cell? ⟨(w.heap.size + 1), 0, none⟩ = some (.int .i8 x.a) ∧ W.cell? ⟨(w.heap.size + 1), 1, none⟩ = some (.int .i8 x.f0) ∧ W.cell? ⟨(w.heap.size + 1), 2, none⟩ = some (.int .i8 x.t0) ∧ W.cell? ⟨(w.heap.size + 1), 3, none⟩ = some (.int .i8 x.f1) ∧ W.cell? ⟨(w.heap.size + 1), 4, none⟩ = some (.int .i8 x.t1) ∧ W.cell? ⟨(w.heap.size + 1), 5, none⟩ = some (.int .i8 x.f2) ∧ W.cell? ⟨(w.heap.size + 1), 6, none⟩ = some (.int .i8 x.t2) ∧ W.cell? ⟨P, 8, none⟩ = some (.slice (some ⟨bb, 0, none⟩) L c) ∧ W.cell? ⟨bb, 0, none⟩ = some (ptv kid.P) ∧ Hid (Kx (fun b => M b ≠ none) W0 W)) := fun W k => ⟨bl_cell (bl_kx T0.out k HMT.out) 0 _ rfl, bl_cell (bl_kx T0.out k HMT.out) 1 _ rfl, bl_cell (bl_kx X0.out k HMX.out) 0 _ rfl, bl_cell (bl_kx X0.out k HMX.out) 1 _ rfl, bl_cell (bl_kx X0.out k HMX.out) 2 _ rfl, bl_cell (bl_kx X0.out k HMX.out) 3 _ rfl, bl_cell (bl_kx X0.out k HMX.out) 4 _ rfl, bl_cell (bl_kx X0.out k HMX.out) 5 _ rfl, bl_cell (bl_kx X0.out k HMX.out) 6 _ rfl, bl_cell (bl_kx P0.out k HMP.out) 8 _ rfl, (cell_same (k.block _ HBL.out HMB.out) _).trans CB.out, k⟩
  refine wp_region_noPanic ?_
  refine hdrew MK Q0 (fun hH => ?_)
  have KQ := Q0
  refine tk 0 (some 10) (Op.load 70 (Operand.tmp 3)) 70 (v := ?v0a1) rfl ?h0a1 hH ?_
  case h0a1 => intro _ _; go_simp; try with_reducible rfl
  try simp only [ps]
  refine tk 1 (some 11) (Op.move (Operand.tmp 1)) 71 (v := ?v1a2) rfl ?h1a2 hH ?_
  case h1a2 => intro _ _; go_simp; try with_reducible rfl
  try simp only [ps]
  refine tk 2 (some 12) (Op.nilCheck (Operand.tmp 11)) 0 (v := ?v2a3) rfl ?h2a3 hH ?_
  case h2a3 => intro _ _; go_simp; try with_reducible rfl
  try simp only [ps]
  refine tk 3 (some 13) (Op.fieldAddr 130 (Operand.tmp 12) 5) 0 (v := ?v3a4) rfl ?h3a4 hH ?_
  case h3a4 => intro _ _; go_simp; try with_reducible rfl
  try simp only [ps]
  refine tk 4 (some 14) (Op.load 124 (Operand.tmp 13)) 124 (v := ?v4a5) rfl ?h4a5 hH ?_
  case h4a5 => intro _ _; go_simp; try with_reducible rfl
  try simp only [ps]
  refine tk 5 (some 15) (Op.indexAddr 124 (Operand.tmp 14) (Operand.const (Value.int IntKind.i64 0))) 0 (v := ?v5a6) rfl ?h5a6 hH ?_
  case h5a6 => intro _ _; go_simp; try with_reducible rfl
  try simp only [ps]
  refine tk 6 (some 16) (Op.load 71 (Operand.tmp 15)) 71 (v := ?v6a7) rfl ?h6a7 hH ?_
  case h6a7 => intro _ _; go_simp; try with_reducible rfl
  try simp only [ps]
  refine tk 7 (some 17) (Op.load 83 (Operand.tmp 5)) 83 (v := ?v7a8) rfl ?h7a8 hH ?_
  case h7a8 => intro _ _; go_simp; try with_reducible rfl
  try simp only [ps]
  refine tk 10 (some 20) (Op.move (Operand.const (Value.int IntKind.i64 0))) 3 (v := ?v10a9) rfl ?h10a9 hH ?_
  case h10a9 => intro _ _; go_simp; try with_reducible rfl
  try simp only [ps]
  refine wpAnyH_ready (rs := [8]) (by kernel_rfl) (by simp) ?_
  refine AllReadyH.cons (o := { dst := some 18, op := Op.call { callee := Callee.value (Operand.func 34), args := #[Operand.tmp 10, Operand.tmp 16, Operand.tmp 17], argTypes := #[70, 71, 83] }, type := 68, pos := "walk.go:98", after := #[{ on := 0, ground := Ground.data }, { on := 6, ground := Ground.data }, { on := 7, ground := Ground.data }], guard := none }) rfl (fun K hKq => ?_) AllReadyH.nil
  go_simp
  refine (WS.out _ Q1.out).mono ?_
  rintro e y2 ⟨⟨v, rfl, hv, hk, hm⟩⟩
  obtain ⟨ad2, c2, hvv, hlc, hce⟩ := hv.ex
  rw [HZL.out] at hvv hlc
  subst hvv
  have HV := hid hv
  have HK2 := hid hk
  have HM2 := hid hm
  clear hv hk hm hce
  refine hKq.out _ _ (MK.out _ ((Kp.kx Q1.out).trans HK2.out)) (fun hN => ?_)
  clear hKq K hH KQ
  have hH := hN
  clear hN
  have KQ := hH.2.2.2.2.2.2.2.2.2.2.2.out
  try simp only [ps]
  refine tk 9 (some 19) (Op.call { callee := Callee.builtin Builtin.len, args := #[Operand.tmp 18], argTypes := #[68] }) 3 (v := ?v9a10) rfl ?h9a10 hH ?_
  case h9a10 => intro _ _; go_simp; try with_reducible rfl
  try simp only [ps]
  refine wpAnyH_done (by kernel_rfl) ?_ _
  refine NoPanic.normal ?_
  go_wp2_with fail
  go_meet
  case rel => exact ⟨ad2, c2, rfl, rfl, rfl, hlc, HV.out, (Kp.kx Q1.out).trans HK2.out, HM2.out⟩
 case rest =>
 obtain ⟨ad2, c2, rfl, rfl, rfl, hzc, hsl, hkx, hmc⟩ := hcut
 rename World => wc
 have S1 := hid hsl
 have X1 := hid (bl_kx X0.out hkx HMX.out)
 have P1 := hid (bl_kx P0.out hkx HMP.out)
 have M1 := hid hmc
 have K1 := hid ((Kp.kx K0.out).trans hkx)
 have SO := hid (show ∀ b, O b → b < wc.heap.size from fun b o => Nat.lt_of_lt_of_le (HO.out b o) K1.out.size)
 clear hsl hkx hmc X0 P0 T0 K0 WS HMT HMX HMP HMB CB HBL Q1 HKID HO HM
 go_wp2_with fail
 go_loopg [7, 20] Z (fun gg v i wr => ∃ (q : Nat), q + gg = Z ∧ i = .int .i64 (q : Int) ∧ SpR wc.heap.size wr v ((zs.take q).map (fun y => y.put 3 x.a y.a)) ∧ Kx (fun _ => False) wc wr)
 case atStart => exact ⟨0, by omega, rfl, SpR.nil _ _, Kx.refl _ _⟩
 case round =>
  obtain ⟨q, hq, rfl, hR, hK⟩ := hrel
  have R6 := hid hR
  have K6 := hid hK
  have X6 := hid (bl_kx X1.out hK id)
  have P6 := hid (bl_kx P1.out hK id)
  have S6 := hid (S1.out.keep (ok' := okB M O) hK.size (fun b hb hl => ⟨hb, hK.block b hl id⟩))
  obtain ⟨rad, rc, hvv, -⟩ := hR.form
  obtain ⟨N0, hN0⟩ : ∃ N0, ((zs.take q).map (fun y => y.put 3 x.a y.a)).length = N0 := ⟨_, rfl⟩
  rw [hN0] at hvv
  subst hvv
  clear hR hK hN0
  by_cases hlt : q < Z
  ·
   have gkw : IntKind.i64.wrap ((q : Int) + 1) = (q : Int) + 1 := by have := HZF.out; rw [IntKind.wrap_i64]; omega
   have ga : (q : Int) < (Z : Int) := by omega
   have g0 : (0 : Int) ≤ (q : Int) := by omega
   obtain ⟨y, hy⟩ : ∃ y, zs[q]? = some y := ⟨_, List.getElem?_eq_getElem (by rw [HZL.out]; exact hlt)⟩
   obtain ⟨ad3, c3, hv2, _, hc2⟩ := S6.out.ex
   injection hv2 with e1 e2 e3
   obtain ⟨b2, hbb, _, hbl, hce⟩ := hc2 (by rw [HZL.out]; omega)
   rw [← e1] at hbb
   subst hbb
   have hsp := hce q y hy
   have HY := hid (HGD.out y (List.mem_of_getElem? hy))
   have HTK : Hid ((zs.take (q + 1)).map (fun y => y.put 3 x.a y.a) = (zs.take q).map (fun y => y.put 3 x.a y.a) ++ [y.put 3 x.a y.a]) := by
    show _ = _
    rw [List.take_succ_eq_append_getElem (by rw [HZL.out]; exact hlt), List.map_append, (List.getElem?_eq_some_iff.1 hy).2]
    rfl
   have HLEN := hid (show ((zs.take q).map (fun y => y.put 3 x.a y.a)).length ≤ 5000000000000 by rw [List.length_map, List.length_take]; have := HZF.out; omega)
   have x0 := hsp.c0
   have x1 := hsp.c1
   have x2 := hsp.c2
   have x3 := hsp.c3
   have x4 := hsp.c4
   have x5 := hsp.c5
   have x6 := hsp.c6
   clear hsp hce hy e1 e2 e3 hc2
   obtain ⟨ys, hys⟩ : ∃ ys, (zs.take q).map (fun y => y.put 3 x.a y.a) = ys := ⟨_, rfl⟩
   rw [hys] at R6 HTK HLEN
   clear hys
   go_upto_region 5 with fail
   refine opq (fun W6 => W6.heap[wr.heap.size]? = some (spo y) ∧ W6.heap[(w.heap.size + 1)]? = some (spo x) ∧ W6.heap[P]? = some (pto k low high 3 t (.slice (some ⟨bb, 0, none⟩) L c) rd st h kn so) ∧ SpR wc.heap.size W6 (.slice rad N0 rc) ys ∧ Kx (fun _ => False) wc W6) ⟨by exact last_of _ _, by exact bl_alloc X6.out _, by exact bl_alloc P6.out _, by exact R6.out.kp ((Kp.refl _).alloc _), by exact K6.out.alloc _⟩ ?_
   rintro W6 ⟨xY7, xX7, xP7, xR7, xK7⟩
   have Y7 := hid xY7
   have X7 := hid xX7
   have P7 := hid xP7
   have R7 := hid xR7
   have K7 := hid xK7
   clear xY7 xX7 xP7 xR7 xK7
   have HRY := hid (show ∀ b, (Value.slice rad N0 rc).ownBlock = some b → wc.heap.size ≤ b ∧ b < wr.heap.size from fun b e => R6.out.block b e)
   have HSW := hid K6.out.size
   clear x0 x1 x2 x3 x4 x5 x6 X6 P6 R6 S6 K6
   obtain ⟨z, hz⟩ : ∃ z, y.put 3 x.a y.a = z := ⟨_, rfl⟩
   have HZOK := hid (show z.Ok by rw [← hz]; exact HX.out.put ((Or.inr (Or.inr rfl))) HY.out.1 HY.out.2.2)
   have HZE : Hid (spo (y.put 3 x.a y.a) = spo z) := by show _ = _; rw [hz]
   rw [hz] at HTK
   clear hz
   have gkn : IntKind.i64.wrap 2 = 2 := by rw [IntKind.wrap_i64]; omega
   go_cut [] (fun we => we.heap[wr.heap.size]? = some (spo z) ∧ Ks wr.heap.size W6 we)
   case first =>
    have Q0 : Kp W6 W6.drew := (Kp.refl _).drew
    have MK : Hid (∀ W, Kp W6 W → W.cell? ⟨P, 3, none⟩ = some (.int .i64 3) ∧ W.cell? ⟨(w.heap.size + 1), 0, none⟩ = some (.int .i8 x.a) ∧ W.cell? ⟨wr.heap.size, 0, none⟩ = some (.int .i8 y.a) ∧ Hid (Kp W6 W)) := fun W k => ⟨bl_cell (bl_kp P7.out k) 3 _ rfl, bl_cell (bl_kp X7.out k) 0 _ rfl, bl_cell (bl_kp Y7.out k) 0 _ rfl, k⟩
    refine wp_region_noPanic ?_
    refine hdrewZ 12 MK Q0 (fun hH => ?_)
    have KQ := Q0
    refine zk 12 0 [] (some 24) (Op.move (Operand.tmp 1)) 71 (v := ?v0b1) rfl ?h0b1 hH ?_
    case h0b1 => intro _ _; go_simp; try with_reducible rfl
    try simp only [ps]
    refine zk 12 1 [] (some 25) (Op.nilCheck (Operand.tmp 24)) 0 (v := ?v1b2) rfl ?h1b2 hH ?_
    case h1b2 => intro _ _; go_simp; try with_reducible rfl
    try simp only [ps]
    refine zk 12 2 [] (some 26) (Op.fieldAddr 130 (Operand.tmp 25) 3) 0 (v := ?v2b3) rfl ?h2b3 hH ?_
    case h2b3 => intro _ _; go_simp; try with_reducible rfl
    try simp only [ps]
    refine zk 12 3 [] (some 27) (Op.load 3 (Operand.tmp 26)) 3 (v := ?v3b4) rfl ?h3b4 hH ?_
    case h3b4 => intro _ _; go_simp; try with_reducible rfl
    try simp only [ps]
    refine zk 12 4 [] (some 28) (Op.binOp BinOp.sub 3 (Operand.tmp 27) (Operand.const (Value.int IntKind.i64 1)) 3) 3 (v := ?v4b5) rfl ?h4b5 hH ?_
    case h4b5 => intro _ _; go_simp; try with_reducible rfl
    try simp only [ps]
    refine zk 12 5 [] (some 29) (Op.fieldAddr 83 (Operand.tmp 5) 0) 0 (v := ?v5b6) rfl ?h5b6 hH ?_
    case h5b6 => intro _ _; go_simp; try with_reducible rfl
    try simp only [ps]
    refine zk 12 6 [] (some 30) (Op.load 78 (Operand.tmp 29)) 78 (v := ?v6b7) rfl ?h6b7 hH ?_
    case h6b7 => intro _ _; go_simp; try with_reducible rfl
    try simp only [ps]
    refine zk 12 7 [] (some 31) (Op.fieldAddr 83 (Operand.tmp 9) 0) 0 (v := ?v7b8) rfl ?h7b8 hH ?_
    case h7b8 => intro _ _; go_simp; try with_reducible rfl
    try simp only [ps]
    refine zk 12 8 [] (some 32) (Op.load 78 (Operand.tmp 31)) 78 (v := ?v8b9) rfl ?h8b9 hH ?_
    case h8b9 => intro _ _; go_simp; try with_reducible rfl
    try simp only [ps]
    refine zk 12 9 [] (some 33) (Op.build 80 #[(0, Operand.tmp 30), (1, Operand.tmp 32)]) 80 (v := ?v9b10) rfl ?h9b10 hH ?_
    case h9b10 => intro _ _; go_simp; try with_reducible rfl
    try simp only [ps]
    refine zk 12 10 [11] (some 34) (Op.fieldAddr 83 (Operand.tmp 9) 1) 0 (v := ?v10b11) rfl ?h10b11 hH ?_
    case h10b11 => intro _ _; go_simp; try with_reducible rfl
    try simp only [ps]
    refine zk 12 11 [] (some 35) (Op.indexAddr 81 (Operand.tmp 34) (Operand.tmp 28)) 0 (v := ?v11b12) rfl ?h11b12 hH ?_
    case h11b12 => intro _ _; go_simp; try with_reducible rfl
    try simp only [ps]
    refine anyZ_ready (rs := [12]) (by kernel_rfl) (by simp) ?_
    refine AllZ.last (o := { dst := none, op := Op.store 80 (Operand.tmp 35) (Operand.tmp 33), type := 0, pos := "walk.go:99", after := #[{ on := 11, ground := Ground.data }, { on := 9, ground := Ground.data }, { on := 0, ground := Ground.phase }, { on := 1, ground := Ground.phase }, { on := 2, ground := Ground.phase }, { on := 3, ground := Ground.phase }, { on := 4, ground := Ground.phase }, { on := 5, ground := Ground.phase }, { on := 6, ground := Ground.phase }, { on := 7, ground := Ground.phase }, { on := 8, ground := Ground.phase }, { on := 9, ground := Ground.phase }], guard := none }) rfl (Or.inl rfl) (fun K hKq => ?_) AllZ.nil
    have l5 := bl_cell (bl_drew Y7.out) 5 _ rfl
    have l6 := bl_cell (bl_drew Y7.out) 6 _ rfl
    have fl5 := bl_frozen (bl_drew Y7.out) 5
    have fl6 := bl_frozen (bl_drew Y7.out) 6
    have m6 := bl_cell Y7.out 6 _ rfl
    have fm6 := bl_frozen Y7.out 6
    go_simp
    refine hKq.out _ _ ?_
    clear l5 l6 fl5 fl6 m6 fm6
    clear hKq K
    try simp only [ps]
    refine anyZ_done (by kernel_rfl) ?_ _
    refine NoPanic.normal ?_
    go_wp2_with fail
    go_meet
    case rel => exact ⟨by rw [← HZE.out]; exact bl_put (bl_put Y7.out _) _, (((Ks.refl _ _).set _ _).set _ _).drew⟩

   case rest =>
   obtain ⟨hu4, hk4⟩ := hcut
   rename World => W7
   have Y8 := hid hu4
   have R8 := hid (R7.out.turn (w' := W7) (fun b hb hl => hk4.block b hl (by have := (HRY.out b hb).2; omega)))
   have K8 := hid (hk4.up (Kx.kp K7.out) HSW.out)
   have A8 := hid (R8.out.kp ((Kp.refl W7).alloc (spo z)))
   clear hu4 hk4 Y7 X7 P7 R7 K7
   obtain ⟨y0, y1, y2, y3, y4, y5, y6⟩ := cells7 (Y8.out)
   go_wp2_with (at_builtin; go_must (refine wpList_append_sp (W7.alloc (spo z)) (by rfl) _ _ (by rfl) wc.heap.size (.slice rad N0 rc) ys z (by rfl) W7.heap.size (by rfl) A8 HZOK ?h1 ?h2 ?h3 ?_))
   case h1 => exact last_of _ _
   case h2 => exact HLEN.out
   case h3 => have := K8.out.size; simp; omega
   intro v' w' md
   have MD := hid md
   clear md y0 y1 y2 y3 y4 y5 y6
   obtain ⟨rad', rc', hv', -⟩ := MD.out.row.form
   obtain ⟨N1, hN1⟩ : ∃ N1, (ys ++ [z]).length = N1 := ⟨_, rfl⟩
   rw [hN1] at hv'
   subst hv'
   clear hN1
   go_wp2_with fail
   go_roundg (gk - 1)
   case measure => omega
   case rel => exact ⟨q + 1, by omega, by go_num, by rw [HTK.out]; exact MD.out.row, ((Kp.kx (K8.out.alloc _)).grown MD.out.grown (fun k e hk => by have := (HRY.out k e).1; omega))⟩
  ·
   have ga : ¬ (q : Int) < (Z : Int) := by omega
   have HE : Hid ((zs.take q).map (fun y => y.put 3 x.a y.a) = zs.map (fun y => y.put 3 x.a y.a)) := by
    show _ = _
    rw [List.take_of_length_le (by rw [HZL.out]; omega)]
   go_wp2_with fail
   go_ret
   exact ⟨_, rfl, by rw [← HE.out]; exact R6.out.spl (fun b e => ⟨fun o => by have := (R6.out.block b e).1; have := SO.out b o; omega, M1.out.lt (R6.out.block b e).1⟩), K1.out.trans (Kp.kx (Kx.kp K6.out)), M1.out.keep (S := fun _ => False) K6.out (fun _ _ e => e.elim) (fun _ _ e => e) M1.out.own⟩
end Go.Proofs.YtnajcnhgeggngaaGreat.Way
