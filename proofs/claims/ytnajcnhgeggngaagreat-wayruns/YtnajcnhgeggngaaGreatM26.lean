/-
  Texts of this claim: Unb, Cat.
-/
import Derived.Test.YtnajcnhgeggngaaGreatM23
import Derived.Test.YtnajcnhgeggngaaGreatM25
import Derived.Test.YtnajcnhgeggngaaGreatM17

/-! ### Unb -/

namespace Go.Proofs.YtnajcnhgeggngaaGreat.Way
set_option maxHeartbeats 2000000
set_option maxRecDepth 100000
open Go.RowKit Go.Proofs.YtnajcnhgeggngaaGreat Go.Maps

theorem SoAt.at {w : World} {ok : Nat → Prop} {v : Value} {hd : Nat} {all : List Sp} (h : SoAt w ok v hd all) : ∃ S lv f, v = .pointer (some ⟨S, 0, none⟩) ∧ ok S ∧ w.heap[S]? = some (sob lv f) ∧ SpL w ok lv all ∧ ∀ i, i < 8 → NuL w ok (f i) (placesOf hd all i) := by
 obtain ⟨S, lv, p0, p1, p2, p3, p4, p5, p6, p7, h1, h2, h3, h4, ⟨a0, a1, a2, a3⟩, a4, a5, a6, a7⟩ := h.ex
 refine ⟨S, lv, fun i => if i = 0 then p0 else if i = 1 then p1 else if i = 2 then p2 else if i = 3 then p3 else if i = 4 then p4 else if i = 5 then p5 else if i = 6 then p6 else p7, h1, h2, h3, h4, fun i hi => ?_⟩
 rcases lt8 hi with rfl | rfl | rfl | rfl | rfl | rfl | rfl | rfl <;> assumption
theorem wpList_append_nu2 {ops : Array Oper} {rest : List Oper} {o : Oper} {a : Act} {Q : Exit → Act → World → Prop} (w : World) (hgd : o.guard = none) (s y : Operand)
  (ho : o.op = .call { callee := .builtin .append, args := #[s, y], argTypes := #[40, 40] })
  (base : Nat) (v : Value) (xs ys : List Nat) (hs : a.eval s = v) (B N c : Nat) (hy : a.eval y = .slice (some ⟨B, 0, none⟩) N c) (hN : Hid (ys.length = N)) (hG : Hid (NuR base w v xs)) (hB : Hid (∀ (j : Nat) y, ys[j]? = some y → w.cell? ⟨B, j, none⟩ = some (nuc y))) (hn : xs.length + N ≤ 5000000000000) (hb : base ≤ w.heap.size)
  (h : ∀ v' w', MoreN base w v xs ys v' w' → wpList Tryz.prog ops Q rest (a.put o.dst v') w') :
  wpList Tryz.prog ops Q (o :: rest) a w := by
 have e := hN.out
 subst e
 exact wpList_append_nu w hgd s y ho base v xs ys hs B c hy hG hB hn hb h
structure UnbD (rdp hd : Nat) (all : List Sp) (n : Int) (x : Sp) (bg : List Turn) (B : Nat) (w : World) (e : Ending) (w' : World) : Prop where
 ex : ∃ v, e = .returned v ∧ NuL w' (fun b => w.heap.size ≤ b) v (unbL hd all (newCls rdp all hd n x bg).1) ∧ TurnsAt w' B (newCls rdp all hd n x bg).2 ∧ Kx (fun b => b = B) w w'
theorem unbegun_any (s : ByteArray) (bol : Bool) (P R B h pl : Nat) (lv : Value) (sn : Option Nat) (k low high nn : Int) (t : W4) (kv : Value) (rdp st0 hp : Nat) (kn so : Option Nat) (hrd : rdp < 8) (hd : Nat) (all : List Sp) (av : Value) (ok : Nat → Prop) (hok : ∀ b, ok b → b ≠ B) (hfew : all.length ≤ 4398046511104) (n : Int) (hn0 : 0 ≤ n) (hn1 : n ≤ 100) (x : Sp) (hx : x.Ok) (bg : List Turn) (w : World) (hA : SoAt w ok av hd all) (hR : w.heap[R]? = some (roB s bol P B h lv pl sn)) (hRB : R ≠ B) (hP : w.heap[P]? = some (pto k low high nn t kv rdp st0 hp kn so)) (hPB : P ≠ B) (hB : TurnsAt w B bg) :
  Calls Tryz.prog 135 #[.pointer (some ⟨R, 0, none⟩), av, .int .i64 n, spv x] w fun e w' => UnbD rdp hd all n x bg B w e w' := by
 obtain ⟨S, lv2, f, rfl, hS, hSb, -, hnu⟩ := hA.at
 have HRD := hid hrd
 have HOK := hid hok
 have HFEW := hid hfew
 have HN0 := hid hn0
 have HN1 := hid hn1
 have HX := hid hx
 have HSB := hid hSb
 have HSO := hid (hok S hS)
 have HNU := hid hnu
 have HR := hid hR
 have HRB := hid hRB
 have HP := hid hP
 have HPB := hid hPB
 have HB := hid hB
 clear hrd hok hfew hn0 hn1 hx hSb hS hnu hA hR hRB hP hPB hB
 go_enter Tryz.func135, Tryz.ntmps135
 go_upto_region 1 with fail
 refine opq (fun W0 => W0.heap[w.heap.size]? = some (spo x) ∧ Kp w W0) ⟨by exact last_of _ _, by exact kpt⟩ ?_
 rintro W0 ⟨xX0, xK0⟩
 have X0 := hid xX0
 have K0 := hid xK0
 clear xX0 xK0
 have HBS := hid (show B < W0.heap.size from Nat.lt_of_lt_of_le HB.out.lt K0.out.size)
 have HXB := hid (show w.heap.size ≠ B from fun e => by have := HB.out.lt; omega)
 go_wp2_with fail
 go_loopg [9, 13] 8 (fun gg v i wr => ∃ (q : Nat) (st : List Nat × List Turn), q + gg = 8 ∧ i = .int .i64 (q : Int) ∧ (List.range q).foldl (begS rdp all hd n x) ([], bg) = st ∧ NuR W0.heap.size wr v (st.1.flatMap (placesOf hd all)) ∧ TurnsAt wr B st.2 ∧ Kx (fun b => b = B) W0 wr)
 case atStart => exact ⟨0, ([], bg), by omega, rfl, rfl, NuR.nil _ _, HB.out.same (K0.out.block B HB.out.lt), Kx.refl _ _⟩
 case round =>
  obtain ⟨q, st, hq, rfl, hst, hN, hT, hK⟩ := hrel
  have HST := hid hst
  have N6 := hid hN
  have T6 := hid hT
  have K6 := hid hK
  have KW := hid ((Kp.kx (S := fun b => b = B) K0.out).trans hK)
  have X6 := hid (bl_kx X0.out hK HXB.out)
  have R6 := hid (bl_kx HR.out KW.out HRB.out)
  have P6 := hid (bl_kx HP.out KW.out HPB.out)
  have S6 := hid (bl_kx HSB.out KW.out HSO.out)
  have HSEL := hid (show st.1.Nodup ∧ ∀ i ∈ st.1, i < q from by rw [← hst]; exact newCls_lt bg q)
  have HLEN := hid (show (st.1.flatMap (placesOf hd all)).length ≤ 4398046511104 from Nat.le_trans (flat_len hd all st.1 HSEL.out.1) HFEW.out)
  clear hst hN hT hK
  by_cases hlt : q < 8
  ·
   have gkw : IntKind.i64.wrap ((q : Int) + 1) = (q : Int) + 1 := by rw [IntKind.wrap_i64]; omega
   have ga : (q : Int) < 8 := by omega
   have g0 : (0 : Int) ≤ (q : Int) := by omega
   have gku : IntKind.u8.wrap (q : Int) = (q : Int) := by rw [IntKind.wrap_u8]; omega
   obtain ⟨pad, pc, hpv, hpc, hpe⟩ := ((HNU.out q hlt).keep (ok' := fun b => b ≠ B) KW.out.size (fun b hb hl => ⟨HOK.out b hb, KW.out.block b hl (HOK.out b hb)⟩)).ex
   obtain ⟨PL, hPL⟩ : ∃ PL, (placesOf hd all q).length = PL := ⟨_, rfl⟩
   have HPLN := hid hPL
   have HPLL := hid (show PL ≤ 4398046511104 from by rw [← hPL]; exact Nat.le_trans (plq_len hd all all.length q) HFEW.out)
   rw [hPL] at hpv hpc hpe
   have c1 : wr.cell? ⟨S, 1 + q, none⟩ = some (.slice pad PL pc) := by rw [← hpv]; exact sob_cell S6.out hlt
   have HPE := hid hpe
   clear hpv hpe
   go_upto_region 6 with fail
   clear c1
   by_cases hp0 : 0 < PL
   ·
    have gpos : (0 : Int) < (PL : Int) := by omega
    obtain ⟨pb, rfl, hpB, hpl, hpcell⟩ := HPE.out hp0
    have HPBB := hid hpB
    have HPL2 := hid hpl
    have HPC := hid hpcell
    have hany := (places_any hd all q).1 (by rw [hPL]; exact hp0)
    clear hpB hpl hpcell hPL
    have OA := hid (fun W => only_any x (q ||| rdp) (or8 q rdp hlt HRD.out) W)
    have gor : bits .or .u8 (q : Int) (rdp : Int) = ((q ||| rdp : Nat) : Int) := u8_or q rdp hlt HRD.out
    have gkn : IntKind.i8.wrap n = n := by have := HN0.out; have := HN1.out; rw [wrap_i8]; omega
    have HTO := hid (show Turn.Ok ⟨n, q, x.only (q ||| rdp)⟩ from ⟨HN0.out, HN1.out, hlt, HX.out.only _⟩)
    have HL2 := hid (show (st.1.flatMap (placesOf hd all)).length + PL ≤ 4398046511104 from by
     have h := flat_len hd all (st.1 ++ [q]) (List.nodup_append.2 ⟨HSEL.out.1, List.pairwise_singleton _ _, fun a ha b hb => by have := HSEL.out.2 a ha; rw [List.mem_singleton.1 hb]; omega⟩)
     rw [List.flatMap_append, List.flatMap_singleton, List.length_append, HPLN.out] at h
     exact Nat.le_trans h HFEW.out)
    cases hcb : st.2.contains ⟨n, q, x.only (q ||| rdp)⟩ with
    | true =>
     have HCB := hid hcb
     have HB0 : Hid (begS rdp all hd n x st q = st) := by show _ = _; unfold begS; rw [if_pos hany, hcb]; rfl
     clear hcb hany
     have Q0 : Kx (fun b => b = B) wr wr.drew := (Kx.refl _ _).drew
     have MK : Hid (∀ W, Kx (fun b => b = B) wr W → W.cell? ⟨w.heap.size, 0, none⟩ = some (.int .i8 x.a) ∧ W.cell? ⟨w.heap.size, 1, none⟩ = some (.int .i8 x.f0) ∧ W.cell? ⟨w.heap.size, 2, none⟩ = some (.int .i8 x.t0) ∧ W.cell? ⟨w.heap.size, 3, none⟩ = some (.int .i8 x.f1) ∧ W.cell? ⟨w.heap.size, 4, none⟩ = some (.int .i8 x.t1) ∧ W.cell? ⟨w.heap.size, 5, none⟩ = some (.int .i8 x.f2) ∧ W.cell? ⟨w.heap.size, 6, none⟩ = some (.int .i8 x.t2) ∧ W.cell? ⟨R, 2, none⟩ = some (ptv P) ∧ W.cell? ⟨P, 9, none⟩ = some (.int .u8 (rdp : Int)) ∧ Hid (Kx (fun b => b = B) wr W)) := fun W k => ⟨bl_cell (bl_kx X6.out k HXB.out) 0 _ rfl, bl_cell (bl_kx X6.out k HXB.out) 1 _ rfl, bl_cell (bl_kx X6.out k HXB.out) 2 _ rfl, bl_cell (bl_kx X6.out k HXB.out) 3 _ rfl, bl_cell (bl_kx X6.out k HXB.out) 4 _ rfl, bl_cell (bl_kx X6.out k HXB.out) 5 _ rfl, bl_cell (bl_kx X6.out k HXB.out) 6 _ rfl, bl_cell (bl_kx R6.out k HRB.out) 2 _ rfl, bl_cell (bl_kx P6.out k HPB.out) 9 _ rfl, k⟩
     refine wp_region_noPanic ?_
     refine hdrew MK Q0 (fun hH => ?_)
     have KQ := Q0
     refine tk 0 (some 24) (Op.move (Operand.tmp 11)) 40 (v := ?v0a1) rfl ?h0a1 hH ?_
     case h0a1 => intro _ _; go_simp; try with_reducible rfl
     try simp only [ps]
     refine tk 1 (some 25) (Op.call { callee := Callee.builtin Builtin.len, args := #[Operand.tmp 24], argTypes := #[40] }) 3 (v := ?v1a2) rfl ?h1a2 hH ?_
     case h1a2 => intro _ _; go_simp; try with_reducible rfl
     try simp only [ps]
     refine tk 2 (some 26) (Op.binOp BinOp.gtr 3 (Operand.tmp 25) (Operand.const (Value.int IntKind.i64 0)) 3) 4 (v := ?v2a3) rfl ?h2a3 hH ?_
     case h2a3 => intro _ _; go_simp; try with_reducible rfl
     try simp only [ps]
     refine tk 3 (some 27) (Op.move (Operand.tmp 26)) 4 (v := ?v3a4) rfl ?h3a4 hH ?_
     case h3a4 => intro _ _; go_simp; try with_reducible rfl
     try simp only [ps]
     refine tk 4 (some 28) (Op.move (Operand.tmp 0)) 198 (v := ?v4a5) rfl ?h4a5 hH ?_
     case h4a5 => intro _ _; go_simp; try with_reducible rfl
     try simp only [ps]
     refine tk 5 (some 29) (Op.move (Operand.tmp 2)) 3 (v := ?v5a6) rfl ?h5a6 hH ?_
     case h5a6 => intro _ _; go_simp; try with_reducible rfl
     try simp only [ps]
     refine tk 6 (some 30) (Op.convert 3 78 (Operand.tmp 29)) 78 (v := ?v6a7) rfl ?h6a7 hH ?_
     case h6a7 => intro _ _; go_simp; try with_reducible rfl
     try simp only [ps]
     refine tk 7 (some 31) (Op.move (Operand.tmp 12)) 75 (v := ?v7a8) rfl ?h7a8 hH ?_
     case h7a8 => intro _ _; go_simp; try with_reducible rfl
     try simp only [ps]
     refine tk 8 (some 32) (Op.load 83 (Operand.tmp 7)) 83 (v := ?v8a9) rfl ?h8a9 hH ?_
     case h8a9 => intro _ _; go_simp; try with_reducible rfl
     try simp only [ps]
     refine tk 9 (some 33) (Op.move (Operand.tmp 12)) 75 (v := ?v9a10) rfl ?h9a10 hH ?_
     case h9a10 => intro _ _; go_simp; try with_reducible rfl
     try simp only [ps]
     refine tk 10 (some 34) (Op.move (Operand.tmp 0)) 198 (v := ?v10a11) rfl ?h10a11 hH ?_
     case h10a11 => intro _ _; go_simp; try with_reducible rfl
     try simp only [ps]
     refine tk 11 (some 35) (Op.nilCheck (Operand.tmp 34)) 0 (v := ?v11a12) rfl ?h11a12 hH ?_
     case h11a12 => intro _ _; go_simp; try with_reducible rfl
     try simp only [ps]
     refine tk 12 (some 36) (Op.fieldAddr 182 (Operand.tmp 35) 1) 0 (v := ?v12a13) rfl ?h12a13 hH ?_
     case h12a13 => intro _ _; go_simp; try with_reducible rfl
     try simp only [ps]
     refine tk 13 (some 37) (Op.load 71 (Operand.tmp 36)) 71 (v := ?v13a14) rfl ?h13a14 hH ?_
     case h13a14 => intro _ _; go_simp; try with_reducible rfl
     try simp only [ps]
     refine tk 14 (some 38) (Op.nilCheck (Operand.tmp 37)) 0 (v := ?v14a15) rfl ?h14a15 hH ?_
     case h14a15 => intro _ _; go_simp; try with_reducible rfl
     try simp only [ps]
     refine tk 15 (some 39) (Op.fieldAddr 130 (Operand.tmp 38) 6) 0 (v := ?v15a16) rfl ?h15a16 hH ?_
     case h15a16 => intro _ _; go_simp; try with_reducible rfl
     try simp only [ps]
     refine tk 16 (some 40) (Op.fieldAddr 126 (Operand.tmp 39) 0) 0 (v := ?v16a17) rfl ?h16a17 hH ?_
     case h16a17 => intro _ _; go_simp; try with_reducible rfl
     try simp only [ps]
     refine tk 17 (some 41) (Op.load 75 (Operand.tmp 40)) 75 (v := ?v17a18) rfl ?h17a18 hH ?_
     case h17a18 => intro _ _; go_simp; try with_reducible rfl
     try simp only [ps]
     refine tk 18 (some 42) (Op.binOp BinOp.or 75 (Operand.tmp 33) (Operand.tmp 41) 75) 75 (v := ?v18a19) rfl ?h18a19 hH ?_
     case h18a19 => intro _ _; go_simp; try with_reducible rfl
     try simp only [ps]
     refine wpAnyH_ready (rs := [19]) (by kernel_rfl) (by simp) ?_
     refine AllReadyH.cons (o := { dst := some 43, op := Op.call { callee := Callee.value (Operand.func 55), args := #[Operand.tmp 32, Operand.tmp 42], argTypes := #[83, 75] }, type := 83, pos := "repeat.go:64", after := #[{ on := 8, ground := Ground.data }, { on := 18, ground := Ground.data }, { on := 3, ground := Ground.chain }, { on := 3, ground := Ground.guard }], guard := some (3, true) }) rfl (fun K hKq => ?_) AllReadyH.nil
     go_simp
     refine (OA.out _).mono ?_
     rintro e yy ⟨rfl, kq⟩
     have BY := hid (T6.out.same (w' := yy) (kq.block B T6.out.lt))
     have RY := hid ((kq.block R (bl_lt R6.out)).trans R6.out)
     refine hKq.out _ _ (MK.out _ (KQ.then kq)) (fun hN => ?_)
     clear kq
     clear hKq K hH KQ
     have hH := hN
     clear hN
     have KQ := hH.2.2.2.2.2.2.2.2.2.out
     try simp only [ps]
     refine tk 20 (some 44) (Op.build 220 #[(0, Operand.tmp 30), (1, Operand.tmp 31), (2, Operand.tmp 43)]) 220 (v := ?v20a20) rfl ?h20a20 hH ?_
     case h20a20 => intro _ _; go_simp; try with_reducible rfl
     try simp only [ps]
     refine wpAnyH_ready (rs := [21]) (by kernel_rfl) (by simp) ?_
     refine AllReadyH.cons (o := { dst := some 45, op := Op.call { callee := Callee.value (Operand.func 142), args := #[Operand.tmp 28, Operand.tmp 44], argTypes := #[198, 220] }, type := 4, pos := "repeat.go:64", after := #[{ on := 4, ground := Ground.data }, { on := 20, ground := Ground.data }, { on := 19, ground := Ground.chain }, { on := 3, ground := Ground.guard }], guard := some (3, true) }) rfl (fun K hKq => ?_) AllReadyH.nil
     go_simp
     refine (begins_any R B h pl lv (.string s) (.bool bol) (ptv P) sn ⟨n, q, x.only (q ||| rdp)⟩ HTO.out st.2 _ RY.out BY.out).mono ?_
     rintro e y2 hd0
     obtain ⟨he, ht2, hk2⟩ := hd0.ex
     rw [HCB.out] at he ht2
     subst he
     have TY : Hid (TurnsAt y2 B st.2) := by rw [if_pos rfl] at ht2; exact ht2
     have HK2 := hid hk2
     clear hd0 ht2 hk2
     refine hKq.out _ _ (MK.out _ (KQ.trans HK2.out)) (fun hN => ?_)
     clear hKq K hH KQ
     have hH := hN
     clear hN
     have KQ := hH.2.2.2.2.2.2.2.2.2.out
     try simp only [ps]
     refine tk 22 (some 46) (Op.pick (Operand.tmp 27) (Operand.tmp 45) (Operand.const (Value.bool false))) 4 (v := ?v22a21) rfl ?h22a21 hH ?_
     case h22a21 => intro _ _; go_simp; try with_reducible rfl
     try simp only [ps]
     refine wpAnyH_done (by kernel_rfl) ?_ _
     refine NoPanic.normal ?_
     have KF := hid KQ
     go_wp2_with fail
     go_roundg (gk - 1)
     case measure => omega
     case rel => exact ⟨q + 1, st, by omega, by go_num, by rw [newCls_step, HST.out]; exact HB0.out, N6.out.turn (fun b hb hl => KF.out.block b hl (fun e => by have := (N6.out.block b hb).1; have := HBS.out; omega)), TY.out, K6.out.trans KF.out⟩
    | false =>
     have HCB := hid hcb
     have HB0 : Hid (begS rdp all hd n x st q = (st.1 ++ [q], st.2 ++ [⟨n, q, x.only (q ||| rdp)⟩])) := by show _ = _; unfold begS; rw [if_pos hany, hcb]; rfl
     clear hcb hany
     have Q0 : Kx (fun b => b = B) wr wr.drew := (Kx.refl _ _).drew
     have MK : Hid (∀ W, Kx (fun b => b = B) wr W → W.cell? ⟨w.heap.size, 0, none⟩ = some (.int .i8 x.a) ∧ W.cell? ⟨w.heap.size, 1, none⟩ = some (.int .i8 x.f0) ∧ W.cell? ⟨w.heap.size, 2, none⟩ = some (.int .i8 x.t0) ∧ W.cell? ⟨w.heap.size, 3, none⟩ = some (.int .i8 x.f1) ∧ W.cell? ⟨w.heap.size, 4, none⟩ = some (.int .i8 x.t1) ∧ W.cell? ⟨w.heap.size, 5, none⟩ = some (.int .i8 x.f2) ∧ W.cell? ⟨w.heap.size, 6, none⟩ = some (.int .i8 x.t2) ∧ W.cell? ⟨R, 2, none⟩ = some (ptv P) ∧ W.cell? ⟨P, 9, none⟩ = some (.int .u8 (rdp : Int)) ∧ Hid (Kx (fun b => b = B) wr W)) := fun W k => ⟨bl_cell (bl_kx X6.out k HXB.out) 0 _ rfl, bl_cell (bl_kx X6.out k HXB.out) 1 _ rfl, bl_cell (bl_kx X6.out k HXB.out) 2 _ rfl, bl_cell (bl_kx X6.out k HXB.out) 3 _ rfl, bl_cell (bl_kx X6.out k HXB.out) 4 _ rfl, bl_cell (bl_kx X6.out k HXB.out) 5 _ rfl, bl_cell (bl_kx X6.out k HXB.out) 6 _ rfl, bl_cell (bl_kx R6.out k HRB.out) 2 _ rfl, bl_cell (bl_kx P6.out k HPB.out) 9 _ rfl, k⟩
     refine wp_region_noPanic ?_
     refine hdrew MK Q0 (fun hH => ?_)
     have KQ := Q0
     refine tk 0 (some 24) (Op.move (Operand.tmp 11)) 40 (v := ?v0b1) rfl ?h0b1 hH ?_
     case h0b1 => intro _ _; go_simp; try with_reducible rfl
     try simp only [ps]
     refine tk 1 (some 25) (Op.call { callee := Callee.builtin Builtin.len, args := #[Operand.tmp 24], argTypes := #[40] }) 3 (v := ?v1b2) rfl ?h1b2 hH ?_
     case h1b2 => intro _ _; go_simp; try with_reducible rfl
     try simp only [ps]
     refine tk 2 (some 26) (Op.binOp BinOp.gtr 3 (Operand.tmp 25) (Operand.const (Value.int IntKind.i64 0)) 3) 4 (v := ?v2b3) rfl ?h2b3 hH ?_
     case h2b3 => intro _ _; go_simp; try with_reducible rfl
     try simp only [ps]
     refine tk 3 (some 27) (Op.move (Operand.tmp 26)) 4 (v := ?v3b4) rfl ?h3b4 hH ?_
     case h3b4 => intro _ _; go_simp; try with_reducible rfl
     try simp only [ps]
     refine tk 4 (some 28) (Op.move (Operand.tmp 0)) 198 (v := ?v4b5) rfl ?h4b5 hH ?_
     case h4b5 => intro _ _; go_simp; try with_reducible rfl
     try simp only [ps]
     refine tk 5 (some 29) (Op.move (Operand.tmp 2)) 3 (v := ?v5b6) rfl ?h5b6 hH ?_
     case h5b6 => intro _ _; go_simp; try with_reducible rfl
     try simp only [ps]
     refine tk 6 (some 30) (Op.convert 3 78 (Operand.tmp 29)) 78 (v := ?v6b7) rfl ?h6b7 hH ?_
     case h6b7 => intro _ _; go_simp; try with_reducible rfl
     try simp only [ps]
     refine tk 7 (some 31) (Op.move (Operand.tmp 12)) 75 (v := ?v7b8) rfl ?h7b8 hH ?_
     case h7b8 => intro _ _; go_simp; try with_reducible rfl
     try simp only [ps]
     refine tk 8 (some 32) (Op.load 83 (Operand.tmp 7)) 83 (v := ?v8b9) rfl ?h8b9 hH ?_
     case h8b9 => intro _ _; go_simp; try with_reducible rfl
     try simp only [ps]
     refine tk 9 (some 33) (Op.move (Operand.tmp 12)) 75 (v := ?v9b10) rfl ?h9b10 hH ?_
     case h9b10 => intro _ _; go_simp; try with_reducible rfl
     try simp only [ps]
     refine tk 10 (some 34) (Op.move (Operand.tmp 0)) 198 (v := ?v10b11) rfl ?h10b11 hH ?_
     case h10b11 => intro _ _; go_simp; try with_reducible rfl
     try simp only [ps]
     refine tk 11 (some 35) (Op.nilCheck (Operand.tmp 34)) 0 (v := ?v11b12) rfl ?h11b12 hH ?_
     case h11b12 => intro _ _; go_simp; try with_reducible rfl
     try simp only [ps]
     refine tk 12 (some 36) (Op.fieldAddr 182 (Operand.tmp 35) 1) 0 (v := ?v12b13) rfl ?h12b13 hH ?_
     case h12b13 => intro _ _; go_simp; try with_reducible rfl
     try simp only [ps]
     refine tk 13 (some 37) (Op.load 71 (Operand.tmp 36)) 71 (v := ?v13b14) rfl ?h13b14 hH ?_
     case h13b14 => intro _ _; go_simp; try with_reducible rfl
     try simp only [ps]
     refine tk 14 (some 38) (Op.nilCheck (Operand.tmp 37)) 0 (v := ?v14b15) rfl ?h14b15 hH ?_
     case h14b15 => intro _ _; go_simp; try with_reducible rfl
     try simp only [ps]
     refine tk 15 (some 39) (Op.fieldAddr 130 (Operand.tmp 38) 6) 0 (v := ?v15b16) rfl ?h15b16 hH ?_
     case h15b16 => intro _ _; go_simp; try with_reducible rfl
     try simp only [ps]
     refine tk 16 (some 40) (Op.fieldAddr 126 (Operand.tmp 39) 0) 0 (v := ?v16b17) rfl ?h16b17 hH ?_
     case h16b17 => intro _ _; go_simp; try with_reducible rfl
     try simp only [ps]
     refine tk 17 (some 41) (Op.load 75 (Operand.tmp 40)) 75 (v := ?v17b18) rfl ?h17b18 hH ?_
     case h17b18 => intro _ _; go_simp; try with_reducible rfl
     try simp only [ps]
     refine tk 18 (some 42) (Op.binOp BinOp.or 75 (Operand.tmp 33) (Operand.tmp 41) 75) 75 (v := ?v18b19) rfl ?h18b19 hH ?_
     case h18b19 => intro _ _; go_simp; try with_reducible rfl
     try simp only [ps]
     refine wpAnyH_ready (rs := [19]) (by kernel_rfl) (by simp) ?_
     refine AllReadyH.cons (o := { dst := some 43, op := Op.call { callee := Callee.value (Operand.func 55), args := #[Operand.tmp 32, Operand.tmp 42], argTypes := #[83, 75] }, type := 83, pos := "repeat.go:64", after := #[{ on := 8, ground := Ground.data }, { on := 18, ground := Ground.data }, { on := 3, ground := Ground.chain }, { on := 3, ground := Ground.guard }], guard := some (3, true) }) rfl (fun K hKq => ?_) AllReadyH.nil
     go_simp
     refine (OA.out _).mono ?_
     rintro e yy ⟨rfl, kq⟩
     have BY := hid (T6.out.same (w' := yy) (kq.block B T6.out.lt))
     have RY := hid ((kq.block R (bl_lt R6.out)).trans R6.out)
     refine hKq.out _ _ (MK.out _ (KQ.then kq)) (fun hN => ?_)
     clear kq
     clear hKq K hH KQ
     have hH := hN
     clear hN
     have KQ := hH.2.2.2.2.2.2.2.2.2.out
     try simp only [ps]
     refine tk 20 (some 44) (Op.build 220 #[(0, Operand.tmp 30), (1, Operand.tmp 31), (2, Operand.tmp 43)]) 220 (v := ?v20b20) rfl ?h20b20 hH ?_
     case h20b20 => intro _ _; go_simp; try with_reducible rfl
     try simp only [ps]
     refine wpAnyH_ready (rs := [21]) (by kernel_rfl) (by simp) ?_
     refine AllReadyH.cons (o := { dst := some 45, op := Op.call { callee := Callee.value (Operand.func 142), args := #[Operand.tmp 28, Operand.tmp 44], argTypes := #[198, 220] }, type := 4, pos := "repeat.go:64", after := #[{ on := 4, ground := Ground.data }, { on := 20, ground := Ground.data }, { on := 19, ground := Ground.chain }, { on := 3, ground := Ground.guard }], guard := some (3, true) }) rfl (fun K hKq => ?_) AllReadyH.nil
     go_simp
     refine (begins_any R B h pl lv (.string s) (.bool bol) (ptv P) sn ⟨n, q, x.only (q ||| rdp)⟩ HTO.out st.2 _ RY.out BY.out).mono ?_
     rintro e y2 hd0
     obtain ⟨he, ht2, hk2⟩ := hd0.ex
     rw [HCB.out] at he ht2
     subst he
     have TY : Hid (TurnsAt y2 B (st.2 ++ [⟨n, q, x.only (q ||| rdp)⟩])) := by rw [if_neg (by decide)] at ht2; exact ht2
     have HK2 := hid hk2
     clear hd0 ht2 hk2
     refine hKq.out _ _ (MK.out _ (KQ.trans HK2.out)) (fun hN => ?_)
     clear hKq K hH KQ
     have hH := hN
     clear hN
     have KQ := hH.2.2.2.2.2.2.2.2.2.out
     try simp only [ps]
     refine tk 22 (some 46) (Op.pick (Operand.tmp 27) (Operand.tmp 45) (Operand.const (Value.bool false))) 4 (v := ?v22b21) rfl ?h22b21 hH ?_
     case h22b21 => intro _ _; go_simp; try with_reducible rfl
     try simp only [ps]
     refine wpAnyH_done (by kernel_rfl) ?_ _
     refine NoPanic.normal ?_
     have KF := hid KQ
     have N7 := hid (N6.out.turn (w' := y2) (fun b hb hl => KF.out.block b hl (fun e => by have := (N6.out.block b hb).1; have := HBS.out; omega)))
     have C7 : Hid (∀ (j : Nat) y, (placesOf hd all q)[j]? = some y → y2.cell? ⟨pb, j, none⟩ = some (nuc y)) := fun j y hj => (cell_same (KF.out.block pb HPL2.out HPBB.out) _).trans (HPC.out j y hj)
     go_wp2_with (at_builtin; go_must (refine wpList_append_nu2 _ (by rfl) _ _ (by rfl) W0.heap.size _ (st.1.flatMap (placesOf hd all)) (placesOf hd all q) (by rfl) pb PL pc (by rfl) HPLN N7 C7 ?h2 ?h3 ?_))
     case h2 => have := HL2.out; omega
     case h3 => have := K6.out.size; have := KF.out.size; omega
     intro v' w' md
     have MD := hid md
     clear md
     go_wp2_with fail
     go_roundg (gk - 1)
     case measure => omega
     case rel => exact ⟨q + 1, (st.1 ++ [q], st.2 ++ [⟨n, q, x.only (q ||| rdp)⟩]), by omega, by go_num, by rw [newCls_step, HST.out]; exact HB0.out, by rw [List.flatMap_append, List.flatMap_singleton]; exact MD.out.row, TY.out.same (MD.out.grown.block B TY.out.lt (fun e => by have := (N7.out.block B e.symm).1; have := HBS.out; omega)), (K6.out.trans KF.out).grown MD.out.grown (fun b e hb => by have := (N7.out.block b e).1; omega)⟩
   ·
    have gneg : ¬ (0 : Int) < (PL : Int) := by omega
    have HB0 : Hid (begS rdp all hd n x st q = st) := by show _ = _; unfold begS; rw [if_neg (fun e => by have := (places_any hd all q).2 e; omega)]
    clear hPL
    have Q0 : Kx (fun b => b = B) wr wr.drew := (Kx.refl _ _).drew
    have MK : Hid (∀ W, Kx (fun b => b = B) wr W → W.cell? ⟨w.heap.size, 0, none⟩ = some (.int .i8 x.a) ∧ W.cell? ⟨w.heap.size, 1, none⟩ = some (.int .i8 x.f0) ∧ W.cell? ⟨w.heap.size, 2, none⟩ = some (.int .i8 x.t0) ∧ W.cell? ⟨w.heap.size, 3, none⟩ = some (.int .i8 x.f1) ∧ W.cell? ⟨w.heap.size, 4, none⟩ = some (.int .i8 x.t1) ∧ W.cell? ⟨w.heap.size, 5, none⟩ = some (.int .i8 x.f2) ∧ W.cell? ⟨w.heap.size, 6, none⟩ = some (.int .i8 x.t2) ∧ W.cell? ⟨R, 2, none⟩ = some (ptv P) ∧ W.cell? ⟨P, 9, none⟩ = some (.int .u8 (rdp : Int)) ∧ Hid (Kx (fun b => b = B) wr W)) := fun W k => ⟨bl_cell (bl_kx X6.out k HXB.out) 0 _ rfl, bl_cell (bl_kx X6.out k HXB.out) 1 _ rfl, bl_cell (bl_kx X6.out k HXB.out) 2 _ rfl, bl_cell (bl_kx X6.out k HXB.out) 3 _ rfl, bl_cell (bl_kx X6.out k HXB.out) 4 _ rfl, bl_cell (bl_kx X6.out k HXB.out) 5 _ rfl, bl_cell (bl_kx X6.out k HXB.out) 6 _ rfl, bl_cell (bl_kx R6.out k HRB.out) 2 _ rfl, bl_cell (bl_kx P6.out k HPB.out) 9 _ rfl, k⟩
    refine wp_region_noPanic ?_
    refine hdrew MK Q0 (fun hH => ?_)
    have KQ := Q0
    refine tk 0 (some 24) (Op.move (Operand.tmp 11)) 40 (v := ?v0c1) rfl ?h0c1 hH ?_
    case h0c1 => intro _ _; go_simp; try with_reducible rfl
    try simp only [ps]
    refine tk 1 (some 25) (Op.call { callee := Callee.builtin Builtin.len, args := #[Operand.tmp 24], argTypes := #[40] }) 3 (v := ?v1c2) rfl ?h1c2 hH ?_
    case h1c2 => intro _ _; go_simp; try with_reducible rfl
    try simp only [ps]
    refine tk 2 (some 26) (Op.binOp BinOp.gtr 3 (Operand.tmp 25) (Operand.const (Value.int IntKind.i64 0)) 3) 4 (v := ?v2c3) rfl ?h2c3 hH ?_
    case h2c3 => intro _ _; go_simp; try with_reducible rfl
    try simp only [ps]
    refine tk 3 (some 27) (Op.move (Operand.tmp 26)) 4 (v := ?v3c4) rfl ?h3c4 hH ?_
    case h3c4 => intro _ _; go_simp; try with_reducible rfl
    try simp only [ps]
    refine tn 4 (some 28) (Op.move (Operand.tmp 0)) 198 rfl hH ?_
    try simp only [ps]
    refine tn 5 (some 29) (Op.move (Operand.tmp 2)) 3 rfl hH ?_
    try simp only [ps]
    refine tn 6 (some 30) (Op.convert 3 78 (Operand.tmp 29)) 78 rfl hH ?_
    try simp only [ps]
    refine tn 7 (some 31) (Op.move (Operand.tmp 12)) 75 rfl hH ?_
    try simp only [ps]
    refine tn 8 (some 32) (Op.load 83 (Operand.tmp 7)) 83 rfl hH ?_
    try simp only [ps]
    refine tn 9 (some 33) (Op.move (Operand.tmp 12)) 75 rfl hH ?_
    try simp only [ps]
    refine tn 10 (some 34) (Op.move (Operand.tmp 0)) 198 rfl hH ?_
    try simp only [ps]
    refine tn 11 (some 35) (Op.nilCheck (Operand.tmp 34)) 0 rfl hH ?_
    try simp only [ps]
    refine tn 12 (some 36) (Op.fieldAddr 182 (Operand.tmp 35) 1) 0 rfl hH ?_
    try simp only [ps]
    refine tn 13 (some 37) (Op.load 71 (Operand.tmp 36)) 71 rfl hH ?_
    try simp only [ps]
    refine tn 14 (some 38) (Op.nilCheck (Operand.tmp 37)) 0 rfl hH ?_
    try simp only [ps]
    refine tn 15 (some 39) (Op.fieldAddr 130 (Operand.tmp 38) 6) 0 rfl hH ?_
    try simp only [ps]
    refine tn 16 (some 40) (Op.fieldAddr 126 (Operand.tmp 39) 0) 0 rfl hH ?_
    try simp only [ps]
    refine tn 17 (some 41) (Op.load 75 (Operand.tmp 40)) 75 rfl hH ?_
    try simp only [ps]
    refine tn 18 (some 42) (Op.binOp BinOp.or 75 (Operand.tmp 33) (Operand.tmp 41) 75) 75 rfl hH ?_
    try simp only [ps]
    refine tn 19 (some 43) (Op.call { callee := Callee.value (Operand.func 55), args := #[Operand.tmp 32, Operand.tmp 42], argTypes := #[83, 75] }) 83 rfl hH ?_
    try simp only [ps]
    refine tn 20 (some 44) (Op.build 220 #[(0, Operand.tmp 30), (1, Operand.tmp 31), (2, Operand.tmp 43)]) 220 rfl hH ?_
    try simp only [ps]
    refine tn 21 (some 45) (Op.call { callee := Callee.value (Operand.func 142), args := #[Operand.tmp 28, Operand.tmp 44], argTypes := #[198, 220] }) 4 rfl hH ?_
    try simp only [ps]
    refine tk 22 (some 46) (Op.pick (Operand.tmp 27) (Operand.tmp 45) (Operand.const (Value.bool false))) 4 (v := ?v22c23) rfl ?h22c23 hH ?_
    case h22c23 => intro _ _; go_simp; try with_reducible rfl
    try simp only [ps]
    refine wpAnyH_done (by kernel_rfl) ?_ _
    refine NoPanic.normal ?_
    go_wp2_with fail
    go_roundg (gk - 1)
    case measure => omega
    case rel => exact ⟨q + 1, st, by omega, by go_num, by rw [newCls_step, HST.out]; exact HB0.out, N6.out.kp (Kp.refl _).drew, T6.out.same rfl, K6.out.drew⟩
  ·
   have ga : ¬ (q : Int) < 8 := by omega
   obtain rfl : q = 8 := by omega
   have HNC : Hid (newCls rdp all hd n x bg = st) := HST.out
   go_wp2_with fail
   refine (sort_nu W0.heap.size _ (st.1.flatMap (placesOf hd all)) wr N6.out (by have := HLEN.out; omega)).mono ?_
   rintro e y2 hd0
   obtain ⟨rfl, hn2, hk2⟩ := hd0.ex
   have N8 := hid hn2
   have K8 := hid hk2
   clear hd0 hn2 hk2
   go_wp2_with fail
   go_ret
   exact ⟨_, rfl, by rw [HNC.out, ← unb_sorted hd all st.1 HSEL.out.1]; exact N8.out.nul (fun b e => Nat.le_trans K0.out.size (N8.out.block b e).1), by rw [HNC.out]; exact T6.out.same (K8.out.block B T6.out.lt (fun e => by have := (N6.out.block B e).1; have := HBS.out; omega)), KW.out.past2 K8.out (fun b hb e => by have := (N6.out.block b e).1; have := K0.out.size; omega)⟩
end Go.Proofs.YtnajcnhgeggngaaGreat.Way

/-! ### Cat -/

namespace Go.Proofs.YtnajcnhgeggngaaGreat.Way
set_option maxHeartbeats 2000000
set_option maxRecDepth 100000
open Go.RowKit Go.Proofs.YtnajcnhgeggngaaGreat

theorem addL_good {G : Sp → Prop} {h : Nat} {l : List Sp} {x : Sp} (hl : ∀ y ∈ l, G y) (hx : G x) : ∀ y ∈ addL h l x, G y := by
 unfold addL
 split
 ·
  exact hl
 ·
  intro y hy
  rcases List.mem_append.1 hy with hy | hy
  ·
   exact hl y hy
  ·
   rw [List.mem_singleton.1 hy]
   exact hx
theorem walkF_good {N : Nat} {W : Sp → List Sp} {rd h : Nat} {x : Sp} {lo : Int} (hW : ∀ x : Sp, x.Ok → x.In N → ∀ y ∈ W x, y.Ok ∧ y.In N ∧ x.a ≤ y.a) (hx : x.Ok ∧ x.In N ∧ lo ≤ x.a) {acc : List Sp} (ha : ∀ y ∈ acc, y.Ok ∧ y.In N ∧ lo ≤ y.a) : ∀ y ∈ walkF W rd h acc x, y.Ok ∧ y.In N ∧ lo ≤ y.a := by
 unfold walkF
 have hz := hW (x.only rd) (hx.1.only rd) (hx.2.1.only rd)
 revert hz
 generalize W (x.only rd) = zs
 intro hz
 induction zs generalizing acc with
 | nil => exact ha
 | cons z zs ih =>
  have h1 := hz z (List.mem_cons_self ..)
  exact ih (addL_good ha ⟨h1.1.behind hx.1, h1.2.1.behind hx.2.1, Int.le_trans hx.2.2 h1.2.2⟩) (fun y hy => hz y (List.mem_cons_of_mem _ hy))
theorem walks_good {N : Nat} {W : Sp → List Sp} {rd h : Nat} {lo : Int} (hW : ∀ x : Sp, x.Ok → x.In N → ∀ y ∈ W x, y.Ok ∧ y.In N ∧ x.a ≤ y.a) : ∀ (xs : List Sp) {acc : List Sp}, (∀ x ∈ xs, x.Ok ∧ x.In N ∧ lo ≤ x.a) → (∀ y ∈ acc, y.Ok ∧ y.In N ∧ lo ≤ y.a) → ∀ y ∈ xs.foldl (walkF W rd h) acc, y.Ok ∧ y.In N ∧ lo ≤ y.a
 | [], _, _, ha => ha
 | x :: xs, acc, hx, ha => walks_good hW xs (acc := walkF W rd h acc x) (fun y hy => hx y (List.mem_cons_of_mem _ hy)) (walkF_good hW (hx x (List.mem_cons_self ..)) ha)
theorem km_ok {M : Nat → Option Memo} {O : Nat → Prop} {w w' : World} (k : Km M w w') : ∀ b, okB M O b → b < w.heap.size → okB M O b ∧ w'.heap[b]? = w.heap[b]? := fun b hb hl => ⟨hb, k.block b hl (fun e => e hb.2)⟩
theorem wcat_any (s : ByteArray) (bol : Bool) (h60 : s.size ≤ 60) (M : Nat → Option Memo) (kids : List Pt) (HS : ∀ (j : Nat) q, kids[j]? = some q → WSaid s bol M q) (HW : WdOk kids) (h8 : ∀ (j : Nat) q, kids[j]? = some q → q.hd < 8) (hf : kids.length ≤ 4398046511104) (O : Nat → Prop) (x : Sp) (hx : x.Ok) (hN : x.In s.size) (w : World) (hO : ∀ b, O b → b < w.heap.size) (hM : MemOk M O w) (ad : Option Addr) (c : Nat) (hks : KidS w (okB M O) ad c kids) (hpts : PtsAt w (okB M O) kids) :
  Calls Tryz.prog 82 #[wkv s bol, .slice ad kids.length c, spv x] w fun e w' => WaysD (catW s.data.toList bol kids [x]) (okB M O) (fun w' => Km M w w' ∧ MemOk M O w') e w' := by
 obtain ⟨L, hL⟩ : ∃ L, kids.length = L := ⟨_, rfl⟩
 rw [hL] at hf ⊢
 have hcap := hks.cap
 rw [hL] at hcap
 have HL := hid hL
 have HSD := hid HS
 have HWD := hid HW
 have H8 := hid h8
 have HX := hid hx
 have HN := hid hN
 have HO := hid hO
 have HM := hid hM
 have HK := hid hks
 have HPT := hid hpts
 obtain ⟨T, hT⟩ : ∃ T, catW s.data.toList bol kids [x] = T := ⟨_, rfl⟩
 have HT := hid hT
 rw [hT]
 clear hL hx hN hO hM hks hpts HS HW hT h8
 go_enter Tryz.func82, Tryz.ntmps82
 go_upto_region 1 with fail
 refine opq (fun W0 => W0.heap[w.heap.size]? = some (.cells #[.string s, .bool bol] 70) ∧ W0.heap[(w.heap.size + 1)]? = some (spo x) ∧ Kp w W0) ⟨by exact bl_alloc (last_of _ _) _, by exact last_at _ _ _ (by simp), by exact kpt⟩ ?_
 rintro W0 ⟨xT0, xX0, xK0⟩
 have T0 := hid xT0
 have X0 := hid xX0
 have K0 := hid xK0
 clear xT0 xX0 xK0
 obtain ⟨x0, x1, x2, x3, x4, x5, x6⟩ := cells7 (X0.out)
 go_upto_region 2 with fail
 refine opq (fun W1 => W1.heap[w.heap.size]? = some (.cells #[.string s, .bool bol] 70) ∧ SpL W1 (okB M O) (.slice (some ⟨W0.heap.size, 0, none⟩) 1 1) [x] ∧ Kp w W1) ⟨by exact bl_alloc T0.out _, by exact spl_one W0 x HX.out _ ⟨fun o => by have := HO.out _ o; have := K0.out.size; omega, HM.out.lt K0.out.size⟩, by exact K0.out.alloc _⟩ ?_
 rintro W1 ⟨xT1, xS1, xK1⟩
 have T1 := hid xT1
 have S1 := hid xS1
 have K1 := hid xK1
 clear xT1 xS1 xK1
 clear T0 X0 K0 x0 x1 x2 x3 x4 x5 x6
 have M1 := hid (HM.out.keep (S := fun _ => False) (Kp.kx K1.out) (fun _ _ e => e.elim) (fun _ _ e => e) HM.out.own)
 have HMT := hid (show M w.heap.size = none from HM.out.lt (Nat.le_refl _))
 go_wp2_with fail
 go_loopg [7, 17] L (fun gg v i wr => ∃ (q : Nat) (ys : List Sp), q + gg = L ∧ i = .int .i64 (q : Int) ∧ SpL wr (okB M O) v ys ∧ (∀ y ∈ ys, y.Ok ∧ y.In s.size ∧ x.a ≤ y.a) ∧ ys.length ≤ 4398046511104 ∧ MemOk M O wr ∧ catW s.data.toList bol (kids.drop q) ys = T ∧ Km M W1 wr)
 case atStart => exact ⟨0, [x], by omega, rfl, S1.out, fun y hy => by rw [List.mem_singleton.1 hy]; exact ⟨HX.out, HN.out, Int.le_refl _⟩, by simp, M1.out, HT.out, Kx.refl _ _⟩
 case round =>
  rename World => wo
  obtain ⟨q, ys, hq, rfl, hS, hG, hF, hM, hA, hK⟩ := hrel
  have S6 := hid hS
  have G6 := hid hG
  have F6 := hid hF
  have M6 := hid hM
  have A6 := hid hA
  have K6 := hid ((Kp.kx K1.out).trans hK)
  have KW := hid hK
  have HTL := hid (show w.heap.size < wo.heap.size from Nat.lt_of_lt_of_le (bl_lt T1.out) hK.size)
  have T6 := hid (bl_kx T1.out hK (fun e => e HMT.out))
  clear hS hG hF hM hA hK
  by_cases hlt : q < L
  ·
   have gkw : IntKind.i64.wrap ((q : Int) + 1) = (q : Int) + 1 := by rw [IntKind.wrap_i64]; omega
   have ga : (q : Int) < (L : Int) := by omega
   have g0 : (0 : Int) ≤ (q : Int) := by omega
   obtain ⟨kid, hkid⟩ : ∃ kid, kids[q]? = some kid := ⟨_, List.getElem?_eq_getElem (by rw [HL.out]; exact hlt)⟩
   obtain ⟨bb, rfl, -, hbb, hce⟩ := (HK.out.keep K6.out.size (km_ok K6.out)).at_ (by rw [HL.out]; omega)
   have cp := hce q kid hkid
   have KP := hid (PtAt.keep K6.out.size (km_ok K6.out) kid (HPT.out.get q kid hkid))
   obtain ⟨k', lo', hi', n', t', kn', so', ks', ad', c', -, -, hblk, -, -⟩ := KP.out.form
   have HB := hid hblk
   have HWK := hid (HSD.out q kid hkid)
   have HRD := hid (HWD.out.get q kid hkid).1
   have HHD := hid (H8.out q kid hkid)
   have HTK : Hid (catW s.data.toList bol (kids.drop (q + 1)) (ys.foldl (walkF (ways s.data.toList bol kid) kid.rd kid.hd) []) = T) := by
    show _ = _
    rw [← A6.out, List.drop_eq_getElem_cons (i := q) (by rw [HL.out]; exact hlt), (List.getElem?_eq_some_iff.1 hkid).2]
    rfl
   obtain ⟨la, lc, rfl, hlc, hle⟩ := S6.out.ex
   obtain ⟨N, hNN⟩ : ∃ N, ys.length = N := ⟨_, rfl⟩
   have HNN := hid hNN
   rw [hNN] at S6 F6 hlc hle
   rw [hNN]
   clear hce hbb hkid hblk hNN hle A6
   obtain ⟨p0, p1, p2, p3, p4, p5, p6, p7, p8, p9, p10, p11, p12, p13⟩ := cells14 (HB.out)
   go_upto_region 6 with fail
   refine opq (fun W3 => W3.heap[wo.heap.size]? = some (roA kid.hd (.slice none 0 0) 0 none) ∧ W3.heap[w.heap.size]? = some (.cells #[.string s, .bool bol] 70) ∧ Kp wo W3) ⟨by exact last_of _ _, by exact bl_alloc T6.out _, by exact (Kp.refl _).alloc _⟩ ?_
   rintro W3 ⟨xR3, xT3, xK3⟩
   have R3 := hid xR3
   have T3 := hid xT3
   have K3 := hid xK3
   clear xR3 xT3 xK3
   clear cp p0 p1 p2 p3 p4 p5 p6 p7 p8 p9 p10 p11 p12 p13 T6 HB
   have RW := hid (RowW.new M6.out HHD.out K3.out (Nat.le_refl _) R3.out)
   have HRW := hid (bl_lt R3.out)
   clear R3
   go_wp2_with fail
   go_loopg [28] N (fun gg i wr => ∃ (j : Nat) (lv : Value) (pl : Nat) (sn : Option Nat), j + gg = N ∧ i = .int .i64 (j : Int) ∧ RowW M O W3.heap.size wo.heap.size kid.hd ((ys.take j).foldl (walkF (ways s.data.toList bol kid) kid.rd kid.hd) []) lv pl sn wr ∧ KR M wo.heap.size W3 wr)
   case atStart => exact ⟨0, _, _, _, by omega, rfl, RW.out, Kx.refl _ _⟩
   case round =>
    obtain ⟨j, lv, pl, sn, hj, rfl, hR, hK⟩ := hrel
    have R7 := hid hR
    have K7 := hid hK
    have T7 := hid (bl_kx T3.out hK (fun e => e.elim (fun e => e HMT.out) (fun e => by have := HTL.out; omega)))
    have OB := hid (hR.okb K3.out (Nat.le_refl _) hK)
    have SZ := hid (hK.size K3.out)
    clear hR hK
    by_cases hlj : j < N
    ·
     have gkj : IntKind.i64.wrap ((j : Int) + 1) = (j : Int) + 1 := by have := F6.out; rw [IntKind.wrap_i64]; omega
     have gaj : (j : Int) < (N : Int) := by omega
     have g0j : (0 : Int) ≤ (j : Int) := by omega
     obtain ⟨y, hy⟩ : ∃ y, ys[j]? = some y := ⟨_, List.getElem?_eq_getElem (by rw [HNN.out]; exact hlj)⟩
     obtain ⟨ad2, c2, hv2, _, hc2⟩ := (S6.out.keep SZ.out OB.out).ex
     injection hv2 with e1 e2 e3
     obtain ⟨b2, hbb, _, hbl, hce⟩ := hc2 (by rw [HNN.out]; omega)
     rw [← e1] at hbb
     subst hbb
     have hsp := hce j y hy
     have HY := hid (G6.out y (List.mem_of_getElem? hy))
     have HTJ : Hid ((ys.take (j + 1)).foldl (walkF (ways s.data.toList bol kid) kid.rd kid.hd) [] = walkF (ways s.data.toList bol kid) kid.rd kid.hd ((ys.take j).foldl (walkF (ways s.data.toList bol kid) kid.rd kid.hd) []) y) := by
      show _ = _
      rw [List.take_succ_eq_append_getElem (by rw [HNN.out]; exact hlj), List.foldl_append, (List.getElem?_eq_some_iff.1 hy).2]
      rfl
     obtain ⟨zs, hzs⟩ : ∃ zs, (ys.take j).foldl (walkF (ways s.data.toList bol kid) kid.rd kid.hd) [] = zs := ⟨_, rfl⟩
     rw [hzs] at R7 HTJ
     have x0 := hsp.c0
     have x1 := hsp.c1
     have x2 := hsp.c2
     have x3 := hsp.c3
     have x4 := hsp.c4
     have x5 := hsp.c5
     have x6 := hsp.c6
     clear hsp hce hy e1 e2 e3 hc2 hzs
     go_upto_region 9 with fail
     refine opq (fun W5 => W5.heap[wr.heap.size]? = some (spo y) ∧ W5.heap[w.heap.size]? = some (.cells #[.string s, .bool bol] 70) ∧ Kp wr W5) ⟨by exact last_of _ _, by exact bl_alloc T7.out _, by exact (Kp.refl _).alloc _⟩ ?_
     rintro W5 ⟨xY5, xT5, xK5⟩
     have Y5 := hid xY5
     have T5 := hid xT5
     have K5 := hid xK5
     clear xY5 xT5 xK5
     clear x0 x1 x2 x3 x4 x5 x6 T7
     have WK := hid (walk_any s bol h60 M kid HRD.out HWK.out O W3.heap.size wo.heap.size kid.hd pl zs lv sn y HY.out.1 HY.out.2.1 W5 (fun b o => Nat.lt_of_lt_of_le (HO.out b o) (Nat.le_trans K6.out.size (Nat.le_trans SZ.out K5.out.size))) HM.out.own (R7.out.kp K5.out) (PtAt.kp (PtAt.keep SZ.out OB.out kid KP.out) K5.out) HRW.out (Nat.le_trans (Kx.size K7.out) K5.out.size))
     have t0 := bl_cell (T5.out) 0 _ rfl
     have t1 := bl_cell (T5.out) 1 _ rfl
     obtain ⟨y0, y1, y2, y3, y4, y5, y6⟩ := cells7 (Y5.out)
     go_wp2_with fail
     clear t0 t1 y0 y1 y2 y3 y4 y5 y6 Y5 T5
     refine (WK.out).mono ?_
     rintro e yw hd
     obtain ⟨rfl, l2, p2, n2, hr2, -, -, hk2⟩ := hd.ex
     have RC := hid hr2
     have KC := hid ((R7.out.kp K5.out).step (K7.out.then K5.out) hk2)
     clear hd hr2 hk2
     go_wp2_with fail
     go_roundg (gk - 1)
     case measure => omega
     case rel => exact ⟨j + 1, l2, p2, n2, by omega, by go_num, by rw [HTJ.out]; exact RC.out, KC.out⟩
    ·
     have gaj : ¬ (j : Int) < (N : Int) := by omega
     have HYS : Hid (ys.take j = ys) := by
      show _ = _
      exact List.take_of_length_le (by rw [HNN.out]; omega)
     rw [HYS.out] at R7
     have r1 := bl_cell (R7.out.b) 1 _ rfl
     go_wp2_with fail
     go_roundg (L - q - 1)
     case measure => omega
     case rel => exact ⟨q + 1, _, by omega, by go_num, R7.out.spl (fun b o => Nat.lt_of_lt_of_le (HO.out b o) (Nat.le_trans K6.out.size K3.out.size)), walks_good HWK.out.good ys G6.out (fun y hy => by cases hy), R7.out.i.few, R7.out.mem, HTK.out, KW.out.trans (K7.out.km K3.out (Nat.le_refl _))⟩
  ·
   have ga : ¬ (q : Int) < (L : Int) := by omega
   have HE : Hid (ys = T) := by
    show _ = _
    rw [← A6.out, List.drop_of_length_le (by rw [HL.out]; omega)]
    rfl
   obtain ⟨la, lc, rfl, hlc, hle⟩ := S6.out.ex
   clear hle
   go_wp2_with fail
   go_ret
   exact ⟨_, rfl, by rw [← HE.out]; exact S6.out, K6.out, M6.out⟩
end Go.Proofs.YtnajcnhgeggngaaGreat.Way
