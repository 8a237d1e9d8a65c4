/-
  Texts of this claim: Cm7, CmB, CmX, CmY, CmZ.
-/
import Derived.Lib.IndexAny
import Derived.Test.YtigdmebijbaofaaGreatDoorReadDM4
import Derived.Test.YtigdmebijbaofaaGreatDoorReadDM8
import Derived.Test.YtigdmebijbaofaaGreatDoorReadDM20
import Derived.Deep.MidRow
/-! ### Cm7 -/
namespace Go.Proofs.YtigdmebijbaofaaGreatDoor
set_option maxHeartbeats 2000000
set_option maxRecDepth 100000
open Go.RowKit
theorem run_upto (s : ByteArray) (i : Nat) (hi : i ≤ s.size) (w : World) : (Instr.slice 9 (.string s) none (some (.int .i64 (i : Int))) none).run Tryz.prog w = .ok (.string (s.extract 0 i)) w := by
 rw [run_slice_string_to_if w 9 s .i64 (i : Int) (by kernel_rfl), if_pos ⟨by omega, by omega⟩, Int.toNat_natCast]
theorem idx_mem (l : List UInt8) (c : UInt8) : (0 ≤ Lib.indexByte l c) ↔ c ∈ l := by
 have h := Lib.contains_iff_indexByte l c
 rw [Bool.eq_iff_iff] at h
 simpa using h.symm
theorem ext_list (s : ByteArray) (i : Nat) : (s.extract 0 i).data.toList = s.data.toList.take i := by
 simp [ByteArray.data_extract]
theorem nodup_take_succ (l : List UInt8) (q : Nat) (x : UInt8) (h : l[q]? = some x) (h1 : (l.take q).Nodup) (h2 : ¬ x ∈ l.take q) : (l.take (q + 1)).Nodup := by
 rw [List.take_add_one, h]
 simp only [Option.toList]
 rw [List.nodup_append]
 exact ⟨h1, by simp, fun a ha b hb => by simp at hb; subst hb; exact fun e => h2 (e ▸ ha)⟩
theorem nodup_not (l : List UInt8) (q : Nat) (x : UInt8) (h : l[q]? = some x) (h2 : x ∈ l.take q) : ¬ l.Nodup := by
 intro hn
 have hs : (l.take (q + 1)).Nodup := hn.sublist (List.take_sublist _ _)
 rw [List.take_add_one, h] at hs
 simp only [Option.toList] at hs
 rw [List.nodup_append] at hs
 exact hs.2.2 x h2 x (by simp) rfl
theorem tableRight_any (y z : ByteArray) (w : World) (hs : y.size ≤ 1000000) (_ : z.size ≤ 1000000) : Calls Tryz.prog 104 #[.string y, .string z] w fun e w' => e = .returned (.bool (tabR y z)) ∧ Kp w w' := by
 obtain ⟨B, hB⟩ : ∃ B, tabR y z = B := ⟨_, rfl⟩
 rw [hB]
 have HB : Hid (tabR y z = B) := hB
 clear hB
 go_enter Tryz.func104, Tryz.ntmps104
 by_cases h1 : y.size = z.size
 ·
  have g1 : ((y.size : Int) != (z.size : Int)) = false := by simp; omega
  by_cases h2 : 400 < y.size
  ·
   have g2 : (y.size : Int) > 400 := by omega
   have E : Hid (B = false) := by show _ = _; rw [← HB.out]; unfold tabR; rw [decide_eq_false (p := y.size ≤ 400) (by omega), Bool.and_false]; rfl
   go_wp2_with fail
   go_ret
   exact ⟨by rw [E.out]; rfl, Kp.refl _⟩
  have g2 : ¬ (y.size : Int) > 400 := by omega
  have E1 : Hid (B = decide (y.data.toList.Nodup)) := by show _ = _; rw [← HB.out]; unfold tabR; rw [decide_eq_true h1, decide_eq_true (p := y.size ≤ 400) (by omega)]; rfl
  have H1 := hid h1
  clear h1 h2
  go_wp2_with fail
  clear g1 g2
  go_loopg [18] y.size (fun gg v wr => ∃ q : Nat, q + gg = y.size ∧ v = .int .i64 (q : Int) ∧ (y.data.toList.take q).Nodup ∧ Kp w wr)
  case atStart => exact ⟨0, by omega, rfl, by simp, Kp.refl _⟩
  case round =>
   obtain ⟨q, hq, rfl, hn, hK⟩ := hrel
   have HN := hid hn
   have K := hid hK
   clear hn hK
   by_cases hlt : q < y.size
   ·
    have gkw : IntKind.i64.wrap ((q : Int) + 1) = (q : Int) + 1 := by rw [IntKind.wrap_i64]; omega
    have ga : (q : Int) < (y.size : Int) := by omega
    have rc := run_ch y q hlt
    have ru := run_upto y q (by omega)
    obtain ⟨x, hx, hc⟩ := byte_at y q hlt
    obtain ⟨n, hn⟩ : ∃ n : Nat, ch y q = n := ⟨_, rfl⟩
    rw [hn] at rc hc
    obtain ⟨R, hR⟩ : ∃ R, Lib.indexByte (y.extract 0 q).data.toList ((n : Int).toNat.toUInt8) = R := ⟨_, rfl⟩
    have IB : Hid (∀ w, Calls Tryz.prog 141 #[.string (y.extract 0 q), .int .u8 (n : Int)] w fun e w' => e = .returned (.int .i64 R) ∧ w' = w) := fun w => by rw [← hR]; exact indexByte_any _ _ w
    have hM : (0 ≤ R) ↔ x ∈ y.data.toList.take q := by
     rw [← hR, idx_mem, ext_list, Int.toNat_natCast, hc]
     simp
    have HM := hid hM
    have HX := hid hx
    clear hR hM hx hn hc
    go_upto_region 6 with fail
    have Q0 : Kp wr wr.drew := (Kp.refl _).drew
    have MK : Hid (∀ W, Kp wr W → Hid (Kp wr W)) := fun W k => k
    refine wp_region_noPanic ?_
    refine hdrew MK Q0 (fun hH => ?_)
    have KQ := Q0
    refine tk 0 (some 21) (.move (.tmp 0)) 9 (v := ?v0t1) rfl ?h0t1 hH ?_
    case h0t1 => intro _ _; go_simp; try with_reducible rfl
    try simp only [ps]
    refine tk 1 (some 22) (.move (.tmp 5)) 3 (v := ?v1t2) rfl ?h1t2 hH ?_
    case h1t2 => intro _ _; go_simp; try with_reducible rfl
    try simp only [ps]
    refine tk 2 (some 23) (.slice 9 (.tmp 21) none (some (.tmp 22)) none) 9 (v := ?v2t3) rfl ?h2t3 hH ?_
    case h2t3 => intro _ _; go_simp; try with_reducible rfl
    try simp only [ps]
    refine tk 3 (some 24) (.move (.tmp 0)) 9 (v := ?v3t4) rfl ?h3t4 hH ?_
    case h3t4 => intro _ _; go_simp; try with_reducible rfl
    try simp only [ps]
    refine tk 4 (some 25) (.move (.tmp 5)) 3 (v := ?v4t5) rfl ?h4t5 hH ?_
    case h4t5 => intro _ _; go_simp; try with_reducible rfl
    try simp only [ps]
    refine tk 5 (some 26) (.index 9 (.tmp 24) (.tmp 25)) 5 (v := ?v5t6) rfl ?h5t6 hH ?_
    case h5t6 => intro _ _; go_simp; try with_reducible rfl
    try simp only [ps]
    refine wpAnyH_ready (rs := [6]) (by kernel_rfl) (by simp) ?_
    refine AllReadyH.cons (o := { dst := some 27, op := .call { callee := .value (.func 141), args := #[.tmp 23, .tmp 26], argTypes := #[9, 5] }, type := 3, pos := "right.go:111", after := _, guard := none }) rfl (fun K hKq => ?_) AllReadyH.nil
    go_simp
    refine (IB.out _).mono ?_
    rintro e yy ⟨rfl, rfl⟩
    refine hKq.out _ _ (MK.out _ KQ) (fun hN => ?_)
    clear hKq K hH KQ
    have hH := hN
    clear hN
    have KQ := hH.out
    try simp only [ps]
    refine tk 7 (some 28) (.binOp .geq 3 (.tmp 27) (.const (.int .i64 0)) 3) 4 (v := ?v7t7) rfl ?h7t7 hH ?_
    case h7t7 => intro _ _; go_simp; try with_reducible rfl
    try simp only [ps]
    refine wpAnyH_done (by kernel_rfl) ?_ _
    refine NoPanic.normal ?_
    have KF := hid (K.out.trans KQ)
    by_cases hr : 0 ≤ R
    ·
     have E : Hid (B = false) := by show _ = _; rw [E1.out]; exact decide_eq_false (nodup_not _ q x HX.out (HM.out.1 hr))
     have gr : R ≥ 0 := hr
     go_wp2_with fail
     go_ret
     exact ⟨by rw [E.out]; rfl, KF.out⟩
    ·
     have gr : ¬ R ≥ 0 := hr
     have HR := hid hr
     clear hr
     go_wp2_with fail
     go_roundg (gk - 1)
     case measure => omega
     case rel => exact ⟨q + 1, by omega, by go_num, nodup_take_succ _ q x HX.out HN.out (fun h => by have h1 := HM.out.2 h; have h2 := HR.out; omega), KF.out⟩
   ·
    have ga : ¬ (q : Int) < (y.size : Int) := by omega
    have E : Hid (B = true) := by show _ = _; rw [E1.out]; have := HN.out; rw [take_full y q (by omega)] at this; exact decide_eq_true this
    go_wp2_with fail
    go_ret
    exact ⟨by rw [E.out]; rfl, K.out⟩
 ·
  have g1 : ((y.size : Int) != (z.size : Int)) = true := by simp; omega
  have E : Hid (B = false) := by show _ = _; rw [← HB.out]; unfold tabR; rw [decide_eq_false h1]; rfl
  go_wp2_with fail
  go_ret
  exact ⟨by rw [E.out]; rfl, Kp.refl _⟩
theorem pcsEq_len : ∀ (a b : List Pc), a.length ≠ b.length → pcsEq a b = false
 | [], [], h => absurd rfl h
 | [], _ :: _, _ => rfl
 | _ :: _, [], _ => rfl
 | x :: a, y :: b, h => by rw [pcsEq, pcsEq_len a b (by simpa using h), Bool.and_false]
theorem pcsEq_not : ∀ (a b : List Pc) (j : Nat) (x y : Pc), a[j]? = some x → b[j]? = some y → pcEq x y = false → pcsEq a b = false
 | [], _, j, x, y, h, _, _ => by simp at h
 | _ :: _, [], j, x, y, _, h, _ => by simp at h
 | u :: a, v :: b, 0, x, y, h, h', he => by simp at h h'; subst h; subst h'; rw [pcsEq, he, Bool.false_and]
 | u :: a, v :: b, j + 1, x, y, h, h', he => by rw [pcsEq, pcsEq_not a b j x y (by simpa using h) (by simpa using h') he, Bool.and_false]
theorem pcsEq_all : ∀ (a b : List Pc), a.length = b.length → (∀ (j : Nat) (x y : Pc), a[j]? = some x → b[j]? = some y → pcEq x y = true) → pcsEq a b = true
 | [], [], _, _ => rfl
 | [], _ :: _, h, _ => by simp at h
 | _ :: _, [], h, _ => by simp at h
 | x :: a, y :: b, h, H => by rw [pcsEq, H 0 x y rfl rfl, pcsEq_all a b (by simpa using h) (fun j u v hu hv => H (j + 1) u v (by simpa using hu) (by simpa using hv))]; rfl
theorem neq_pc (g g' : Int) (s s' : ByteArray) (w : World) : (Op.equalIn 10000 34 (.agg #[.int .i64 g, .string s]) (.agg #[.int .i64 g', .string s'])).run Tryz.prog w = .ok (g == g' && s.toList == s'.toList) w := by
 have u3 := Tryz.underlying3
 have a3 := Tryz.isAgg3
 have z3 := Tryz.sizeOf3
 have u9 := Tryz.underlying9
 have a9 := Tryz.isAgg9
 have z9 := Tryz.sizeOf9
 rw [show (10000 : Nat) = 9999 + 1 from rfl, Op.equalIn]
 simp only [Sem.run_bind, run_underlying Tryz.underlying34, Result.andThen_ok]
 go_simp
 by_cases h1 : g = g' <;> by_cases h2 : s.toList = s'.toList <;> simp [h1, h2]
theorem str_eq (s t : ByteArray) : (s.toList == t.toList) = (s.data.toList == t.data.toList) := by rw [ByteArray.toList_eq, ByteArray.toList_eq]
theorem pcsEqual_any (P P' : List Pc) (ad ad' : Option Addr) (l c l' c' : Nat) (w : World) (hP : PcAt w P ad l c) (hP' : PcAt w P' ad' l' c') (hl : P.length ≤ 1000000) : Calls Tryz.prog 59 #[.slice ad l c, .slice ad' l' c'] w fun e w' => e = .returned (.bool (pcsEq P P')) ∧ Kp w w' := by
 obtain ⟨B, hB⟩ : ∃ B, pcsEq P P' = B := ⟨_, rfl⟩
 rw [hB]
 have HB := hid hB
 clear hB
 obtain ⟨L, hL⟩ : ∃ L, P.length = L := ⟨_, rfl⟩
 obtain ⟨L', hL'⟩ : ∃ L, P'.length = L := ⟨_, rfl⟩
 have hll := hP.ln
 have hcp := hP.cp
 have hll' := hP'.ln
 have hcp' := hP'.cp
 rw [hL] at hll hl
 rw [hL'] at hll'
 subst hll
 subst hll'
 have HP := hid hP
 have HP' := hid hP'
 have HL := hid hL
 have HL' := hid hL'
 clear hP hL hP' hL'
 go_enter Tryz.func59, Tryz.ntmps59
 by_cases hne : l = l'
 ·
  subst hne
  have HLE := hid (HL.out.trans HL'.out.symm)
  go_wp2_with fail
  go_loopg [13] l (fun gg v wr => ∃ q : Nat, q + gg = l ∧ v = .int .i64 (q : Int) ∧ (∀ (j : Nat) (x y : Pc), j < q → P[j]? = some x → P'[j]? = some y → pcEq x y = true) ∧ Kp w wr)
  case atStart => exact ⟨0, by omega, rfl, fun j x y hj => absurd hj (by omega), Kp.refl _⟩
  case round =>
   obtain ⟨q, hq, rfl, h1, hK⟩ := hrel
   have H1 := hid h1
   have K := hid hK
   clear h1 hK
   by_cases hlt : q < l
   ·
    have gkw : IntKind.i64.wrap ((q : Int) + 1) = (q : Int) + 1 := by rw [IntKind.wrap_i64]; omega
    have ga : (q : Int) < (l : Int) := by omega
    have g0 : (0 : Int) ≤ (q : Int) := by omega
    obtain ⟨p, hp⟩ : ∃ p, P[q]? = some p := ⟨_, List.getElem?_eq_getElem (by rw [HL.out]; exact hlt)⟩
    obtain ⟨p', hp'⟩ : ∃ p, P'[q]? = some p := ⟨_, List.getElem?_eq_getElem (by rw [HL'.out]; omega)⟩
    obtain ⟨bb, oo, e1, hbb, c1, c2⟩ := (HP.out.kp K.out).get q p hp
    obtain ⟨b2, o2, e2, hb2, d1, d2⟩ := (HP'.out.kp K.out).get q p' hp'
    subst e1
    subst e2
    obtain ⟨g, s⟩ := p
    obtain ⟨g', s'⟩ := p'
    have C1 := hid c1
    have C2 := hid c2
    have D1 := hid d1
    have D2 := hid d2
    have HQ := hid hp
    have HQ' := hid hp'
    have ev := neq_pc g g' s s'
    obtain ⟨R, hR⟩ : ∃ R, (g == g' && s.toList == s'.toList) = R := ⟨_, rfl⟩
    rw [hR] at ev
    have HR : Hid (pcEq ⟨g, s⟩ ⟨g', s'⟩ = R) := by show _ = _; rw [← hR, str_eq]; unfold pcEq; by_cases h : g = g' <;> simp [h]
    clear hR hp hp' c1 c2 d1 d2
    go_upto_region 6 with fail
    have Q0 : Kp wr wr.drew := (Kp.refl _).drew
    have MK : Hid (∀ W, Kp wr W → W.cell? ⟨bb, (oo + q * 2), none⟩ = some (.int .i64 g) ∧ W.cell? ⟨bb, (oo + q * 2 + 1), none⟩ = some (.string s) ∧ W.cell? ⟨b2, (o2 + q * 2), none⟩ = some (.int .i64 g') ∧ W.cell? ⟨b2, (o2 + q * 2 + 1), none⟩ = some (.string s') ∧ Hid (Kp wr W)) := fun W k => ⟨(k.cell (World.block_lt_of_cell? wr _ C1.out)).trans C1.out, (k.cell (World.block_lt_of_cell? wr _ C2.out)).trans C2.out, (k.cell (World.block_lt_of_cell? wr _ D1.out)).trans D1.out, (k.cell (World.block_lt_of_cell? wr _ D2.out)).trans D2.out, k⟩
    refine wp_region_noPanic ?_
    refine hdrew MK Q0 (fun hH => ?_)
    have KQ := Q0
    refine tk 0 (some 16) (.move (.tmp 0)) 35 (v := ?v0t1) rfl ?h0t1 hH ?_
    case h0t1 => intro _ _; go_simp; try with_reducible rfl
    try simp only [ps]
    refine tk 1 (some 17) (.move (.tmp 5)) 3 (v := ?v1t2) rfl ?h1t2 hH ?_
    case h1t2 => intro _ _; go_simp; try with_reducible rfl
    try simp only [ps]
    refine tk 2 (some 18) (.indexAddr 35 (.tmp 16) (.tmp 17)) 0 (v := ?v2t3) rfl ?h2t3 hH ?_
    case h2t3 => intro _ _; go_simp; try with_reducible rfl
    try simp only [ps]
    refine tk 3 (some 19) (.load 34 (.tmp 18)) 34 (v := ?v3t4) rfl ?h3t4 hH ?_
    case h3t4 => intro _ _; go_simp; try with_reducible rfl
    try simp only [ps]
    refine tk 4 (some 20) (.move (.tmp 1)) 35 (v := ?v4t5) rfl ?h4t5 hH ?_
    case h4t5 => intro _ _; go_simp; try with_reducible rfl
    try simp only [ps]
    refine tk 5 (some 21) (.move (.tmp 5)) 3 (v := ?v5t6) rfl ?h5t6 hH ?_
    case h5t6 => intro _ _; go_simp; try with_reducible rfl
    try simp only [ps]
    refine tk 6 (some 22) (.indexAddr 35 (.tmp 20) (.tmp 21)) 0 (v := ?v6t7) rfl ?h6t7 hH ?_
    case h6t7 => intro _ _; go_simp; try with_reducible rfl
    try simp only [ps]
    refine tk 7 (some 23) (.load 34 (.tmp 22)) 34 (v := ?v7t8) rfl ?h7t8 hH ?_
    case h7t8 => intro _ _; go_simp; try with_reducible rfl
    try simp only [ps]
    refine tk 8 (some 24) (.binOp .neq 34 (.tmp 19) (.tmp 23) 34) 4 (v := ?v8t9) rfl ?h8t9 hH ?_
    case h8t9 => intro _ _; go_simp; try with_reducible rfl
    try simp only [ps]
    refine wpAnyH_done (by kernel_rfl) ?_ _
    refine NoPanic.normal ?_
    have KF := hid (K.out.trans KQ)
    cases R
    ·
     have E : Hid (B = false) := by show _ = _; rw [← HB.out]; exact pcsEq_not P P' q _ _ HQ.out HQ'.out HR.out
     go_wp2_with fail
     go_ret
     exact ⟨by rw [E.out]; rfl, KF.out⟩
    ·
     go_wp2_with fail
     go_roundg (gk - 1)
     case measure => omega
     case rel =>
      refine ⟨q + 1, by omega, by go_num, fun j x y hj hx hy => ?_, KF.out⟩
      by_cases hjq : j = q
      ·
       subst hjq
       rw [HQ.out] at hx
       rw [HQ'.out] at hy
       injection hx with hx
       injection hy with hy
       subst hx
       subst hy
       exact HR.out
      ·
       exact H1.out j x y (by omega) hx hy
   ·
    have ga : ¬ (q : Int) < (l : Int) := by omega
    have E : Hid (B = true) := by
     show _ = _
     rw [← HB.out]
     refine pcsEq_all P P' HLE.out (fun j x y hx hy => H1.out j x y ?_ hx hy)
     have := (List.getElem?_eq_some_iff.1 hx).1
     rw [HL.out] at this
     omega
    go_wp2_with fail
    go_ret
    exact ⟨by rw [E.out]; rfl, K.out⟩
 ·
  have gne : ((l : Int) != (l' : Int)) = true := by simp; omega
  have E : Hid (B = false) := by show _ = _; rw [← HB.out]; exact pcsEq_len P P' (by rw [HL.out, HL'.out]; exact hne)
  go_wp2_with fail
  go_ret
  exact ⟨by rw [E.out]; rfl, Kp.refl _⟩
abbrev Rv.o (r : Rv) : Obj := rxo r.k r.mn r.mx r.m r.t (.slice r.ad r.l r.c)
abbrev Av.o (a : Av) : Obj := .cells #[.int .i64 a.k, .int .i64 a.ln, .int .i64 a.r.k, .int .i64 a.r.mn, .int .i64 a.r.mx, .int .i64 a.r.m, .int .u64 (a.r.t.a : Int), .int .u64 (a.r.t.b : Int), .int .u64 (a.r.t.c : Int), .int .u64 (a.r.t.d : Int), .slice a.r.ad a.r.l a.r.c] 32
abbrev Cv.o (c : Cv) : Obj := .cells c.cs 37
theorem cellsRv {w : World} {B : Nat} {r : Rv} (h : w.heap[B]? = some r.o) : w.cell? ⟨B, 0, none⟩ = some (.int .i64 r.k) ∧ w.cell? ⟨B, 1, none⟩ = some (.int .i64 r.mn) ∧ w.cell? ⟨B, 2, none⟩ = some (.int .i64 r.mx) ∧ w.cell? ⟨B, 3, none⟩ = some (.int .i64 r.m) ∧ w.cell? ⟨B, 4, none⟩ = some (.int .u64 (r.t.a : Int)) ∧ w.cell? ⟨B, 5, none⟩ = some (.int .u64 (r.t.b : Int)) ∧ w.cell? ⟨B, 6, none⟩ = some (.int .u64 (r.t.c : Int)) ∧ w.cell? ⟨B, 7, none⟩ = some (.int .u64 (r.t.d : Int)) ∧ w.cell? ⟨B, 8, none⟩ = some (.slice r.ad r.l r.c) :=
 ⟨bl_cell h 0 _ rfl, bl_cell h 1 _ rfl, bl_cell h 2 _ rfl, bl_cell h 3 _ rfl, bl_cell h 4 _ rfl, bl_cell h 5 _ rfl, bl_cell h 6 _ rfl, bl_cell h 7 _ rfl, bl_cell h 8 _ rfl⟩
theorem cellsAv {w : World} {B : Nat} {a : Av} (h : w.heap[B]? = some a.o) : w.cell? ⟨B, 0, none⟩ = some (.int .i64 a.k) ∧ w.cell? ⟨B, 1, none⟩ = some (.int .i64 a.ln) ∧ w.cell? ⟨B, 2, none⟩ = some (.int .i64 a.r.k) ∧ w.cell? ⟨B, 3, none⟩ = some (.int .i64 a.r.mn) ∧ w.cell? ⟨B, 4, none⟩ = some (.int .i64 a.r.mx) ∧ w.cell? ⟨B, 5, none⟩ = some (.int .i64 a.r.m) ∧ w.cell? ⟨B, 6, none⟩ = some (.int .u64 (a.r.t.a : Int)) ∧ w.cell? ⟨B, 7, none⟩ = some (.int .u64 (a.r.t.b : Int)) ∧ w.cell? ⟨B, 8, none⟩ = some (.int .u64 (a.r.t.c : Int)) ∧ w.cell? ⟨B, 9, none⟩ = some (.int .u64 (a.r.t.d : Int)) ∧ w.cell? ⟨B, 10, none⟩ = some (.slice a.r.ad a.r.l a.r.c) :=
 ⟨bl_cell h 0 _ rfl, bl_cell h 1 _ rfl, bl_cell h 2 _ rfl, bl_cell h 3 _ rfl, bl_cell h 4 _ rfl, bl_cell h 5 _ rfl, bl_cell h 6 _ rfl, bl_cell h 7 _ rfl, bl_cell h 8 _ rfl, bl_cell h 9 _ rfl, bl_cell h 10 _ rfl⟩
theorem talk_no (T : Rx) (b : Bool) (hO : RxOk T) (hb : noR T = b) (w : World) {r : Rv} (h : r.is w T) : Calls Tryz.prog 58 #[r.v, rz] w fun e w' => e = .returned (.bool b) ∧ Kp w w' :=
 talk_same T zR b hO hb w (k' := 0) (mn' := 0) (mx' := 0) (m' := 0) (t' := ⟨0, 0, 0, 0⟩) (ad' := none) (l' := 0) (c' := 0) h (zR_is w)
theorem print_ne (ere : Bool) (T : Rx) (S : ByteArray) (h : bs (printT ere T) = S) : wrtR ere T = !(decide (S.size = 0)) := by
 subst h
 rw [bs_size]
 unfold wrtR
 cases printT ere T <;> simp
theorem Rv.is.kp' {r : Rv} {w w' : World} {T : Rx} (h : r.is w T) (k : Kp w w') : r.is w' T := Pd.kp h k
theorem noRx_any (T : Rx) (hO : RxOk T) (r : Rv) (w : World) (h : r.is w T) : Calls Tryz.prog 109 #[r.v] w fun e w' => e = .returned (.bool (noR T)) ∧ Kp w w' := by
 obtain ⟨b, hb⟩ : ∃ b, noR T = b := ⟨_, rfl⟩
 rw [hb]
 have SM := hid (talk_no T b hO hb)
 have H := hid h
 clear hb h
 go_enter Tryz.func109, Tryz.ntmps109
 go_upto_region 1 with fail
 refine opq (fun W0 => W0.heap[w.heap.size]? = some r.o ∧ Kp w W0 ∧ r.is W0 T) ⟨by (first | exact last_at _ _ _ (by simp) | (refine bl_alloc ?_ _; first | exact last_at _ _ _ (by simp) | (refine bl_alloc ?_ _; first | exact last_at _ _ _ (by simp) | (refine bl_alloc ?_ _; exact last_at _ _ _ (by simp))))), by exact kpt, by exact H.out.kp kpt⟩ ?_
 rintro W0 ⟨xA0, xK0, xI0⟩
 have A0 := hidT xA0
 have K0 := hidT xK0
 have I0 := hidT xI0
 clear xA0 xK0 xI0
 obtain ⟨a0, a1, a2, a3, a4, a5, a6, a7, a8⟩ := cellsRv A0.out
 go_wp2_with fail
 clear a0 a1 a2 a3 a4 a5 a6 a7 a8
 refine (SM.out _ I0.out).mono ?_
 rintro e W1 ⟨rfl, k1⟩
 have K1 := hid (K0.out.trans k1)
 clear k1
 go_wp2_with fail
 go_ret
 exact ⟨rfl, K1.out⟩
theorem wrtR_any (T : Rx) (ere : Bool) (hO : RxOk T) (r : Rv) (w : World) (h : r.is w T) : Calls Tryz.prog 110 #[r.v, .bool ere] w fun e w' => e = .returned (.bool (wrtR ere T)) ∧ Kp w w' := by
 obtain ⟨S, hS⟩ : ∃ S, bs (printT ere T) = S := ⟨_, rfl⟩
 have SM := hid (talk_print T ere hO S hS)
 obtain ⟨z, hz⟩ : ∃ z, decide (S.size = 0) = z := ⟨_, rfl⟩
 rw [print_ne ere T S hS, hz]
 have H := hid h
 have EN := hid ((str_nil S).trans hz)
 clear hS h hz
 go_enter Tryz.func110, Tryz.ntmps110
 go_upto_region 1 with fail
 refine opq (fun W0 => W0.heap[w.heap.size]? = some r.o ∧ Kp w W0 ∧ r.is W0 T) ⟨by (first | exact last_at _ _ _ (by simp) | (refine bl_alloc ?_ _; first | exact last_at _ _ _ (by simp) | (refine bl_alloc ?_ _; first | exact last_at _ _ _ (by simp) | (refine bl_alloc ?_ _; exact last_at _ _ _ (by simp))))), by exact kpt, by exact H.out.kp kpt⟩ ?_
 rintro W0 ⟨xA0, xK0, xI0⟩
 have A0 := hidT xA0
 have K0 := hidT xK0
 have I0 := hidT xI0
 clear xA0 xK0 xI0
 obtain ⟨a0, a1, a2, a3, a4, a5, a6, a7, a8⟩ := cellsRv A0.out
 go_wp2_with fail
 clear a0 a1 a2 a3 a4 a5 a6 a7 a8
 refine (SM.out _ I0.out).mono ?_
 rintro e W1 ⟨rfl, k1⟩
 have K1 := hid (K0.out.trans k1)
 clear k1
 have en := EN.out
 cases z
 ·
  go_wp2_with fail
  go_ret
  exact ⟨rfl, K1.out⟩
 ·
  go_wp2_with fail
  go_ret
  exact ⟨rfl, K1.out⟩
theorem sameAddr_any (a b : Av) (A B : Rx) (hO : RxOk A) (w : World) (ha : a.r.is w A) (hb : b.r.is w B) : Calls Tryz.prog 57 #[a.v, b.v] w fun e w' => e = .returned (.bool (adEq a b A B)) ∧ Kp w w' := by
 obtain ⟨q, hq⟩ : ∃ q, sameR A B = q := ⟨_, rfl⟩
 obtain ⟨E, hE⟩ : ∃ E, adEq a b A B = E := ⟨_, rfl⟩
 rw [hE]
 have SM := hid (talk_same A B q hO hq)
 have HE : Hid ((decide (a.k = b.k) && decide (a.ln = b.ln) && q) = E) := by show _ = _; rw [← hE, ← hq]; rfl
 have HA := hid ha
 have HB := hid hb
 clear hq hE ha hb
 go_enter Tryz.func57, Tryz.ntmps57
 go_upto_region 1 with fail
 refine opq (fun W0 => W0.heap[w.heap.size]? = some a.o ∧ W0.heap[w.heap.size + 1]? = some b.o ∧ Kp w W0 ∧ a.r.is W0 A ∧ b.r.is W0 B) ⟨by (first | exact last_at _ _ _ (by simp) | (refine bl_alloc ?_ _; first | exact last_at _ _ _ (by simp) | (refine bl_alloc ?_ _; first | exact last_at _ _ _ (by simp) | (refine bl_alloc ?_ _; exact last_at _ _ _ (by simp))))), by (first | exact last_at _ _ _ (by simp) | (refine bl_alloc ?_ _; first | exact last_at _ _ _ (by simp) | (refine bl_alloc ?_ _; first | exact last_at _ _ _ (by simp) | (refine bl_alloc ?_ _; exact last_at _ _ _ (by simp))))), by exact kpt, by exact HA.out.kp kpt, by exact HB.out.kp kpt⟩ ?_
 rintro W0 ⟨xA0, xB0, xK0, xI0, xJ0⟩
 have A0 := hidT xA0
 have B0 := hidT xB0
 have K0 := hidT xK0
 have I0 := hidT xI0
 have J0 := hidT xJ0
 clear xA0 xB0 xK0 xI0 xJ0
 obtain ⟨a0, a1, a2, a3, a4, a5, a6, a7, a8, a9, a10⟩ := cellsAv A0.out
 obtain ⟨b0, b1, b2, b3, b4, b5, b6, b7, b8, b9, b10⟩ := cellsAv B0.out
 by_cases h1 : a.k = b.k
 ·
  have g1 : (a.k == b.k) = true := by simp [h1]
  have H1 := hid h1
  clear h1
  by_cases h2 : a.ln = b.ln
  ·
   have g2 : (a.ln == b.ln) = true := by simp [h2]
   have E2 : Hid (E = q) := by show _ = _; rw [← HE.out, decide_eq_true H1.out, decide_eq_true h2]; rfl
   clear h2
   go_wp2_with fail
   clear a0 a1 a2 a3 a4 a5 a6 a7 a8 a9 a10
   clear b0 b1 b2 b3 b4 b5 b6 b7 b8 b9 b10
   refine (SM.out _ I0.out J0.out).mono ?_
   rintro e W1 ⟨rfl, k1⟩
   have K1 := hid (K0.out.trans k1)
   clear k1
   go_wp2_with fail
   go_ret
   exact ⟨by rw [E2.out]; rfl, K1.out⟩
  ·
   have g2 : (a.ln == b.ln) = false := by simp [h2]
   have E2 : Hid (E = false) := by show _ = _; rw [← HE.out, decide_eq_false h2, Bool.and_false]; rfl
   clear h2
   go_wp2_with fail
   go_ret
   exact ⟨by rw [E2.out]; rfl, K0.out⟩
 ·
  have g1 : (a.k == b.k) = false := by simp [h1]
  have E2 : Hid (E = false) := by show _ = _; rw [← HE.out, decide_eq_false h1]; rfl
  clear h1
  go_wp2_with fail
  go_ret
  exact ⟨by rw [E2.out]; rfl, K0.out⟩
theorem addrRight_any (a : Av) (A : Rx) (ere : Bool) (hO : RxOk A) (w : World) (ha : a.r.is w A) : Calls Tryz.prog 75 #[a.v, .bool ere] w fun e w' => e = .returned (.bool (adR a.k a.ln A ere)) ∧ Kp w w' := by
 obtain ⟨k, ln, r⟩ := a
 obtain ⟨E, hE⟩ : ∃ E, adR k ln A ere = E := ⟨_, rfl⟩
 show Calls Tryz.prog 75 #[Av.v ⟨k, ln, r⟩, .bool ere] w fun e w' => e = .returned (.bool (adR k ln A ere)) ∧ Kp w w'
 rw [hE]
 obtain ⟨q, hq⟩ : ∃ q, noR A = q := ⟨_, rfl⟩
 obtain ⟨p, hp⟩ : ∃ p, wrtR ere A = p := ⟨_, rfl⟩
 have NR : Hid (∀ w, r.is w A → Calls Tryz.prog 109 #[r.v] w fun e w' => e = .returned (.bool q) ∧ Kp w w') := fun w h => by rw [← hq]; exact noRx_any A hO r w h
 have WR : Hid (∀ w, r.is w A → Calls Tryz.prog 110 #[r.v, .bool ere] w fun e w' => e = .returned (.bool p) ∧ Kp w w') := fun w h => by rw [← hp]; exact wrtR_any A ere hO r w h
 unfold adR at hE
 rw [hq, hp] at hE
 have HE := hid hE
 have HA : Hid (r.is w A) := ha
 clear hE hq hp ha
 go_enter Tryz.func75, Tryz.ntmps75
 go_upto_region 1 with fail
 by_cases h0 : k = 0
 ·
  subst h0
  by_cases h2 : ln = 0
  ·
   subst h2
   refine opq (fun W0 => W0.heap[w.heap.size]? = some (Av.o ⟨0, 0, r⟩) ∧ Kp w W0 ∧ r.is W0 A) ⟨by (first | exact last_at _ _ _ (by simp) | (refine bl_alloc ?_ _; first | exact last_at _ _ _ (by simp) | (refine bl_alloc ?_ _; first | exact last_at _ _ _ (by simp) | (refine bl_alloc ?_ _; exact last_at _ _ _ (by simp))))), by exact kpt, by exact HA.out.kp kpt⟩ ?_
   rintro W0 ⟨xA0, xK0, xI0⟩
   have A0 := hidT xA0
   have K0 := hidT xK0
   have I0 := hidT xI0
   clear xA0 xK0 xI0
   obtain ⟨a0, a1, a2, a3, a4, a5, a6, a7, a8, a9, a10⟩ := cellsAv A0.out
   have E2 : Hid (E = q) := by show _ = _; rw [← HE.out]; simp
   go_wp2_with fail
   clear a0 a1 a2 a3 a4 a5 a6 a7 a8 a9 a10
   refine (NR.out _ I0.out).mono ?_
   rintro e W1 ⟨rfl, k1⟩
   have K1 := hid (K0.out.trans k1)
   clear k1
   go_wp2_with fail
   go_ret
   exact ⟨by rw [E2.out]; rfl, K1.out⟩
  ·
   have g2 : (ln == 0) = false := by simp [h2]
   refine opq (fun W0 => W0.heap[w.heap.size]? = some (Av.o ⟨0, ln, r⟩) ∧ Kp w W0 ∧ r.is W0 A) ⟨by (first | exact last_at _ _ _ (by simp) | (refine bl_alloc ?_ _; first | exact last_at _ _ _ (by simp) | (refine bl_alloc ?_ _; first | exact last_at _ _ _ (by simp) | (refine bl_alloc ?_ _; exact last_at _ _ _ (by simp))))), by exact kpt, by exact HA.out.kp kpt⟩ ?_
   rintro W0 ⟨xA0, xK0, xI0⟩
   have A0 := hidT xA0
   have K0 := hidT xK0
   have I0 := hidT xI0
   clear xA0 xK0 xI0
   obtain ⟨a0, a1, a2, a3, a4, a5, a6, a7, a8, a9, a10⟩ := cellsAv A0.out
   have E2 : Hid (E = false) := by show _ = _; rw [← HE.out]; simp [h2]
   go_wp2_with fail
   go_ret
   exact ⟨by rw [E2.out]; rfl, K0.out⟩
 have n0 : (k == 0) = false := by simp [h0]
 by_cases h2 : k = 2
 ·
  subst h2
  by_cases h2 : ln = 0
  ·
   subst h2
   refine opq (fun W0 => W0.heap[w.heap.size]? = some (Av.o ⟨2, 0, r⟩) ∧ Kp w W0 ∧ r.is W0 A) ⟨by (first | exact last_at _ _ _ (by simp) | (refine bl_alloc ?_ _; first | exact last_at _ _ _ (by simp) | (refine bl_alloc ?_ _; first | exact last_at _ _ _ (by simp) | (refine bl_alloc ?_ _; exact last_at _ _ _ (by simp))))), by exact kpt, by exact HA.out.kp kpt⟩ ?_
   rintro W0 ⟨xA0, xK0, xI0⟩
   have A0 := hidT xA0
   have K0 := hidT xK0
   have I0 := hidT xI0
   clear xA0 xK0 xI0
   obtain ⟨a0, a1, a2, a3, a4, a5, a6, a7, a8, a9, a10⟩ := cellsAv A0.out
   have E2 : Hid (E = q) := by show _ = _; rw [← HE.out]; simp
   go_wp2_with fail
   clear a0 a1 a2 a3 a4 a5 a6 a7 a8 a9 a10
   refine (NR.out _ I0.out).mono ?_
   rintro e W1 ⟨rfl, k1⟩
   have K1 := hid (K0.out.trans k1)
   clear k1
   go_wp2_with fail
   go_ret
   exact ⟨by rw [E2.out]; rfl, K1.out⟩
  ·
   have g2 : (ln == 0) = false := by simp [h2]
   refine opq (fun W0 => W0.heap[w.heap.size]? = some (Av.o ⟨2, ln, r⟩) ∧ Kp w W0 ∧ r.is W0 A) ⟨by (first | exact last_at _ _ _ (by simp) | (refine bl_alloc ?_ _; first | exact last_at _ _ _ (by simp) | (refine bl_alloc ?_ _; first | exact last_at _ _ _ (by simp) | (refine bl_alloc ?_ _; exact last_at _ _ _ (by simp))))), by exact kpt, by exact HA.out.kp kpt⟩ ?_
   rintro W0 ⟨xA0, xK0, xI0⟩
   have A0 := hidT xA0
   have K0 := hidT xK0
   have I0 := hidT xI0
   clear xA0 xK0 xI0
   obtain ⟨a0, a1, a2, a3, a4, a5, a6, a7, a8, a9, a10⟩ := cellsAv A0.out
   have E2 : Hid (E = false) := by show _ = _; rw [← HE.out]; simp [h2]
   go_wp2_with fail
   go_ret
   exact ⟨by rw [E2.out]; rfl, K0.out⟩
 have n2 : (k == 2) = false := by simp [h2]
 by_cases h1 : k = 1
 ·
  subst h1
  by_cases h3 : 1 ≤ ln
  ·
   by_cases h4 : ln ≤ 9999
   ·
    refine opq (fun W0 => W0.heap[w.heap.size]? = some (Av.o ⟨1, ln, r⟩) ∧ Kp w W0 ∧ r.is W0 A) ⟨by (first | exact last_at _ _ _ (by simp) | (refine bl_alloc ?_ _; first | exact last_at _ _ _ (by simp) | (refine bl_alloc ?_ _; first | exact last_at _ _ _ (by simp) | (refine bl_alloc ?_ _; exact last_at _ _ _ (by simp))))), by exact kpt, by exact HA.out.kp kpt⟩ ?_
    rintro W0 ⟨xA0, xK0, xI0⟩
    have A0 := hidT xA0
    have K0 := hidT xK0
    have I0 := hidT xI0
    clear xA0 xK0 xI0
    obtain ⟨a0, a1, a2, a3, a4, a5, a6, a7, a8, a9, a10⟩ := cellsAv A0.out
    have E2 : Hid (E = q) := by show _ = _; rw [← HE.out]; simp [h3, h4]
    go_wp2_with fail
    clear a0 a1 a2 a3 a4 a5 a6 a7 a8 a9 a10
    refine (NR.out _ I0.out).mono ?_
    rintro e W1 ⟨rfl, k1⟩
    have K1 := hid (K0.out.trans k1)
    clear k1
    go_wp2_with fail
    go_ret
    exact ⟨by rw [E2.out]; rfl, K1.out⟩
   ·
    refine opq (fun W0 => W0.heap[w.heap.size]? = some (Av.o ⟨1, ln, r⟩) ∧ Kp w W0) ⟨by (first | exact last_at _ _ _ (by simp) | (refine bl_alloc ?_ _; first | exact last_at _ _ _ (by simp) | (refine bl_alloc ?_ _; first | exact last_at _ _ _ (by simp) | (refine bl_alloc ?_ _; exact last_at _ _ _ (by simp))))), by exact kpt⟩ ?_
    rintro W0 ⟨xA0, xK0⟩
    have A0 := hidT xA0
    have K0 := hidT xK0
    clear xA0 xK0
    obtain ⟨a0, a1, a2, a3, a4, a5, a6, a7, a8, a9, a10⟩ := cellsAv A0.out
    have E2 : Hid (E = false) := by show _ = _; rw [← HE.out]; simp [h4]
    go_wp2_with fail
    go_ret
    exact ⟨by rw [E2.out]; rfl, K0.out⟩
  ·
   refine opq (fun W0 => W0.heap[w.heap.size]? = some (Av.o ⟨1, ln, r⟩) ∧ Kp w W0) ⟨by (first | exact last_at _ _ _ (by simp) | (refine bl_alloc ?_ _; first | exact last_at _ _ _ (by simp) | (refine bl_alloc ?_ _; first | exact last_at _ _ _ (by simp) | (refine bl_alloc ?_ _; exact last_at _ _ _ (by simp))))), by exact kpt⟩ ?_
   rintro W0 ⟨xA0, xK0⟩
   have A0 := hidT xA0
   have K0 := hidT xK0
   clear xA0 xK0
   obtain ⟨a0, a1, a2, a3, a4, a5, a6, a7, a8, a9, a10⟩ := cellsAv A0.out
   have E2 : Hid (E = false) := by show _ = _; rw [← HE.out]; simp [h3]
   go_wp2_with fail
   go_ret
   exact ⟨by rw [E2.out]; rfl, K0.out⟩
 have n1 : (k == 1) = false := by simp [h1]
 by_cases h3 : k = 3
 ·
  subst h3
  by_cases h2 : ln = 0
  ·
   subst h2
   refine opq (fun W0 => W0.heap[w.heap.size]? = some (Av.o ⟨3, 0, r⟩) ∧ Kp w W0 ∧ r.is W0 A) ⟨by (first | exact last_at _ _ _ (by simp) | (refine bl_alloc ?_ _; first | exact last_at _ _ _ (by simp) | (refine bl_alloc ?_ _; first | exact last_at _ _ _ (by simp) | (refine bl_alloc ?_ _; exact last_at _ _ _ (by simp))))), by exact kpt, by exact HA.out.kp kpt⟩ ?_
   rintro W0 ⟨xA0, xK0, xI0⟩
   have A0 := hidT xA0
   have K0 := hidT xK0
   have I0 := hidT xI0
   clear xA0 xK0 xI0
   obtain ⟨a0, a1, a2, a3, a4, a5, a6, a7, a8, a9, a10⟩ := cellsAv A0.out
   have E2 : Hid (E = p) := by show _ = _; rw [← HE.out]; simp
   go_wp2_with fail
   clear a0 a1 a2 a3 a4 a5 a6 a7 a8 a9 a10
   refine (WR.out _ I0.out).mono ?_
   rintro e W1 ⟨rfl, k1⟩
   have K1 := hid (K0.out.trans k1)
   clear k1
   go_wp2_with fail
   go_ret
   exact ⟨by rw [E2.out]; rfl, K1.out⟩
  ·
   have g2 : (ln == 0) = false := by simp [h2]
   refine opq (fun W0 => W0.heap[w.heap.size]? = some (Av.o ⟨3, ln, r⟩) ∧ Kp w W0 ∧ r.is W0 A) ⟨by (first | exact last_at _ _ _ (by simp) | (refine bl_alloc ?_ _; first | exact last_at _ _ _ (by simp) | (refine bl_alloc ?_ _; first | exact last_at _ _ _ (by simp) | (refine bl_alloc ?_ _; exact last_at _ _ _ (by simp))))), by exact kpt, by exact HA.out.kp kpt⟩ ?_
   rintro W0 ⟨xA0, xK0, xI0⟩
   have A0 := hidT xA0
   have K0 := hidT xK0
   have I0 := hidT xI0
   clear xA0 xK0 xI0
   obtain ⟨a0, a1, a2, a3, a4, a5, a6, a7, a8, a9, a10⟩ := cellsAv A0.out
   have E2 : Hid (E = false) := by show _ = _; rw [← HE.out]; simp [h2]
   go_wp2_with fail
   go_ret
   exact ⟨by rw [E2.out]; rfl, K0.out⟩
 have n3 : (k == 3) = false := by simp [h3]
 refine opq (fun W0 => W0.heap[w.heap.size]? = some (Av.o ⟨k, ln, r⟩) ∧ Kp w W0) ⟨by (first | exact last_at _ _ _ (by simp) | (refine bl_alloc ?_ _; first | exact last_at _ _ _ (by simp) | (refine bl_alloc ?_ _; first | exact last_at _ _ _ (by simp) | (refine bl_alloc ?_ _; exact last_at _ _ _ (by simp))))), by exact kpt⟩ ?_
 rintro W0 ⟨xA0, xK0⟩
 have A0 := hidT xA0
 have K0 := hidT xK0
 clear xA0 xK0
 obtain ⟨a0, a1, a2, a3, a4, a5, a6, a7, a8, a9, a10⟩ := cellsAv A0.out
 have E2 : Hid (E = false) := by show _ = _; rw [← HE.out]; simp [h0, h2, h1, h3]
 go_wp2_with fail
 go_ret
 exact ⟨by rw [E2.out]; rfl, K0.out⟩
theorem wp_load_cv {op : Oper} {a : Act} {W : World} {K : Act → World → Prop} {Q : Exit → Act → World → Prop} {x : Operand} (ho : op.op = .load 37 x) {B : Nat} (hx : a.eval x = .pointer (some ⟨B, 0, none⟩)) (c : Cv) (h : W.heap[B]? = some c.o) (hk : K (a.put op.dst c.v) W) : op.wp Tryz.prog a W K Q :=
 wp_load_mid 37 x ho B 0 hx c.cs.toList _ (fun j v hv => by rw [Nat.zero_add]; exact bl_cell h j v (by rw [← Array.getElem?_toList]; exact hv)) Tryz.underlying37 rfl (by kernel_rfl) hk
theorem wpList_load_cv {ops : Array Oper} {rest : List Oper} {op : Oper} {a : Act} {W : World} {Q : Exit → Act → World → Prop} {x : Operand} (ho : op.op = .load 37 x) {B : Nat} (hx : a.eval x = .pointer (some ⟨B, 0, none⟩)) (c : Cv) (h : W.heap[B]? = some c.o)
  (hw : Region.wanted op (yielded ops a.tmps) = true) (hk : wpList Tryz.prog ops Q rest (a.put op.dst c.v) W) : wpList Tryz.prog ops Q (op :: rest) a W :=
 wpList_step fun K hK => by
  rw [if_pos hw]
  exact wp_load_cv ho hx c h (hK _ _ hk)
def putL : Array Value → Nat → List Value → Array Value
 | cs, _, [] => cs
 | cs, o, v :: r => putL (cs.setIfInBounds o v) (o + 1) r
theorem bl_setCells {B : Nat} {t : TypeId} : ∀ (vs : List Value) (o : Nat) (w : World) (cs : Array Value), w.heap[B]? = some (.cells cs t) → (w.setCells B o vs).heap[B]? = some (.cells (putL cs o vs) t)
 | [], _, _, _, h => h
 | v :: r, o, _, _, h => bl_setCells r (o + 1) _ _ (bl_put h v)
theorem ks_setCells {B : Nat} {a : World} : ∀ (vs : List Value) (o : Nat) (w : World), Ks B a w → Ks B a (w.setCells B o vs)
 | [], _, _, h => h
 | v :: r, o, _, h => ks_setCells r (o + 1) _ (h.set o v)
theorem putL_size : ∀ (vs : List Value) (o : Nat) (cs : Array Value), (putL cs o vs).size = cs.size
 | [], _, _ => rfl
 | v :: r, o, cs => by rw [putL, putL_size r]; simp
theorem putL_get : ∀ (vs : List Value) (o : Nat) (cs : Array Value) (j : Nat), j < cs.size → (putL cs o vs)[j]? = if j < o then cs[j]? else if j < o + vs.length then vs[j - o]? else cs[j]?
 | [], o, cs, j, h => by
  rw [putL]
  split
  ·
   rfl
  ·
   rw [if_neg (by simp; omega)]
 | v :: r, o, cs, j, h => by
  rw [putL, putL_get r (o + 1) _ j (by simpa using h)]
  by_cases h1 : j < o
  ·
   rw [if_pos (by omega), if_pos h1, Array.getElem?_setIfInBounds_ne (by omega)]
  ·
   by_cases h2 : j = o
   ·
    subst h2
    rw [if_pos (by omega), if_neg h1, if_pos (by simp)]
    simp [h]
   ·
    rw [if_neg (by omega), if_neg h1]
    by_cases h3 : j < o + 1 + r.length
    ·
     rw [if_pos h3, if_pos (by simp; omega)]
     obtain ⟨k, rfl⟩ : ∃ k, j = o + 1 + k := ⟨j - (o + 1), by omega⟩
     rw [show o + 1 + k - o = k + 1 by omega, show o + 1 + k - (o + 1) = k by omega]
     rfl
    ·
     rw [if_neg h3, if_neg (by simp; omega), Array.getElem?_setIfInBounds_ne (by omega)]
theorem putL_all (cs vs : Array Value) (h : cs.size = vs.size) : putL cs 0 vs.toList = vs := by
 apply Array.ext_getElem?
 intro j
 by_cases hj : j < cs.size
 ·
  rw [putL_get vs.toList 0 cs j hj, if_neg (by omega), if_pos (by rw [Array.length_toList]; omega)]
  simp
 ·
  rw [Array.getElem?_eq_none (by rw [putL_size]; omega), Array.getElem?_eq_none (by omega)]
theorem there_of {W : World} {B : Nat} {cs : Array Value} {t : TypeId} (h : W.heap[B]? = some (.cells cs t)) (o n : Nat) (hn : o + n ≤ cs.size) : W.there B o n := fun j hj =>
 ⟨by rw [bl_cell h (o + j) _ (Array.getElem?_eq_getElem (by omega))]; rfl, bl_frozen h _⟩
theorem one_cv (c : Cv) : c.cs.all (·.oneCell') = true := by
 rw [← Array.all_toList]
 rfl
theorem wpList_store_cv {ops : Array Oper} {rest : List Oper} {op : Oper} {a : Act} {W : World} {Q : Exit → Act → World → Prop} {x y : Operand} (hgd : op.guard = none) (ho : op.op = .store 37 x y) {B : Nat} (hx : a.eval x = .pointer (some ⟨B, 0, none⟩))
  (c : Cv) (hy : a.eval y = c.v) {cs : Array Value} (h : W.heap[B]? = some (.cells cs 37)) (hs : cs.size = 40)
  (hk : ∀ w', w'.heap[B]? = some c.o → Ks B W w' → wpList Tryz.prog ops Q rest (a.put op.dst undef) w') : wpList Tryz.prog ops Q (op :: rest) a W := by
 refine wpList_store_mid hgd 37 x y ho B 0 c.cs hx hy (there_of h 0 _ (by rw [hs]; show 0 + 40 ≤ 40; omega)) (by kernel_rfl) (one_cv c) (hk _ ?_ (ks_setCells _ 0 _ (Ks.refl _ _)))
 have := bl_setCells c.cs.toList 0 W cs h
 rw [putL_all cs c.cs hs] at this
 exact this
theorem wpList_store_blk {ops : Array Oper} {rest : List Oper} {op : Oper} {a : Act} {W : World} {Q : Exit → Act → World → Prop} {x y : Operand} {ty : TypeId} (hgd : op.guard = none) (ho : op.op = .store ty x y) {B o : Nat} (hx : a.eval x = .pointer (some ⟨B, o, none⟩))
  (vs : List Value) (hy : a.eval y = .agg vs.toArray) {cs : Array Value} {t : TypeId} (h : W.heap[B]? = some (.cells cs t)) (hs : o + vs.length ≤ cs.size) (hi : (Tryz.prog.info? ty).map (·.size) = some vs.length) (h1 : vs.all (·.oneCell') = true)
  (hk : ∀ w', w'.heap[B]? = some (.cells (putL cs o vs) t) → Ks B W w' → wpList Tryz.prog ops Q rest (a.put op.dst undef) w') : wpList Tryz.prog ops Q (op :: rest) a W :=
 wpList_store_mid hgd ty x y ho B o vs.toArray hx hy (there_of h o _ (by simpa using hs)) (by simpa using hi) (by simpa using h1) (hk _ (bl_setCells vs o W cs h) (ks_setCells vs o _ (Ks.refl _ _)))
theorem run_storeVar_one {P : Program} (w : World) (b o : Nat) (ty : TypeId) (v : Value) (hv : v.cells = #[v]) (h1 : v.oneCell' = true) (ht : w.there b o 1) (hi : (P.info? ty).map (·.size) = some 1) :
  (storeVar ty ⟨b, o, none⟩ v).run P w = .ok () (w.setCell ⟨b, o, none⟩ v) := by
 have := run_storeCells_cells (P := P) b o [v] 0 w (fun j hj => by simpa using (ht j (by simpa using hj)).1) (fun j hj => by simpa using (ht j (by simpa using hj)).2) (fun u hu => by simp at hu; subst hu; exact h1)
 cases hq : P.info? ty with
 | none => simp [hq] at hi
 | some i =>
  have hs : 1 = i.size := by simp [hq] at hi; omega
  simp only [Nat.add_zero] at this
  simp [storeVar, sizeOf, typeInfo, hq, hv, ← hs, this, World.setCells]
theorem wpList_store_cell {ops : Array Oper} {rest : List Oper} {op : Oper} {a : Act} {W : World} {Q : Exit → Act → World → Prop} {x y : Operand} {ty : TypeId} (hgd : op.guard = none) (ho : op.op = .store ty x y) {B o : Nat} (hx : a.eval x = .pointer (some ⟨B, o, none⟩))
  {v : Value} (hy : a.eval y = v) {cs : Array Value} {t : TypeId} (h : W.heap[B]? = some (.cells cs t)) (hs : o < cs.size) (hv : v.cells = #[v]) (h1 : v.oneCell' = true) (hi : (Tryz.prog.info? ty).map (·.size) = some 1)
  (hk : ∀ w', w'.heap[B]? = some (.cells (cs.setIfInBounds o v) t) → Ks B W w' → wpList Tryz.prog ops Q rest (a.put op.dst undef) w') : wpList Tryz.prog ops Q (op :: rest) a W := by
 refine wpList_plain hgd fun K hK => ?_
 unfold Oper.wp execOp
 simp only [ho, hx, hy, Instr.storeAt, Instr.sureAddr, Sem.run_bind, Sem.run_pure, Result.andThen_ok, run_storeVar_one W B o ty v hv h1 (there_of h o 1 hs) hi]
 exact hK _ _ (hk _ (bl_put h v) ((Ks.refl _ _).set o v))
abbrev z11 : List Value := [.int .i64 0, .int .i64 0, .int .i64 0, .int .i64 0, .int .i64 0, .int .i64 0, .int .u64 0, .int .u64 0, .int .u64 0, .int .u64 0, .slice none 0 0]
abbrev z9 : List Value := [.int .i64 0, .int .i64 0, .int .i64 0, .int .i64 0, .int .u64 0, .int .u64 0, .int .u64 0, .int .u64 0, .slice none 0 0]
end Go.Proofs.YtigdmebijbaofaaGreatDoor
