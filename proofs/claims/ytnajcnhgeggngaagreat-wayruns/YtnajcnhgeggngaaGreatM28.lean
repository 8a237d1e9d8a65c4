/-
  Texts of this claim: Next.
-/
import Derived.Test.YtnajcnhgeggngaaGreatM26
import Derived.Test.YtnajcnhgeggngaaGreatM27
import Derived.Deep.CutBlock

/-! ### Next -/

namespace Go.Proofs.YtnajcnhgeggngaaGreat.Way
set_option maxHeartbeats 2000000
set_option maxRecDepth 100000
open Go.RowKit Go.Proofs.YtnajcnhgeggngaaGreat Go.Maps

theorem pick_succ {all : List Sp} {x y : Sp} {ps : List Nat} {q j : Nat} (hj : ps[q]? = some j) (hy : all[j]? = some y) : pickL all x (ps.take (q + 1)) = pickL all x (ps.take q) ++ [y.behind x] := by
 obtain ⟨hl, he⟩ := List.getElem?_eq_some_iff.1 hj
 unfold pickL
 rw [List.take_succ_eq_append_getElem hl, List.filterMap_append, he]
 simp [hy]
theorem pick_len (all : List Sp) (x : Sp) (ps : List Nat) : (pickL all x ps).length ≤ ps.length := List.length_filterMap_le _ _
structure NextD (s : ByteArray) (bol : Bool) (P : Nat) (M : Nat → Option Memo) (O : Nat → Prop) (base R B h : Nat) (xs : List Sp) (lv : Value) (pl : Nat) (sn : Option Nat) (r : List Sp × List Turn) (w : World) (e : Ending) (w' : World) : Prop where
 ex : ∃ v, e = .returned v ∧ SpL w' (okB M (oRep O R B lv sn)) v r.1 ∧ RepW s bol P M O base R B h xs r.2 lv pl sn w' ∧ Kx (fun b => M b ≠ none ∨ b = B) w w'
abbrev SortS (s : ByteArray) (bol : Bool) (M : Nat → Option Memo) (p : Pt) : Prop := ∀ (O : Nat → Prop) (x : Sp) (w : World), x.Ok → x.In s.size → (∀ b, O b → b < w.heap.size) → PtAt w (okB M O) p → MemOk M O w →
  Calls Tryz.prog 134 #[wkv s bol, ptv p.P, spv x] w fun e w' => SortD p.hd (ways s.data.toList bol p x) (okB M O) (fun w' => Km M w w' ∧ MemOk M O w') e w'
abbrev LeafS (s : ByteArray) (bol : Bool) (M : Nat → Option Memo) (p : Pt) : Prop := ∀ (O : Nat → Prop) (x : Sp) (w : World), x.Ok → x.In s.size → PtAt w (okB M O) p →
  Calls Tryz.prog 53 #[wkv s bol, ptv p.P, spv x] w fun e w' => WaysD (ways s.data.toList bol p x) (fun b => w.heap.size ≤ b) (Kp w) e w'
theorem RepW.lt {s : ByteArray} {bol : Bool} {P : Nat} {M : Nat → Option Memo} {O : Nat → Prop} {base R B h : Nat} {xs : List Sp} {S : List Turn} {lv : Value} {pl : Nat} {sn : Option Nat} {w : World} (q : RepW s bol P M O base R B h xs S lv pl sn w) (hO : ∀ b, O b → b < w.heap.size) : ∀ b, oRep O R B lv sn b → b < w.heap.size := by
 rintro b ((e | e | e | e) | e)
 ·
  exact hO b e
 ·
  rw [e]; exact bl_lt q.b
 ·
  exact (q.i.row.block b e).2
 ·
  exact (q.i.set b e).2.1.lt
 ·
  rw [e]; exact q.t.lt
theorem next_any (s : ByteArray) (bol : Bool) (P : Nat) (M : Nat → Option Memo) (O : Nat → Prop) (base R B h pl : Nat) (xs : List Sp) (S : List Turn) (lv : Value) (sn : Option Nat) (low high nn : Int) (t : W4) (kn so : Option Nat) (rdp st : Nat) (kid : Pt) (ks : List Pt) (hrd : rdp < 8) (hkr : kid.rd < 8) (HS : WSaid s bol M kid) (HSo : leafK kid.k = false → SortS s bol M kid) (HLf : leafK kid.k = true → LeafS s bol M kid) (n : Int) (hn0 : 0 ≤ n) (hn1 : n ≤ 100) (hlow0 : 0 ≤ low) (x : Sp) (hx : x.Ok) (hN : x.In s.size) (w : World) (hO : ∀ b, O b → b < w.heap.size) (hW : RepW s bol P M O base R B h xs S lv pl sn w) (hP : PtAt w (okB M (oRep O R B lv sn)) (.mk 4 low high nn t P kn so rdp st h (kid :: ks))) :
  Calls Tryz.prog 128 #[.pointer (some ⟨R, 0, none⟩), .int .i64 n, spv x] w fun e w' => NextD s bol P M O base R B h xs lv pl sn (nextP (leafK kid.k) (ways s.data.toList bol kid) kid.rd kid.hd rdp low high n x S) w e w' := by
 unfold PtAt at hP
 obtain ⟨hok, ⟨ad, c, hblk, hcap, hat⟩, hpts⟩ := hP
 unfold PtsAt at hpts
 obtain ⟨L, hL⟩ : ∃ L, (kid :: ks).length = L := ⟨_, rfl⟩
 have hL0 : 0 < L := by rw [← hL]; simp
 obtain ⟨bb, rfl, hbok, hbl, hce⟩ := hat (by simp)
 rw [hL] at hblk hcap
 obtain ⟨kk, klow, khigh, knn, kt, kkn, kso, kkids, kad, kc, hkid, hkok, hkblk, -, -⟩ := hpts.1.form
 obtain ⟨kkv, hkv⟩ : ∃ kkv, Value.slice kad kkids.length kc = kkv := ⟨_, rfl⟩
 rw [hkv] at hkblk
 have hkk : kid.k = kk := by rw [hkid]; rfl
 subst hkk
 have CB := hid (hce 0 kid rfl)
 have HP := hid hblk
 have HKB := hid hkblk
 have HX := hid hx
 have HN := hid hN
 have HO := hid hO
 have HW := hid hW
 have HMB := hid (show ¬ M bb ≠ none from fun e => e hbok.2)
 have HMP := hid (show ¬ M P ≠ none from fun e => e hok.2)
 have HMK := hid (show ¬ M kid.P ≠ none from fun e => e hkok.2)
 have HMR := hid (show ¬ M R ≠ none from fun e => e (hW.own R (Or.inl (Or.inl rfl))))
 have HPB := hid (show P ≠ B from fun e => hok.1 (Or.inr e))
 have HBL := hid hbl
 have HGD := hid HS.good
 have HFEW := hid (HS.few (x.only kid.rd) (hx.only kid.rd) (hN.only kid.rd))
 have HRD := hid hrd
 have OA := hid (fun W => only_any x kid.rd hkr W)
 have HMX := hid (show ¬ M w.heap.size ≠ none from fun e => e (hW.m.lt (Nat.le_refl _)))
 have LC0 := hid (fun (hl : leafK kid.k = true) (W : World) (k0 : Kp w W) => HLf hl (oRep O R B lv sn) x W hx hN (hpts.1.kp k0))
 have SC0 := hid (fun (hl : leafK kid.k = false) (W : World) (k0 : Kp w W) => HSo hl (oRep O R B lv sn) (x.only kid.rd) W (hx.only kid.rd) (hN.only kid.rd) (fun b hb => Nat.lt_of_lt_of_le (hW.lt hO b hb) k0.size) (hpts.1.kp k0) (hW.m.keep (S := fun _ => False) (Kp.kx k0) (fun _ _ e => e.elim) (fun _ _ e => e) hW.m.own))
 have HLE := hid (leaf_any kid.k klow khigh knn kt kkv kid.rd kid.st kid.hd kkn kso kid.P)
 obtain ⟨kf, hkf⟩ : ∃ kf, leafK kid.k = kf := ⟨_, rfl⟩
 rw [hkf] at HLE LC0 SC0 ⊢
 obtain ⟨n', hn'⟩ : ∃ n', (if high < 0 then min n low else n) = n' := ⟨_, rfl⟩
 have HN' := hid hn'
 have HNR := hid (show 0 ≤ n' ∧ n' ≤ 100 from by rw [← hn']; split <;> omega)
 have HNE : Hid (n = high → nextP kf (ways s.data.toList bol kid) kid.rd kid.hd rdp low high n x S = ([], S)) := fun e => by unfold nextP; rw [if_pos e]
 have HNL : Hid (n ≠ high → kf = true → nextP kf (ways s.data.toList bol kid) kid.rd kid.hd rdp low high n x S = (ways s.data.toList bol kid x, S)) := fun e1 e2 => by unfold nextP; rw [if_neg e1, if_pos e2]
 have HNS : Hid (n ≠ high → kf = false → nextP kf (ways s.data.toList bol kid) kid.rd kid.hd rdp low high n x S = (pickL (ways s.data.toList bol kid (x.only kid.rd)) x (unbL kid.hd (ways s.data.toList bol kid (x.only kid.rd)) (newCls rdp (ways s.data.toList bol kid (x.only kid.rd)) kid.hd n' x S).1), (newCls rdp (ways s.data.toList bol kid (x.only kid.rd)) kid.hd n' x S).2)) := fun e1 e2 => by unfold nextP; rw [if_neg e1, if_neg (by rw [e2]; decide), pick_all, hn']
 obtain ⟨NP, hNP⟩ : ∃ NP, nextP kf (ways s.data.toList bol kid) kid.rd kid.hd rdp low high n x S = NP := ⟨_, rfl⟩
 rw [hNP] at HNE HNL HNS ⊢
 clear hL hce hblk hkblk hx hN hO hW hok hbok hkok hbl hrd hkr HSo HLf HS hpts hat hkid hkv hkf hn' hNP hn0 hn1
 go_enter Tryz.func128, Tryz.ntmps128
 go_upto_region 1 with fail
 refine opq (fun W0 => W0.heap[w.heap.size]? = some (spo x) ∧ Kp w W0) ⟨by exact last_of _ _, by exact kpt⟩ ?_
 rintro W0 ⟨xX0, xK0⟩
 have X0 := hid xX0
 have K0 := hid xK0
 clear xX0 xK0
 have RW0 := hid (HW.out.kp K0.out)
 have R0 := hid (RW0.out.b)
 have P0 := hid (bl_kp HP.out K0.out)
 have KB0 := hid (bl_kp HKB.out K0.out)
 have r2 := bl_cell (R0.out) 2 _ rfl
 have p1 := bl_cell (P0.out) 1 _ rfl
 have p2 := bl_cell (P0.out) 2 _ rfl
 have p8 := bl_cell (P0.out) 8 _ rfl
 have b0 : W0.cell? ⟨bb, 0, none⟩ = some (ptv kid.P) := (cell_same (K0.out.block bb HBL.out) 0).trans CB.out
 go_upto_block 0 with fail
 go_cut [1] (fun v wc => v = .int .i64 n' ∧ n ≠ high ∧ kf = false ∧ Kp W0 wc)
 case first =>
  by_cases hnh : n = high
  ·
   subst hnh
   have HNP := hid (HNE.out rfl)
   clear HNE HNL HNS
   go_wp2_with fail
   go_ret
   exact ⟨⟨_, rfl, by rw [HNP.out]; exact spl_nil _ _ _ _, by rw [HNP.out]; exact RW0.out.kp ((by repeat (first | exact Kp.refl _ | refine Kp.drew ?_ | refine Kp.drewN _ ?_))), Kp.kx (K0.out.trans (by repeat (first | exact Kp.refl _ | refine Kp.drew ?_ | refine Kp.drewN _ ?_)))⟩⟩
  have hnb : (n == high) = false := by simp [hnh]
  cases kf with
  | true =>
   have HNP := hid (HNL.out hnh rfl)
   have LC := hid (LC0.out rfl)
   clear HNE HNL HNS
   go_wp2_with fail
   refine (HLE.out _ KB0.out).mono ?_
   rintro e w1 ⟨rfl, hw⟩
   rw [hw]
   clear hw w1
   go_upto_region 5 with fail
   clear r2 p1 p2 p8 b0
   have Q0 : Kp W0 W0.drew := (Kp.refl _).drew
   have MK : Hid (∀ W, Kp W0 W → W.cell? ⟨R, 0, none⟩ = some (.string s) ∧ W.cell? ⟨R, 1, none⟩ = some (.bool bol) ∧ W.cell? ⟨w.heap.size, 0, none⟩ = some (.int .i8 x.a) ∧ W.cell? ⟨w.heap.size, 1, none⟩ = some (.int .i8 x.f0) ∧ W.cell? ⟨w.heap.size, 2, none⟩ = some (.int .i8 x.t0) ∧ W.cell? ⟨w.heap.size, 3, none⟩ = some (.int .i8 x.f1) ∧ W.cell? ⟨w.heap.size, 4, none⟩ = some (.int .i8 x.t1) ∧ W.cell? ⟨w.heap.size, 5, none⟩ = some (.int .i8 x.f2) ∧ W.cell? ⟨w.heap.size, 6, none⟩ = some (.int .i8 x.t2) ∧ Hid (Kp W0 W)) := fun W k => ⟨bl_cell (bl_kp R0.out k) 0 _ rfl, bl_cell (bl_kp R0.out k) 1 _ rfl, bl_cell (bl_kp X0.out k) 0 _ rfl, bl_cell (bl_kp X0.out k) 1 _ rfl, bl_cell (bl_kp X0.out k) 2 _ rfl, bl_cell (bl_kp X0.out k) 3 _ rfl, bl_cell (bl_kp X0.out k) 4 _ rfl, bl_cell (bl_kp X0.out k) 5 _ rfl, bl_cell (bl_kp X0.out k) 6 _ rfl, k⟩
   refine wp_region_noPanic ?_
   refine hdrew MK Q0 (fun hH => ?_)
   have KQ := Q0
   refine tk 0 (some 34) (Op.move (Operand.tmp 0)) 198 (v := ?v0a1) rfl ?h0a1 hH ?_
   case h0a1 => intro _ _; go_simp; try with_reducible rfl
   try simp only [ps]
   refine tk 1 (some 35) (Op.nilCheck (Operand.tmp 34)) 0 (v := ?v1a2) rfl ?h1a2 hH ?_
   case h1a2 => intro _ _; go_simp; try with_reducible rfl
   try simp only [ps]
   refine tk 2 (some 36) (Op.fieldAddr 182 (Operand.tmp 35) 0) 0 (v := ?v2a3) rfl ?h2a3 hH ?_
   case h2a3 => intro _ _; go_simp; try with_reducible rfl
   try simp only [ps]
   refine tk 3 (some 37) (Op.load 70 (Operand.tmp 36)) 70 (v := ?v3a4) rfl ?h3a4 hH ?_
   case h3a4 => intro _ _; go_simp; try with_reducible rfl
   try simp only [ps]
   refine tk 4 (some 38) (Op.move (Operand.tmp 7)) 71 (v := ?v4a5) rfl ?h4a5 hH ?_
   case h4a5 => intro _ _; go_simp; try with_reducible rfl
   try simp only [ps]
   refine tk 5 (some 39) (Op.load 83 (Operand.tmp 5)) 83 (v := ?v5a6) rfl ?h5a6 hH ?_
   case h5a6 => intro _ _; go_simp; try with_reducible rfl
   try simp only [ps]
   refine wpAnyH_ready (rs := [6]) (by kernel_rfl) (by simp) ?_
   refine AllReadyH.cons (o := { dst := some 40, op := Op.call { callee := Callee.value (Operand.func 53), args := #[Operand.tmp 37, Operand.tmp 38, Operand.tmp 39], argTypes := #[70, 71, 83] }, type := 68, pos := "repeat.go:46", after := #[{ on := 3, ground := Ground.data }, { on := 4, ground := Ground.data }, { on := 5, ground := Ground.data }], guard := none }) rfl (fun K hKq => ?_) AllReadyH.nil
   go_simp
   refine (LC.out _ (K0.out.trans KQ)).mono ?_
   rintro e y2 ⟨⟨v, rfl, hv, hk⟩⟩
   have HV := hid hv
   have HK2 := hid (KQ.trans hk)
   refine hKq.out _ _ (MK.out _ (KQ.trans hk)) (fun hN => ?_)
   clear hv hk
   clear hKq K hH KQ
   have hH := hN
   clear hN
   have KQ := hH.2.2.2.2.2.2.2.2.2.out
   try simp only [ps]
   refine tk 7 (some 6) (Op.assign (Operand.tmp 40)) 68 (v := ?v7a7) rfl ?h7a7 hH ?_
   case h7a7 => intro _ _; go_simp; try with_reducible rfl
   try simp only [ps]
   refine wpAnyH_done (by kernel_rfl) ?_ _
   refine NoPanic.normal ?_
   go_wp2_with fail
   go_ret
   exact ⟨⟨_, rfl, by rw [HNP.out]; exact HV.out.keep (Nat.le_refl _) (fun b hb _ => ⟨⟨fun o => by have := RW0.out.lt (fun b o => Nat.lt_of_lt_of_le (HO.out b o) K0.out.size) b o; have := K0.out.size; have : W0.heap.size ≤ b := hb; omega, RW0.out.m.lt hb⟩, rfl⟩), by rw [HNP.out]; exact RW0.out.kp HK2.out, Kp.kx (K0.out.trans HK2.out)⟩⟩
  | false =>
   by_cases hh0 : high < 0
   ·
    have hmin : n' = min n low := by rw [← HN'.out, if_pos hh0]
    clear HNE HNL HNS
    go_wp2_with fail
    refine (HLE.out _ KB0.out).mono ?_
    rintro e w1 ⟨rfl, hw⟩
    rw [hw]
    clear hw w1
    go_wp2_with fail
    go_meet
    case rel => exact ⟨by rw [hmin], hnh, by first | rfl | trivial, (by repeat (first | exact Kp.refl _ | refine Kp.drew ?_ | refine Kp.drewN _ ?_))⟩
   ·
    have hmin : n' = n := by rw [← HN'.out, if_neg hh0]
    clear HNE HNL HNS
    go_wp2_with fail
    refine (HLE.out _ KB0.out).mono ?_
    rintro e w1 ⟨rfl, hw⟩
    rw [hw]
    clear hw w1
    go_wp2_with fail
    go_meet
    case rel => exact ⟨by rw [hmin], hnh, by first | rfl | trivial, (by repeat (first | exact Kp.refl _ | refine Kp.drew ?_ | refine Kp.drewN _ ?_))⟩
 case rest =>
 obtain ⟨rfl, hnh, rfl, hk⟩ := hcut
 rename World => W1
 have HNP := hid (HNS.out hnh rfl)
 have SC := hid (SC0.out rfl)
 have K1 := hid (K0.out.trans hk)
 have R1 := hid (bl_kp R0.out hk)
 have X1 := hid (bl_kp X0.out hk)
 have P1 := hid (bl_kp P0.out hk)
 have KB1 := hid (bl_kp KB0.out hk)
 have RW1 := hid (RW0.out.kp hk)
 clear HNE HNL HNS hk R0 X0 P0 KB0 RW0 K0 r2 p1 p2 p8 b0 HLE LC0 SC0 hnh
 obtain ⟨all, hall⟩ : ∃ all, ways s.data.toList bol kid (x.only kid.rd) = all := ⟨_, rfl⟩
 have HGA := hid (HGD.out (x.only kid.rd) (HX.out.only kid.rd) (HN.out.only kid.rd))
 rw [hall] at HNP SC HFEW HGA
 clear hall
 go_upto_region 8 with fail
 go_cut [8] (fun v wc => SoAt wc (okB M (oRep O R B lv sn)) v kid.hd all ∧ Kx (fun b => M b ≠ none) W1 wc ∧ MemOk M (oRep O R B lv sn) wc)
 case first =>
  have Q0 : Kx (fun b => M b ≠ none) W1 W1.drew := (Kx.refl _ _).drew
  have MK : Hid (∀ W, Kx (fun b => M b ≠ none) W1 W → W.cell? ⟨R, 0, none⟩ = some (.string s) ∧ W.cell? ⟨R, 1, none⟩ = some (.bool bol) ∧ W.cell? ⟨w.heap.size, 0, none⟩ = some (.int .i8 x.a) ∧ W.cell? ⟨w.heap.size, 1, none⟩ = some (.int .i8 x.f0) ∧ W.cell? ⟨w.heap.size, 2, none⟩ = some (.int .i8 x.t0) ∧ W.cell? ⟨w.heap.size, 3, none⟩ = some (.int .i8 x.f1) ∧ W.cell? ⟨w.heap.size, 4, none⟩ = some (.int .i8 x.t1) ∧ W.cell? ⟨w.heap.size, 5, none⟩ = some (.int .i8 x.f2) ∧ W.cell? ⟨w.heap.size, 6, none⟩ = some (.int .i8 x.t2) ∧ W.cell? ⟨kid.P, 9, none⟩ = some (.int .u8 (kid.rd : Int)) ∧ Hid (Kx (fun b => M b ≠ none) W1 W)) := fun W k => ⟨bl_cell (bl_kx R1.out k HMR.out) 0 _ rfl, bl_cell (bl_kx R1.out k HMR.out) 1 _ rfl, bl_cell (bl_kx X1.out k HMX.out) 0 _ rfl, bl_cell (bl_kx X1.out k HMX.out) 1 _ rfl, bl_cell (bl_kx X1.out k HMX.out) 2 _ rfl, bl_cell (bl_kx X1.out k HMX.out) 3 _ rfl, bl_cell (bl_kx X1.out k HMX.out) 4 _ rfl, bl_cell (bl_kx X1.out k HMX.out) 5 _ rfl, bl_cell (bl_kx X1.out k HMX.out) 6 _ rfl, bl_cell (bl_kx KB1.out k HMK.out) 9 _ rfl, k⟩
  refine wp_region_noPanic ?_
  refine hdrew MK Q0 (fun hH => ?_)
  have KQ := Q0
  refine tk 0 (some 59) (Op.move (Operand.tmp 0)) 198 (v := ?v0b1) rfl ?h0b1 hH ?_
  case h0b1 => intro _ _; go_simp; try with_reducible rfl
  try simp only [ps]
  refine tk 1 (some 60) (Op.nilCheck (Operand.tmp 59)) 0 (v := ?v1b2) rfl ?h1b2 hH ?_
  case h1b2 => intro _ _; go_simp; try with_reducible rfl
  try simp only [ps]
  refine tk 2 (some 61) (Op.fieldAddr 182 (Operand.tmp 60) 0) 0 (v := ?v2b3) rfl ?h2b3 hH ?_
  case h2b3 => intro _ _; go_simp; try with_reducible rfl
  try simp only [ps]
  refine tk 3 (some 62) (Op.load 70 (Operand.tmp 61)) 70 (v := ?v3b4) rfl ?h3b4 hH ?_
  case h3b4 => intro _ _; go_simp; try with_reducible rfl
  try simp only [ps]
  refine tk 4 (some 63) (Op.move (Operand.tmp 7)) 71 (v := ?v4b5) rfl ?h4b5 hH ?_
  case h4b5 => intro _ _; go_simp; try with_reducible rfl
  try simp only [ps]
  refine tk 5 (some 64) (Op.load 83 (Operand.tmp 5)) 83 (v := ?v5b6) rfl ?h5b6 hH ?_
  case h5b6 => intro _ _; go_simp; try with_reducible rfl
  try simp only [ps]
  refine tk 6 (some 65) (Op.move (Operand.tmp 7)) 71 (v := ?v6b7) rfl ?h6b7 hH ?_
  case h6b7 => intro _ _; go_simp; try with_reducible rfl
  try simp only [ps]
  refine tk 7 (some 66) (Op.nilCheck (Operand.tmp 65)) 0 (v := ?v7b8) rfl ?h7b8 hH ?_
  case h7b8 => intro _ _; go_simp; try with_reducible rfl
  try simp only [ps]
  refine tk 8 (some 67) (Op.fieldAddr 130 (Operand.tmp 66) 6) 0 (v := ?v8b9) rfl ?h8b9 hH ?_
  case h8b9 => intro _ _; go_simp; try with_reducible rfl
  try simp only [ps]
  refine tk 9 (some 68) (Op.fieldAddr 126 (Operand.tmp 67) 0) 0 (v := ?v9b10) rfl ?h9b10 hH ?_
  case h9b10 => intro _ _; go_simp; try with_reducible rfl
  try simp only [ps]
  refine tk 10 (some 69) (Op.load 75 (Operand.tmp 68)) 75 (v := ?v10b11) rfl ?h10b11 hH ?_
  case h10b11 => intro _ _; go_simp; try with_reducible rfl
  try simp only [ps]
  refine wpAnyH_ready (rs := [11]) (by kernel_rfl) (by simp) ?_
  refine AllReadyH.cons (o := { dst := some 70, op := Op.call { callee := Callee.value (Operand.func 55), args := #[Operand.tmp 64, Operand.tmp 69], argTypes := #[83, 75] }, type := 83, pos := "repeat.go:51", after := #[{ on := 5, ground := Ground.data }, { on := 10, ground := Ground.data }], guard := none }) rfl (fun K hKq => ?_) AllReadyH.nil
  go_simp
  refine (OA.out _).mono ?_
  rintro e y1 ⟨rfl, kq⟩
  have KY := hid (show Kp W1 y1 from ((Kp.refl W1).drew).trans kq)
  refine hKq.out _ _ (MK.out _ (Kp.kx KY.out)) (fun hN => ?_)
  clear kq
  clear hKq K hH KQ
  have hH := hN
  clear hN
  have KQ := hH.2.2.2.2.2.2.2.2.2.2.out
  try simp only [ps]
  refine wpAnyH_ready (rs := [12]) (by kernel_rfl) (by simp) ?_
  refine AllReadyH.cons (o := { dst := some 71, op := Op.call { callee := Callee.value (Operand.func 134), args := #[Operand.tmp 62, Operand.tmp 63, Operand.tmp 70], argTypes := #[70, 71, 83] }, type := 207, pos := "repeat.go:51", after := #[{ on := 3, ground := Ground.data }, { on := 4, ground := Ground.data }, { on := 11, ground := Ground.data }, { on := 11, ground := Ground.chain }], guard := none }) rfl (fun K hKq => ?_) AllReadyH.nil
  go_simp
  refine (SC.out y1 (K1.out.trans KY.out)).mono ?_
  rintro e y2 ⟨⟨v, rfl, hv, hk, hm⟩⟩
  have HV := hid hv
  have HK2 := hid hk
  have HM2 := hid hm
  clear hv hk hm
  refine hKq.out _ _ (MK.out _ ((Kp.kx KY.out).trans HK2.out)) (fun hN => ?_)
  clear hKq K hH KQ
  have hH := hN
  clear hN
  have KQ := hH.2.2.2.2.2.2.2.2.2.2.out
  try simp only [ps]
  refine tk 13 (some 8) (Op.assign (Operand.tmp 71)) 207 (v := ?v13b12) rfl ?h13b12 hH ?_
  case h13b12 => intro _ _; go_simp; try with_reducible rfl
  try simp only [ps]
  refine wpAnyH_done (by kernel_rfl) ?_ _
  refine NoPanic.normal ?_
  go_wp2_with fail
  go_meet
  case rel => exact ⟨HV.out, (Kp.kx KY.out).trans HK2.out, HM2.out⟩
 case rest =>
 obtain ⟨hso, hk, hm⟩ := hcut
 rename World => W2
 obtain ⟨T, llv, f, hvv, hT, hTb, hspl, hnu⟩ := hso.at
 subst hvv
 have SO2 := hid hso
 have T2 := hid hTb
 have HTO := hid hT
 have L2 := hid hspl
 have RW2 := hid (RW1.out.km hk hm)
 have X2 := hid (bl_kx X1.out hk HMX.out)
 have P2 := hid (bl_kx P1.out hk HMP.out)
 have K2 := hid ((Kp.kx (S := fun b => M b ≠ none) K1.out).trans hk)
 clear hso hT hTb hspl hnu hk hm R1 X1 P1 KB1 RW1 K1 SC OA HKB HP
 obtain ⟨x0, x1, x2, x3, x4, x5, x6⟩ := cells7 (X2.out)
 go_wp2_with fail
 clear x0 x1 x2 x3 x4 x5 x6
 refine (unbegun_any s bol P R B h pl lv sn 4 low high nn t _ rdp st h kn so HRD.out kid.hd all _ (okB M (oRep O R B lv sn)) (fun b hb e => hb.1 (Or.inr e)) HFEW.out n' HNR.out.1 HNR.out.2 x HX.out S W2 SO2.out RW2.out.b RW2.out.ne P2.out HPB.out RW2.out.t).mono ?_
 rintro e y3 hd0
 obtain ⟨v3, rfl, hnul, ht3, hk3⟩ := hd0.ex
 have RW3 := hid (RW2.out.turn hk3 ht3)
 have K3 := hid (show Kx (fun b => M b ≠ none ∨ b = B) w y3 from (K2.out.mono (fun _ _ e => Or.inl e)).trans (hk3.mono (fun _ _ e => Or.inr e)))
 have OKB : Hid (∀ b, okB M (oRep O R B lv sn) b → b < W2.heap.size → okB M (oRep O R B lv sn) b ∧ y3.heap[b]? = W2.heap[b]?) := fun b hb hl => ⟨hb, hk3.block b hl (fun e => hb.1 (Or.inr e))⟩
 have L3 := hid (L2.out.keep hk3.size OKB.out)
 have T3 := hid ((OKB.out T HTO.out (bl_lt T2.out)).2.trans T2.out)
 have HTL := hid (bl_lt T3.out)
 have X3 := hid (bl_kx X2.out hk3 (fun e => by have := K2.out.size; have h1 := RW2.out.t.lt; have h2 := HW.out.t.lt; omega))
 have HXL := hid (bl_lt X3.out)
 obtain ⟨ps, hps⟩ : ∃ ps, unbL kid.hd all (newCls rdp all kid.hd n' x S).1 = ps := ⟨_, rfl⟩
 have HPSL := hid (show ∀ j ∈ ps, j < all.length from by rw [← hps]; exact unb_lt)
 have HPSN := hid (show ps.length ≤ 4398046511104 from by rw [← hps]; exact Nat.le_trans (unb_len _ _ _) HFEW.out)
 rw [hps] at hnul HNP
 obtain ⟨Z, hZ⟩ : ∃ Z, ps.length = Z := ⟨_, rfl⟩
 obtain ⟨pad, pc, hpv, hpc, hpe⟩ := hnul.ex
 have HZ := hid hZ
 rw [hZ] at hpv hpc hpe HPSN
 subst hpv
 have HPE := hid hpe
 obtain ⟨lad, lc, hlv, hlc, hle⟩ := L3.out.ex
 obtain ⟨AL, hAL⟩ : ∃ AL, all.length = AL := ⟨_, rfl⟩
 rw [hAL] at hlv hlc hle
 have HAL := hid hAL
 have HLEX := hid hle
 subst hlv
 clear hd0 hnul ht3 hk3 hps hpe hZ hle hAL L2 T2 X2 P2 SO2 RW2 K2 HTO OKB
 go_wp2_with fail
 go_loopg [9, 78] Z (fun gg v i wr => ∃ (q : Nat), q + gg = Z ∧ i = .int .i64 (q : Int) ∧ SpR y3.heap.size wr v (pickL all x (ps.take q)) ∧ Kp y3 wr)
 case atStart => exact ⟨0, by omega, rfl, SpR.nil _ _, Kp.refl _⟩
 case round =>
  obtain ⟨q, hq, rfl, hR, hK⟩ := hrel
  have R6 := hid hR
  have K6 := hid hK
  obtain ⟨rad, rc, hvv, -⟩ := hR.form
  obtain ⟨N0, hN0⟩ : ∃ N0, (pickL all x (ps.take q)).length = N0 := ⟨_, rfl⟩
  rw [hN0] at hvv
  subst hvv
  clear hR hK hN0
  by_cases hlt : q < Z
  ·
   have gkw : IntKind.i64.wrap ((q : Int) + 1) = (q : Int) + 1 := by have := HPSN.out; rw [IntKind.wrap_i64]; omega
   have ga : (q : Int) < (Z : Int) := by omega
   have g0 : (0 : Int) ≤ (q : Int) := by omega
   obtain ⟨j, hj⟩ : ∃ j, ps[q]? = some j := ⟨_, List.getElem?_eq_getElem (by rw [HZ.out]; exact hlt)⟩
   have hjl : j < AL := by rw [← HAL.out]; exact HPSL.out j (List.mem_of_getElem? hj)
   obtain ⟨y, hy⟩ : ∃ y, all[j]? = some y := ⟨_, List.getElem?_eq_getElem (by rw [HAL.out]; exact hjl)⟩
   have gj : (j : Int) < (AL : Int) := by omega
   have gj0 : (0 : Int) ≤ (j : Int) := by omega
   obtain ⟨pb, rfl, -, hpl, hpcell⟩ := HPE.out (by omega)
   obtain ⟨lb, rfl, -, hll, hlcell⟩ := HLEX.out (by omega)
   have hsp := hlcell j y hy
   have HLL := hid hll
   have HTK : Hid (pickL all x (ps.take (q + 1)) = pickL all x (ps.take q) ++ [y.behind x]) := pick_succ hj hy
   have HZO := hid (show (y.behind x).Ok from (HGA.out y (List.mem_of_getElem? hy)).1.behind HX.out)
   have OB := hid (fun W => behind_any y x W)
   have c1 : wr.cell? ⟨pb, q, none⟩ = some (nuc j) := (cell_same (K6.out.block pb hpl) _).trans (hpcell q j hj)
   have HZL := hid (show (pickL all x (ps.take q)).length ≤ 5000000000000 from by have h1 := pick_len all x (ps.take q); rw [List.length_take, HZ.out] at h1; have := HPSN.out; omega)
   have C0 := hid hsp.c0
   have C1 := hid hsp.c1
   have C2 := hid hsp.c2
   have C3 := hid hsp.c3
   have C4 := hid hsp.c4
   have C5 := hid hsp.c5
   have C6 := hid hsp.c6
   obtain ⟨zs, hzs⟩ : ∃ zs, pickL all x (ps.take q) = zs := ⟨_, rfl⟩
   rw [hzs] at R6 HTK HZL
   have OFF : Hid (∀ (W : World), Kx (fun b => (Value.slice rad N0 rc).ownBlock = some b) wr W → ∀ (b o : Nat) (u : Value), b < y3.heap.size → y3.cell? ⟨b, o, none⟩ = some u → W.cell? ⟨b, o, none⟩ = some u) := fun W k b o u hb hu => (cell_same ((k.block b (Nat.lt_of_lt_of_le hb K6.out.size) (fun e => by have := (R6.out.block b e).1; omega)).trans (K6.out.block b hb)) o).trans hu
   clear hsp hj hy hpl hpcell hll hlcell hzs
   go_upto_region 13 with fail
   clear c1
   have Q0 : Kx (fun b => (Value.slice rad N0 rc).ownBlock = some b) wr wr.drew := (Kx.refl _ _).drew
   have MK : Hid (∀ W, Kx (fun b => (Value.slice rad N0 rc).ownBlock = some b) wr W → W.cell? ⟨T, 0, none⟩ = some (.slice (some ⟨lb, 0, none⟩) AL lc) ∧ W.cell? ⟨lb, j * 7, none⟩ = some (.int .i8 y.a) ∧ W.cell? ⟨lb, j * 7 + 1, none⟩ = some (.int .i8 y.f0) ∧ W.cell? ⟨lb, j * 7 + 2, none⟩ = some (.int .i8 y.t0) ∧ W.cell? ⟨lb, j * 7 + 3, none⟩ = some (.int .i8 y.f1) ∧ W.cell? ⟨lb, j * 7 + 4, none⟩ = some (.int .i8 y.t1) ∧ W.cell? ⟨lb, j * 7 + 5, none⟩ = some (.int .i8 y.f2) ∧ W.cell? ⟨lb, j * 7 + 6, none⟩ = some (.int .i8 y.t2) ∧ W.cell? ⟨w.heap.size, 0, none⟩ = some (.int .i8 x.a) ∧ W.cell? ⟨w.heap.size, 1, none⟩ = some (.int .i8 x.f0) ∧ W.cell? ⟨w.heap.size, 2, none⟩ = some (.int .i8 x.t0) ∧ W.cell? ⟨w.heap.size, 3, none⟩ = some (.int .i8 x.f1) ∧ W.cell? ⟨w.heap.size, 4, none⟩ = some (.int .i8 x.t1) ∧ W.cell? ⟨w.heap.size, 5, none⟩ = some (.int .i8 x.f2) ∧ W.cell? ⟨w.heap.size, 6, none⟩ = some (.int .i8 x.t2) ∧ Hid (Kx (fun b => (Value.slice rad N0 rc).ownBlock = some b) wr W)) := fun W k => ⟨OFF.out _ k _ _ _ HTL.out (bl_cell T3.out 0 _ rfl), OFF.out _ k _ _ _ HLL.out C0.out, OFF.out _ k _ _ _ HLL.out C1.out, OFF.out _ k _ _ _ HLL.out C2.out, OFF.out _ k _ _ _ HLL.out C3.out, OFF.out _ k _ _ _ HLL.out C4.out, OFF.out _ k _ _ _ HLL.out C5.out, OFF.out _ k _ _ _ HLL.out C6.out, OFF.out _ k _ _ _ HXL.out (bl_cell X3.out 0 _ rfl), OFF.out _ k _ _ _ HXL.out (bl_cell X3.out 1 _ rfl), OFF.out _ k _ _ _ HXL.out (bl_cell X3.out 2 _ rfl), OFF.out _ k _ _ _ HXL.out (bl_cell X3.out 3 _ rfl), OFF.out _ k _ _ _ HXL.out (bl_cell X3.out 4 _ rfl), OFF.out _ k _ _ _ HXL.out (bl_cell X3.out 5 _ rfl), OFF.out _ k _ _ _ HXL.out (bl_cell X3.out 6 _ rfl), k⟩
   refine wp_region_noPanic ?_
   refine hdrew MK Q0 (fun hH => ?_)
   have KQ := Q0
   refine tk 0 (some 82) (Op.move (Operand.tmp 9)) 68 (v := ?v0c1) rfl ?h0c1 hH ?_
   case h0c1 => intro _ _; go_simp; try with_reducible rfl
   try simp only [ps]
   refine tk 1 (some 83) (Op.move (Operand.tmp 8)) 207 (v := ?v1c2) rfl ?h1c2 hH ?_
   case h1c2 => intro _ _; go_simp; try with_reducible rfl
   try simp only [ps]
   refine tk 2 (some 84) (Op.nilCheck (Operand.tmp 83)) 0 (v := ?v2c3) rfl ?h2c3 hH ?_
   case h2c3 => intro _ _; go_simp; try with_reducible rfl
   try simp only [ps]
   refine tk 3 (some 85) (Op.fieldAddr 212 (Operand.tmp 84) 0) 0 (v := ?v3c4) rfl ?h3c4 hH ?_
   case h3c4 => intro _ _; go_simp; try with_reducible rfl
   try simp only [ps]
   refine tk 4 (some 86) (Op.load 68 (Operand.tmp 85)) 68 (v := ?v4c5) rfl ?h4c5 hH ?_
   case h4c5 => intro _ _; go_simp; try with_reducible rfl
   try simp only [ps]
   refine tk 5 (some 87) (Op.move (Operand.tmp 11)) 3 (v := ?v5c6) rfl ?h5c6 hH ?_
   case h5c6 => intro _ _; go_simp; try with_reducible rfl
   try simp only [ps]
   refine tk 6 (some 88) (Op.indexAddr 68 (Operand.tmp 86) (Operand.tmp 87)) 0 (v := ?v6c7) rfl ?h6c7 hH ?_
   case h6c7 => intro _ _; go_simp; try with_reducible rfl
   try simp only [ps]
   refine tk 7 (some 89) (Op.load 83 (Operand.tmp 88)) 83 (v := ?v7c8) rfl ?h7c8 hH ?_
   case h7c8 => intro _ _; go_simp; try with_reducible rfl
   try simp only [ps]
   refine tk 8 (some 90) (Op.load 83 (Operand.tmp 5)) 83 (v := ?v8c9) rfl ?h8c9 hH ?_
   case h8c9 => intro _ _; go_simp; try with_reducible rfl
   try simp only [ps]
   refine wpAnyH_ready (rs := [9]) (by kernel_rfl) (by simp) ?_
   refine AllReadyH.cons (o := { dst := some 91, op := Op.call { callee := Callee.value (Operand.func 127), args := #[Operand.tmp 89, Operand.tmp 90], argTypes := #[83, 83] }, type := 83, pos := "repeat.go:54", after := #[{ on := 7, ground := Ground.data }, { on := 8, ground := Ground.data }], guard := none }) rfl (fun K hKq => ?_) AllReadyH.nil
   go_simp
   refine (OB.out _).mono ?_
   rintro e yy ⟨rfl, kq⟩
   have KY := hid (show Kp wr yy from ((Kp.refl wr).drew).trans kq)
   refine hKq.out _ _ (MK.out _ (Kp.kx KY.out)) (fun hN => ?_)
   clear kq
   clear hKq K hH KQ
   have hH := hN
   clear hN
   have KQ := hH.2.2.2.2.2.2.2.2.2.2.2.2.2.2.2.out
   try simp only [ps]
   refine wpAnyH_ready (rs := [10]) (by kernel_rfl) (by simp) ?_
   refine AllReadyH.cons (o := { dst := some 92, op := Op.buildSlice 68 1 #[(0, Operand.tmp 91)], type := 68, pos := "repeat.go:54", after := #[{ on := 9, ground := Ground.data }], guard := none }) rfl (fun K hKq => ?_) AllReadyH.nil
   go_simp
   refine hKq.out _ _ (MK.out _ (KQ.alloc _)) (fun hN => ?_)
   clear hKq K hH KQ
   have hH := hN
   clear hN
   have KQ := hH.2.2.2.2.2.2.2.2.2.2.2.2.2.2.2.out
   try simp only [ps]
   refine wpAnyH_ready (rs := [11]) (by kernel_rfl) (by simp) ?_
   refine AllReadyH.cons (o := { dst := some 93, op := Op.call { callee := Callee.builtin Builtin.append, args := #[Operand.tmp 82, Operand.tmp 92], argTypes := #[68, 68] }, type := 68, pos := "repeat.go:54", after := #[{ on := 0, ground := Ground.data }, { on := 10, ground := Ground.data }, { on := 9, ground := Ground.chain }], guard := none }) rfl (fun K hKq => ?_) AllReadyH.nil
   refine step_append_sp _ (by rfl) _ _ (by rfl) y3.heap.size (.slice rad N0 rc) zs (y.behind x) (by rfl) yy.heap.size (by rfl) (R6.out.kp (KY.out.alloc _)) HZO.out (last_of _ _) HZL.out (by have := K6.out.size; have := KY.out.size; simp; omega) ?_
   rintro v' w' md
   obtain ⟨ad', c', hv', -⟩ := md.row.form
   obtain ⟨n', hn'⟩ : ∃ n', (zs ++ [y.behind x]).length = n' := ⟨_, rfl⟩
   rw [hn'] at hv'
   subst hv'
   have MD := hid md
   clear md hn'
   refine hKq.out _ _ (MK.out _ (KQ.grown MD.out.grown (fun k e _ => e))) (fun hN => ?_)
   clear hKq K hH KQ
   have hH := hN
   clear hN
   have KQ := hH.2.2.2.2.2.2.2.2.2.2.2.2.2.2.2.out
   try simp only [ps]
   refine tk 12 (some 9) (Op.assign (Operand.tmp 93)) 68 (v := ?v12c10) rfl ?h12c10 hH ?_
   case h12c10 => intro _ _; go_simp; try with_reducible rfl
   try simp only [ps]
   refine wpAnyH_done (by kernel_rfl) ?_ _
   refine NoPanic.normal ?_
   have KF := hid KQ
   go_wp2_with fail
   go_roundg (gk - 1)
   case measure => omega
   case rel => exact ⟨q + 1, by omega, by go_num, by rw [HTK.out]; exact MD.out.row, (((Kp.kx (S := fun _ => False) K6.out).past2 KF.out (fun b hb e => by have := (R6.out.block b e).1; omega))).kp⟩
  ·
   have ga : ¬ (q : Int) < (Z : Int) := by omega
   have HE : Hid (pickL all x (ps.take q) = pickL all x ps) := by
    show _ = _
    rw [List.take_of_length_le (by rw [HZ.out]; omega)]
   go_wp2_with fail
   go_ret
   exact ⟨⟨_, rfl, by rw [HNP.out]; show SpL _ _ _ (pickL all x ps); rw [← HE.out]; exact R6.out.spl (fun b e => ⟨fun o => by have := (R6.out.block b e).1; have := RW3.out.lt (fun b o => Nat.lt_of_lt_of_le (HO.out b o) K3.out.size) b o; omega, RW3.out.m.lt (R6.out.block b e).1⟩), by rw [HNP.out]; exact RW3.out.kp K6.out, K3.out.then K6.out⟩⟩
end Go.Proofs.YtnajcnhgeggngaaGreat.Way
