/-
  Texts of this claim: Beh, Rep2, Found.
-/
import Derived.Test.YtnajcnhgeggngaaGreatM28
import Derived.Test.YtnajcnhgeggngaaGreatM25
import Derived.Test.YtnajcnhgeggngaaGreatM26

/-! ### Beh -/

namespace Go.Proofs.YtnajcnhgeggngaaGreat.Way
set_option maxHeartbeats 2000000
set_option maxRecDepth 100000
open Go.RowKit Go.Proofs.YtnajcnhgeggngaaGreat Go.Maps

theorem okR_step {M : Nat → Option Memo} {O : Nat → Prop} {R B n : Nat} {lv lv' : Value} {sn sn' : Option Nat} (ho : ∀ b, lv'.ownBlock = some b → lv.ownBlock = some b ∨ n ≤ b) (hs : ∀ b, sn' = some b → sn = some b ∨ n ≤ b) {b : Nat} (hb : okB M (oRep O R B lv sn) b) (hl : b < n) : okB M (oRep O R B lv' sn') b := by
 refine ⟨fun q => hb.1 ?_, hb.2⟩
 rcases q with (q | q | q | q) | q
 ·
  exact Or.inl (Or.inl q)
 ·
  exact Or.inl (Or.inr (Or.inl q))
 ·
  rcases ho b q with e | e
  ·
   exact Or.inl (Or.inr (Or.inr (Or.inl e)))
  ·
   omega
 ·
  rcases hs b q with e | e
  ·
   exact Or.inl (Or.inr (Or.inr (Or.inr e)))
  ·
   omega
 ·
  exact Or.inr q
theorem repB_step {R B n : Nat} {lv lv' : Value} {sn sn' : Option Nat} (ho : ∀ b, lv'.ownBlock = some b → lv.ownBlock = some b ∨ n ≤ b) (hs : ∀ b, sn' = some b → sn = some b ∨ n ≤ b) {b : Nat} (hb : repB R B lv' sn' b) (hl : b < n) : repB R B lv sn b := by
 rcases hb with (q | q | q) | q
 ·
  exact Or.inl (Or.inl q)
 ·
  rcases ho b q with e | e
  ·
   exact Or.inl (Or.inr (Or.inl e))
  ·
   omega
 ·
  rcases hs b q with e | e
  ·
   exact Or.inl (Or.inr (Or.inr e))
  ·
   omega
 ·
  exact Or.inr q
theorem next_good {N : Nat} {W : Sp → List Sp} {lf : Bool} {krd khd rdp : Nat} {low high n : Int} {x : Sp} {bg : List Turn} (hW : ∀ x : Sp, x.Ok → x.In N → ∀ y ∈ W x, y.Ok ∧ y.In N ∧ x.a ≤ y.a) (hx : x.Ok) (hN : x.In N) : ∀ y ∈ (nextP lf W krd khd rdp low high n x bg).1, y.Ok ∧ y.In N ∧ x.a ≤ y.a := by
 intro y hy
 unfold nextP at hy
 split at hy
 ·
  cases hy
 ·
  split at hy
  ·
   exact hW x hx hN y hy
  ·
   obtain ⟨z, hz, rfl⟩ := List.mem_map.1 hy
   have hz := (List.mem_filter.1 hz).1
   obtain ⟨h1, h2, h3⟩ := hW (x.only krd) (hx.only krd) (hN.only krd) z hz
   exact ⟨h1.behind hx, h2.behind hN, h3⟩
theorem next_few {N : Nat} {W : Sp → List Sp} {lf : Bool} {krd khd rdp : Nat} {low high n : Int} {x : Sp} {bg : List Turn} (hW : ∀ x : Sp, x.Ok → x.In N → (W x).length ≤ 4398046511104) (hx : x.Ok) (hN : x.In N) : (nextP lf W krd khd rdp low high n x bg).1.length ≤ 4398046511104 := by
 unfold nextP
 split
 ·
  exact Nat.zero_le _
 ·
  split
  ·
   exact hW x hx hN
  ·
   rw [List.length_map]
   exact Nat.le_trans (List.length_filter_le _ _) (hW (x.only krd) (hx.only krd) (hN.only krd))
structure BehE (s : ByteArray) (bol : Bool) (P : Nat) (M : Nat → Option Memo) (O : Nat → Prop) (base R B h : Nat) (r : List Turn × List Sp) (lv : Value) (sn : Option Nat) (w : World) (e : Ending) (w' : World) : Prop where
 ex : e = .returned (.tuple #[]) ∧ ∃ lv' pl' sn', RepW s bol P M O base R B h r.2 r.1 lv' pl' sn' w' ∧ (∀ b, lv'.ownBlock = some b → lv.ownBlock = some b ∨ w.heap.size ≤ b) ∧ (∀ b, sn' = some b → sn = some b ∨ w.heap.size ≤ b) ∧ Kx (fun b => M b ≠ none ∨ repB R B lv sn b) w w'
abbrev BehS (s : ByteArray) (bol : Bool) (P : Nat) (M : Nat → Option Memo) (O : Nat → Prop) (base R B h : Nat) (low : Int) (NX : Int → Sp → List Turn → List Sp × List Turn) (p : Pt) (f : Nat) : Prop := ∀ (n : Int) (x : Sp) (xs : List Sp) (S : List Turn) (lv : Value) (pl : Nat) (sn : Option Nat) (w : World), 0 ≤ n → (low - n).toNat + (61 - x.a).toNat < f → n + ((low - n).toNat + (61 - x.a).toNat : Nat) ≤ 100 → x.Ok → x.In s.size → (∀ b, O b → b < w.heap.size) → RepW s bol P M O base R B h xs S lv pl sn w → PtAt w (okB M (oRep O R B lv sn)) p →
  Calls Tryz.prog 110 #[.pointer (some ⟨R, 0, none⟩), .int .i64 n, spv x] w fun e w' => BehE s bol P M O base R B h (behindP NX low h f n x (S, xs)) lv sn w e w'
theorem beh_less {low n xa ya : Int} {f : Nat} (h : n < low ∨ ¬ ya = xa) (hle : xa ≤ ya) (hy : ya ≤ 60) (hx : 0 ≤ n) (m : (low - n).toNat + (61 - xa).toNat < f + 1) (m2 : n + ((low - n).toNat + (61 - xa).toNat : Nat) ≤ 100) : (low - (n + 1)).toNat + (61 - ya).toNat < f ∧ n + 1 + ((low - (n + 1)).toNat + (61 - ya).toNat : Nat) ≤ 100 ∧ 0 ≤ n + 1 := by omega
theorem behind_step (s : ByteArray) (bol : Bool) (P : Nat) (M : Nat → Option Memo) (O : Nat → Prop) (base R B h : Nat) (low high nn : Int) (t : W4) (kn so : Option Nat) (rdp st : Nat) (kid : Pt) (ks : List Pt) (hrd : rdp < 8) (hkr : kid.rd < 8) (HS : WSaid s bol M kid) (HSo : leafK kid.k = false → SortS s bol M kid) (HLf : leafK kid.k = true → LeafS s bol M kid) (hlow0 : 0 ≤ low) (f : Nat) (IH : BehS s bol P M O base R B h low (nextP (leafK kid.k) (ways s.data.toList bol kid) kid.rd kid.hd rdp low high) (.mk 4 low high nn t P kn so rdp st h (kid :: ks)) f) : BehS s bol P M O base R B h low (nextP (leafK kid.k) (ways s.data.toList bol kid) kid.rd kid.hd rdp low high) (.mk 4 low high nn t P kn so rdp st h (kid :: ks)) (f + 1) := by
 intro n x xs S lv pl sn w hn0 hm hm2 hx hN hO hW hP
 obtain ⟨kv, hblk, hokP⟩ : ∃ kv, w.heap[P]? = some (pto 4 low high nn t kv rdp st h kn so) ∧ okB M (oRep O R B lv sn) P := by
  unfold PtAt at hP
  obtain ⟨h1, ⟨ad, c, h2, _⟩, _⟩ := hP
  exact ⟨_, h2, h1⟩
 have HN0 := hid hn0
 have HM := hid hm
 have HM2 := hid hm2
 have HX := hid hx
 have HN := hid hN
 have HO := hid hO
 have HW := hid hW
 have HPT := hid hP
 have HPB := hid hblk
 have HIH := hid IH
 have HXM := hid (show ¬ (M w.heap.size ≠ none ∨ repB R B lv sn w.heap.size) from fun e => e.elim (fun e => e (hW.m.lt (Nat.le_refl _))) (fun e => by
  rcases e with (e | e | e) | e
  ·
   have := bl_lt hW.b; omega
  ·
   have := (hW.i.row.block _ e).2; omega
  ·
   have := (hW.i.set _ e).2.1.lt; omega
  ·
   have := hW.t.lt; omega))
 have NC := hid (fun (W : World) (k0 : Kp w W) => next_any s bol P M O base R B h pl xs S lv sn low high nn t kn so rdp st kid ks hrd hkr HS HSo HLf n hn0 (by omega) hlow0 x hx hN W (fun b hb => Nat.lt_of_lt_of_le (hO b hb) k0.size) (hW.kp k0) (PtAt.kp hP k0))
 obtain ⟨zs, hzs⟩ : ∃ zs, ((nextP (leafK kid.k) (ways s.data.toList bol kid) kid.rd kid.hd rdp low high) n x S).1 = zs := ⟨_, rfl⟩
 obtain ⟨S1, hS1⟩ : ∃ S1, ((nextP (leafK kid.k) (ways s.data.toList bol kid) kid.rd kid.hd rdp low high) n x S).2 = S1 := ⟨_, rfl⟩
 have HGD := hid (show ∀ y ∈ zs, y.Ok ∧ y.In s.size ∧ x.a ≤ y.a from by rw [← hzs]; exact next_good HS.good hx hN)
 obtain ⟨Z, hZ⟩ : ∃ Z, zs.length = Z := ⟨_, rfl⟩
 have HZL := hid hZ
 have HZF := hid (show Z ≤ 4398046511104 from by rw [← hZ, ← hzs]; exact next_few HS.few hx hN)
 have HBEH : Hid (behindP (nextP (leafK kid.k) (ways s.data.toList bol kid) kid.rd kid.hd rdp low high) low h (f + 1) n x (S, xs) = if n < low then zs.foldl (fun acc y => if n < low ∨ ¬ y.a = x.a then behindP (nextP (leafK kid.k) (ways s.data.toList bol kid) kid.rd kid.hd rdp low high) low h f (n + 1) y acc else acc) (S1, xs) else ((zs.foldl (fun acc y => if n < low ∨ ¬ y.a = x.a then behindP (nextP (leafK kid.k) (ways s.data.toList bol kid) kid.rd kid.hd rdp low high) low h f (n + 1) y acc else acc) (S1, xs)).1, addL h (zs.foldl (fun acc y => if n < low ∨ ¬ y.a = x.a then behindP (nextP (leafK kid.k) (ways s.data.toList bol kid) kid.rd kid.hd rdp low high) low h f (n + 1) y acc else acc) (S1, xs)).2 x)) := by
  rw [← hzs, ← hS1]
  rfl
 obtain ⟨BE, hBE⟩ : ∃ BE, behindP (nextP (leafK kid.k) (ways s.data.toList bol kid) kid.rd kid.hd rdp low high) low h (f + 1) n x (S, xs) = BE := ⟨_, rfl⟩
 rw [hBE] at HBEH ⊢
 clear hn0 hm hm2 hx hN hO hW hP hblk IH hBE hrd hkr HS HSo HLf hZ
 obtain ⟨en, hen⟩ : ∃ en, decide (low ≤ n) = en := ⟨_, rfl⟩
 have HEN := hid hen
 go_enter Tryz.func110, Tryz.ntmps110
 go_upto_region 1 with fail
 refine opq (fun W0 => W0.heap[w.heap.size]? = some (spo x) ∧ Kp w W0) ⟨by exact last_of _ _, by exact kpt⟩ ?_
 rintro W0 ⟨xX0, xK0⟩
 have X0 := hid xX0
 have K0 := hid xK0
 clear xX0 xK0
 have RW0 := hid (HW.out.kp K0.out)
 have R0 := hid (RW0.out.b)
 have P0 := hid (bl_kp HPB.out K0.out)
 have r2 := bl_cell (R0.out) 2 _ rfl
 have p1 := bl_cell (P0.out) 1 _ rfl
 obtain ⟨x0, x1, x2, x3, x4, x5, x6⟩ := cells7 (X0.out)
 go_wp2_with fail
 clear r2 p1 x0 x1 x2 x3 x4 x5 x6 hen
 refine (NC.out _ K0.out).mono ?_
 rintro e w1 hd0
 obtain ⟨v, rfl, hsl, hr1, hk1⟩ := hd0.ex
 rw [hzs] at hsl
 rw [hS1] at hr1
 obtain ⟨ad, c, hvv, hzc, -⟩ := hsl.ex
 rw [HZL.out] at hvv hzc
 subst hvv
 have SL1 := hid hsl
 have RW1 := hid hr1
 have K1 := hid (show Kx (fun b => M b ≠ none ∨ repB R B lv sn b) W0 w1 from hk1.mono (fun _ _ e => e.imp id Or.inr))
 clear hd0 hsl hr1 hk1 hzs hS1 R0 P0
 go_wp2_with fail
 go_loopg [23] Z (fun gg i wr => ∃ (q : Nat) (st2 : List Turn × List Sp) (lv' : Value) (pl' : Nat) (sn' : Option Nat), q + gg = Z ∧ i = .int .i64 (q : Int) ∧ (zs.take q).foldl (fun acc y => if n < low ∨ ¬ y.a = x.a then behindP (nextP (leafK kid.k) (ways s.data.toList bol kid) kid.rd kid.hd rdp low high) low h f (n + 1) y acc else acc) (S1, xs) = st2 ∧ RepW s bol P M O base R B h st2.2 st2.1 lv' pl' sn' wr ∧ (∀ b, lv'.ownBlock = some b → lv.ownBlock = some b ∨ W0.heap.size ≤ b) ∧ (∀ b, sn' = some b → sn = some b ∨ W0.heap.size ≤ b) ∧ SpL wr (okB M (oRep O R B lv' sn')) (.slice ad Z c) zs ∧ Kx (fun b => M b ≠ none ∨ repB R B lv sn b) W0 wr)
 case atStart => exact ⟨0, (S1, xs), lv, pl, sn, by omega, rfl, rfl, RW1.out, fun _ e => Or.inl e, fun _ e => Or.inl e, SL1.out, K1.out⟩
 case round =>
  obtain ⟨q, st2, lv', pl', sn', hq, rfl, hst, hR, hlo, hso, hS, hK⟩ := hrel
  have HST := hid hst
  have R6 := hid hR
  have L6 := hid hlo
  have N6 := hid hso
  have S6 := hid hS
  have K6 := hid hK
  have X6 := hid (bl_kx X0.out hK HXM.out)
  have PT6 := hid (show PtAt wr (okB M (oRep O R B lv' sn')) (.mk 4 low high nn t P kn so rdp st h (kid :: ks)) from PtAt.keep (Nat.le_trans K0.out.size hK.size) (fun b hb hl => ⟨okR_step hlo hso hb (Nat.lt_of_lt_of_le hl K0.out.size), (hK.block b (Nat.lt_of_lt_of_le hl K0.out.size) (fun e => e.elim (fun e => e hb.2) (fun e => hb.1 (e.elim (fun e => Or.inl (Or.inr e)) Or.inr)))).trans (K0.out.block b hl)⟩) _ HPT.out)
  clear hst hR hlo hso hS hK
  by_cases hlt : q < Z
  ·
   have gkw : IntKind.i64.wrap ((q : Int) + 1) = (q : Int) + 1 := by have := HZF.out; rw [IntKind.wrap_i64]; omega
   have gkn : IntKind.i64.wrap (n + 1) = n + 1 := by have := HM2.out; have := HN0.out; rw [IntKind.wrap_i64]; omega
   have ga : (q : Int) < (Z : Int) := by omega
   have g0 : (0 : Int) ≤ (q : Int) := by omega
   obtain ⟨y, hy⟩ : ∃ y, zs[q]? = some y := ⟨_, List.getElem?_eq_getElem (by rw [HZL.out]; exact hlt)⟩
   obtain ⟨ad2, c2, hv2, _, hc2⟩ := S6.out.ex
   injection hv2 with e1 e2 e3
   obtain ⟨b2, hbb, _, hbl, hce⟩ := hc2 (by rw [HZL.out]; omega)
   rw [← e1] at hbb
   subst hbb
   have hsp := hce q y hy
   have HY := hid (HGD.out y (List.mem_of_getElem? hy))
   have HTK : Hid ((zs.take (q + 1)).foldl (fun acc y => if n < low ∨ ¬ y.a = x.a then behindP (nextP (leafK kid.k) (ways s.data.toList bol kid) kid.rd kid.hd rdp low high) low h f (n + 1) y acc else acc) (S1, xs) = if n < low ∨ ¬ y.a = x.a then behindP (nextP (leafK kid.k) (ways s.data.toList bol kid) kid.rd kid.hd rdp low high) low h f (n + 1) y st2 else st2) := by
    show _ = _
    rw [List.take_succ_eq_append_getElem (by rw [HZL.out]; exact hlt), List.foldl_append, (List.getElem?_eq_some_iff.1 hy).2, HST.out]
    rfl
   have x0 := hsp.c0
   have x1 := hsp.c1
   have x2 := hsp.c2
   have x3 := hsp.c3
   have x4 := hsp.c4
   have x5 := hsp.c5
   have x6 := hsp.c6
   clear hsp hce hy e1 e2 e3 hc2
   go_upto_region 5 with fail
   refine opq (fun W6 => W6.heap[wr.heap.size]? = some (spo y) ∧ W6.heap[w.heap.size]? = some (spo x) ∧ RepW s bol P M O base R B h st2.2 st2.1 lv' pl' sn' W6 ∧ SpL W6 (okB M (oRep O R B lv' sn')) (.slice (some ⟨b2, 0, none⟩) Z c) zs ∧ Kx (fun b => M b ≠ none ∨ repB R B lv sn b) W0 W6 ∧ PtAt W6 (okB M (oRep O R B lv' sn')) (.mk 4 low high nn t P kn so rdp st h (kid :: ks))) ⟨by exact last_of _ _, by exact bl_alloc X6.out _, by exact R6.out.kp ((Kp.refl _).alloc _), by exact S6.out.keep (by simp) (fun b hb hl => ⟨hb, ((Kp.refl _).alloc _).block _ hl⟩), by exact K6.out.alloc _, by exact PtAt.kp PT6.out ((Kp.refl _).alloc _)⟩ ?_
   rintro W6 ⟨xY7, xX7, xR7, xS7, xK7, xPT7⟩
   have Y7 := hid xY7
   have X7 := hid xX7
   have R7 := hid xR7
   have S7 := hid xS7
   have K7 := hid xK7
   have PT7 := hid xPT7
   clear xY7 xX7 xR7 xS7 xK7 xPT7
   clear x0 x1 x2 x3 x4 x5 x6 R6 S6 K6 X6 PT6
   obtain ⟨y0, y1, y2, y3, y4, y5, y6⟩ := cells7 (Y7.out)
   have xx := bl_cell (X7.out) 0 _ rfl
   have HIHY : Hid (n < low ∨ ¬ y.a = x.a → Calls Tryz.prog 110 #[.pointer (some ⟨R, 0, none⟩), .int .i64 (n + 1), spv y] W6 fun e w' => BehE s bol P M O base R B h (behindP (nextP (leafK kid.k) (ways s.data.toList bol kid) kid.rd kid.hd rdp low high) low h f (n + 1) y st2) lv' sn' W6 e w') := fun hc => by
    obtain ⟨m1, m2, m3⟩ := beh_less hc HY.out.2.2 HY.out.1.a1 HN0.out HM.out HM2.out
    exact HIH.out (n + 1) y st2.2 st2.1 lv' pl' sn' W6 m3 m1 m2 HY.out.1 HY.out.2.1 (fun b o => Nat.lt_of_lt_of_le (HO.out b o) (Nat.le_trans K0.out.size K7.out.size)) R7.out PT7.out
   by_cases hlow : low ≤ n
   ·
    have hen2 : en = true := by rw [← HEN.out]; exact decide_eq_true hlow
    subst hen2
    by_cases hya : y.a = x.a
    ·
     have hyb : (y.a == x.a) = true := by rw [hya]; exact beq_self_eq_true _
     have hyn : (y.a != x.a) = false := by rw [bne, hyb]; rfl
     have HTK2 : Hid ((zs.take (q + 1)).foldl (fun acc y => if n < low ∨ ¬ y.a = x.a then behindP (nextP (leafK kid.k) (ways s.data.toList bol kid) kid.rd kid.hd rdp low high) low h f (n + 1) y acc else acc) (S1, xs) = st2) := by
      show _ = _
      rw [HTK.out, if_neg (by omega)]
     clear HTK HIHY
     go_wp2_with fail
     go_roundg (gk - 1)
     case measure => omega
     case rel => exact ⟨q + 1, st2, lv', pl', sn', by omega, by go_num, HTK2.out, R7.out, L6.out, N6.out, S7.out.keep (Kp.size (a := W6) (Kp.refl _)) (fun b hb hl => ⟨hb, rfl⟩), K7.out⟩
    ·
     have hyb : (y.a == x.a) = false := by simp [hya]
     have hyn : (y.a != x.a) = true := by rw [bne, hyb]; rfl
     have HTK2 : Hid ((zs.take (q + 1)).foldl (fun acc y => if n < low ∨ ¬ y.a = x.a then behindP (nextP (leafK kid.k) (ways s.data.toList bol kid) kid.rd kid.hd rdp low high) low h f (n + 1) y acc else acc) (S1, xs) = behindP (nextP (leafK kid.k) (ways s.data.toList bol kid) kid.rd kid.hd rdp low high) low h f (n + 1) y st2) := by
      show _ = _
      rw [HTK.out, if_pos (Or.inr hya)]
     have HC := hid (HIHY.out (Or.inr hya))
     clear HTK HIHY
     go_wp2_with fail
     refine (HC.out).mono ?_
     rintro e w2 hd0
     obtain ⟨rfl, l2, p2, n2, hr2, ho2, hs2, hk2⟩ := hd0.ex
     have RC := hid hr2
     have LC := hid ho2
     have NC2 := hid hs2
     have KC := hid hk2
     clear hd0 hr2 ho2 hs2 hk2 y0 y1 y2 y3 y4 y5 y6 xx
     go_wp2_with fail
     go_roundg (gk - 1)
     case measure => omega
     case rel => exact ⟨q + 1, _, l2, p2, n2, by omega, by go_num, HTK2.out, RC.out, walk_own L6.out LC.out K7.out.size, walk_own N6.out NC2.out K7.out.size, S7.out.keep KC.out.size (fun b hb hl => ⟨okR_step LC.out NC2.out hb hl, KC.out.block b hl (fun e => e.elim (fun e => e hb.2) (fun e => hb.1 (e.elim (fun e => Or.inl (Or.inr e)) Or.inr)))⟩), K7.out.past2 KC.out (fun b hb e => e.imp id (fun e => repB_step L6.out N6.out e hb))⟩
   ·
    have hen2 : en = false := by rw [← HEN.out]; exact decide_eq_false hlow
    subst hen2
    have HTK2 : Hid ((zs.take (q + 1)).foldl (fun acc y => if n < low ∨ ¬ y.a = x.a then behindP (nextP (leafK kid.k) (ways s.data.toList bol kid) kid.rd kid.hd rdp low high) low h f (n + 1) y acc else acc) (S1, xs) = behindP (nextP (leafK kid.k) (ways s.data.toList bol kid) kid.rd kid.hd rdp low high) low h f (n + 1) y st2) := by
     show _ = _
     rw [HTK.out, if_pos (Or.inl (by omega))]
    have HC := hid (HIHY.out (Or.inl (by omega)))
    clear HTK HIHY
    go_wp2_with fail
    refine (HC.out).mono ?_
    rintro e w2 hd0
    obtain ⟨rfl, l2, p2, n2, hr2, ho2, hs2, hk2⟩ := hd0.ex
    have RC := hid hr2
    have LC := hid ho2
    have NC2 := hid hs2
    have KC := hid hk2
    clear hd0 hr2 ho2 hs2 hk2 y0 y1 y2 y3 y4 y5 y6 xx
    go_wp2_with fail
    go_roundg (gk - 1)
    case measure => omega
    case rel => exact ⟨q + 1, _, l2, p2, n2, by omega, by go_num, HTK2.out, RC.out, walk_own L6.out LC.out K7.out.size, walk_own N6.out NC2.out K7.out.size, S7.out.keep KC.out.size (fun b hb hl => ⟨okR_step LC.out NC2.out hb hl, KC.out.block b hl (fun e => e.elim (fun e => e hb.2) (fun e => hb.1 (e.elim (fun e => Or.inl (Or.inr e)) Or.inr)))⟩), K7.out.past2 KC.out (fun b hb e => e.imp id (fun e => repB_step L6.out N6.out e hb))⟩
  ·
   have ga : ¬ (q : Int) < (Z : Int) := by omega
   have HF : Hid (zs.foldl (fun acc y => if n < low ∨ ¬ y.a = x.a then behindP (nextP (leafK kid.k) (ways s.data.toList bol kid) kid.rd kid.hd rdp low high) low h f (n + 1) y acc else acc) (S1, xs) = st2) := by
    show _ = _
    rw [← HST.out, List.take_of_length_le (by rw [HZL.out]; omega)]
   rw [HF.out] at HBEH
   by_cases hlow : low ≤ n
   ·
    have hen2 : en = true := by rw [← HEN.out]; exact decide_eq_true hlow
    subst hen2
    have HB2 : Hid (BE = (st2.1, addL h st2.2 x)) := by show _ = _; rw [HBEH.out, if_neg (by omega)]
    go_upto_region 9 with fail
    have QD := hid (R6.out.kp (Kp.refl wr).drew)
    have HXR := hid (show ¬ rowB R lv' sn' w.heap.size from fun e => HXM.out (Or.inr (repB_step L6.out N6.out (Or.inl e) (bl_lt X0.out))))
    have Q0 : Kx (rowB R lv' sn') wr wr.drew := (Kx.refl _ _).drew
    have MK : Hid (∀ W, Kx (rowB R lv' sn') wr W → W.cell? ⟨w.heap.size, 0, none⟩ = some (.int .i8 x.a) ∧ W.cell? ⟨w.heap.size, 1, none⟩ = some (.int .i8 x.f0) ∧ W.cell? ⟨w.heap.size, 2, none⟩ = some (.int .i8 x.t0) ∧ W.cell? ⟨w.heap.size, 3, none⟩ = some (.int .i8 x.f1) ∧ W.cell? ⟨w.heap.size, 4, none⟩ = some (.int .i8 x.t1) ∧ W.cell? ⟨w.heap.size, 5, none⟩ = some (.int .i8 x.f2) ∧ W.cell? ⟨w.heap.size, 6, none⟩ = some (.int .i8 x.t2) ∧ Hid (Kx (rowB R lv' sn') wr W)) := fun W k => ⟨bl_cell (bl_kx X6.out k HXR.out) 0 _ rfl, bl_cell (bl_kx X6.out k HXR.out) 1 _ rfl, bl_cell (bl_kx X6.out k HXR.out) 2 _ rfl, bl_cell (bl_kx X6.out k HXR.out) 3 _ rfl, bl_cell (bl_kx X6.out k HXR.out) 4 _ rfl, bl_cell (bl_kx X6.out k HXR.out) 5 _ rfl, bl_cell (bl_kx X6.out k HXR.out) 6 _ rfl, k⟩
    refine wp_region_noPanic ?_
    refine hdrew MK Q0 (fun hH => ?_)
    have KQ := Q0
    refine tk 0 (some 43) (Op.move (Operand.tmp 0)) 198 (v := ?v0a1) rfl ?h0a1 hH ?_
    case h0a1 => intro _ _; go_simp; try with_reducible rfl
    try simp only [ps]
    refine tk 1 (some 44) (Op.nilCheck (Operand.tmp 43)) 0 (v := ?v1a2) rfl ?h1a2 hH ?_
    case h1a2 => intro _ _; go_simp; try with_reducible rfl
    try simp only [ps]
    refine tk 2 (some 45) (Op.fieldAddr 182 (Operand.tmp 44) 3) 0 (v := ?v2a3) rfl ?h2a3 hH ?_
    case h2a3 => intro _ _; go_simp; try with_reducible rfl
    try simp only [ps]
    refine tk 3 (some 46) (Op.load 83 (Operand.tmp 5)) 83 (v := ?v3a4) rfl ?h3a4 hH ?_
    case h3a4 => intro _ _; go_simp; try with_reducible rfl
    try simp only [ps]
    refine wpAnyH_ready (rs := [4]) (by kernel_rfl) (by simp) ?_
    refine AllReadyH.cons (o := { dst := some 47, op := Op.call { callee := Callee.value (Operand.func 126), args := #[Operand.tmp 45, Operand.tmp 46], argTypes := #[177, 83] }, type := 0, pos := "repeat.go:35", after := #[{ on := 2, ground := Ground.data }, { on := 3, ground := Ground.data }], guard := none }) rfl (fun K hKq => ?_) AllReadyH.nil
    go_simp
    refine (raddB_any R h pl' lv' sn' (.string s) (.bool bol) (ptv P) (.map (some B)) base st2.2 x HX.out _ QD.out.b QD.out.i QD.out.rb QD.out.le).mono ?_
    rintro e y2 hd0
    obtain ⟨he, l2, p2, n2, hr2, ho2, hs2, hk2⟩ := QD.out.add hd0
    subst he
    have RC := hid hr2
    have LC := hid ho2
    have NC2 := hid hs2
    have KC := hid hk2
    clear hd0 hr2 ho2 hs2 hk2
    refine hKq.out _ _ (MK.out _ ((Kx.refl _ _).drew.trans KC.out)) (fun hN => ?_)
    clear hKq K hH KQ
    have hH := hN
    clear hN
    have KQ := hH.2.2.2.2.2.2.2.out
    try simp only [ps]
    refine wpAnyH_done (by kernel_rfl) ?_ _
    refine NoPanic.normal ?_
    go_wp2_with fail
    refine bodyPost_end (v := .tuple #[]) (results_none rfl _ _ _) rfl ⟨rfl, l2, p2, n2, by rw [HB2.out]; exact RC.out, fun b e => (walk_own L6.out LC.out K6.out.size b e).imp id (fun e => Nat.le_trans K0.out.size e), fun b e => (walk_own N6.out NC2.out K6.out.size b e).imp id (fun e => Nat.le_trans K0.out.size e), (Kp.kx K0.out).trans (K6.out.past2 ((Kx.refl _ _).drew.trans KC.out) (fun b hb e => Or.inr (repB_step L6.out N6.out (Or.inl e) hb)))⟩
   ·
    have hen2 : en = false := by rw [← HEN.out]; exact decide_eq_false hlow
    subst hen2
    have HB2 : Hid (BE = st2) := by show _ = _; rw [HBEH.out, if_pos (by omega)]
    go_wp2_with fail
    refine bodyPost_end (v := .tuple #[]) (results_none rfl _ _ _) rfl ⟨rfl, lv', pl', sn', by rw [HB2.out]; exact R6.out, fun b e => (L6.out b e).imp id (fun e => Nat.le_trans K0.out.size e), fun b e => (N6.out b e).imp id (fun e => Nat.le_trans K0.out.size e), (Kp.kx K0.out).trans K6.out⟩
theorem behind_all {s : ByteArray} {bol : Bool} {P : Nat} {M : Nat → Option Memo} {O : Nat → Prop} {base R B h : Nat} {low : Int} {NX : Int → Sp → List Turn → List Sp × List Turn} {p : Pt} (H : ∀ f, BehS s bol P M O base R B h low NX p f → BehS s bol P M O base R B h low NX p (f + 1)) : ∀ f, BehS s bol P M O base R B h low NX p f
 | 0 => fun _ _ _ _ _ _ _ _ _ hm => absurd hm (Nat.not_lt_zero _)
 | f + 1 => H f (behind_all H f)
end Go.Proofs.YtnajcnhgeggngaaGreat.Way

/-! ### Rep2 -/

namespace Go.Proofs.YtnajcnhgeggngaaGreat.Way
set_option maxHeartbeats 2000000
set_option maxRecDepth 100000
open Go.RowKit Go.Proofs.YtnajcnhgeggngaaGreat

structure BehD (s : ByteArray) (bol : Bool) (P : Nat) (M : Nat → Option Memo) (O : Nat → Prop) (base R B h : Nat) (zs : List Sp) (lv : Value) (sn : Option Nat) (w : World) (e : Ending) (w' : World) : Prop where
 ex : e = .returned (.tuple #[]) ∧ ∃ S' lv' pl' sn', RepW s bol P M O base R B h zs S' lv' pl' sn' w' ∧ Kx (fun b => M b ≠ none ∨ repB R B lv sn b) w w'
theorem bl_set8 {w : World} {B : Nat} {a0 a1 a2 a3 a4 a5 a6 a7 : Value} {t : TypeId} (h : w.heap[B]? = some (.cells #[a0, a1, a2, a3, a4, a5, a6, a7] t)) (x0 x1 x2 x3 x4 x5 x6 x7 : Value) :
  ((((((((w.setCell ⟨B, 0, none⟩ x0).setCell ⟨B, 1, none⟩ x1).setCell ⟨B, 2, none⟩ x2).setCell ⟨B, 3, none⟩ x3).setCell ⟨B, 4, none⟩ x4).setCell ⟨B, 5, none⟩ x5).setCell ⟨B, 6, none⟩ x6).setCell ⟨B, 7, none⟩ x7).heap[B]? = some (.cells #[x0, x1, x2, x3, x4, x5, x6, x7] t) := by
 have h0 : (w.setCell ⟨B, 0, none⟩ x0).heap[B]? = some (.cells #[x0, a1, a2, a3, a4, a5, a6, a7] t) := bl_put h x0
 have h1 : ((w.setCell ⟨B, 0, none⟩ x0).setCell ⟨B, 1, none⟩ x1).heap[B]? = some (.cells #[x0, x1, a2, a3, a4, a5, a6, a7] t) := bl_put h0 x1
 have h2 : (((w.setCell ⟨B, 0, none⟩ x0).setCell ⟨B, 1, none⟩ x1).setCell ⟨B, 2, none⟩ x2).heap[B]? = some (.cells #[x0, x1, x2, a3, a4, a5, a6, a7] t) := bl_put h1 x2
 have h3 : ((((w.setCell ⟨B, 0, none⟩ x0).setCell ⟨B, 1, none⟩ x1).setCell ⟨B, 2, none⟩ x2).setCell ⟨B, 3, none⟩ x3).heap[B]? = some (.cells #[x0, x1, x2, x3, a4, a5, a6, a7] t) := bl_put h2 x3
 have h4 : (((((w.setCell ⟨B, 0, none⟩ x0).setCell ⟨B, 1, none⟩ x1).setCell ⟨B, 2, none⟩ x2).setCell ⟨B, 3, none⟩ x3).setCell ⟨B, 4, none⟩ x4).heap[B]? = some (.cells #[x0, x1, x2, x3, x4, a5, a6, a7] t) := bl_put h3 x4
 have h5 : ((((((w.setCell ⟨B, 0, none⟩ x0).setCell ⟨B, 1, none⟩ x1).setCell ⟨B, 2, none⟩ x2).setCell ⟨B, 3, none⟩ x3).setCell ⟨B, 4, none⟩ x4).setCell ⟨B, 5, none⟩ x5).heap[B]? = some (.cells #[x0, x1, x2, x3, x4, x5, a6, a7] t) := bl_put h4 x5
 have h6 : (((((((w.setCell ⟨B, 0, none⟩ x0).setCell ⟨B, 1, none⟩ x1).setCell ⟨B, 2, none⟩ x2).setCell ⟨B, 3, none⟩ x3).setCell ⟨B, 4, none⟩ x4).setCell ⟨B, 5, none⟩ x5).setCell ⟨B, 6, none⟩ x6).heap[B]? = some (.cells #[x0, x1, x2, x3, x4, x5, x6, a7] t) := bl_put h5 x6
 have h7 : ((((((((w.setCell ⟨B, 0, none⟩ x0).setCell ⟨B, 1, none⟩ x1).setCell ⟨B, 2, none⟩ x2).setCell ⟨B, 3, none⟩ x3).setCell ⟨B, 4, none⟩ x4).setCell ⟨B, 5, none⟩ x5).setCell ⟨B, 6, none⟩ x6).setCell ⟨B, 7, none⟩ x7).heap[B]? = some (.cells #[x0, x1, x2, x3, x4, x5, x6, x7] t) := bl_put h6 x7
 exact h7
theorem ks_set8 {w : World} {B : Nat} (x0 x1 x2 x3 x4 x5 x6 x7 : Value) : Ks B w ((((((((w.setCell ⟨B, 0, none⟩ x0).setCell ⟨B, 1, none⟩ x1).setCell ⟨B, 2, none⟩ x2).setCell ⟨B, 3, none⟩ x3).setCell ⟨B, 4, none⟩ x4).setCell ⟨B, 5, none⟩ x5).setCell ⟨B, 6, none⟩ x6).setCell ⟨B, 7, none⟩ x7) :=
 (((((((((Ks.refl B w).set 0 x0).set 1 x1).set 2 x2).set 3 x3).set 4 x4).set 5 x5).set 6 x6).set 7 x7)
theorem wrep_any (s : ByteArray) (bol : Bool) (M : Nat → Option Memo) (O : Nat → Prop) (k low high nn : Int) (t : W4) (P : Nat) (kv : Value) (rd st h : Nat) (kn so : Option Nat) (hh : h < 8) (x : Sp) (w : World) (hP : w.heap[P]? = some (pto k low high nn t kv rd st h kn so)) (hM : MemOk M O w) (hO : ∀ b, O b → b < w.heap.size) (zs : List Sp)
  (HB : ∀ R B W1, Kp w W1 → w.heap.size ≤ R → w.heap.size ≤ B → RepW s bol P M O W1.heap.size R B h [] [] (.slice none 0 0) 0 none W1 → Calls Tryz.prog 110 #[.pointer (some ⟨R, 0, none⟩), .int .i64 0, spv x] W1 fun e w' => BehD s bol P M O W1.heap.size R B h zs (.slice none 0 0) none W1 e w') :
  Calls Tryz.prog 85 #[wkv s bol, ptv P, spv x] w fun e w' => WaysD zs (okB M O) (fun w' => Km M w w' ∧ MemOk M O w') e w' := by
 have HP := hid hP
 have HM := hid hM
 have HO := hid hO
 have HD := hid HB
 clear hP hM hO HB
 go_enter Tryz.func85, Tryz.ntmps85
 go_upto_region 1 with fail
 refine opq (fun W0 => W0.heap[w.heap.size]? = some (.cells #[.string s, .bool bol] 70) ∧ W0.heap[(w.heap.size + 1)]? = some (spo x) ∧ W0.heap[P]? = some (pto k low high nn t kv rd st h kn so) ∧ Kp w W0) ⟨by exact bl_alloc (last_of _ _) _, by exact last_at _ _ _ (by simp), by exact bl_kp HP.out kpt, by exact kpt⟩ ?_
 rintro W0 ⟨xT0, xX0, xP0, xK0⟩
 have T0 := hid xT0
 have X0 := hid xX0
 have P0 := hid xP0
 have K0 := hid xK0
 clear xT0 xX0 xP0 xK0
 clear HP
 go_cut [7] (fun v wc => ∃ R B, v = .pointer (some ⟨R, 0, none⟩) ∧ W0.heap.size ≤ R ∧ W0.heap.size ≤ B ∧ R ≠ B ∧ wc.heap[R]? = some (roB s bol P B h (.slice none 0 0) 0 none) ∧ TurnsAt wc B [] ∧ Kp W0 wc)
 case first =>
  have Q0 : Kp W0 W0.drew := (Kp.refl _).drew
  have MK : Hid (∀ W, Kp W0 W → W.cell? ⟨w.heap.size, 0, none⟩ = some (.string s) ∧ W.cell? ⟨w.heap.size, 1, none⟩ = some (.bool bol) ∧ W.cell? ⟨P, 11, none⟩ = some (.int .u8 (h : Int)) ∧ Hid (Kp W0 W)) := fun W k => ⟨bl_cell (bl_kp T0.out k) 0 _ rfl, bl_cell (bl_kp T0.out k) 1 _ rfl, bl_cell (bl_kp P0.out k) 11 _ rfl, k⟩
  refine wp_region_noPanic ?_
  refine hdrewZ 10 MK Q0 (fun hH => ?_)
  have KQ := Q0
  refine zk 10 0 [] (some 8) (Op.load 70 (Operand.tmp 3)) 70 (v := ?v0a1) rfl ?h0a1 hH ?_
  case h0a1 => intro _ _; go_simp; try with_reducible rfl
  try simp only [ps]
  refine zk 10 1 [] (some 9) (Op.move (Operand.tmp 1)) 71 (v := ?v1a2) rfl ?h1a2 hH ?_
  case h1a2 => intro _ _; go_simp; try with_reducible rfl
  try simp only [ps]
  refine zk 10 3 [] (some 11) (Op.move (Operand.tmp 1)) 71 (v := ?v3a3) rfl ?h3a3 hH ?_
  case h3a3 => intro _ _; go_simp; try with_reducible rfl
  try simp only [ps]
  refine zk 10 4 [] (some 12) (Op.nilCheck (Operand.tmp 11)) 0 (v := ?v4a4) rfl ?h4a4 hH ?_
  case h4a4 => intro _ _; go_simp; try with_reducible rfl
  try simp only [ps]
  refine zk 10 5 [] (some 13) (Op.fieldAddr 130 (Operand.tmp 12) 7) 0 (v := ?v5a5) rfl ?h5a5 hH ?_
  case h5a5 => intro _ _; go_simp; try with_reducible rfl
  try simp only [ps]
  refine zk 10 6 [] (some 14) (Op.load 75 (Operand.tmp 13)) 75 (v := ?v6a6) rfl ?h6a6 hH ?_
  case h6a6 => intro _ _; go_simp; try with_reducible rfl
  try simp only [ps]
  refine zk 10 7 [] (some 15) (Op.build 177 #[(0, Operand.tmp 14)]) 177 (v := ?v7a7) rfl ?h7a7 hH ?_
  case h7a7 => intro _ _; go_simp; try with_reducible rfl
  try simp only [ps]
  refine anyZ_ready (rs := [2, 9]) (by kernel_rfl) (by simp) ?_
  refine AllZ.cons (o := { dst := some 10, op := Op.makeMap 180 none, type := 180, pos := "repeat.go:21", after := #[], guard := none }) rfl (fun K hKq => ?_) ?_
  ·
   go_simp
   change K _ ((W0.alloc (.map #[] 0)).drew)
   obtain ⟨U1, hU1⟩ : ∃ U, W0.alloc (.map #[] 0) = U := ⟨_, rfl⟩
   have k1 : Kp W0 U1 := by rw [← hU1]; exact (Kp.refl W0).alloc _
   have ky1 : Kp W0 U1 := by rw [← hU1]; exact (Kp.refl _).alloc _
   have MB1 : Hid (TurnsAt U1 W0.heap.size []) := by rw [← hU1]; exact TurnsAt.made _
   rw [hU1]
   clear hU1 ky1
   refine hKq.out _ _ (MK.out _ k1.drew) (fun hN => ?_)
   clear hKq K hH KQ
   have hH := hN
   clear hN
   have KQ := hH.2.2.2.out
   try simp only [ps]
   refine zk 10 8 [] (some 16) (Op.build 182 #[(0, Operand.tmp 8), (1, Operand.tmp 9), (2, Operand.tmp 10), (3, Operand.tmp 15)]) 182 (v := ?v8a8) rfl ?h8a8 hH ?_
   case h8a8 => intro _ _; go_simp; try with_reducible rfl
   try simp only [ps]
   refine anyZ_ready (rs := [9]) (by kernel_rfl) (by simp) ?_
   refine AllZ.cons (o := { dst := some 7, op := Op.alloc 182, type := 0, pos := "repeat.go:21", after := #[], guard := none }) rfl (fun K hKq => ?_) AllZ.nil
   go_simp
   change K _ ((U1.alloc (.cells #[.string ⟨#[]⟩, .bool false, .pointer none, .map none, .int .u8 0, .slice none 0 0, .int .u64 0, .map none] 182)).drew)
   obtain ⟨U2, hU2⟩ : ∃ U, U1.alloc (.cells #[.string ⟨#[]⟩, .bool false, .pointer none, .map none, .int .u8 0, .slice none 0 0, .int .u64 0, .map none] 182) = U := ⟨_, rfl⟩
   have k2 : Kp W0 U2 := by rw [← hU2]; exact k1.alloc _
   have ky2 : Kp U1 U2 := by rw [← hU2]; exact (Kp.refl _).alloc _
   have KC2 : Hid (U2.heap[U1.heap.size]? = some (.cells #[.string ⟨#[]⟩, .bool false, .pointer none, .map none, .int .u8 0, .slice none 0 0, .int .u64 0, .map none] 182)) := by rw [← hU2]; exact last_of _ _
   have MB2 : Hid (TurnsAt U2 W0.heap.size []) := MB1.out.same (ky2.block _ MB1.out.lt)
   rw [hU2]
   clear hU2 ky2
   refine hKq.out _ _ (MK.out _ k2.drew) (fun hN => ?_)
   clear hKq K hH KQ
   have hH := hN
   clear hN
   have KQ := hH.2.2.2.out
   try simp only [ps]
   refine anyZ_ready (rs := [10]) (by kernel_rfl) (by simp) ?_
   refine AllZ.last (o := { dst := none, op := Op.store 182 (Operand.tmp 7) (Operand.tmp 16), type := 0, pos := "repeat.go:21", after := #[{ on := 9, ground := Ground.data }, { on := 8, ground := Ground.data }, { on := 0, ground := Ground.phase }, { on := 1, ground := Ground.phase }, { on := 2, ground := Ground.phase }, { on := 3, ground := Ground.phase }, { on := 4, ground := Ground.phase }, { on := 5, ground := Ground.phase }, { on := 6, ground := Ground.phase }, { on := 7, ground := Ground.phase }, { on := 8, ground := Ground.phase }, { on := 9, ground := Ground.phase }], guard := none }) rfl (Or.inl rfl) (fun K hKq => ?_) AllZ.nil
   have hne : U1.heap.size ≠ W0.heap.size := by have := MB1.out.lt; omega
   obtain ⟨q0, fq0, q1, fq1, q2, fq2, q3, fq3, q4, fq4, q5, fq5, q6, fq6, q7, fq7⟩ := cellf8 (KC2.out)
   go_simp
   refine hKq.out _ _ ?_
   clear q0 fq0 q1 fq1 q2 fq2 q3 fq3 q4 fq4 q5 fq5 q6 fq6 q7 fq7
   clear hKq K
   try simp only [ps]
   refine anyZ_done (by kernel_rfl) ?_ _
   refine NoPanic.normal ?_
   go_wp2_with fail
   go_meet
   case rel => exact ⟨U1.heap.size, W0.heap.size, rfl, k1.size, Nat.le_refl _, hne, bl_drew (bl_set8 KC2.out _ _ _ _ _ _ _ _), MB2.out.same ((ks_set8 (B := U1.heap.size) _ _ _ _ _ _ _ _).drew.block _ MB2.out.lt hne.symm), Ks.up (ks_set8 (B := U1.heap.size) _ _ _ _ _ _ _ _).drew k2 (k1.size)⟩
  refine AllZ.cons (o := { dst := some 7, op := Op.alloc 182, type := 0, pos := "repeat.go:21", after := #[], guard := none }) rfl (fun K hKq => ?_) ?_
  ·
   go_simp
   change K _ ((W0.alloc (.cells #[.string ⟨#[]⟩, .bool false, .pointer none, .map none, .int .u8 0, .slice none 0 0, .int .u64 0, .map none] 182)).drew)
   obtain ⟨U1, hU1⟩ : ∃ U, W0.alloc (.cells #[.string ⟨#[]⟩, .bool false, .pointer none, .map none, .int .u8 0, .slice none 0 0, .int .u64 0, .map none] 182) = U := ⟨_, rfl⟩
   have k1 : Kp W0 U1 := by rw [← hU1]; exact (Kp.refl W0).alloc _
   have ky1 : Kp W0 U1 := by rw [← hU1]; exact (Kp.refl _).alloc _
   have KC1 : Hid (U1.heap[W0.heap.size]? = some (.cells #[.string ⟨#[]⟩, .bool false, .pointer none, .map none, .int .u8 0, .slice none 0 0, .int .u64 0, .map none] 182)) := by rw [← hU1]; exact last_of _ _
   rw [hU1]
   clear hU1 ky1
   refine hKq.out _ _ (MK.out _ k1.drew) (fun hN => ?_)
   clear hKq K hH KQ
   have hH := hN
   clear hN
   have KQ := hH.2.2.2.out
   try simp only [ps]
   refine anyZ_ready (rs := [2]) (by kernel_rfl) (by simp) ?_
   refine AllZ.cons (o := { dst := some 10, op := Op.makeMap 180 none, type := 180, pos := "repeat.go:21", after := #[], guard := none }) rfl (fun K hKq => ?_) AllZ.nil
   go_simp
   change K _ ((U1.alloc (.map #[] 0)).drew)
   obtain ⟨U2, hU2⟩ : ∃ U, U1.alloc (.map #[] 0) = U := ⟨_, rfl⟩
   have k2 : Kp W0 U2 := by rw [← hU2]; exact k1.alloc _
   have ky2 : Kp U1 U2 := by rw [← hU2]; exact (Kp.refl _).alloc _
   have MB2 : Hid (TurnsAt U2 U1.heap.size []) := by rw [← hU2]; exact TurnsAt.made _
   have KC2 : Hid (U2.heap[W0.heap.size]? = some (.cells #[.string ⟨#[]⟩, .bool false, .pointer none, .map none, .int .u8 0, .slice none 0 0, .int .u64 0, .map none] 182)) := bl_kp KC1.out ky2
   rw [hU2]
   clear hU2 ky2
   refine hKq.out _ _ (MK.out _ k2.drew) (fun hN => ?_)
   clear hKq K hH KQ
   have hH := hN
   clear hN
   have KQ := hH.2.2.2.out
   try simp only [ps]
   refine zk 10 8 [] (some 16) (Op.build 182 #[(0, Operand.tmp 8), (1, Operand.tmp 9), (2, Operand.tmp 10), (3, Operand.tmp 15)]) 182 (v := ?v8a9) rfl ?h8a9 hH ?_
   case h8a9 => intro _ _; go_simp; try with_reducible rfl
   try simp only [ps]
   refine anyZ_ready (rs := [10]) (by kernel_rfl) (by simp) ?_
   refine AllZ.last (o := { dst := none, op := Op.store 182 (Operand.tmp 7) (Operand.tmp 16), type := 0, pos := "repeat.go:21", after := #[{ on := 9, ground := Ground.data }, { on := 8, ground := Ground.data }, { on := 0, ground := Ground.phase }, { on := 1, ground := Ground.phase }, { on := 2, ground := Ground.phase }, { on := 3, ground := Ground.phase }, { on := 4, ground := Ground.phase }, { on := 5, ground := Ground.phase }, { on := 6, ground := Ground.phase }, { on := 7, ground := Ground.phase }, { on := 8, ground := Ground.phase }, { on := 9, ground := Ground.phase }], guard := none }) rfl (Or.inl rfl) (fun K hKq => ?_) AllZ.nil
   have hne : W0.heap.size ≠ U1.heap.size := by have := bl_lt KC1.out; omega
   obtain ⟨q0, fq0, q1, fq1, q2, fq2, q3, fq3, q4, fq4, q5, fq5, q6, fq6, q7, fq7⟩ := cellf8 (KC2.out)
   go_simp
   refine hKq.out _ _ ?_
   clear q0 fq0 q1 fq1 q2 fq2 q3 fq3 q4 fq4 q5 fq5 q6 fq6 q7 fq7
   clear hKq K
   try simp only [ps]
   refine anyZ_done (by kernel_rfl) ?_ _
   refine NoPanic.normal ?_
   go_wp2_with fail
   go_meet
   case rel => exact ⟨W0.heap.size, U1.heap.size, rfl, Nat.le_refl _, k1.size, hne, bl_drew (bl_set8 KC2.out _ _ _ _ _ _ _ _), MB2.out.same ((ks_set8 (B := W0.heap.size) _ _ _ _ _ _ _ _).drew.block _ MB2.out.lt hne.symm), Ks.up (ks_set8 (B := W0.heap.size) _ _ _ _ _ _ _ _).drew k2 (Nat.le_refl _)⟩
  exact AllZ.nil
 case rest =>
 obtain ⟨R, B, rfl, hR, hB, hne, hb, ht, hk⟩ := hcut
 rename World => W1
 have K1 := hid (K0.out.trans hk)
 have HR := hid (Nat.le_trans K0.out.size hR)
 have HBb := hid (Nat.le_trans K0.out.size hB)
 have RW := hid (RepW.new HM.out hh (K0.out.trans hk) (Nat.le_trans K0.out.size hR) (Nat.le_trans K0.out.size hB) hne hb ht)
 have X1 := hid (bl_kp X0.out hk)
 clear hR hB hne hb ht hk hh T0 X0 P0 K0
 obtain ⟨x0, x1, x2, x3, x4, x5, x6⟩ := cells7 (X1.out)
 go_wp2_with fail
 clear x0 x1 x2 x3 x4 x5 x6
 refine (HD.out R B W1 K1.out HR.out HBb.out RW.out).mono ?_
 rintro e y hd
 obtain ⟨rfl, S', lv', pl', sn', hr, hk⟩ := hd.ex
 have RC := hid hr
 have KC := hid hk
 clear hd hr hk
 have r5 := bl_cell (RC.out.b) 5 _ rfl
 go_wp2_with fail
 go_ret
 exact ⟨_, rfl, RC.out.spl (fun b o => Nat.lt_of_lt_of_le (HO.out b o) K1.out.size), Kx.past2 (S := fun b => M b ≠ none) (Kp.kx K1.out) KC.out (fun b hb e => by
  rcases e with e | (e | e | e) | e
  ·
   exact e
  ·
   have := HR.out; omega
  ·
   cases e
  ·
   cases e
  ·
   have := HBb.out; omega), RC.out.mem⟩
end Go.Proofs.YtnajcnhgeggngaaGreat.Way

/-! ### Found -/

namespace Go.Proofs.YtnajcnhgeggngaaGreat.Way
set_option maxHeartbeats 2000000
set_option maxRecDepth 100000
open Go.RowKit Go.Proofs.YtnajcnhgeggngaaGreat

structure FQ (Q : Ending → World → Prop) (e : Ending) (w' : World) : Prop where
 q : Q e w'
theorem found3_any (s : ByteArray) (bol : Bool) (low high n : Int) (t : W4) (P : Nat) (kv : Value) (rd st h : Nat) (kn so : Option Nat) (x : Sp) (w : World) (hP : w.heap[P]? = some (pto 3 low high n t kv rd st h kn so)) (Q : Ending → World → Prop) (HC : ∀ W, Kp w W → Calls Tryz.prog 83 #[wkv s bol, ptv P, spv x] W fun e w' => Q e w' ∧ ∃ v, e = .returned v) :
  Calls Tryz.prog 54 #[wkv s bol, ptv P, spv x] w fun e w' => FQ Q e w' := by
 have HP := hid hP
 have HD := hid HC
 clear hP HC
 go_enter Tryz.func54, Tryz.ntmps54
 go_upto_region 1 with fail
 refine opq (fun W0 => W0.heap[w.heap.size]? = some (.cells #[.string s, .bool bol] 70) ∧ W0.heap[(w.heap.size + 1)]? = some (spo x) ∧ W0.heap[P]? = some (pto 3 low high n t kv rd st h kn so) ∧ Kp w W0) ⟨by exact bl_alloc (last_of _ _) _, by exact last_at _ _ _ (by simp), by exact bl_kp HP.out kpt, by exact kpt⟩ ?_
 rintro W0 ⟨xT0, xX0, xP0, xK0⟩
 have T0 := hid xT0
 have X0 := hid xX0
 have P0 := hid xP0
 have K0 := hid xK0
 clear xT0 xX0 xP0 xK0
 have b0 := bl_cell (T0.out) 0 _ rfl
 have b1 := bl_cell (T0.out) 1 _ rfl
 obtain ⟨x0, x1, x2, x3, x4, x5, x6⟩ := cells7 (X0.out)
 obtain ⟨p0, p1, p2, p3, p4, p5, p6, p7, p8, p9, p10, p11, p12, p13⟩ := cells14 (P0.out)
 go_wp2_with fail
 refine (HD.out W0 K0.out).mono ?_
 rintro e y ⟨hq, v, rfl⟩
 have HQ := hid hq
 clear hq b0 b1 x0 x1 x2 x3 x4 x5 x6 p0 p1 p2 p3 p4 p5 p6 p7 p8 p9 p10 p11 p12 p13
 go_wp2_with fail
 go_ret
 exact ⟨HQ.out⟩
theorem found5_any (s : ByteArray) (bol : Bool) (low high n : Int) (t : W4) (P : Nat) (kv : Value) (rd st h : Nat) (kn so : Option Nat) (x : Sp) (w : World) (hP : w.heap[P]? = some (pto 5 low high n t kv rd st h kn so)) (Q : Ending → World → Prop) (HC : ∀ W, Kp w W → Calls Tryz.prog 84 #[wkv s bol, ptv P, spv x] W fun e w' => Q e w' ∧ ∃ v, e = .returned v) :
  Calls Tryz.prog 54 #[wkv s bol, ptv P, spv x] w fun e w' => FQ Q e w' := by
 have HP := hid hP
 have HD := hid HC
 clear hP HC
 go_enter Tryz.func54, Tryz.ntmps54
 go_upto_region 1 with fail
 refine opq (fun W0 => W0.heap[w.heap.size]? = some (.cells #[.string s, .bool bol] 70) ∧ W0.heap[(w.heap.size + 1)]? = some (spo x) ∧ W0.heap[P]? = some (pto 5 low high n t kv rd st h kn so) ∧ Kp w W0) ⟨by exact bl_alloc (last_of _ _) _, by exact last_at _ _ _ (by simp), by exact bl_kp HP.out kpt, by exact kpt⟩ ?_
 rintro W0 ⟨xT0, xX0, xP0, xK0⟩
 have T0 := hid xT0
 have X0 := hid xX0
 have P0 := hid xP0
 have K0 := hid xK0
 clear xT0 xX0 xP0 xK0
 have b0 := bl_cell (T0.out) 0 _ rfl
 have b1 := bl_cell (T0.out) 1 _ rfl
 obtain ⟨x0, x1, x2, x3, x4, x5, x6⟩ := cells7 (X0.out)
 obtain ⟨p0, p1, p2, p3, p4, p5, p6, p7, p8, p9, p10, p11, p12, p13⟩ := cells14 (P0.out)
 go_wp2_with fail
 refine (HD.out W0 K0.out).mono ?_
 rintro e y ⟨hq, v, rfl⟩
 have HQ := hid hq
 clear hq b0 b1 x0 x1 x2 x3 x4 x5 x6 p0 p1 p2 p3 p4 p5 p6 p7 p8 p9 p10 p11 p12 p13
 go_wp2_with fail
 go_ret
 exact ⟨HQ.out⟩
theorem found4_any (s : ByteArray) (bol : Bool) (low high n : Int) (t : W4) (P : Nat) (kv : Value) (rd st h : Nat) (kn so : Option Nat) (x : Sp) (w : World) (hP : w.heap[P]? = some (pto 4 low high n t kv rd st h kn so)) (Q : Ending → World → Prop) (HC : ∀ W, Kp w W → Calls Tryz.prog 85 #[wkv s bol, ptv P, spv x] W fun e w' => Q e w' ∧ ∃ v, e = .returned v) :
  Calls Tryz.prog 54 #[wkv s bol, ptv P, spv x] w fun e w' => FQ Q e w' := by
 have HP := hid hP
 have HD := hid HC
 clear hP HC
 go_enter Tryz.func54, Tryz.ntmps54
 go_upto_region 1 with fail
 refine opq (fun W0 => W0.heap[w.heap.size]? = some (.cells #[.string s, .bool bol] 70) ∧ W0.heap[(w.heap.size + 1)]? = some (spo x) ∧ W0.heap[P]? = some (pto 4 low high n t kv rd st h kn so) ∧ Kp w W0) ⟨by exact bl_alloc (last_of _ _) _, by exact last_at _ _ _ (by simp), by exact bl_kp HP.out kpt, by exact kpt⟩ ?_
 rintro W0 ⟨xT0, xX0, xP0, xK0⟩
 have T0 := hid xT0
 have X0 := hid xX0
 have P0 := hid xP0
 have K0 := hid xK0
 clear xT0 xX0 xP0 xK0
 have b0 := bl_cell (T0.out) 0 _ rfl
 have b1 := bl_cell (T0.out) 1 _ rfl
 obtain ⟨x0, x1, x2, x3, x4, x5, x6⟩ := cells7 (X0.out)
 obtain ⟨p0, p1, p2, p3, p4, p5, p6, p7, p8, p9, p10, p11, p12, p13⟩ := cells14 (P0.out)
 go_wp2_with fail
 refine (HD.out W0 K0.out).mono ?_
 rintro e y ⟨hq, v, rfl⟩
 have HQ := hid hq
 clear hq b0 b1 x0 x1 x2 x3 x4 x5 x6 p0 p1 p2 p3 p4 p5 p6 p7 p8 p9 p10 p11 p12 p13
 go_wp2_with fail
 go_ret
 exact ⟨HQ.out⟩
theorem found2_any (s : ByteArray) (bol : Bool) (M : Nat → Option Memo) (O : Nat → Prop) (low high n : Int) (t : W4) (P : Nat) (kv : Value) (rd st h : Nat) (kn so : Option Nat) (x : Sp) (w : World) (hP : w.heap[P]? = some (pto 2 low high n t kv rd st h kn so)) (hMP : M P = none) (hM : MemOk M O w) (zs : List Sp) (HC : ∀ W, Kp w W → Calls Tryz.prog 82 #[wkv s bol, kv, spv x] W fun e w' => WaysD zs (okB M O) (fun w' => Km M W w' ∧ MemOk M O w') e w') :
  Calls Tryz.prog 54 #[wkv s bol, ptv P, spv x] w fun e w' => WaysD zs (okB M O) (fun w' => Km M w w' ∧ MemOk M O w') e w' := by
 have HP := hid hP
 have HD := hid HC
 have HMP := hid (show ¬ M P ≠ none from fun e => e hMP)
 have HMT := hid (show ¬ M w.heap.size ≠ none from fun e => e (hM.lt (Nat.le_refl _)))
 have HMX := hid (show ¬ M (w.heap.size + 1) ≠ none from fun e => e (hM.lt (Nat.le_succ _)))
 clear hP HC hMP hM
 go_enter Tryz.func54, Tryz.ntmps54
 go_upto_region 1 with fail
 refine opq (fun W0 => W0.heap[w.heap.size]? = some (.cells #[.string s, .bool bol] 70) ∧ W0.heap[(w.heap.size + 1)]? = some (spo x) ∧ W0.heap[P]? = some (pto 2 low high n t kv rd st h kn so) ∧ Kp w W0) ⟨by exact bl_alloc (last_of _ _) _, by exact last_at _ _ _ (by simp), by exact bl_kp HP.out kpt, by exact kpt⟩ ?_
 rintro W0 ⟨xT0, xX0, xP0, xK0⟩
 have T0 := hid xT0
 have X0 := hid xX0
 have P0 := hid xP0
 have K0 := hid xK0
 clear xT0 xX0 xP0 xK0
 obtain ⟨p0, p1, p2, p3, p4, p5, p6, p7, p8, p9, p10, p11, p12, p13⟩ := cells14 (P0.out)
 have Q1 := hid ((Kp.refl W0).drew)
 go_upto_region 3 with fail
 clear p0 p1 p2 p3 p4 p5 p6 p7 p8 p9 p10 p11 p12 p13
 have Q0 : Kx (fun b => M b ≠ none) W0 W0.drew := (Kx.refl _ _).drew
 have MK : Hid (∀ W, Kx (fun b => M b ≠ none) W0 W → W.cell? ⟨w.heap.size, 0, none⟩ = some (.string s) ∧ W.cell? ⟨w.heap.size, 1, none⟩ = some (.bool bol) ∧ W.cell? ⟨(w.heap.size + 1), 0, none⟩ = some (.int .i8 x.a) ∧ W.cell? ⟨(w.heap.size + 1), 1, none⟩ = some (.int .i8 x.f0) ∧ W.cell? ⟨(w.heap.size + 1), 2, none⟩ = some (.int .i8 x.t0) ∧ W.cell? ⟨(w.heap.size + 1), 3, none⟩ = some (.int .i8 x.f1) ∧ W.cell? ⟨(w.heap.size + 1), 4, none⟩ = some (.int .i8 x.t1) ∧ W.cell? ⟨(w.heap.size + 1), 5, none⟩ = some (.int .i8 x.f2) ∧ W.cell? ⟨(w.heap.size + 1), 6, none⟩ = some (.int .i8 x.t2) ∧ W.cell? ⟨P, 8, none⟩ = some (kv) ∧ Hid (Kx (fun b => M b ≠ none) W0 W)) := fun W k => ⟨bl_cell (bl_kx T0.out k HMT.out) 0 _ rfl, bl_cell (bl_kx T0.out k HMT.out) 1 _ rfl, bl_cell (bl_kx X0.out k HMX.out) 0 _ rfl, bl_cell (bl_kx X0.out k HMX.out) 1 _ rfl, bl_cell (bl_kx X0.out k HMX.out) 2 _ rfl, bl_cell (bl_kx X0.out k HMX.out) 3 _ rfl, bl_cell (bl_kx X0.out k HMX.out) 4 _ rfl, bl_cell (bl_kx X0.out k HMX.out) 5 _ rfl, bl_cell (bl_kx X0.out k HMX.out) 6 _ rfl, bl_cell (bl_kx P0.out k HMP.out) 8 _ rfl, k⟩
 refine wp_region_noPanic ?_
 refine hdrew MK Q0 (fun hH => ?_)
 have KQ := Q0
 refine tk 0 (some 13) (Op.load 70 (Operand.tmp 3)) 70 (v := ?v0a1) rfl ?h0a1 hH ?_
 case h0a1 => intro _ _; go_simp; try with_reducible rfl
 try simp only [ps]
 refine tk 1 (some 14) (Op.move (Operand.tmp 1)) 71 (v := ?v1a2) rfl ?h1a2 hH ?_
 case h1a2 => intro _ _; go_simp; try with_reducible rfl
 try simp only [ps]
 refine tk 2 (some 15) (Op.nilCheck (Operand.tmp 14)) 0 (v := ?v2a3) rfl ?h2a3 hH ?_
 case h2a3 => intro _ _; go_simp; try with_reducible rfl
 try simp only [ps]
 refine tk 3 (some 16) (Op.fieldAddr 130 (Operand.tmp 15) 5) 0 (v := ?v3a4) rfl ?h3a4 hH ?_
 case h3a4 => intro _ _; go_simp; try with_reducible rfl
 try simp only [ps]
 refine tk 4 (some 17) (Op.load 124 (Operand.tmp 16)) 124 (v := ?v4a5) rfl ?h4a5 hH ?_
 case h4a5 => intro _ _; go_simp; try with_reducible rfl
 try simp only [ps]
 refine tk 5 (some 18) (Op.load 83 (Operand.tmp 5)) 83 (v := ?v5a6) rfl ?h5a6 hH ?_
 case h5a6 => intro _ _; go_simp; try with_reducible rfl
 try simp only [ps]
 refine wpAnyH_ready (rs := [6]) (by kernel_rfl) (by simp) ?_
 refine AllReadyH.cons (o := { dst := some 19, op := Op.call { callee := Callee.value (Operand.func 82), args := #[Operand.tmp 13, Operand.tmp 17, Operand.tmp 18], argTypes := #[70, 124, 83] }, type := 68, pos := "walk.go:40", after := #[{ on := 0, ground := Ground.data }, { on := 4, ground := Ground.data }, { on := 5, ground := Ground.data }], guard := none }) rfl (fun K hKq => ?_) AllReadyH.nil
 go_simp
 refine (HD.out _ (K0.out.trans Q1.out)).mono ?_
 rintro e y ⟨⟨v, rfl, hv, hk, hm⟩⟩
 have HV := hid hv
 have HK2 := hid hk
 have HM2 := hid hm
 clear hv hk hm
 refine hKq.out _ _ (MK.out _ ((Kp.kx Q1.out).trans HK2.out)) (fun hN => ?_)
 clear hKq K hH KQ
 have hH := hN
 clear hN
 have KQ := hH.2.2.2.2.2.2.2.2.2.2.out
 try simp only [ps]
 refine tk 7 (some 6) (Op.assign (Operand.tmp 19)) 68 (v := ?v7a7) rfl ?h7a7 hH ?_
 case h7a7 => intro _ _; go_simp; try with_reducible rfl
 try simp only [ps]
 refine wpAnyH_done (by kernel_rfl) ?_ _
 refine NoPanic.normal ?_
 go_wp2_with fail
 go_ret
 exact ⟨_, rfl, HV.out, (Kp.kx (K0.out.trans Q1.out)).trans HK2.out, HM2.out⟩
end Go.Proofs.YtnajcnhgeggngaaGreat.Way
