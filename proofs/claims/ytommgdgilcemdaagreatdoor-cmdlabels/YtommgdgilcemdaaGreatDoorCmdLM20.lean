/-
  Texts of this claim: Right4.
-/
import Derived.Test.YtommgdgilcemdaaGreatDoorCmdLM19

/-! ### Right4 -/

namespace Go.Proofs.YtommgdgilcemdaaGreatDoor
open Go.RowKit

theorem chkAlt_cons (ere : Bool) (r : Rx) (rs : List Rx) (c : Ck) : chkAlt ere (r :: rs) c = if r.k = 3 then none else (chk ere r false false c).bind fun c' => chkAlt ere rs c' := by
 rw [chkAlt]
 split
 ·
  rfl
 ·
  cases chk ere r false false c <;> rfl

/-- One of a choice: is it not as it should be? -/
structure NotD (C : Nat) (ere : Bool) (d0 : Nat) (o : Option Ck) (w : World) (e : Ending) (w' : World) : Prop where
 ex : ∃ b, e = .returned (.bool (!b)) ∧ Ckd C ere d0 o w (.returned (.bool b)) w'
theorem Ckd.from {C : Nat} {ere : Bool} {d0 : Nat} {o : Option Ck} {w w1 w' : World} {e : Ending} (h : Ckd C ere d0 o w1 e w') (k : Ks C w w1) : Ckd C ere d0 o w e w' := by
 obtain ⟨b, h1, h2, h3, h4⟩ := h.ex
 exact ⟨b, h1, h2, h3, k.trans h4⟩

set_option maxHeartbeats 2000000 in
set_option maxRecDepth 100000 in
theorem alt1_any (ere : Bool) (r : Rx) (H : RightSaid ere r) (C V : Nat) (ok : Nat → Prop) (k mn mx m : Int) (t : W4) (ad : Option Addr) (l c : Nat) (n g d : Nat) (w : World) (hI : Is w ok r (rxv k mn mx m t (.slice ad l c))) (hok : ∀ x, ok x → x ≠ C) (hc : Cb w C ere n g d) (hV : w.heap[V]? = some (.cells #[.pointer (some ⟨C, 0, none⟩)] 133)) (hn : n ≤ 40) (hg : g ≤ n) (hd : d ≤ 6) :
  Calls Tryz.prog 129 #[rxv k mn mx m t (.slice ad l c), .pointer (some ⟨V, 0, none⟩)] w fun e w' => NotD C ere d (if k = 3 then none else chk ere r false false ⟨n, g, d⟩) w e w' := by
 have HI := hid hI
 have HOK := hid hok
 have HC := hid hc
 have HV := hid hV
 have hCw := hc.lt
 have HH := hid H
 clear hI hok hc hV H
 go_enter Tryz.func129, Tryz.ntmps129
 go_upto_region 1 with fail
 refine opq (fun W0 => W0.heap[w.heap.size]? = some (rxo k mn mx m t (.slice ad l c)) ∧ Cb W0 C ere n g d ∧ W0.heap[V]? = some (.cells #[.pointer (some ⟨C, 0, none⟩)] 133) ∧ Is W0 ok r (rxv k mn mx m t (.slice ad l c)) ∧ Ks C w W0) ⟨by (first | exact last_at _ _ _ (by simp) | (refine bl_alloc ?_ _; first | exact last_at _ _ _ (by simp) | (refine bl_alloc ?_ _; first | exact last_at _ _ _ (by simp) | (refine bl_alloc ?_ _; exact last_at _ _ _ (by simp))))), by exact HC.out.kp (by repeat (first | exact Kp.refl _ | refine Kp.alloc ?_ _ | refine Kp.drew ?_ | refine Kp.drewN _ ?_)), by exact bl_kp HV.out (by repeat (first | exact Kp.refl _ | refine Kp.alloc ?_ _ | refine Kp.drew ?_ | refine Kp.drewN _ ?_)), by exact HI.out.kp (by repeat (first | exact Kp.refl _ | refine Kp.alloc ?_ _ | refine Kp.drew ?_ | refine Kp.drewN _ ?_)), by exact Kp.ks (by repeat (first | exact Kp.refl _ | refine Kp.alloc ?_ _ | refine Kp.drew ?_ | refine Kp.drewN _ ?_)) (Nat.le_of_lt hCw)⟩ ?_
 rintro W0 ⟨xA0, xCB0, xV0, xI0, xKS0⟩
 have A0 : Hid (W0.heap[w.heap.size]? = some (rxo k mn mx m t (.slice ad l c))) := xA0
 have CB0 : Hid (Cb W0 C ere n g d) := xCB0
 have V0 : Hid (W0.heap[V]? = some (.cells #[.pointer (some ⟨C, 0, none⟩)] 133)) := xV0
 have I0 : Hid (Is W0 ok r (rxv k mn mx m t (.slice ad l c))) := xI0
 have KS0 : Hid (Ks C w W0) := xKS0
 clear xA0 xCB0 xV0 xI0 xKS0
 have a0 := bl_cell (A0.out) 0 _ rfl
 have a1 := bl_cell (A0.out) 1 _ rfl
 have a2 := bl_cell (A0.out) 2 _ rfl
 have a3 := bl_cell (A0.out) 3 _ rfl
 have a4 := bl_cell (A0.out) 4 _ rfl
 have a5 := bl_cell (A0.out) 5 _ rfl
 have a6 := bl_cell (A0.out) 6 _ rfl
 have a7 := bl_cell (A0.out) 7 _ rfl
 have a8 := bl_cell (A0.out) 8 _ rfl
 have v0 := bl_cell V0.out 0 _ rfl
 by_cases h3 : k = 3
 ·
  subst h3
  go_wp2_with fail
  go_ret
  exact ⟨false, rfl, Ckd.no rfl CB0.out (by omega) (by omega) (by omega) (Nat.le_refl _) KS0.out⟩
 have g3 : (k == 3) = false := by simp [h3]
 go_wp2_with fail
 clear a0 a1 a2 a3 a4 a5 a6 a7 a8 v0
 refine (HH.out.all C ok _ false false n g d _ I0.out HOK.out CB0.out hn hg hd).mono ?_
 intro e W2 hcd
 obtain ⟨b, rfl, hb⟩ : ∃ b, e = .returned (.bool b) ∧ True := by
  obtain ⟨b, h1, _⟩ := hcd.ex
  exact ⟨b, h1, trivial⟩
 have CD := hid (hcd.from KS0.out)
 clear hcd hb
 go_wp2_with fail
 go_ret
 exact ⟨b, rfl, CD.out⟩

/-- In the loop of a choice's check. -/
structure Aw (ere : Bool) (C V : Nat) (d0 : Nat) (w : World) (ts : List Rx) (o : Option Ck) (k : Nat) (wr : World) (c : Ck) : Prop where
 cb : Cb wr C ere c.n c.g c.d
 v : wr.heap[V]? = some (.cells #[.pointer (some ⟨C, 0, none⟩)] 133)
 n : c.n ≤ 40
 g : c.g ≤ c.n
 d : c.d = d0
 eq : chkAlt ere (ts.drop k) c = o
 ks : Ks C w wr
/-- Which of them is not right: below nought, if none. -/
structure IdxD (C : Nat) (ere : Bool) (d0 : Nat) (o : Option Ck) (w : World) (e : Ending) (w' : World) : Prop where
 ex : ∃ (i : Int) (b : Bool), e = .returned (.int .i64 i) ∧ decide (0 ≤ i) = !b ∧ Ckd C ere d0 o w (.returned (.bool b)) w'

set_option maxHeartbeats 2000000 in
set_option maxRecDepth 100000 in
theorem indexFunc_any (ere : Bool) (ts : List Rx) (H : ∀ r, r ∈ ts → RightSaid ere r) (C V : Nat) (ok : Nat → Prop) (ad : Option Addr) (l c : Nat) (n g d : Nat) (w : World) (hr : RowAt w ok ts ad l c) (hok : ∀ x, ok x → x ≠ C) (hc : Cb w C ere n g d) (hV : w.heap[V]? = some (.cells #[.pointer (some ⟨C, 0, none⟩)] 133)) (hVC : V ≠ C) (hn : n ≤ 40) (hg : g ≤ n) (hd : d ≤ 6) (hl : ts.length ≤ 1000000) :
  Calls Tryz.prog 150 #[.slice ad l c, .func (.func 129) #[] #[.pointer (some ⟨V, 0, none⟩)]] w fun e w' => IdxD C ere d (chkAlt ere ts ⟨n, g, d⟩) w e w' := by
 have hle := hr.ln
 have hlc := hr.cp
 subst hle
 obtain ⟨L, hL⟩ : ∃ L, ts.length = L := ⟨_, rfl⟩
 rw [hL] at hr hlc hl ⊢
 have HL := hid hL
 have RR := hid hr
 have HC := hid hc
 have HV := hid hV
 have HH := hid H
 have HOK := hid hok
 clear hL hr hc H hok hV
 obtain ⟨o, ho⟩ : ∃ o, chkAlt ere ts ⟨n, g, d⟩ = o := ⟨_, rfl⟩
 rw [ho]
 have HO := hid ho
 clear ho
 go_enter Tryz.func150, Tryz.ntmps150
 go_wp2_with fail
 go_loopg [8] L (fun gg v wr => ∃ (k : Nat) (c : Ck), k + gg = L ∧ v = .int .i64 (k : Int) ∧ Aw ere C V d w ts o k wr c)
 case atStart => exact ⟨0, ⟨n, g, d⟩, by omega, rfl, HC.out, HV.out, hn, hg, rfl, HO.out, Ks.refl _ _⟩
 case round =>
  obtain ⟨k, ⟨n1, g1, d1⟩, hk, rfl, hw⟩ := hrel
  have KW := hid hw
  have hn1 : n1 ≤ 40 := hw.n
  have hg1 : g1 ≤ n1 := hw.g
  have hd1 : d1 = d := hw.d
  subst hd1
  clear hw
  by_cases hlt : k < L
  ·
   have gkw : IntKind.i64.wrap ((k : Int) + 1) = (k : Int) + 1 := by rw [IntKind.wrap_i64]; omega
   have ga : (k : Int) < (L : Int) := by omega
   have g0 : (0 : Int) ≤ (k : Int) := by omega
   obtain ⟨r, hr⟩ : ∃ r, ts[k]? = some r := ⟨_, List.getElem?_eq_getElem (by rw [HL.out]; exact hlt)⟩
   have hdrop : ts.drop k = r :: ts.drop (k + 1) := List.drop_eq_getElem_cons (by rw [HL.out]; exact hlt) ▸ by
    have := (List.getElem?_eq_some_iff.1 hr).2
    rw [this]
   have RW := hid (RR.out.ks KW.out.ks HOK.out)
   obtain ⟨bb, oo, kk, mn, mx, mm, tt, ad', ll, cc, e1, hbb, i1, ce1⟩ := RW.out.at k r hr
   subst e1
   have RS := hid (HH.out r (List.mem_of_getElem? hr))
   have hkk : r.k = kk := i1.kind'
   have I1 := hid i1
   have CE1 := hid ce1
   have E0 : Hid (o = if kk = 3 then none else (chk ere r false false ⟨n1, g1, d1⟩).bind fun c' => chkAlt ere (ts.drop (k + 1)) c') := by
    show _ = _
    rw [← KW.out.eq, hdrop, chkAlt_cons, hkk]
   clear hr i1 ce1 hkk hdrop
   obtain ⟨x0, x1, x2, x3, x4, x5, x6, x7, x8⟩ := cells_of_is CE1.out
   go_wp2_with fail
   clear x0 x1 x2 x3 x4 x5 x6 x7 x8
   refine (alt1_any ere r RS.out C V ok kk mn mx mm tt ad' ll cc n1 g1 d1 _ I1.out HOK.out KW.out.cb KW.out.v hn1 hg1 hd).mono ?_
   intro e W2 hnd
   obtain ⟨b, rfl, hcd⟩ := hnd.ex
   clear hnd
   rcases hcd.form with ⟨c2, ho2, hb, hcb2, hks2⟩ | ⟨ho2, hb, ⟨n2, g2', d2, hcb2, b1, b2, b3, b4⟩, hks2⟩
   ·
    have hb' : b = true := by injection hb with hb; injection hb
    subst hb'
    have h3 : ¬ kk = 3 := by intro h; rw [if_pos h] at ho2; cases ho2
    rw [if_neg h3] at ho2
    have hck := chk_ok ere r false false ⟨n1, g1, d1⟩ c2 hn1 hg1 ho2
    have CB2 := hid hcb2
    have V2 := hid (bl_ks KW.out.v hVC hks2)
    have KS2 := hid (KW.out.ks.trans hks2)
    have E2 : Hid (chkAlt ere (ts.drop (k + 1)) c2 = o) := by show _ = _; rw [E0.out, if_neg h3, ho2]; rfl
    have b1 : c2.n ≤ 40 := hck.1.n
    have b2 : c2.g ≤ c2.n := hck.1.g
    have b3 : c2.d = d1 := hck.1.d
    have B3 := hid b3
    clear b3 hcd hcb2 hks2 ho2 hck hb
    go_wp2_with fail
    go_roundg (gk - 1)
    case measure => omega
    case rel => exact ⟨k + 1, c2, by omega, by go_num, CB2.out, V2.out, b1, b2, B3.out, E2.out, KS2.out⟩
   ·
    have hb' : b = false := by injection hb with hb; injection hb
    subst hb'
    have CB2 := hid hcb2
    have KS2 := hid (KW.out.ks.trans hks2)
    have E : Hid (o = none) := by
     show _ = _
     rw [E0.out]
     by_cases h3 : kk = 3
     ·
      rw [if_pos h3]
     ·
      rw [if_neg h3] at ho2 ⊢; rw [ho2]; rfl
    clear hcd hcb2 hks2 ho2 hb
    go_wp2_with fail
    go_ret
    exact ⟨(k : Int), false, rfl, by simp, Ckd.no E.out CB2.out b1 b2 b3 b4 KS2.out⟩
  ·
   have ga : ¬ (k : Int) < (L : Int) := by omega
   have E : Hid (o = some ⟨n1, g1, d1⟩) := by
    have := KW.out.eq
    rw [List.drop_eq_nil_of_le (by rw [HL.out]; omega)] at this
    unfold chkAlt at this
    exact this.symm
   go_wp2
   go_ret
   exact ⟨-1, true, rfl, by decide, Ckd.yes E.out KW.out.cb (by omega) (by omega) (by omega) (Nat.le_refl _) KW.out.ks⟩

set_option maxHeartbeats 2000000 in
set_option maxRecDepth 100000 in
theorem containsFunc_any (ere : Bool) (ts : List Rx) (H : ∀ r, r ∈ ts → RightSaid ere r) (C V : Nat) (ok : Nat → Prop) (ad : Option Addr) (l c : Nat) (n g d : Nat) (w : World) (hr : RowAt w ok ts ad l c) (hok : ∀ x, ok x → x ≠ C) (hc : Cb w C ere n g d) (hV : w.heap[V]? = some (.cells #[.pointer (some ⟨C, 0, none⟩)] 133)) (hVC : V ≠ C) (hn : n ≤ 40) (hg : g ≤ n) (hd : d ≤ 6) (hl : ts.length ≤ 1000000) :
  Calls Tryz.prog 128 #[.slice ad l c, .func (.func 129) #[] #[.pointer (some ⟨V, 0, none⟩)]] w fun e w' => NotD C ere d (chkAlt ere ts ⟨n, g, d⟩) w e w' := by
 have IX := hid (indexFunc_any ere ts H C V ok ad l c n g d w hr hok hc hV hVC hn hg hd hl)
 clear hr hok hc hV H
 go_enter Tryz.func128, Tryz.ntmps128
 go_wp2_with fail
 refine IX.out.mono ?_
 intro e W1 hx
 obtain ⟨i, b, rfl, hi, hcd⟩ := hx.ex
 have CD := hid hcd
 have HI := hid hi
 clear hx hcd hi IX
 go_wp2_with fail
 go_ret
 exact ⟨b, by rw [← HI.out]; rfl, CD.out⟩

set_option maxHeartbeats 2000000 in
set_option maxRecDepth 100000 in
theorem alt_any (ere : Bool) (ts : List Rx) (H : ∀ r, r ∈ ts → RightSaid ere r) (C : Nat) (ok : Nat → Prop) (ad : Option Addr) (l c : Nat) (n g d : Nat) (w : World) (hr : RowAt w ok ts ad l c) (hok : ∀ x, ok x → x ≠ C) (hc : Cb w C ere n g d) (hn : n ≤ 40) (hg : g ≤ n) (hd : d ≤ 6) (hl : ts.length ≤ 1000000) :
  Calls Tryz.prog 105 #[.pointer (some ⟨C, 0, none⟩), .slice ad l c] w fun e w' => Ckd C ere d (chkAlt ere ts ⟨n, g, d⟩) w e w' := by
 have RR := hid hr
 have HC := hid hc
 have HOK := hid hok
 have HH := hid H
 have hCw := hc.lt
 clear hr hc hok H
 go_enter Tryz.func105, Tryz.ntmps105
 go_upto_region 1 with fail
 refine opq (fun W0 => W0.heap[w.heap.size]? = some (.cells #[.pointer (some ⟨C, 0, none⟩)] 133) ∧ Cb W0 C ere n g d ∧ RowAt W0 ok ts ad l c ∧ Ks C w W0) ⟨by (first | exact last_at _ _ _ (by simp) | (refine bl_alloc ?_ _; first | exact last_at _ _ _ (by simp) | (refine bl_alloc ?_ _; first | exact last_at _ _ _ (by simp) | (refine bl_alloc ?_ _; exact last_at _ _ _ (by simp))))), by exact HC.out.kp (by repeat (first | exact Kp.refl _ | refine Kp.alloc ?_ _ | refine Kp.drew ?_ | refine Kp.drewN _ ?_)), by exact RR.out.kp (by repeat (first | exact Kp.refl _ | refine Kp.alloc ?_ _ | refine Kp.drew ?_ | refine Kp.drewN _ ?_)), by exact Kp.ks (by repeat (first | exact Kp.refl _ | refine Kp.alloc ?_ _ | refine Kp.drew ?_ | refine Kp.drewN _ ?_)) (Nat.le_of_lt hCw)⟩ ?_
 rintro W0 ⟨xV0, xCB0, xR0, xKS0⟩
 have V0 : Hid (W0.heap[w.heap.size]? = some (.cells #[.pointer (some ⟨C, 0, none⟩)] 133)) := xV0
 have CB0 : Hid (Cb W0 C ere n g d) := xCB0
 have R0 : Hid (RowAt W0 ok ts ad l c) := xR0
 have KS0 : Hid (Ks C w W0) := xKS0
 clear xV0 xCB0 xR0 xKS0
 go_wp2_with fail
 refine (containsFunc_any ere ts HH.out C w.heap.size ok ad l c n g d _ R0.out HOK.out CB0.out V0.out (by omega) hn hg hd hl).mono ?_
 intro e W1 hnd
 obtain ⟨b, rfl, hcd⟩ := hnd.ex
 have CD := hid (hcd.from KS0.out)
 clear hnd hcd
 go_wp2_with fail
 go_ret
 cases b <;> exact CD.out
end Go.Proofs.YtommgdgilcemdaaGreatDoor
