/-
  Texts of this claim: Text3, Text4, Runs, KSame, SameEq, Count2.
-/
import Derived.Test.YtommgdgilcemdaaGreatDoorCmdLM17
import Derived.Test.YtommgdgilcemdaaGreatDoorCmdLM21
import Derived.Lib.SmallJoins
import Derived.Test.YtommgdgilcemdaaGreatDoorCmdLM16

/-! ### Text3 -/

namespace Go.Proofs.YtommgdgilcemdaaGreatDoor
open Go.RowKit

mutual
def txt (ere : Bool) : Rx → List UInt8
 | .mk k mn mx n s kids =>
  if k = 1 then setT (W4.bit s) ere
  else if k = 2 then Lib.join (txts ere kids) []
  else if k = 3 then Lib.join (txts ere kids) [124]
  else if k = 4 then (txts ere kids).headD [] ++ timesT mn.toNat mx ere
  else if k = 5 then framedT [40] ((txts ere kids).headD []) [41] ere
  else if k = 6 then [92] ++ dec n.toNat
  else if k = 7 then [94] else [36]
def txts (ere : Bool) : List Rx → List (List UInt8)
 | [] => []
 | r :: rs => txt ere r :: txts ere rs
end
theorem txts_map (ere : Bool) : ∀ (rs : List Rx), txts ere rs = rs.map (txt ere)
 | [] => by rw [txts]; rfl
 | r :: rs => by rw [txts, txts_map ere rs]; rfl

structure TextSaid (ere : Bool) (r : Rx) : Prop where
 all : ∀ (ok : Nat → Prop) (v : Value) (w : World), Is w ok r v → Calls Tryz.prog 57 #[v, .bool ere] w fun e w' => e = .returned (.string (bs (txt ere r))) ∧ Kp w w'

theorem info9 : ∃ i, Tryz.prog.info? 9 = some i ∧ i.zero = some (.string ⟨#[]⟩) ∧ i.size = 1 ∧ i.bytes = 16 := by
 obtain ⟨i, hi, h0, h1, h2⟩ := info_parts (P := Tryz.prog) (e := 9) (z := .string ⟨#[]⟩) (size := 1) (bytes := 16) (by kernel_rfl)
 exact ⟨i, hi, h0, h1, h2⟩
/-- A row of texts that the call owns. -/
def Os (base : Nat) (w : World) (v : Value) (l : List (List UInt8)) : Prop := w.ownsRow base 9 1 v l.length (l.map fun x => Value.string (bs x))
theorem Os.kp {base : Nat} {w w' : World} {v : Value} {l : List (List UInt8)} (h : Os base w v l) (k : Kp w w') : Os base w' v l := owns_kp h k
theorem wpList_append_s {ops : Array Oper} {rest : List Oper} {o : Oper} {a : Act} {Q : Exit → Act → World → Prop} (W : World) (hgd : o.guard = none) (s x : Operand)
  (ho : o.op = .call { callee := .builtin .append, args := #[s, x], argTypes := #[74, 74] })
  (base : Nat) (v : Value) (b : List UInt8) (l : List (List UInt8)) (hs : a.eval s = v) (hown : Hid (Os base W v l)) (B : Nat) (hB : B = W.heap.size)
  (hx : a.eval x = .slice (some ⟨B, 0, none⟩) 1 1) (h63 : l.length ≤ 900) (hbase : base ≤ W.heap.size)
  (h : ∀ v' w', Os base w' v' (l ++ [b]) → W.grownBy w' v.ownBlock → wpList Tryz.prog ops Q rest (a.put o.dst v') w') :
  wpList Tryz.prog ops Q (o :: rest) a (W.alloc (.cells #[.string (bs b)] 9)) := by
 obtain ⟨i, hi, hz, hsz, hby⟩ := info9
 have kal : Kp W (W.alloc (.cells #[.string (bs b)] 9)) := (Kp.refl _).alloc _
 subst hB
 refine wpList_append_own_at (W.alloc (.cells #[.string (bs b)] 9)) hgd s x 74 ho base 9 i (.string ⟨#[]⟩) 1 16 Tryz.underlying74 hi hz hsz hby rfl (by omega) v l.length (l.map fun x => Value.string (bs x)) hs (hown.out.alloc _) ⟨W.heap.size, 0, none⟩ 1 1 [.string (bs b)] hx rfl ?_ ?_ (by unfold maxLen; omega) (by omega) (by simp; omega) ?_
 ·
  intro j y hj
  match j, hj with
  | 0, hj => simp at hj; subst hj; simp [Addr.add]
 ·
  intro y hy; simp at hy; subst hy; rfl
 ·
  intro v' w' a1 a2 _ _
  refine h v' w' ?_ ⟨a2.os.trans rfl, a2.tape.trans rfl, a2.output.trans rfl, Nat.le_trans kal.size a2.size, fun k hk hne => (a2.block k (Nat.lt_of_lt_of_le hk kal.size) hne).trans (kal.block k hk)⟩
  unfold Os
  rw [List.length_append, List.map_append]
  exact a1

set_option maxHeartbeats 2000000 in
set_option maxRecDepth 100000 in
theorem texts_any (ere : Bool) (ts : List Rx) (H : ∀ r, r ∈ ts → TextSaid ere r) (ok : Nat → Prop) (ad : Option Addr) (l c : Nat) (w : World) (hr : RowAt w ok ts ad l c) (hl : ts.length ≤ 100) :
  Calls Tryz.prog 81 #[.slice ad l c, .bool ere] w fun e w' => ∃ v, e = .returned v ∧ Os w.heap.size w' v (txts ere ts) ∧ Kp w w' := by
 have hle := hr.ln
 have hlc := hr.cp
 subst hle
 obtain ⟨L, hL⟩ : ∃ L, ts.length = L := ⟨_, rfl⟩
 rw [hL] at hr hlc hl ⊢
 have HL := hid hL
 have RR := hid hr
 have HH := hid H
 clear hL hr H
 go_enter Tryz.func81, Tryz.ntmps81
 go_wp2_with fail
 go_loopg [5, 10] L (fun gg v i wr => ∃ k : Nat, k + gg = L ∧ i = .int .i64 (k : Int) ∧ Os w.heap.size wr v (txts ere (ts.take k)) ∧ Kp w wr)
 case atStart => exact ⟨0, by omega, rfl, by rw [List.take_zero, txts]; exact World.ownsRow_nil _ _ _ _, Kp.refl _⟩
 case round =>
  obtain ⟨k, hk, rfl, hO, hK⟩ := hrel
  have O := hid hO
  have K := hid hK
  have hsz := hK.size
  clear hO hK
  by_cases hlt : k < L
  ·
   have gkw : IntKind.i64.wrap ((k : Int) + 1) = (k : Int) + 1 := by rw [IntKind.wrap_i64]; omega
   have ga : (k : Int) < (L : Int) := by omega
   have g0 : (0 : Int) ≤ (k : Int) := by omega
   obtain ⟨r, hr⟩ : ∃ r, ts[k]? = some r := ⟨_, List.getElem?_eq_getElem (by rw [HL.out]; exact hlt)⟩
   have htk : txts ere (ts.take (k + 1)) = txts ere (ts.take k) ++ [txt ere r] := by
    rw [txts_map, txts_map, List.take_succ_eq_append_getElem (by rw [HL.out]; exact hlt), List.map_append, (List.getElem?_eq_some_iff.1 hr).2]
    rfl
   have HTK := hid htk
   obtain ⟨bb, oo, kk, mn, mx, mm, tt, ad', ll, cc, e1, hbb, i1, ce1⟩ := (RR.out.kp K.out).at k r hr
   subst e1
   have TS := hid (HH.out r (List.mem_of_getElem? hr))
   have I1 := hid i1
   have CE1 := hid ce1
   clear hr htk i1 ce1
   obtain ⟨x0, x1, x2, x3, x4, x5, x6, x7, x8⟩ := cells_of_is CE1.out
   go_upto_region 5 with fail
   clear x0 x1 x2 x3 x4 x5 x6 x7 x8
   refine opq (fun W => W.heap[wr.heap.size]? = some (rxo kk mn mx mm tt (.slice ad' ll cc)) ∧ Kp wr W) ⟨by exact last_at _ _ _ (by simp), by exact (Kp.refl _).alloc _⟩ ?_
   rintro W1 ⟨y1, y2⟩
   have A1 := hid y1
   have K1 := hid y2
   have hs1 := y2.size
   clear y1 y2
   have a0 := bl_cell (A1.out) 0 _ rfl
   have a1 := bl_cell (A1.out) 1 _ rfl
   have a2 := bl_cell (A1.out) 2 _ rfl
   have a3 := bl_cell (A1.out) 3 _ rfl
   have a4 := bl_cell (A1.out) 4 _ rfl
   have a5 := bl_cell (A1.out) 5 _ rfl
   have a6 := bl_cell (A1.out) 6 _ rfl
   have a7 := bl_cell (A1.out) 7 _ rfl
   have a8 := bl_cell (A1.out) 8 _ rfl
   go_wp2_with fail
   clear a0 a1 a2 a3 a4 a5 a6 a7 a8
   refine (TS.out.all ok _ _ (I1.out.kp K1.out)).mono ?_
   rintro e W2 ⟨rfl, k2⟩
   have O2 := hid (O.out.kp (K1.out.trans k2))
   have K2 := hid (K.out.trans (K1.out.trans k2))
   have hs2 := k2.size
   have hln : (txts ere (ts.take k)).length ≤ 900 := by rw [txts_map, List.length_map, List.length_take]; omega
   clear k2
   go_wp2_with (at_builtin; go_must (refine wpList_append_s W2 (by rfl) _ _ (by rfl) w.heap.size u5 (txt ere r) _ (by rfl) O2 _ (by rfl) (by rfl) hln ?h2 ?_))
   case h2 => omega
   intro v' w3 ho3 hg3
   have O3 : Hid (Os w.heap.size w3 v' (txts ere (ts.take (k + 1)))) := by rw [HTK.out]; exact ho3
   have K3 := hid (K2.out.grownby hg3 (fun b hb => (World.ownsRow.lt O2.out b hb).1))
   clear ho3 hg3
   go_wp2_with fail
   go_roundg (gk - 1)
   case measure => omega
   case rel => exact ⟨k + 1, by omega, by go_num, O3.out, K3.out⟩
  ·
   have ga : ¬ (k : Int) < (L : Int) := by omega
   have E : Hid (ts.take k = ts) := List.take_of_length_le (by rw [HL.out]; omega)
   go_wp2
   go_ret
   exact ⟨_, rfl, by rw [← E.out]; exact O.out, K.out⟩

theorem join_any (base : Nat) (xs : List (List UInt8)) (sep : List UInt8) (v : Value) (w : World) (h : Os base w v xs) (hl : xs.length ≤ 100) (hs : (Lib.join xs sep).length ≤ 10000000) :
  Calls Tryz.prog 80 #[v, .string (bs sep)] w fun e w' => e = .returned (.string (bs (Lib.join xs sep))) ∧ Kp w w' := by
 obtain ⟨h1, h2⟩ := h
 have hmap : (xs.map bs).map (·.data.toList) = xs := by
  rw [List.map_map]
  conv => rhs; rw [← List.map_id xs]
  apply List.map_congr_left
  intro a _
  simp [bs]
 have hsep : (bs sep).data.toList = sep := by simp [bs]
 rcases h2 with ⟨rfl, h0⟩ | ⟨g, cap, cur, rfl, hb, hg, hc, hm, hcs, ht⟩
 ·
  have : xs = [] := List.eq_nil_of_length_eq_zero h0
  subst this
  refine (Tryz.strings_Join_none none 0 (bs sep) w).mono ?_
  rintro e w' ⟨rfl, rfl⟩
  exact ⟨rfl, Kp.refl _⟩
 ·
  have := Tryz.strings_Join g 0 cap (xs.map bs) (bs sep) w ?_ (Array.getElem?_eq_some_iff.1 hg).1 (by rw [List.length_map]; omega) (by rw [List.length_map]; omega) (by rw [hmap, hsep]; omega)
  ·
   rw [hmap, hsep, List.length_map] at this
   exact this
  ·
   intro j x hj
   rw [Nat.zero_add]
   rw [List.getElem?_map] at hj
   obtain ⟨y, hy, rfl⟩ : ∃ y, xs[j]? = some y ∧ bs y = x := by
    cases hq : xs[j]? with
    | none => rw [hq] at hj; cases hj
    | some y => rw [hq] at hj; injection hj with hj; exact ⟨y, rfl, hj⟩
   have hj' : j < xs.length := (List.getElem?_eq_some_iff.1 hy).1
   refine bl_cell hg j _ ?_
   have e1 : (cur.toList.take (xs.length * 1))[j]? = (xs.map fun x => Value.string (bs x))[j]? := by rw [ht]
   rw [List.getElem?_take, if_pos (by omega), Array.getElem?_toList] at e1
   rw [e1, List.getElem?_map, hy]
   rfl
end Go.Proofs.YtommgdgilcemdaaGreatDoor

/-! ### Text4 -/

namespace Go.Proofs.YtommgdgilcemdaaGreatDoor
open Go.RowKit

/-- What is asked of one node ahead of its text. -/
structure TxNode (ere : Bool) (k mn mx m : Int) (t : W4) (kids : List Rx) : Prop where
 rep : k = 4 → (∃ r, kids = [r]) ∧ 0 ≤ mn ∧ mn ≤ 20 ∧ -1 ≤ mx ∧ mx ≤ 20
 grp : k = 5 → ∃ r, kids = [r]
 bak : k = 6 → 0 ≤ m ∧ m < 100
 len : kids.length ≤ 100
 w4 : t.a < 18446744073709551616 ∧ t.b < 18446744073709551616 ∧ t.c < 18446744073709551616 ∧ t.d < 18446744073709551616
 all : (txt ere (.mk k mn mx m t kids)).length ≤ 1000000
 kid : ∀ r, r ∈ kids → (txt ere r).length ≤ 1000000

set_option maxHeartbeats 2000000 in
set_option maxRecDepth 100000 in
theorem text_step (ere : Bool) (k mn mx m : Int) (t : W4) (kids : List Rx) (H : ∀ r, r ∈ kids → TextSaid ere r) (hN : TxNode ere k mn mx m t kids) : TextSaid ere (.mk k mn mx m t kids) := by
 refine ⟨fun ok v w hI => ?_⟩
 obtain ⟨ad, l, c, rfl, hr⟩ := hI.row
 have RR := hid hr
 have HN := hid hN
 have HH := hid H
 have HSV : Hid (vv t.a t.b t.c t.d = sv (W4.bit t)) := vv_sv t.a t.b t.c t.d hN.w4.1 hN.w4.2.1 hN.w4.2.2.1 hN.w4.2.2.2
 have HA := hid hN.all
 clear hI hr hN H
 obtain ⟨o, ho⟩ : ∃ o, txt ere (.mk k mn mx m t kids) = o := ⟨_, rfl⟩
 rw [ho] at HA ⊢
 unfold txt at ho
 have HO := hid ho
 clear ho
 go_enter Tryz.func57, Tryz.ntmps57
 go_upto_region 1 with fail
 refine opq (fun W0 => W0.heap[w.heap.size]? = some (rxo k mn mx m t (.slice ad l c)) ∧ Kp w W0 ∧ RowAt W0 ok kids ad l c) ⟨by (first | exact last_at _ _ _ (by simp) | (refine bl_alloc ?_ _; first | exact last_at _ _ _ (by simp) | (refine bl_alloc ?_ _; first | exact last_at _ _ _ (by simp) | (refine bl_alloc ?_ _; exact last_at _ _ _ (by simp))))), by exact (by repeat (first | exact Kp.refl _ | refine Kp.alloc ?_ _ | refine Kp.drew ?_ | refine Kp.drewN _ ?_)), by exact RR.out.kp (by repeat (first | exact Kp.refl _ | refine Kp.alloc ?_ _ | refine Kp.drew ?_ | refine Kp.drewN _ ?_))⟩ ?_
 rintro W0 ⟨xA0, xK0, xR0⟩
 have A0 : Hid (W0.heap[w.heap.size]? = some (rxo k mn mx m t (.slice ad l c))) := xA0
 have K0 : Hid (Kp w W0) := xK0
 have R0 : Hid (RowAt W0 ok kids ad l c) := xR0
 clear xA0 xK0 xR0
 have a0 := bl_cell (A0.out) 0 _ rfl
 have a1 := bl_cell (A0.out) 1 _ rfl
 have a2 := bl_cell (A0.out) 2 _ rfl
 have a3 := bl_cell (A0.out) 3 _ rfl
 have a4 := bl_cell (A0.out) 4 _ rfl
 have a5 := bl_cell (A0.out) 5 _ rfl
 have a6 := bl_cell (A0.out) 6 _ rfl
 have a7 := bl_cell (A0.out) 7 _ rfl
 have a8 := bl_cell (A0.out) 8 _ rfl
 by_cases k1 : k = 1
 ·
  subst k1
  have E : Hid (o = setT (W4.bit t) ere) := by show _ = _; rw [← HO.out, if_pos rfl]
  have ST : Hid (∀ w, Calls Tryz.prog 79 #[vv t.a t.b t.c t.d, .bool ere] w fun e w' => e = .returned (.string (bs (setT (W4.bit t) ere))) ∧ Kp w w') := fun w => by rw [HSV.out]; exact setText_any _ _ w
  go_wp2_with fail
  clear a0 a1 a2 a3 a4 a5 a6 a7 a8
  refine (ST.out _).mono ?_
  rintro e W1 ⟨rfl, k1⟩
  have K1 := hid (K0.out.trans k1)
  clear k1
  go_wp2_with fail
  go_ret
  exact ⟨by rw [E.out]; rfl, K1.out⟩
 by_cases k2 : k = 2
 ·
  subst k2
  have E : Hid (o = Lib.join (txts ere kids) []) := by show _ = _; rw [← HO.out, if_neg (by omega), if_pos rfl]
  have hlen : (txts ere kids).length ≤ 100 := by rw [txts_map, List.length_map]; exact HN.out.len
  have hjl : Hid ((Lib.join (txts ere kids) []).length ≤ 1000000) := by have := HA.out; rw [E.out] at this; exact this
  go_wp2_with fail
  clear a0 a1 a2 a3 a4 a5 a6 a7 a8
  refine (texts_any ere kids HH.out ok ad l c _ R0.out HN.out.len).mono ?_
  rintro e W1 ⟨v1, rfl, o1, k1⟩
  have O1 := hid o1
  have K1 := hid (K0.out.trans k1)
  clear k1 o1
  go_wp2_with fail
  refine (join_any _ (txts ere kids) [] v1 _ O1.out hlen (by have := hjl.out; omega)).mono ?_
  rintro e W2 ⟨rfl, k2⟩
  have K2 := hid (K1.out.trans k2)
  clear k2
  go_wp2_with fail
  go_ret
  exact ⟨by rw [E.out]; rfl, K2.out⟩
 by_cases k3 : k = 3
 ·
  subst k3
  have E : Hid (o = Lib.join (txts ere kids) [124]) := by show _ = _; rw [← HO.out, if_neg (by omega), if_neg (by omega), if_pos rfl]
  have hlen : (txts ere kids).length ≤ 100 := by rw [txts_map, List.length_map]; exact HN.out.len
  have hjl : Hid ((Lib.join (txts ere kids) [124]).length ≤ 1000000) := by have := HA.out; rw [E.out] at this; exact this
  go_wp2_with fail
  clear a0 a1 a2 a3 a4 a5 a6 a7 a8
  refine (texts_any ere kids HH.out ok ad l c _ R0.out HN.out.len).mono ?_
  rintro e W1 ⟨v1, rfl, o1, k1⟩
  have O1 := hid o1
  have K1 := hid (K0.out.trans k1)
  clear k1 o1
  go_wp2_with fail
  refine (join_any _ (txts ere kids) [124] v1 _ O1.out hlen (by have := hjl.out; omega)).mono ?_
  rintro e W2 ⟨rfl, k2⟩
  have K2 := hid (K1.out.trans k2)
  clear k2
  go_wp2_with fail
  go_ret
  exact ⟨by rw [E.out]; rfl, K2.out⟩
 by_cases k4 : k = 4
 ·
  subst k4
  obtain ⟨⟨r, rfl⟩, b1, b2, b3, b4⟩ := HN.out.rep rfl
  obtain ⟨lo, rfl⟩ : ∃ lo : Nat, mn = lo := ⟨mn.toNat, by omega⟩
  have E : Hid (o = txt ere r ++ timesT lo mx ere) := by show _ = _; rw [← HO.out, if_neg (by omega), if_neg (by omega), if_neg (by omega), if_pos rfl]; rfl
  obtain ⟨bb, oo, kk, mn', mx', mm', tt', ad', ll', cc', e1, hbb, i1, ce1⟩ := R0.out.at 0 r rfl
  subst e1
  rw [Nat.zero_mul, Nat.add_zero] at ce1
  have hl1 : l = 1 := R0.out.ln
  subst hl1
  have I0 := hid i1
  have CE0 := hid ce1
  have hcap := R0.out.cp
  have TS := hid (HH.out r (by simp))
  have hkl : Hid ((txt ere r).length ≤ 1000000) := HN.out.kid r (by simp)
  clear i1 ce1
  have hb2 : lo ≤ 20 := by omega
  have hz1 : (bs (txt ere r)).size ≤ 1000000 := by rw [bs_size]; exact hkl.out
  have hz2 : (bs (timesT lo mx ere)).size ≤ 1000000 := by rw [bs_size]; have := HA.out; rw [E.out, List.length_append] at this; omega
  have E2 : Hid (bs o = bs (txt ere r) ++ bs (timesT lo mx ere)) := by show _ = _; rw [E.out, bs_app]
  obtain ⟨X, hX⟩ : ∃ X, bs (txt ere r) = X := ⟨_, rfl⟩
  obtain ⟨Y, hY⟩ : ∃ Y, bs (timesT lo mx ere) = Y := ⟨_, rfl⟩
  have TT : Hid (∀ w, Calls Tryz.prog 82 #[.int .i64 (lo : Int), .int .i64 mx, .bool ere] w fun e w' => e = .returned (.string Y) ∧ w' = w) := fun w => by rw [← hY]; exact timesText_any lo mx ere hb2 b3 b4 w
  rw [hX, hY] at E2
  rw [hX] at hz1
  rw [hY] at hz2
  have HX := hid hX
  clear hX hY
  go_upto_region 9 with fail
  clear a0 a1 a2 a3 a4 a5 a6 a7 a8
  have Q0 : Kp W0 W0.drew := (Kp.refl _).drew
  have MK : Hid (∀ W, Kp W0 W → W.cell? ⟨w.heap.size, 8, none⟩ = some (.slice (some ⟨bb, oo, none⟩) 1 c) ∧ W.cell? ⟨w.heap.size, 1, none⟩ = some (.int .i64 (lo : Int)) ∧ W.cell? ⟨w.heap.size, 2, none⟩ = some (.int .i64 mx) ∧ W.cell? ⟨bb, oo, none⟩ = some (.int .i64 kk) ∧ W.cell? ⟨bb, (oo + 1), none⟩ = some (.int .i64 mn') ∧ W.cell? ⟨bb, (oo + 2), none⟩ = some (.int .i64 mx') ∧ W.cell? ⟨bb, (oo + 3), none⟩ = some (.int .i64 mm') ∧ W.cell? ⟨bb, (oo + 4), none⟩ = some (Value.int .u64 (tt'.a : Int)) ∧ W.cell? ⟨bb, (oo + 5), none⟩ = some (Value.int .u64 (tt'.b : Int)) ∧ W.cell? ⟨bb, (oo + 6), none⟩ = some (Value.int .u64 (tt'.c : Int)) ∧ W.cell? ⟨bb, (oo + 7), none⟩ = some (Value.int .u64 (tt'.d : Int)) ∧ W.cell? ⟨bb, (oo + 8), none⟩ = some (Value.slice ad' ll' cc') ∧ Hid (Kp W0 W)) := fun W k => ⟨bl_cell (bl_kp A0.out k) 8 _ rfl, bl_cell (bl_kp A0.out k) 1 _ rfl, bl_cell (bl_kp A0.out k) 2 _ rfl, (cells_of_is (CE0.out.turn (k.block _ hbb))).1, (cells_of_is (CE0.out.turn (k.block _ hbb))).2.1, (cells_of_is (CE0.out.turn (k.block _ hbb))).2.2.1, (cells_of_is (CE0.out.turn (k.block _ hbb))).2.2.2.1, (cells_of_is (CE0.out.turn (k.block _ hbb))).2.2.2.2.1, (cells_of_is (CE0.out.turn (k.block _ hbb))).2.2.2.2.2.1, (cells_of_is (CE0.out.turn (k.block _ hbb))).2.2.2.2.2.2.1, (cells_of_is (CE0.out.turn (k.block _ hbb))).2.2.2.2.2.2.2.1, (cells_of_is (CE0.out.turn (k.block _ hbb))).2.2.2.2.2.2.2.2, k⟩
  refine wp_region_noPanic ?_
  refine wp_region_held_drew (S := (fun W => W.cell? ⟨w.heap.size, 8, none⟩ = some (.slice (some ⟨bb, oo, none⟩) 1 c) ∧ W.cell? ⟨w.heap.size, 1, none⟩ = some (.int .i64 (lo : Int)) ∧ W.cell? ⟨w.heap.size, 2, none⟩ = some (.int .i64 mx) ∧ W.cell? ⟨bb, oo, none⟩ = some (.int .i64 kk) ∧ W.cell? ⟨bb, (oo + 1), none⟩ = some (.int .i64 mn') ∧ W.cell? ⟨bb, (oo + 2), none⟩ = some (.int .i64 mx') ∧ W.cell? ⟨bb, (oo + 3), none⟩ = some (.int .i64 mm') ∧ W.cell? ⟨bb, (oo + 4), none⟩ = some (Value.int .u64 (tt'.a : Int)) ∧ W.cell? ⟨bb, (oo + 5), none⟩ = some (Value.int .u64 (tt'.b : Int)) ∧ W.cell? ⟨bb, (oo + 6), none⟩ = some (Value.int .u64 (tt'.c : Int)) ∧ W.cell? ⟨bb, (oo + 7), none⟩ = some (Value.int .u64 (tt'.d : Int)) ∧ W.cell? ⟨bb, (oo + 8), none⟩ = some (Value.slice ad' ll' cc') ∧ Hid (Kp W0 W))) (by kernel_rfl) ?_ (fun hH => ?_)
  ·
   exact MK.out _ Q0
  have KQ := Q0
  refine wpAnyH_take (i := 0) (oi := { dst := some 29, op := Op.fieldAddr 27 (Operand.tmp 2) 5, type := 0, pos := "print.go:47", after := #[], guard := none }) (v := ?v0a1) rfl (by kernel_rfl) (by kernel_rfl) (by kernel_rfl) (fun _ _ _ h => h) (Or.inl ⟨by rfl, ?hy0a1⟩) hH ?r0a1
  case hy0a1 => (intro W hSw; (try dsimp only at hSw); go_simp; try (with_reducible rfl))
  try simp only [Act.put, List.setIfInBounds_toArray, List.set_cons_zero, List.set_cons_succ]
  refine wpAnyH_take (i := 1) (oi := { dst := some 30, op := Op.load 25 (Operand.tmp 29), type := 25, pos := "print.go:47", after := #[{ on := 0, ground := Ground.data }], guard := none }) (v := ?v1a2) rfl (by kernel_rfl) (by kernel_rfl) (by kernel_rfl) (fun _ _ _ h => h) (Or.inl ⟨by rfl, ?hy1a2⟩) hH ?r1a2
  case hy1a2 => (intro W hSw; (try dsimp only at hSw); go_simp; try (with_reducible rfl))
  try simp only [Act.put, List.setIfInBounds_toArray, List.set_cons_zero, List.set_cons_succ]
  refine wpAnyH_take (i := 2) (oi := { dst := some 31, op := Op.indexAddr 25 (Operand.tmp 30) (Operand.const (Value.int IntKind.i64 0)), type := 0, pos := "print.go:47", after := #[{ on := 1, ground := Ground.data }], guard := none }) (v := ?v2a3) rfl (by kernel_rfl) (by kernel_rfl) (by kernel_rfl) (fun _ _ _ h => h) (Or.inl ⟨by rfl, ?hy2a3⟩) hH ?r2a3
  case hy2a3 => (intro W hSw; (try dsimp only at hSw); go_simp; try (with_reducible rfl))
  try simp only [Act.put, List.setIfInBounds_toArray, List.set_cons_zero, List.set_cons_succ]
  refine wpAnyH_take (i := 3) (oi := { dst := some 32, op := Op.load 27 (Operand.tmp 31), type := 27, pos := "print.go:47", after := #[{ on := 2, ground := Ground.data }], guard := none }) (v := ?v3a4) rfl (by kernel_rfl) (by kernel_rfl) (by kernel_rfl) (fun _ _ _ h => h) (Or.inl ⟨by rfl, ?hy3a4⟩) hH ?r3a4
  case hy3a4 => (intro W hSw; (try dsimp only at hSw); go_simp; try (with_reducible rfl))
  try simp only [Act.put, List.setIfInBounds_toArray, List.set_cons_zero, List.set_cons_succ]
  refine wpAnyH_take (i := 4) (oi := { dst := some 33, op := Op.move (Operand.tmp 1), type := 4, pos := "print.go:47", after := #[], guard := none }) (v := ?v4a5) rfl (by kernel_rfl) (by kernel_rfl) (by kernel_rfl) (fun _ _ _ h => h) (Or.inl ⟨by rfl, ?hy4a5⟩) hH ?r4a5
  case hy4a5 => (intro W hSw; (try dsimp only at hSw); go_simp; try (with_reducible rfl))
  try simp only [Act.put, List.setIfInBounds_toArray, List.set_cons_zero, List.set_cons_succ]
  refine wpAnyH_take (i := 6) (oi := { dst := some 35, op := Op.fieldAddr 27 (Operand.tmp 2) 1, type := 0, pos := "print.go:47", after := #[], guard := none }) (v := ?v6a6) rfl (by kernel_rfl) (by kernel_rfl) (by kernel_rfl) (fun _ _ _ h => h) (Or.inl ⟨by rfl, ?hy6a6⟩) hH ?r6a6
  case hy6a6 => (intro W hSw; (try dsimp only at hSw); go_simp; try (with_reducible rfl))
  try simp only [Act.put, List.setIfInBounds_toArray, List.set_cons_zero, List.set_cons_succ]
  refine wpAnyH_take (i := 7) (oi := { dst := some 36, op := Op.load 3 (Operand.tmp 35), type := 3, pos := "print.go:47", after := #[{ on := 6, ground := Ground.data }], guard := none }) (v := ?v7a7) rfl (by kernel_rfl) (by kernel_rfl) (by kernel_rfl) (fun _ _ _ h => h) (Or.inl ⟨by rfl, ?hy7a7⟩) hH ?r7a7
  case hy7a7 => (intro W hSw; (try dsimp only at hSw); go_simp; try (with_reducible rfl))
  try simp only [Act.put, List.setIfInBounds_toArray, List.set_cons_zero, List.set_cons_succ]
  refine wpAnyH_take (i := 8) (oi := { dst := some 37, op := Op.fieldAddr 27 (Operand.tmp 2) 2, type := 0, pos := "print.go:47", after := #[], guard := none }) (v := ?v8a8) rfl (by kernel_rfl) (by kernel_rfl) (by kernel_rfl) (fun _ _ _ h => h) (Or.inl ⟨by rfl, ?hy8a8⟩) hH ?r8a8
  case hy8a8 => (intro W hSw; (try dsimp only at hSw); go_simp; try (with_reducible rfl))
  try simp only [Act.put, List.setIfInBounds_toArray, List.set_cons_zero, List.set_cons_succ]
  refine wpAnyH_take (i := 9) (oi := { dst := some 38, op := Op.load 3 (Operand.tmp 37), type := 3, pos := "print.go:47", after := #[{ on := 8, ground := Ground.data }], guard := none }) (v := ?v9a9) rfl (by kernel_rfl) (by kernel_rfl) (by kernel_rfl) (fun _ _ _ h => h) (Or.inl ⟨by rfl, ?hy9a9⟩) hH ?r9a9
  case hy9a9 => (intro W hSw; (try dsimp only at hSw); go_simp; try (with_reducible rfl))
  try simp only [Act.put, List.setIfInBounds_toArray, List.set_cons_zero, List.set_cons_succ]
  refine wpAnyH_take (i := 10) (oi := { dst := some 39, op := Op.move (Operand.tmp 1), type := 4, pos := "print.go:47", after := #[], guard := none }) (v := ?v10a10) rfl (by kernel_rfl) (by kernel_rfl) (by kernel_rfl) (fun _ _ _ h => h) (Or.inl ⟨by rfl, ?hy10a10⟩) hH ?r10a10
  case hy10a10 => (intro W hSw; (try dsimp only at hSw); go_simp; try (with_reducible rfl))
  try simp only [Act.put, List.setIfInBounds_toArray, List.set_cons_zero, List.set_cons_succ]
  refine wpAnyH_ready (rs := [5]) (by kernel_rfl) (by simp) ?_
  refine AllReadyH.cons (o := { dst := some 34, op := Op.call { callee := Callee.value (Operand.func 57), args := #[Operand.tmp 32, Operand.tmp 33], argTypes := #[27, 4] }, type := 9, pos := "print.go:47", after := #[{ on := 3, ground := Ground.data }, { on := 4, ground := Ground.data }], guard := none }) rfl (fun K hKq => ?_) AllReadyH.nil
  go_simp
  refine (TS.out.all ok _ _ (I0.out.kp KQ)).mono ?_
  rintro e y1 ⟨rfl, kq⟩
  rw [HX.out]
  refine hKq.out _ _ (MK.out _ (KQ.trans kq)) (fun hN => ?_)
  clear kq
  clear hKq K hH KQ
  have hH := hN
  clear hN
  have KQ := hH.2.2.2.2.2.2.2.2.2.2.2.2.out
  try simp only [Act.put, List.setIfInBounds_toArray, List.set_cons_zero, List.set_cons_succ]
  refine wpAnyH_ready (rs := [11]) (by kernel_rfl) (by simp) ?_
  refine AllReadyH.cons (o := { dst := some 40, op := Op.call { callee := Callee.value (Operand.func 82), args := #[Operand.tmp 36, Operand.tmp 38, Operand.tmp 39], argTypes := #[3, 3, 4] }, type := 9, pos := "print.go:47", after := #[{ on := 7, ground := Ground.data }, { on := 9, ground := Ground.data }, { on := 10, ground := Ground.data }, { on := 5, ground := Ground.chain }], guard := none }) rfl (fun K hKq => ?_) AllReadyH.nil
  go_simp
  refine (TT.out _).mono ?_
  rintro e yy ⟨rfl, rfl⟩
  refine hKq.out _ _ (MK.out _ KQ) (fun hN => ?_)
  clear hKq K hH KQ
  have hH := hN
  clear hN
  have KQ := hH.2.2.2.2.2.2.2.2.2.2.2.2.out
  try simp only [Act.put, List.setIfInBounds_toArray, List.set_cons_zero, List.set_cons_succ]
  refine wpAnyH_take (i := 12) (oi := { dst := some 41, op := Op.binOp BinOp.add 9 (Operand.tmp 34) (Operand.tmp 40) 9, type := 9, pos := "print.go:47", after := #[{ on := 5, ground := Ground.data }, { on := 11, ground := Ground.data }], guard := none }) (v := ?v12a11) rfl (by kernel_rfl) (by kernel_rfl) (by kernel_rfl) (fun _ _ _ h => h) (Or.inl ⟨by rfl, ?hy12a11⟩) hH ?r12a11
  case hy12a11 => (intro W hSw; (try dsimp only at hSw); go_simp; rw [if_neg (by omega)])
  try simp only [Act.put, List.setIfInBounds_toArray, List.set_cons_zero, List.set_cons_succ]
  refine wpAnyH_take (i := 13) (oi := { dst := some 4, op := Op.assign (Operand.tmp 41), type := 9, pos := "print.go:47", after := #[{ on := 12, ground := Ground.data }, { on := 11, ground := Ground.chain }, { on := 0, ground := Ground.phase }, { on := 1, ground := Ground.phase }, { on := 2, ground := Ground.phase }, { on := 3, ground := Ground.phase }, { on := 4, ground := Ground.phase }, { on := 5, ground := Ground.phase }, { on := 6, ground := Ground.phase }, { on := 7, ground := Ground.phase }, { on := 8, ground := Ground.phase }, { on := 9, ground := Ground.phase }, { on := 10, ground := Ground.phase }, { on := 11, ground := Ground.phase }, { on := 12, ground := Ground.phase }], guard := none }) (v := ?v13a12) rfl (by kernel_rfl) (by kernel_rfl) (by kernel_rfl) (fun _ _ _ h => h) (Or.inl ⟨by rfl, ?hy13a12⟩) hH ?r13a12
  case hy13a12 => (intro W hSw; (try dsimp only at hSw); go_simp; try (with_reducible rfl))
  try simp only [Act.put, List.setIfInBounds_toArray, List.set_cons_zero, List.set_cons_succ]
  refine wpAnyH_done (by kernel_rfl) ?_ _
  refine NoPanic.normal ?_
  go_wp2_with fail
  go_ret
  exact ⟨by rw [E2.out]; rfl, K0.out.trans KQ⟩
 by_cases k5 : k = 5
 ·
  subst k5
  obtain ⟨r, rfl⟩ := HN.out.grp rfl
  have E : Hid (o = framedT [40] (txt ere r) [41] ere) := by show _ = _; rw [← HO.out, if_neg (by omega), if_neg (by omega), if_neg (by omega), if_neg (by omega), if_pos rfl]; rfl
  obtain ⟨bb, oo, kk, mn', mx', mm', tt', ad', ll', cc', e1, hbb, i1, ce1⟩ := R0.out.at 0 r rfl
  subst e1
  rw [Nat.zero_mul, Nat.add_zero] at ce1
  have hl1 : l = 1 := R0.out.ln
  subst hl1
  have I0 := hid i1
  have CE0 := hid ce1
  have hcap := R0.out.cp
  have TS := hid (HH.out r (by simp))
  have hkl : Hid ((txt ere r).length ≤ 1000000) := HN.out.kid r (by simp)
  clear i1 ce1
  have FR := hid (framed_any [40] (txt ere r) [41] ere (by simp) (by have := hkl.out; omega) (by simp))
  obtain ⟨x0, x1, x2, x3, x4, x5, x6, x7, x8⟩ := cells_of_is CE0.out
  go_wp2_with fail
  clear x0 x1 x2 x3 x4 x5 x6 x7 x8
  clear a0 a1 a2 a3 a4 a5 a6 a7 a8
  refine (TS.out.all ok _ _ I0.out).mono ?_
  rintro e W1 ⟨rfl, k1⟩
  have K1 := hid (K0.out.trans k1)
  clear k1
  go_wp2_with fail
  refine (FR.out _).mono ?_
  rintro e W1 ⟨rfl, rfl⟩
  go_wp2_with fail
  go_ret
  exact ⟨by rw [E.out]; rfl, K1.out⟩
 by_cases k6 : k = 6
 ·
  subst k6
  obtain ⟨b1, b2⟩ := HN.out.bak rfl
  obtain ⟨q, rfl⟩ : ∃ q : Nat, m = q := ⟨m.toNat, by omega⟩
  have E : Hid (o = [92] ++ dec q) := by show _ = _; rw [← HO.out, if_neg (by omega), if_neg (by omega), if_neg (by omega), if_neg (by omega), if_neg (by omega), if_pos rfl]; rfl
  have hz : (bs (dec q)).size ≤ 2 := by rw [bs_size]; exact dec_len q (by omega)
  have E2 : Hid (bs o = bs [92] ++ bs (dec q)) := by show _ = _; rw [E.out, bs_app]
  obtain ⟨X, hX⟩ : ∃ X, bs (dec q) = X := ⟨_, rfl⟩
  have IT : Hid (∀ w, Calls Tryz.prog 51 #[.int .i64 (q : Int)] w fun e w' => e = .returned (.string X) ∧ w' = w) := fun w => by rw [← hX]; exact itoa_any q (by omega) w
  rw [hX] at hz E2
  clear hX
  go_wp2_with fail
  clear a0 a1 a2 a3 a4 a5 a6 a7 a8
  refine (IT.out _).mono ?_
  rintro e W0 ⟨rfl, rfl⟩
  go_wp2_with fail
  go_ret
  exact ⟨by rw [E2.out]; rfl, K0.out⟩
 by_cases k7 : k = 7
 ·
  subst k7
  have E : Hid (o = [94]) := by show _ = _; rw [← HO.out, if_neg (by omega), if_neg (by omega), if_neg (by omega), if_neg (by omega), if_neg (by omega), if_neg (by omega), if_pos rfl]
  go_wp2_with fail
  go_ret
  exact ⟨by rw [E.out]; rfl, K0.out⟩
 have g1 : (k == 1) = false := by simp [k1]
 have g2 : (k == 2) = false := by simp [k2]
 have g3 : (k == 3) = false := by simp [k3]
 have g4 : (k == 4) = false := by simp [k4]
 have g5 : (k == 5) = false := by simp [k5]
 have g6 : (k == 6) = false := by simp [k6]
 have g7 : (k == 7) = false := by simp [k7]
 have E : Hid (o = [36]) := by show _ = _; rw [← HO.out, if_neg (by omega), if_neg (by omega), if_neg (by omega), if_neg (by omega), if_neg (by omega), if_neg (by omega), if_neg (by omega)]
 go_wp2_with fail
 go_ret
 exact ⟨by rw [E.out]; rfl, K0.out⟩

/-- A tree whose text can be made. -/
def TxFit (ere : Bool) : Rx → Prop
 | .mk k mn mx m t kids => TxNode ere k mn mx m t kids ∧ ∀ a, a ∈ kids → TxFit ere a
termination_by r => SizeOf.sizeOf r
decreasing_by
 have := List.sizeOf_lt_of_mem (by assumption)
 simp
 omega
theorem text_all (ere : Bool) : ∀ a, TxFit ere a → TextSaid ere a
 | .mk k mn mx n s kids, h => by
  unfold TxFit at h
  exact text_step ere k mn mx n s kids (fun a ha => text_all ere a (h.2 a ha)) h.1
termination_by a => SizeOf.sizeOf a
decreasing_by
 have := List.sizeOf_lt_of_mem ha
 simp
 omega

/-- What Print answers. -/
def printT (ere : Bool) (r : Rx) : List UInt8 := if right ere r then txt ere r else []
set_option maxHeartbeats 2000000 in
set_option maxRecDepth 100000 in
theorem print_any (r : Rx) (ere : Bool) (ok : Nat → Prop) (k mn mx m : Int) (t : W4) (ad : Option Addr) (l c : Nat) (w : World) (hR : RxOk r) (hT : right ere r = true → TxFit ere r) (hI : Is w ok r (rxv k mn mx m t (.slice ad l c))) :
  Calls Tryz.prog 25 #[rxv k mn mx m t (.slice ad l c), .bool ere] w fun e w' => e = .returned (.string (bs (printT ere r))) ∧ Kp w w' := by
 have HI := hid hI
 have HR := hid hR
 have HT := hid hT
 clear hI hR hT
 obtain ⟨q, hq⟩ : ∃ q, right ere r = q := ⟨_, rfl⟩
 have HQ := hid hq
 clear hq
 go_enter Tryz.func25, Tryz.ntmps25
 go_upto_region 1 with fail
 refine opq (fun W0 => W0.heap[w.heap.size]? = some (rxo k mn mx m t (.slice ad l c)) ∧ Kp w W0 ∧ Is W0 ok r (rxv k mn mx m t (.slice ad l c))) ⟨by (first | exact last_at _ _ _ (by simp) | (refine bl_alloc ?_ _; first | exact last_at _ _ _ (by simp) | (refine bl_alloc ?_ _; first | exact last_at _ _ _ (by simp) | (refine bl_alloc ?_ _; exact last_at _ _ _ (by simp))))), by exact (by repeat (first | exact Kp.refl _ | refine Kp.alloc ?_ _ | refine Kp.drew ?_ | refine Kp.drewN _ ?_)), by exact HI.out.kp (by repeat (first | exact Kp.refl _ | refine Kp.alloc ?_ _ | refine Kp.drew ?_ | refine Kp.drewN _ ?_))⟩ ?_
 rintro W0 ⟨xA0, xK0, xI0⟩
 have A0 : Hid (W0.heap[w.heap.size]? = some (rxo k mn mx m t (.slice ad l c))) := xA0
 have K0 : Hid (Kp w W0) := xK0
 have I0 : Hid (Is W0 ok r (rxv k mn mx m t (.slice ad l c))) := xI0
 clear xA0 xK0 xI0
 have a0 := bl_cell (A0.out) 0 _ rfl
 have a1 := bl_cell (A0.out) 1 _ rfl
 have a2 := bl_cell (A0.out) 2 _ rfl
 have a3 := bl_cell (A0.out) 3 _ rfl
 have a4 := bl_cell (A0.out) 4 _ rfl
 have a5 := bl_cell (A0.out) 5 _ rfl
 have a6 := bl_cell (A0.out) 6 _ rfl
 have a7 := bl_cell (A0.out) 7 _ rfl
 have a8 := bl_cell (A0.out) 8 _ rfl
 go_wp2_with fail
 clear a0 a1 a2 a3 a4 a5 a6 a7 a8
 refine (Right_any r ere ok k mn mx m t ad l c _ HR.out I0.out).mono ?_
 rintro e W1 ⟨rfl, k1⟩
 rw [HQ.out]
 have A1 := hid (bl_kp A0.out k1)
 have I1 := hid (I0.out.kp k1)
 have K1 := hid (K0.out.trans k1)
 clear k1
 cases q with
 | false =>
  have E : Hid (printT ere r = []) := by show _ = _; unfold printT; rw [HQ.out]; rfl
  go_wp2_with fail
  go_ret
  exact ⟨by rw [E.out]; rfl, K1.out⟩
 | true =>
  have E : Hid (printT ere r = txt ere r) := by show _ = _; unfold printT; rw [HQ.out]; rfl
  have a0 := bl_cell (A1.out) 0 _ rfl
  have a1 := bl_cell (A1.out) 1 _ rfl
  have a2 := bl_cell (A1.out) 2 _ rfl
  have a3 := bl_cell (A1.out) 3 _ rfl
  have a4 := bl_cell (A1.out) 4 _ rfl
  have a5 := bl_cell (A1.out) 5 _ rfl
  have a6 := bl_cell (A1.out) 6 _ rfl
  have a7 := bl_cell (A1.out) 7 _ rfl
  have a8 := bl_cell (A1.out) 8 _ rfl
  go_wp2_with fail
  clear a0 a1 a2 a3 a4 a5 a6 a7 a8
  refine ((text_all ere r (HT.out HQ.out)).all ok _ _ I1.out).mono ?_
  rintro e W2 ⟨rfl, k2⟩
  have K2 := hid (K1.out.trans k2)
  clear k2
  go_wp2_with fail
  go_ret
  exact ⟨by rw [E.out]; rfl, K2.out⟩
end Go.Proofs.YtommgdgilcemdaaGreatDoor

/-! ### Runs -/

namespace Go.Proofs.YtommgdgilcemdaaGreatDoor
open Go.RowKit

def Rx.kn : Rx → Nat | .mk _ _ _ _ _ kids => kids.length
def Rx.set : Rx → W4 | .mk _ _ _ _ s _ => s
mutual
def rxOkB : Rx → Bool
 | .mk _ _ _ _ s kids => decide (kids.length ≤ 1000000) && decide (s.a < 18446744073709551616) && decide (s.b < 18446744073709551616) && decide (s.c < 18446744073709551616) && decide (s.d < 18446744073709551616) && rxOkL kids
def rxOkL : List Rx → Bool
 | [] => true
 | r :: rs => rxOkB r && rxOkL rs
end
theorem rxOkL_mem : ∀ (rs : List Rx), rxOkL rs = true → ∀ r ∈ rs, rxOkB r = true
 | [], _, r, h => by simp at h
 | x :: rs, h, r, hr => by
  unfold rxOkL at h
  rw [Bool.and_eq_true] at h
  rcases List.mem_cons.1 hr with rfl | hr
  ·
   exact h.1
  ·
   exact rxOkL_mem rs h.2 r hr
theorem rxOk_of : ∀ r, rxOkB r = true → RxOk r
 | .mk k mn mx n s kids, h => by
  unfold rxOkB at h
  simp only [Bool.and_eq_true, decide_eq_true_eq] at h
  obtain ⟨⟨⟨⟨⟨h1, h2⟩, h3⟩, h4⟩, h5⟩, h6⟩ := h
  unfold RxOk
  exact ⟨h1, ⟨h2, h3, h4, h5⟩, fun a ha => rxOk_of a (rxOkL_mem kids h6 a ha)⟩
termination_by r => SizeOf.sizeOf r
decreasing_by
 have := List.sizeOf_lt_of_mem ha
 simp
 omega
/-- What the parse of a text leaves in a variable. -/
structure Pd (w : World) (T : Rx) (k mn mx m : Int) (t : W4) (ad : Option Addr) (l c : Nat) : Prop where
 is : Is w (fun _ => True) T (rxv k mn mx m t (.slice ad l c))
theorem Pd.kp {w w' : World} {T : Rx} {k mn mx m : Int} {t : W4} {ad : Option Addr} {l c : Nat} (h : Pd w T k mn mx m t ad l c) (q : Kp w w') : Pd w' T k mn mx m t ad l c := ⟨h.is.kp q⟩
theorem Pd.all {w : World} {T : Rx} {k mn mx m : Int} {t : W4} {ad : Option Addr} {l c : Nat} (h : Pd w T k mn mx m t ad l c) : l = T.kn ∧ k = T.k ∧ t = T.set := by
 cases T with
 | mk k' mn' mx' n' s' kids =>
  obtain ⟨ad', l', c', he, hr⟩ := h.is.row
  injection he with he
  injection he with he
  simp at he
  obtain ⟨rfl, _, _, _, h1, h2, h3, h4, _, rfl, _⟩ := he
  refine ⟨hr.ln, rfl, ?_⟩
  show t = s'
  obtain ⟨t1, t2, t3, t4⟩ := t
  obtain ⟨q1, q2, q3, q4⟩ := s'
  have e1 : t1 = q1 := Int.ofNat.inj h1
  have e2 : t2 = q2 := Int.ofNat.inj h2
  have e3 : t3 = q3 := Int.ofNat.inj h3
  have e4 : t4 = q4 := Int.ofNat.inj h4
  subst e1; subst e2; subst e3; subst e4
  rfl

/-- A parse, with its answer. -/
theorem parse_at (s : ByteArray) (ere : Bool) (T : Rx) (n e : Nat) (hs : s.size ≤ 1000000) (hp : pParse s ere = (T, n, e)) (w : World) (h0 : ∃ m, w.cell? ⟨1, 0, none⟩ = some (.int .i64 m)) :
  Calls Tryz.prog 9 #[.string s, .bool ere] w fun en w' => ∃ k mn mx m t ad l c, en = .returned (.tuple #[rxv k mn mx m t (.slice ad l c), .int .i64 (n : Int), .int .i64 (e : Int)]) ∧ Pd w' T k mn mx m t ad l c ∧ Kp w w' := by
 refine (parse_any s ere w h0 hs).mono ?_
 intro en w' hx
 obtain ⟨v, rfl, hI, hk⟩ := hx.ex
 rw [hp] at hI ⊢
 obtain ⟨k, mn, mx, m, t, ad, l, c, rfl⟩ := hI.form
 exact ⟨k, mn, mx, m, t, ad, l, c, rfl, ⟨hI.weak (fun _ _ _ => trivial)⟩, hk⟩
theorem cell0 {w w' : World} (h : ∃ m, w.cell? ⟨1, 0, none⟩ = some (.int .i64 m)) (k : Kp w w') : ∃ m, w'.cell? ⟨1, 0, none⟩ = some (.int .i64 m) := by
 obtain ⟨m, hm⟩ := h
 exact ⟨m, (k.cell (World.block_lt_of_cell? w _ hm)).trans hm⟩

end Go.Proofs.YtommgdgilcemdaaGreatDoor

/-! ### KSame -/

namespace Go.Proofs.YtommgdgilcemdaaGreatDoor
open Go.RowKit

end Go.Proofs.YtommgdgilcemdaaGreatDoor

/-! ### SameEq -/

namespace Go.Proofs.YtommgdgilcemdaaGreatDoor
open Go.RowKit

mutual
theorem sameR_refl : ∀ a : Rx, sameR a a = true
 | .mk k mn mx n s ks => by simp [sameR, sameL_refl ks]
theorem sameL_refl : ∀ a : List Rx, sameL a a = true
 | [] => by simp [sameL]
 | a :: l => by simp [sameL, sameR_refl a, sameL_refl l]
end
end Go.Proofs.YtommgdgilcemdaaGreatDoor

/-! ### Count2 -/

namespace Go.Proofs.YtommgdgilcemdaaGreatDoor
open Go.RowKit

/-- No row of kids is longer than a million. -/
def Slim : Rx → Prop
 | .mk _ _ _ _ _ kids => kids.length ≤ 1000000 ∧ ∀ a, a ∈ kids → Slim a
termination_by r => SizeOf.sizeOf r
decreasing_by
 have := List.sizeOf_lt_of_mem (by assumption)
 simp
 omega

/-! ### Groups -/
mutual
def grp : Rx → Nat
 | .mk k _ _ _ _ kids => (if k = 5 then 1 else 0) + grps kids
def grps : List Rx → Nat
 | [] => 0
 | r :: rs => grp r + grps rs
end
theorem grps_app (a b : List Rx) : grps (a ++ b) = grps a + grps b := by
 induction a with
 | nil => simp [grps]
 | cons x a ih => simp only [List.cons_append, grps, ih]; omega
theorem grps_take (a : List Rx) (q : Nat) : grps (a.take q) ≤ grps a := by
 have := grps_app (a.take q) (a.drop q)
 rw [List.take_append_drop] at this
 omega
theorem grps_mem (a : List Rx) (r : Rx) (h : r ∈ a) : grp r ≤ grps a := by
 induction a with
 | nil => cases h
 | cons x a ih =>
  simp only [grps]
  rcases List.mem_cons.1 h with rfl | h
  ·
   omega
  ·
   have := ih h; omega
structure GroupsSaid (r : Rx) : Prop where
 all : ∀ (ok : Nat → Prop) (v : Value) (w : World), Is w ok r v → Calls Tryz.prog 93 #[v] w fun e w' => e = .returned (.int .i64 ((grp r : Nat) : Int)) ∧ Kp w w'

set_option maxHeartbeats 2000000 in
set_option maxRecDepth 100000 in
theorem Groups_step (k mn mx m : Int) (t : W4) (kids : List Rx) (H : ∀ r, r ∈ kids → GroupsSaid r) (hB : grp (.mk k mn mx m t kids) ≤ 1000000) (hS : kids.length ≤ 1000000) : GroupsSaid (.mk k mn mx m t kids) := by
 refine ⟨fun ok v w hI => ?_⟩
 obtain ⟨ad, l, c, rfl, hr⟩ := hI.row
 have hle := hr.ln
 have hlc := hr.cp
 subst hle
 obtain ⟨L, hL⟩ : ∃ L, kids.length = L := ⟨_, rfl⟩
 rw [hL] at hr hlc hS ⊢
 have HL := hid hL
 have RR := hid hr
 have HH := hid H
 have hG : grp (.mk k mn mx m t kids) = (if k = 5 then 1 else 0) + grps kids := by unfold grp; rfl
 rw [hG] at hB ⊢
 clear hI hr H hG hL
 by_cases k5 : k = 5
 ·
  subst k5
  rw [if_pos rfl] at hB ⊢
  obtain ⟨M, hM⟩ : ∃ M, grps kids = M := ⟨_, rfl⟩
  rw [hM] at hB ⊢
  have HM := hid hM
  clear hM
  obtain ⟨T, hT⟩ : ∃ T, 1 + M = T := ⟨_, rfl⟩
  rw [hT]
  have HT := hid hT
  clear hT
  go_enter Tryz.func93, Tryz.ntmps93
  go_upto_region 1 with fail
  refine opq (fun W0 => W0.heap[w.heap.size]? = some (rxo 5 mn mx m t (.slice ad L c)) ∧ Kp w W0 ∧ RowAt W0 ok kids ad L c) ⟨by (first | exact last_at _ _ _ (by simp) | (refine bl_alloc ?_ _; first | exact last_at _ _ _ (by simp) | (refine bl_alloc ?_ _; first | exact last_at _ _ _ (by simp) | (refine bl_alloc ?_ _; exact last_at _ _ _ (by simp))))), by exact (by repeat (first | exact Kp.refl _ | refine Kp.alloc ?_ _ | refine Kp.drew ?_ | refine Kp.drewN _ ?_)), by exact RR.out.kp (by repeat (first | exact Kp.refl _ | refine Kp.alloc ?_ _ | refine Kp.drew ?_ | refine Kp.drewN _ ?_))⟩ ?_
  rintro W0 ⟨xA0, xK0, xR0⟩
  have A0 : Hid (W0.heap[w.heap.size]? = some (rxo 5 mn mx m t (.slice ad L c))) := xA0
  have K0 : Hid (Kp w W0) := xK0
  have R0 : Hid (RowAt W0 ok kids ad L c) := xR0
  clear xA0 xK0 xR0
  have a0 := bl_cell (A0.out) 0 _ rfl
  have a1 := bl_cell (A0.out) 1 _ rfl
  have a2 := bl_cell (A0.out) 2 _ rfl
  have a3 := bl_cell (A0.out) 3 _ rfl
  have a4 := bl_cell (A0.out) 4 _ rfl
  have a5 := bl_cell (A0.out) 5 _ rfl
  have a6 := bl_cell (A0.out) 6 _ rfl
  have a7 := bl_cell (A0.out) 7 _ rfl
  have a8 := bl_cell (A0.out) 8 _ rfl
  go_wp2_with fail
  clear a0 a1 a2 a3 a4 a5 a6 a7 a8
  go_loopg [3, 12] L (fun gg v i wr => ∃ q A : Nat, q + gg = L ∧ i = .int .i64 (q : Int) ∧ v = .int .i64 (A : Int) ∧ 1 + grps (kids.take q) = A ∧ Kp W0 wr)
  case atStart => exact ⟨0, 1, by omega, rfl, rfl, by rw [List.take_zero, grps], Kp.refl _⟩
  case round =>
   obtain ⟨q, A, hq, rfl, rfl, hA, hK⟩ := hrel
   have hle := grps_take kids q
   rw [HM.out] at hle
   have hAb : A ≤ 1000001 := by omega
   have HA := hid hA
   have K := hid hK
   clear hA hK hle
   by_cases hlt : q < L
   ·
    have gkw : IntKind.i64.wrap ((q : Int) + 1) = (q : Int) + 1 := by rw [IntKind.wrap_i64]; omega
    have ga : (q : Int) < (L : Int) := by omega
    have g0 : (0 : Int) ≤ (q : Int) := by omega
    obtain ⟨r, hr⟩ : ∃ r, kids[q]? = some r := ⟨_, List.getElem?_eq_getElem (by rw [HL.out]; exact hlt)⟩
    have htk : grps (kids.take (q + 1)) = grps (kids.take q) + grp r := by
     rw [List.take_succ_eq_append_getElem (by rw [HL.out]; exact hlt), grps_app, (List.getElem?_eq_some_iff.1 hr).2]
     simp [grps]
    have hle : grp r ≤ grps kids := grps_mem kids r (List.mem_of_getElem? hr)
    rw [HM.out] at hle
    obtain ⟨bb, oo, kk, mn', mx', mm, tt, ad', ll, cc, e1, hbb, i1, ce1⟩ := (R0.out.kp K.out).at q r hr
    subst e1
    have TS := hid (HH.out r (List.mem_of_getElem? hr)).all
    obtain ⟨G, hG⟩ : ∃ G, grp r = G := ⟨_, rfl⟩
    rw [hG] at TS htk hle
    have HTK := hid htk
    have hw : IntKind.i64.wrap ((A : Int) + (G : Int)) = (A : Int) + (G : Int) := by rw [IntKind.wrap_i64]; omega
    have I1 := hid i1
    have CE1 := hid ce1
    clear hr htk i1 ce1 hG
    obtain ⟨x0, x1, x2, x3, x4, x5, x6, x7, x8⟩ := cells_of_is CE1.out
    go_upto_region 7 with fail
    clear x0 x1 x2 x3 x4 x5 x6 x7 x8
    refine opq (fun W => W.heap[wr.heap.size]? = some (rxo kk mn' mx' mm tt (.slice ad' ll cc)) ∧ Kp wr W) ⟨by exact last_at _ _ _ (by simp), by exact (Kp.refl _).alloc _⟩ ?_
    rintro W1 ⟨y1, y2⟩
    have A1 := hid y1
    have K1 := hid y2
    clear y1 y2
    have a0 := bl_cell (A1.out) 0 _ rfl
    have a1 := bl_cell (A1.out) 1 _ rfl
    have a2 := bl_cell (A1.out) 2 _ rfl
    have a3 := bl_cell (A1.out) 3 _ rfl
    have a4 := bl_cell (A1.out) 4 _ rfl
    have a5 := bl_cell (A1.out) 5 _ rfl
    have a6 := bl_cell (A1.out) 6 _ rfl
    have a7 := bl_cell (A1.out) 7 _ rfl
    have a8 := bl_cell (A1.out) 8 _ rfl
    go_wp2_with fail
    clear a0 a1 a2 a3 a4 a5 a6 a7 a8
    refine (TS.out ok _ _ (I1.out.kp K1.out)).mono ?_
    rintro e W2 ⟨rfl, k2⟩
    have K2 := hid (K.out.trans (K1.out.trans k2))
    clear k2
    go_wp2_with fail
    go_roundg (gk - 1)
    case measure => omega
    case rel => exact ⟨q + 1, A + G, by omega, by go_num, by go_num, by rw [HTK.out, ← Nat.add_assoc, HA.out], K2.out⟩
   ·
    have ga : ¬ (q : Int) < (L : Int) := by omega
    have E : Hid (A = T) := by
     show _ = _
     rw [← HT.out, ← HA.out, List.take_of_length_le (by rw [HL.out]; omega), HM.out]
    go_wp2_with fail
    go_ret
    exact ⟨by rw [E.out]; rfl, K0.out.trans K.out⟩
 ·
  have g5 : (k == 5) = false := by simp [k5]
  rw [if_neg k5] at hB ⊢
  obtain ⟨M, hM⟩ : ∃ M, grps kids = M := ⟨_, rfl⟩
  rw [hM] at hB ⊢
  have HM := hid hM
  clear hM
  obtain ⟨T, hT⟩ : ∃ T, 0 + M = T := ⟨_, rfl⟩
  rw [hT]
  have HT := hid hT
  clear hT
  go_enter Tryz.func93, Tryz.ntmps93
  go_upto_region 1 with fail
  refine opq (fun W0 => W0.heap[w.heap.size]? = some (rxo k mn mx m t (.slice ad L c)) ∧ Kp w W0 ∧ RowAt W0 ok kids ad L c) ⟨by (first | exact last_at _ _ _ (by simp) | (refine bl_alloc ?_ _; first | exact last_at _ _ _ (by simp) | (refine bl_alloc ?_ _; first | exact last_at _ _ _ (by simp) | (refine bl_alloc ?_ _; exact last_at _ _ _ (by simp))))), by exact (by repeat (first | exact Kp.refl _ | refine Kp.alloc ?_ _ | refine Kp.drew ?_ | refine Kp.drewN _ ?_)), by exact RR.out.kp (by repeat (first | exact Kp.refl _ | refine Kp.alloc ?_ _ | refine Kp.drew ?_ | refine Kp.drewN _ ?_))⟩ ?_
  rintro W0 ⟨xA0, xK0, xR0⟩
  have A0 : Hid (W0.heap[w.heap.size]? = some (rxo k mn mx m t (.slice ad L c))) := xA0
  have K0 : Hid (Kp w W0) := xK0
  have R0 : Hid (RowAt W0 ok kids ad L c) := xR0
  clear xA0 xK0 xR0
  have a0 := bl_cell (A0.out) 0 _ rfl
  have a1 := bl_cell (A0.out) 1 _ rfl
  have a2 := bl_cell (A0.out) 2 _ rfl
  have a3 := bl_cell (A0.out) 3 _ rfl
  have a4 := bl_cell (A0.out) 4 _ rfl
  have a5 := bl_cell (A0.out) 5 _ rfl
  have a6 := bl_cell (A0.out) 6 _ rfl
  have a7 := bl_cell (A0.out) 7 _ rfl
  have a8 := bl_cell (A0.out) 8 _ rfl
  go_wp2_with fail
  clear a0 a1 a2 a3 a4 a5 a6 a7 a8
  go_loopg [3, 12] L (fun gg v i wr => ∃ q A : Nat, q + gg = L ∧ i = .int .i64 (q : Int) ∧ v = .int .i64 (A : Int) ∧ 0 + grps (kids.take q) = A ∧ Kp W0 wr)
  case atStart => exact ⟨0, 0, by omega, rfl, rfl, by rw [List.take_zero, grps], Kp.refl _⟩
  case round =>
   obtain ⟨q, A, hq, rfl, rfl, hA, hK⟩ := hrel
   have hle := grps_take kids q
   rw [HM.out] at hle
   have hAb : A ≤ 1000001 := by omega
   have HA := hid hA
   have K := hid hK
   clear hA hK hle
   by_cases hlt : q < L
   ·
    have gkw : IntKind.i64.wrap ((q : Int) + 1) = (q : Int) + 1 := by rw [IntKind.wrap_i64]; omega
    have ga : (q : Int) < (L : Int) := by omega
    have g0 : (0 : Int) ≤ (q : Int) := by omega
    obtain ⟨r, hr⟩ : ∃ r, kids[q]? = some r := ⟨_, List.getElem?_eq_getElem (by rw [HL.out]; exact hlt)⟩
    have htk : grps (kids.take (q + 1)) = grps (kids.take q) + grp r := by
     rw [List.take_succ_eq_append_getElem (by rw [HL.out]; exact hlt), grps_app, (List.getElem?_eq_some_iff.1 hr).2]
     simp [grps]
    have hle : grp r ≤ grps kids := grps_mem kids r (List.mem_of_getElem? hr)
    rw [HM.out] at hle
    obtain ⟨bb, oo, kk, mn', mx', mm, tt, ad', ll, cc, e1, hbb, i1, ce1⟩ := (R0.out.kp K.out).at q r hr
    subst e1
    have TS := hid (HH.out r (List.mem_of_getElem? hr)).all
    obtain ⟨G, hG⟩ : ∃ G, grp r = G := ⟨_, rfl⟩
    rw [hG] at TS htk hle
    have HTK := hid htk
    have hw : IntKind.i64.wrap ((A : Int) + (G : Int)) = (A : Int) + (G : Int) := by rw [IntKind.wrap_i64]; omega
    have I1 := hid i1
    have CE1 := hid ce1
    clear hr htk i1 ce1 hG
    obtain ⟨x0, x1, x2, x3, x4, x5, x6, x7, x8⟩ := cells_of_is CE1.out
    go_upto_region 7 with fail
    clear x0 x1 x2 x3 x4 x5 x6 x7 x8
    refine opq (fun W => W.heap[wr.heap.size]? = some (rxo kk mn' mx' mm tt (.slice ad' ll cc)) ∧ Kp wr W) ⟨by exact last_at _ _ _ (by simp), by exact (Kp.refl _).alloc _⟩ ?_
    rintro W1 ⟨y1, y2⟩
    have A1 := hid y1
    have K1 := hid y2
    clear y1 y2
    have a0 := bl_cell (A1.out) 0 _ rfl
    have a1 := bl_cell (A1.out) 1 _ rfl
    have a2 := bl_cell (A1.out) 2 _ rfl
    have a3 := bl_cell (A1.out) 3 _ rfl
    have a4 := bl_cell (A1.out) 4 _ rfl
    have a5 := bl_cell (A1.out) 5 _ rfl
    have a6 := bl_cell (A1.out) 6 _ rfl
    have a7 := bl_cell (A1.out) 7 _ rfl
    have a8 := bl_cell (A1.out) 8 _ rfl
    go_wp2_with fail
    clear a0 a1 a2 a3 a4 a5 a6 a7 a8
    refine (TS.out ok _ _ (I1.out.kp K1.out)).mono ?_
    rintro e W2 ⟨rfl, k2⟩
    have K2 := hid (K.out.trans (K1.out.trans k2))
    clear k2
    go_wp2_with fail
    go_roundg (gk - 1)
    case measure => omega
    case rel => exact ⟨q + 1, A + G, by omega, by go_num, by go_num, by rw [HTK.out, ← Nat.add_assoc, HA.out], K2.out⟩
   ·
    have ga : ¬ (q : Int) < (L : Int) := by omega
    have E : Hid (A = T) := by
     show _ = _
     rw [← HT.out, ← HA.out, List.take_of_length_le (by rw [HL.out]; omega), HM.out]
    go_wp2_with fail
    go_ret
    exact ⟨by rw [E.out]; rfl, K0.out.trans K.out⟩

theorem Groups_any : ∀ a, grp a ≤ 1000000 → Slim a → GroupsSaid a
 | .mk k mn mx n s kids, h, hs => by
  unfold Slim at hs
  exact Groups_step k mn mx n s kids (fun a ha => Groups_any a (by unfold grp at h; have := grps_mem kids a ha; omega) (hs.2 a ha)) h hs.1
termination_by a => SizeOf.sizeOf a
decreasing_by
 have := List.sizeOf_lt_of_mem ha
 simp
 omega

/-! ### Nodes -/
mutual
def nds : Rx → Nat
 | .mk _ _ _ _ _ kids => 1 + ndss kids
def ndss : List Rx → Nat
 | [] => 0
 | r :: rs => nds r + ndss rs
end
theorem ndss_mem (a : List Rx) (r : Rx) (h : r ∈ a) : nds r ≤ ndss a := by
 induction a with
 | nil => cases h
 | cons x a ih =>
  simp only [ndss]
  rcases List.mem_cons.1 h with rfl | h
  ·
   omega
  ·
   have := ih h; omega
end Go.Proofs.YtommgdgilcemdaaGreatDoor
