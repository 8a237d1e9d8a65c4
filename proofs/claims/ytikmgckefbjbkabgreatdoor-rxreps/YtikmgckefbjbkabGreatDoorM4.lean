/-
  Texts of this claim: Kids2, Choice, Parse, Text1, Row2, Row3, Text2, Same, Chk, Lean2, Right1, Right2.
-/
import Derived.Test.YtikmgckefbjbkabGreatDoorM2
import Derived.OwnWalk
import Derived.Test.YtikmgckefbjbkabGreatDoorM3
import Derived.Test.YtikmgckefbjbkabGreatDoorM1
import Derived.Laws.IdiomStrings
import Derived.Lib.BufferRead
import Derived.Deep.LoopGhost

/-! ### Kids2 -/

namespace Go.Proofs.YtikmgckefbjbkabGreatDoor
open Go.RowKit

structure RK (ok : Nat → Prop) (base : Nat) (w : World) (v : Value) (ts : List Rx) : Prop where
  ex : ∃ vs : List Value, vs.length = ts.length ∧ w.ownsRow base 30 9 v ts.length (rowOf vs) ∧ (∀ b, v.ownBlock = some b → ok b) ∧ ∀ (j : Nat) t u, ts[j]? = some t → vs[j]? = some u → Is w (fun b => ok b ∧ v.ownBlock ≠ some b) t u
theorem RK.turn {ok : Nat → Prop} {base : Nat} {w w' : World} {v : Value} {ts : List Rx} (h : RK ok base w v ts) (hs : w.heap.size ≤ w'.heap.size) (hk : ∀ b, ok b → b < w.heap.size → w'.heap[b]? = w.heap[b]?) : RK ok base w' v ts := by
  obtain ⟨vs, h1, h2, h0, h3⟩ := h.ex
  exact ⟨vs, h1, owns_same h2 (fun b hb hl => hk b (h0 b hb) hl), h0, fun j t u hj hu => Is.turn hs (fun b hb hl => ⟨hb, hk b hb.1 hl⟩) t u (h3 j t u hj hu)⟩
theorem RK.kp {ok : Nat → Prop} {base : Nat} {w w' : World} {v : Value} {ts : List Rx} (h : RK ok base w v ts) (k : Kp w w') : RK ok base w' v ts := h.turn k.size (fun b _ hl => k.block b hl)
theorem RK.ks {ok : Nat → Prop} {P base : Nat} {w w' : World} {v : Value} {ts : List Rx} (h : RK ok base w v ts) (k : Ks P w w') (hP : ∀ b, ok b → b ≠ P) : RK ok base w' v ts := h.turn k.size (fun b hb hl => k.block b hl (hP b hb))
theorem RK.block {ok : Nat → Prop} {base : Nat} {w : World} {v : Value} {ts : List Rx} (h : RK ok base w v ts) : ∀ b, v.ownBlock = some b → ok b ∧ b < w.heap.size := by
  obtain ⟨vs, _, h2, h0, _⟩ := h.ex
  exact fun b hb => ⟨h0 b hb, (h2.lt b hb).2⟩
theorem RK.base {ok : Nat → Prop} {base : Nat} {w : World} {v : Value} {ts : List Rx} (h : RK ok base w v ts) (hb : ∀ b, ok b → base ≤ b) : RKids base w v ts := by
  obtain ⟨vs, h1, h2, h0, h3⟩ := h.ex
  exact ⟨vs, h1, h2, fun j t u hj hu => (h3 j t u hj hu).weak (fun b hx _ => ⟨hb b hx.1, hx.2⟩)⟩
theorem RK.form {ok : Nat → Prop} {base : Nat} {w : World} {v : Value} {ts : List Rx} (h : RK ok base w v ts) : ∃ ad c, v = .slice ad ts.length c ∧ ts.length ≤ c := by
  obtain ⟨vs, _, h2, _, _⟩ := h.ex
  rcases h2.2 with ⟨rfl, h0⟩ | ⟨g, cap, cur, hv, _, _, hc, _⟩
  · exact ⟨none, 0, by rw [h0], by omega⟩
  · exact ⟨_, cap, hv, hc⟩
/-- A tree whose kids they are. -/
theorem RK.is {ok : Nat → Prop} {base : Nat} {w : World} {v : Value} {ts : List Rx} (h : RK ok base w v ts) (k mn mx n : Int) (s : W4) : Is w ok (.mk k mn mx n s ts) (rxv k mn mx n s v) := by
  obtain ⟨vs, h1, h2, h0, h3⟩ := h.ex
  unfold Is
  by_cases hn : 0 < ts.length
  · obtain ⟨g, cap, rfl, hc, hb, hl, hcell⟩ := owns_cells h2 hn
    refine ⟨_, _, cap, rfl, rfl, hc, fun _ => ⟨g, 0, rfl, h0 g rfl, hl, IsL.put fun j t hj => ?_⟩⟩
    have hjl : j < vs.length := by rw [h1]; exact (List.getElem?_eq_some_iff.1 hj).1
    have hu : vs[j]? = some vs[j] := List.getElem?_eq_getElem hjl
    refine ⟨vs[j], (h3 j t _ hj hu).weak (fun _ hb _ => hb.1), fun i x hi => ?_⟩
    rw [Nat.zero_add]
    refine hcell _ _ (rowOf_at vs ?_ j _ hu i x hi)
    intro y hy
    obtain ⟨q, hq⟩ := List.mem_iff_getElem?.1 hy
    have hq' : q < ts.length := by rw [← h1]; exact (List.getElem?_eq_some_iff.1 hq).1
    obtain ⟨k, mn, mx, n, s, ad, l, c, rfl⟩ := (h3 q _ y (List.getElem?_eq_getElem hq') hq).form
    rfl
  · obtain ⟨ad, c, rfl, hc⟩ := h.form
    exact ⟨ad, _, c, rfl, rfl, hc, fun hne => absurd (List.eq_nil_of_length_eq_zero (by omega)) hne⟩
/-- One tree in a block of its own. -/
theorem RK.single {ok : Nat → Prop} {base : Nat} {w : World} {r : Rx} (k mn mx m : Int) (t : W4) (ad : Option Addr) (l c : Nat) (hI : Is w ok r (rxv k mn mx m t (.slice ad l c))) (hb : base ≤ w.heap.size) (ho : ok w.heap.size) :
    RK ok base (w.alloc (rxo k mn mx m t (.slice ad l c))) (.slice (some ⟨w.heap.size, 0, none⟩) 1 1) [r] := by
  refine ⟨[rxv k mn mx m t (.slice ad l c)], rfl, ⟨rfl, .inr ⟨w.heap.size, 1, _, rfl, hb, last_of w _, Nat.le_refl _, by unfold maxLen; omega, rfl, rfl⟩⟩, ?_, ?_⟩
  · intro b hb'
    injection hb' with hb'
    rw [← hb']; exact ho
  intro j t' u hj hu
  match j, hj, hu with
  | 0, hj, hu =>
    simp at hj hu
    subst hj
    subst hu
    refine (hI.weak (ok' := fun b => ok b ∧ (Value.slice (some ⟨w.heap.size, 0, none⟩) 1 1).ownBlock ≠ some b) (fun b hb hl => ⟨hb, ?_⟩)).kp ((Kp.refl _).alloc _)
    show some w.heap.size ≠ some b
    intro he; injection he with he; omega
  | j + 1, hj, _ => simp at hj

/-- A tree put behind those that the call owns. -/
theorem wpList_append_rk {ops : Array Oper} {rest : List Oper} {o : Oper} {a : Act} {Q : Exit → Act → World → Prop} (W : World) (hgd : o.guard = none) (s x : Operand)
    (ho : o.op = .call { callee := .builtin .append, args := #[s, x], argTypes := #[28, 28] })
    (base : Nat) (v : Value) (ts : List Rx) (r : Rx) (hs : a.eval s = v) (ok : Nat → Prop) (hnew : ∀ b, W.heap.size ≤ b → ok b) (hK : Hid (RK ok base W v ts)) (k mn mx m : Int) (t : W4) (ad : Option Addr) (l c : Nat)
    (hI : Hid (Is W (fun b => ok b ∧ v.ownBlock ≠ some b) r (rxv k mn mx m t (.slice ad l c)))) (B : Nat) (hB : B = W.heap.size)
    (hx : a.eval x = .slice (some ⟨B, 0, none⟩) 1 1) (h63 : ts.length ≤ 1000000) (hbase : base ≤ W.heap.size)
    (h : ∀ v' w', RK ok base w' v' (ts ++ [r]) → W.grownBy w' v.ownBlock → wpList Tryz.prog ops Q rest (a.put o.dst v') w') :
    wpList Tryz.prog ops Q (o :: rest) a (W.alloc (rxo k mn mx m t (.slice ad l c))) := by
  obtain ⟨i, hi, hz, hsz, hby⟩ := info27
  obtain ⟨vs, hv1, hv2, hv0, hv3⟩ := hK.out.ex
  have kal : Kp W (W.alloc (rxo k mn mx m t (.slice ad l c))) := (Kp.refl _).alloc _
  subst hB
  refine wpList_append_own_at (W.alloc (rxo k mn mx m t (.slice ad l c))) hgd s x 28 ho base 30 i rz 9 88 Tryz.underlying28 hi hz hsz hby rfl (by omega) v ts.length (rowOf vs) hs (owns_same hv2 fun b _ hl => kal.block b hl) ⟨W.heap.size, 0, none⟩ 1 1 (cellsOf (rxv k mn mx m t (.slice ad l c))) hx rfl ?_ (rx_one _ _ _ _ _ _ _ _) (by unfold maxLen; omega) (by omega) (by simp; omega) ?_
  · intro j y hj
    have hn := last_of W (rxo k mn mx m t (.slice ad l c))
    rw [show (⟨W.heap.size, 0, none⟩ : Addr).add j = ⟨W.heap.size, j, none⟩ by simp [Addr.add]; exact Eq.symm]
    refine bl_cell hn j y ?_
    rw [← Array.getElem?_toList]; exact hj
  · intro v' w' a1 a2 _ a4
    have hgr : W.grownBy w' v.ownBlock := ⟨a2.os.trans rfl, a2.tape.trans rfl, a2.output.trans rfl, Nat.le_trans kal.size a2.size, fun b hb hne => (a2.block b (Nat.lt_of_lt_of_le hb kal.size) hne).trans (kal.block b hb)⟩
    refine h v' w' ⟨vs ++ [rxv k mn mx m t (.slice ad l c)], by simp [hv1], ?_, ?_, ?_⟩ hgr
    · rw [List.length_append, rowOf_append, rowOf_one]; exact a1
    · intro b hb
      rcases a4 with a4 | a4
      · rw [a4] at hb; exact hv0 b hb
      · rw [a4] at hb; injection hb with hb; exact hnew b (by rw [← hb]; simp)
    · have hok : ∀ b, (ok b ∧ v.ownBlock ≠ some b) → b < W.heap.size → (ok b ∧ v'.ownBlock ≠ some b) ∧ w'.heap[b]? = W.heap[b]? := by
        intro b hb hl
        refine ⟨⟨hb.1, ?_⟩, hgr.block b hl (Ne.symm hb.2)⟩
        rcases a4 with a4 | a4
        · rw [a4]; exact hb.2
        · rw [a4]; intro he; injection he with he; simp at he; omega
      intro j t' u hj hu
      by_cases hlt : j < ts.length
      · rw [List.getElem?_append_left hlt] at hj
        rw [List.getElem?_append_left (by omega)] at hu
        exact Is.turn hgr.size hok t' u (hv3 j t' u hj hu)
      · have hj0 : j = ts.length := by
          have := (List.getElem?_eq_some_iff.1 hj).1
          simp at this; omega
        subst hj0
        rw [List.getElem?_append_right (Nat.le_refl _)] at hj
        rw [List.getElem?_append_right (by omega), hv1] at hu
        simp at hj hu
        subst hj
        subst hu
        exact Is.turn hgr.size hok _ _ hI.out

set_option maxHeartbeats 2000000 in
set_option maxRecDepth 100000 in
theorem keep_rk (ok : Nat → Prop) (base : Nat) (v : Value) (ts : List Rx) (r : Rx) (k mn mx m : Int) (t : W4) (ad : Option Addr) (l c : Nat) (s : ByteArray) (ere : Bool) (i n g d P : Nat) (w : World) (h : Rd w P s ere i n g d) (hK : RK ok base w v ts) (hI : Is w (fun b => ok b ∧ v.ownBlock ≠ some b) r (rxv k mn mx m t (.slice ad l c))) (hnew : ∀ b, w.heap.size ≤ b → ok b) (hb : base ≤ w.heap.size) (ht : ts.length ≤ 1000000) :
    Calls Tryz.prog 42 #[.pointer (some ⟨P, 0, none⟩), v, rxv k mn mx m t (.slice ad l c)] w fun e w' => ∃ v', e = .returned v' ∧ RK ok base w' v' (keepL n ts r) ∧ w.grownBy w' v.ownBlock := by
  have R : Hid (Rd w P s ere i n g d) := h
  have HK : Hid (RK ok base w v ts) := hK
  have HI : Hid (Is w (fun b => ok b ∧ v.ownBlock ≠ some b) r (rxv k mn mx m t (.slice ad l c))) := hI
  have HN := hid hnew
  clear h hK hI hnew
  by_cases hc : n > 40
  · have E : Hid (keepL n ts r = ts) := by show _ = _; unfold keepL; rw [if_pos hc]
    have c1 : (40 : Int) < (n : Int) := by omega
    go_enter Tryz.func42, Tryz.ntmps42
    go_upto_region 1 with fail
    refine opq (fun W0 => Rd W0 P s ere i n g d ∧ W0.heap[w.heap.size]? = some (rxo k mn mx m t (.slice ad l c)) ∧ RK ok base W0 v ts ∧ Is W0 (fun b => ok b ∧ v.ownBlock ≠ some b) r (rxv k mn mx m t (.slice ad l c)) ∧ Kp w W0) ⟨by exact R.out.kp (by repeat (first | exact Kp.refl _ | refine Kp.alloc ?_ _ | refine Kp.drew ?_ | refine Kp.drewN _ ?_)), by (first | exact last_at _ _ _ (by simp) | (refine bl_alloc ?_ _; first | exact last_at _ _ _ (by simp) | (refine bl_alloc ?_ _; first | exact last_at _ _ _ (by simp) | (refine bl_alloc ?_ _; exact last_at _ _ _ (by simp))))), by exact HK.out.kp (by repeat (first | exact Kp.refl _ | refine Kp.alloc ?_ _ | refine Kp.drew ?_ | refine Kp.drewN _ ?_)), by exact HI.out.kp (by repeat (first | exact Kp.refl _ | refine Kp.alloc ?_ _ | refine Kp.drew ?_ | refine Kp.drewN _ ?_)), by exact (by repeat (first | exact Kp.refl _ | refine Kp.alloc ?_ _ | refine Kp.drew ?_ | refine Kp.drewN _ ?_))⟩ ?_
    rintro W0 ⟨xR0, xA0, xHK0, xHI0, xK0⟩
    have R0 : Hid (Rd W0 P s ere i n g d) := xR0
    have A0 : Hid (W0.heap[w.heap.size]? = some (rxo k mn mx m t (.slice ad l c))) := xA0
    have HK0 : Hid (RK ok base W0 v ts) := xHK0
    have HI0 : Hid (Is W0 (fun b => ok b ∧ v.ownBlock ≠ some b) r (rxv k mn mx m t (.slice ad l c))) := xHI0
    have K0 : Hid (Kp w W0) := xK0
    clear xR0 xA0 xHK0 xHI0 xK0
    have p3 := R0.out.cells.2.2.2.1
    have hs0 := K0.out.size
    go_wp2
    go_ret
    exact ⟨_, rfl, by rw [E.out]; exact HK0.out, K0.out.grown _⟩
  · have E : Hid (keepL n ts r = ts ++ [r]) := by show _ = _; unfold keepL; rw [if_neg hc]
    have c1 : ¬ (40 : Int) < (n : Int) := by omega
    go_enter Tryz.func42, Tryz.ntmps42
    go_upto_region 1 with fail
    refine opq (fun W0 => Rd W0 P s ere i n g d ∧ W0.heap[w.heap.size]? = some (rxo k mn mx m t (.slice ad l c)) ∧ RK ok base W0 v ts ∧ Is W0 (fun b => ok b ∧ v.ownBlock ≠ some b) r (rxv k mn mx m t (.slice ad l c)) ∧ Kp w W0) ⟨by exact R.out.kp (by repeat (first | exact Kp.refl _ | refine Kp.alloc ?_ _ | refine Kp.drew ?_ | refine Kp.drewN _ ?_)), by (first | exact last_at _ _ _ (by simp) | (refine bl_alloc ?_ _; first | exact last_at _ _ _ (by simp) | (refine bl_alloc ?_ _; first | exact last_at _ _ _ (by simp) | (refine bl_alloc ?_ _; exact last_at _ _ _ (by simp))))), by exact HK.out.kp (by repeat (first | exact Kp.refl _ | refine Kp.alloc ?_ _ | refine Kp.drew ?_ | refine Kp.drewN _ ?_)), by exact HI.out.kp (by repeat (first | exact Kp.refl _ | refine Kp.alloc ?_ _ | refine Kp.drew ?_ | refine Kp.drewN _ ?_)), by exact (by repeat (first | exact Kp.refl _ | refine Kp.alloc ?_ _ | refine Kp.drew ?_ | refine Kp.drewN _ ?_))⟩ ?_
    rintro W0 ⟨xR0, xA0, xHK0, xHI0, xK0⟩
    have R0 : Hid (Rd W0 P s ere i n g d) := xR0
    have A0 : Hid (W0.heap[w.heap.size]? = some (rxo k mn mx m t (.slice ad l c))) := xA0
    have HK0 : Hid (RK ok base W0 v ts) := xHK0
    have HI0 : Hid (Is W0 (fun b => ok b ∧ v.ownBlock ≠ some b) r (rxv k mn mx m t (.slice ad l c))) := xHI0
    have K0 : Hid (Kp w W0) := xK0
    clear xR0 xA0 xHK0 xHI0 xK0
    have p3 := R0.out.cells.2.2.2.1
    have hs0 := K0.out.size
    have a0 := bl_cell (A0.out) 0 _ rfl
    have a1 := bl_cell (A0.out) 1 _ rfl
    have a2 := bl_cell (A0.out) 2 _ rfl
    have a3 := bl_cell (A0.out) 3 _ rfl
    have a4 := bl_cell (A0.out) 4 _ rfl
    have a5 := bl_cell (A0.out) 5 _ rfl
    have a6 := bl_cell (A0.out) 6 _ rfl
    have a7 := bl_cell (A0.out) 7 _ rfl
    have a8 := bl_cell (A0.out) 8 _ rfl
    go_wp2_with (at_builtin; go_must (refine wpList_append_rk W0 (by rfl) _ _ (by rfl) base v ts r (by rfl) ok (fun b hb => HN.out b (Nat.le_trans hs0 hb)) HK0 k mn mx m t ad l c HI0 _ (by rfl) (by rfl) ?h1 ?h2 ?_))
    case h2 => omega
    intro v' w' hk' hg'
    have HK' : Hid (RK ok base w' v' (ts ++ [r])) := hk'
    have HG' : Hid (w.grownBy w' v.ownBlock) := ⟨hg'.os.trans K0.out.os, hg'.tape.trans K0.out.tape, hg'.output.trans K0.out.output, Nat.le_trans K0.out.size hg'.size, fun b hb hne => (hg'.block b (Nat.lt_of_lt_of_le hb K0.out.size) hne).trans (K0.out.block b hb)⟩
    clear hk' hg'
    go_wp2_with fail
    go_ret
    exact ⟨_, rfl, by rw [E.out]; exact HK'.out, HG'.out⟩

end Go.Proofs.YtikmgckefbjbkabGreatDoor

/-! ### Choice -/

namespace Go.Proofs.YtikmgckefbjbkabGreatDoor
open Go.RowKit
attribute [local go_sem] field91

/-- In the loop of a choice. -/
structure Cw (c : St → Out) (s : ByteArray) (ere : Bool) (P A : Nat) (w : World) (t0 : St) (k : Nat) (v : Value) (wr : World) (ks : List Rx) (t : St) : Prop where
  kids : RK (fun b => w.heap.size + 1 ≤ b ∧ b ≠ A) (w.heap.size + 1) wr v ks
  rd : Rd wr P s ere t.i t.n t.g t.d
  i : t.i ≤ s.size
  n : t.n ≤ 3 * t.i + 2
  g : t.g ≤ t.i
  d : t.d = t0.d
  f : s.size < k + t.i
  len : ks.length ≤ t.i + 1
  eq : pChL c s ere k ks t = pCh1 c s ere t0
  a : ∃ k mn mx m t ad l c, wr.heap[A]? = some (rxo k mn mx m t (.slice ad l c))
  b : wr.heap[w.heap.size]? = some rzo
  ks : Ks P w wr

set_option maxHeartbeats 2000000 in
set_option maxRecDepth 100000 in
theorem choice_any (c : St → Out) (D : Nat) (s : ByteArray) (ere : Bool) (i n g d P : Nat) (w : World) (HC : ChSaid c s ere D) (HGd : CGood c s) (h : Rd w P s ere i n g d) (hv : Inv s ⟨i, n, g, d⟩) (hD : d + D = 6) (hs : s.size ≤ 1000000) :
    Calls Tryz.prog 25 #[.pointer (some ⟨P, 0, none⟩)] w fun e w' => RetE w P s ere (pCh1 c s ere ⟨i, n, g, d⟩) e w' := by
  have R : Hid (Rd w P s ere i n g d) := h
  have hP : P < w.heap.size := h.lt
  clear h
  have hi : i ≤ s.size := hv.i
  obtain ⟨o, ho⟩ : ∃ o, pRow c s ere ⟨i, n, g, d⟩ = o := ⟨_, rfl⟩
  have hgood := pRow_good (ere := ere) HGd hv
  have RA : Hid (∀ w, Rd w P s ere i n g d → Calls Tryz.prog 40 #[.pointer (some ⟨P, 0, none⟩)] w fun e w' => RetE w P s ere o e w') := by
    intro w h
    have := row_any c D s ere i n g d P w HC HGd h hv hD hs
    rw [ho] at this
    exact this
  have E0 : Hid (pCh1 c s ere ⟨i, n, g, d⟩ = if o.e ≠ 0 ∨ (sgn s ere o.st.i).1 ≠ 9 then o else pChL c s ere (s.size + 1) [o.r] o.st) := by
    show _ = _
    unfold pCh1
    rw [ho]
  rw [ho] at hgood
  have HGO := hid hgood
  have ho1 : o.st.i ≤ s.size := hgood.le
  clear ho hgood
  obtain ⟨r, er, ⟨i1, n1, g1, d1⟩⟩ := o
  simp only at ho1
  go_enter Tryz.func25, Tryz.ntmps25
  go_upto_region 1 with fail
  refine opq (fun W0 => Rd W0 P s ere i n g d ∧ W0.heap[w.heap.size]? = some rzo ∧ Ks P w W0) ⟨by exact R.out.kp (by repeat (first | exact Kp.refl _ | refine Kp.alloc ?_ _ | refine Kp.drew ?_ | refine Kp.drewN _ ?_)), by (first | exact last_at _ _ _ (by simp) | (refine bl_alloc ?_ _; first | exact last_at _ _ _ (by simp) | (refine bl_alloc ?_ _; first | exact last_at _ _ _ (by simp) | (refine bl_alloc ?_ _; exact last_at _ _ _ (by simp))))), by exact (Kp.ks (by repeat (first | exact Kp.refl _ | refine Kp.alloc ?_ _ | refine Kp.drew ?_ | refine Kp.drewN _ ?_)) (Nat.le_of_lt hP))⟩ ?_
  rintro W0 ⟨xR0, xB0, xK0⟩
  have R0 : Hid (Rd W0 P s ere i n g d) := xR0
  have B0 : Hid (W0.heap[w.heap.size]? = some rzo) := xB0
  have K0 : Hid (Ks P w W0) := xK0
  clear xR0 xB0 xK0
  clear R
  have hs0 : w.heap.size < W0.heap.size := bl_lt B0.out
  go_wp2_with fail
  refine (RA.out _ R0.out).mono ?_
  rintro e W1 ⟨⟨v, rfl, rr⟩⟩
  obtain ⟨kk, mn, mx, mm, tt, ad, ll, cc, rfl⟩ := rr.is.form
  have hs1 := rr.ks.size
  have R1 : Hid (Rd W1 P s ere i1 n1 g1 d1) := rr.rd
  have I1 : Hid (Is W1 (fun b => W0.heap.size ≤ b) r (rxv kk mn mx mm tt (.slice ad ll cc))) := rr.is
  have B1 := hid (bl_ks B0.out (by omega) rr.ks)
  have K1 := hid (K0.out.trans rr.ks)
  clear rr R0 B0 K0 RA
  dsimp only
  go_upto_region 2 with fail
  refine opq (fun W2 => Rd W2 P s ere i1 n1 g1 d1 ∧ W2.heap[W1.heap.size]? = some (rxo kk mn mx mm tt (.slice ad ll cc)) ∧ Is W2 (fun b => w.heap.size ≤ b ∧ b ≠ w.heap.size) r (rxv kk mn mx mm tt (.slice ad ll cc)) ∧ Is W2 (fun b => w.heap.size + 1 ≤ b ∧ b ≠ W1.heap.size) r (rxv kk mn mx mm tt (.slice ad ll cc)) ∧ W2.heap[w.heap.size]? = some rzo ∧ Ks P w W2) ⟨by exact R1.out.kp (by repeat (first | exact Kp.refl _ | refine Kp.alloc ?_ _ | refine Kp.drew ?_ | refine Kp.drewN _ ?_)), by (first | exact last_at _ _ _ (by simp) | (refine bl_alloc ?_ _; first | exact last_at _ _ _ (by simp) | (refine bl_alloc ?_ _; first | exact last_at _ _ _ (by simp) | (refine bl_alloc ?_ _; exact last_at _ _ _ (by simp))))), by exact (I1.out.weak (ok' := fun b => w.heap.size ≤ b ∧ b ≠ w.heap.size) (fun _ hb _ => ⟨by omega, by omega⟩)).kp (by repeat (first | exact Kp.refl _ | refine Kp.alloc ?_ _ | refine Kp.drew ?_ | refine Kp.drewN _ ?_)), by exact (I1.out.weak (ok' := fun b => w.heap.size + 1 ≤ b ∧ b ≠ W1.heap.size) (fun _ hb hl => ⟨by omega, by omega⟩)).kp (by repeat (first | exact Kp.refl _ | refine Kp.alloc ?_ _ | refine Kp.drew ?_ | refine Kp.drewN _ ?_)), by exact bl_kp B1.out (by repeat (first | exact Kp.refl _ | refine Kp.alloc ?_ _ | refine Kp.drew ?_ | refine Kp.drewN _ ?_)), by exact K1.out.kpt (by repeat (first | exact Kp.refl _ | refine Kp.alloc ?_ _ | refine Kp.drew ?_ | refine Kp.drewN _ ?_)) hP⟩ ?_
  rintro W2 ⟨xR2, xA2, xI2, xJ2, xB2, xK2⟩
  have R2 : Hid (Rd W2 P s ere i1 n1 g1 d1) := xR2
  have A2 : Hid (W2.heap[W1.heap.size]? = some (rxo kk mn mx mm tt (.slice ad ll cc))) := xA2
  have I2 : Hid (Is W2 (fun b => w.heap.size ≤ b ∧ b ≠ w.heap.size) r (rxv kk mn mx mm tt (.slice ad ll cc))) := xI2
  have J2 : Hid (Is W2 (fun b => w.heap.size + 1 ≤ b ∧ b ≠ W1.heap.size) r (rxv kk mn mx mm tt (.slice ad ll cc))) := xJ2
  have B2 : Hid (W2.heap[w.heap.size]? = some rzo) := xB2
  have K2 : Hid (Ks P w W2) := xK2
  clear xR2 xA2 xI2 xJ2 xB2 xK2
  clear R1 I1 B1 K1
  have hs2 : W1.heap.size < W2.heap.size := bl_lt A2.out
  by_cases he : er = 0
  · subst he
    obtain ⟨j1, j2, j3, j4⟩ := HGO.out.ok rfl
    simp only at j1 j2 j3 j4
    subst j4
    obtain ⟨x, y, z, hg⟩ : ∃ x y z, sgn s ere i1 = (x, y, z) := ⟨_, _, _, rfl⟩
    have HG := hid hg
    have E1 : Hid (pCh1 c s ere ⟨i, n, g, d1⟩ = if x ≠ 9 then ⟨r, 0, ⟨i1, n1, g1, d1⟩⟩ else pChL c s ere (s.size + 1) [r] ⟨i1, n1, g1, d1⟩) := by
      show _ = _
      rw [E0.out]
      rw [hg]
      by_cases h9 : x ≠ 9
      · rw [if_pos (Or.inr h9), if_pos h9]
      · rw [if_neg (by simp; omega), if_neg h9]
    clear hg
    go_wp2_with fail
    refine (sign_any s ere i1 n1 g1 d1 P _ R2.out ho1 hs).mono ?_
    rintro e W3 ⟨rfl, k3⟩
    rw [HG.out, sg3]
    have R3 := hid (R2.out.kp k3)
    have A3 := hid (bl_kp A2.out k3)
    have I3 := hid (I2.out.kp k3)
    have J3 := hid (J2.out.kp k3)
    have B3 := hid (bl_kp B2.out k3)
    have K3 := hid (K2.out.kpt k3 hP)
    have hs3 := k3.size
    clear k3 R2 A2 I2 J2 B2 K2
    by_cases h9 : x = 9
    · subst h9
      have E2 : Hid (pChL c s ere (s.size + 1) [r] ⟨i1, n1, g1, d1⟩ = pCh1 c s ere ⟨i, n, g, d1⟩) := by show _ = _; rw [E1.out]; rfl
      have a0 := bl_cell (A3.out) 0 _ rfl
      have a1 := bl_cell (A3.out) 1 _ rfl
      have a2 := bl_cell (A3.out) 2 _ rfl
      have a3 := bl_cell (A3.out) 3 _ rfl
      have a4 := bl_cell (A3.out) 4 _ rfl
      have a5 := bl_cell (A3.out) 5 _ rfl
      have a6 := bl_cell (A3.out) 6 _ rfl
      have a7 := bl_cell (A3.out) 7 _ rfl
      have a8 := bl_cell (A3.out) 8 _ rfl
      go_wp2_with fail
      clear a0 a1 a2 a3 a4 a5 a6 a7 a8
      go_loopg [5, 6] (s.size + 1) (fun k v5 v wr => v5 = .int .i64 0 ∧ ∃ (ks : List Rx) (t : St), Cw c s ere P W1.heap.size w ⟨i, n, g, d1⟩ k v wr ks t)
      case atStart =>
        refine ⟨rfl, [r], ⟨i1, n1, g1, d1⟩, RK.single kk mn mx mm tt ad ll cc J3.out (by omega) ⟨by omega, by omega⟩, R3.out.kp ((Kp.refl _).alloc _), ho1, j2, j3, rfl, by show s.size < s.size + 1 + i1; omega, by simp, E2.out, ⟨_, _, _, _, _, _, _, _, bl_alloc A3.out _⟩, bl_alloc B3.out _, K3.out.kpt ((Kp.refl _).alloc _) hP⟩
      case round =>
        obtain ⟨rfl, ks, ⟨i2, n2, g2, d2⟩, hcw⟩ := hrel
        have CW := hid hcw
        have hi2 : i2 ≤ s.size := hcw.i
        have hn2 : n2 ≤ 3 * i2 + 2 := hcw.n
        have hg2 : g2 ≤ i2 := hcw.g
        have hd2 : d2 = d1 := hcw.d
        have hf : s.size < gk + i2 := hcw.f
        have hlen : ks.length ≤ i2 + 1 := hcw.len
        have hA := bl_lt hcw.a.choose_spec.choose_spec.choose_spec.choose_spec.choose_spec.choose_spec.choose_spec.choose_spec
        subst hd2
        obtain ⟨k, rfl⟩ : ∃ k, gk = k + 1 := ⟨gk - 1, by omega⟩
        clear hcw R3 A3 I3 J3 B3 K3 E2
        obtain ⟨x, y, z, hg⟩ : ∃ x y z, sgn s ere i2 = (x, y, z) := ⟨_, _, _, rfl⟩
        have HG2 := hid hg
        clear hg
        go_wp2_with fail
        refine (sign_any s ere i2 n2 g2 d2 P _ CW.out.rd hi2 hs).mono ?_
        rintro e V4 ⟨rfl, k4⟩
        rw [HG2.out, sg3]
        have R4 := hid (CW.out.rd.kp k4)
        have L4 := hid (CW.out.kids.kp k4)
        have A4 : Hid (∃ k mn mx m t ad l c, V4.heap[W1.heap.size]? = some (rxo k mn mx m t (.slice ad l c))) := by
          obtain ⟨q1, q2, q3, q4, q5, q6, q7, q8, hq⟩ := CW.out.a
          exact ⟨q1, q2, q3, q4, q5, q6, q7, q8, bl_kp hq k4⟩
        have B4 := hid (bl_kp CW.out.b k4)
        have K4 := hid (CW.out.ks.kpt k4 hP)
        have EQ := hid CW.out.eq
        have hs4 := k4.size
        have hs4' : w.heap.size < V4.heap.size := bl_lt B4.out
        clear k4 CW
        by_cases x9 : x = 9
        · subst x9
          have hlt : i2 < s.size := sgn_lt HG2.out hi2 (by omega)
          have gi : IntKind.i64.wrap ((i2 : Int) + 1) = (i2 : Int) + 1 := by rw [IntKind.wrap_i64]; omega
          obtain ⟨q1, q2, q3, q4, q5, q6, q7, q8, hq⟩ := A4.out
          have A4' := hid hq
          clear hq A4
          have p2 := R4.out.cells.2.2.1
          have fp2 := bl_frozen R4.out.b 2
          go_upto_region 7 with fail
          refine opq (fun W5 => Rd W5 P s ere (i2 + 1) n2 g2 d2 ∧ RK (fun b => w.heap.size + 1 ≤ b ∧ b ≠ W1.heap.size) (w.heap.size + 1) W5 u6 ks ∧ W5.heap[W1.heap.size]? = some (rxo q1 q2 q3 q4 q5 (.slice q6 q7 q8)) ∧ W5.heap[w.heap.size]? = some rzo ∧ Ks P w W5) ⟨by exact R4.out.at (i2 + 1), by exact L4.out.ks ((Ks.refl _ _).set 2 _) (fun _ hb => by omega), by exact bl_set A4'.out (by omega) _, by exact bl_set B4.out (by omega) _, by exact K4.out.set 2 _⟩ ?_
          rintro W5 ⟨xR5, xL5, xA5, xB5, xK5⟩
          have R5 : Hid (Rd W5 P s ere (i2 + 1) n2 g2 d2) := xR5
          have L5 : Hid (RK (fun b => w.heap.size + 1 ≤ b ∧ b ≠ W1.heap.size) (w.heap.size + 1) W5 u6 ks) := xL5
          have A5 : Hid (W5.heap[W1.heap.size]? = some (rxo q1 q2 q3 q4 q5 (.slice q6 q7 q8))) := xA5
          have B5 : Hid (W5.heap[w.heap.size]? = some rzo) := xB5
          have K5 : Hid (Ks P w W5) := xK5
          clear xR5 xL5 xA5 xB5 xK5
          have hs5 : W1.heap.size < W5.heap.size := bl_lt A5.out
          have hs5' : w.heap.size < W5.heap.size := bl_lt B5.out
          clear p2 fp2 R4 L4 A4' B4 K4
          have hinv : Inv s ⟨i2 + 1, n2, g2, d2⟩ := ⟨hlt, by show n2 ≤ 3 * (i2 + 1) + 1; omega, by show g2 ≤ i2 + 1; omega⟩
          obtain ⟨o, ho⟩ : ∃ o, pRow c s ere ⟨i2 + 1, n2, g2, d2⟩ = o := ⟨_, rfl⟩
          have hgood := pRow_good (ere := ere) HGd hinv
          have RA := hid (row_any c D s ere (i2 + 1) n2 g2 d2 P W5 HC HGd R5.out hinv hD hs)
          rw [ho] at hgood RA
          have HGO2 := hid hgood
          have E3 : Hid (pCh1 c s ere ⟨i, n, g, d2⟩ = if o.e ≠ 0 then ⟨rx0, o.e, o.st⟩ else pChL c s ere k (keepL o.st.n ks o.r) o.st) := by
            have := EQ.out
            unfold pChL at this
            rw [HG2.out] at this
            rw [if_pos rfl, ho] at this
            exact this.symm
          clear ho hgood hinv
          obtain ⟨r5, er5, ⟨i5, n5, g5, d5⟩⟩ := o
          go_wp2_with fail
          refine RA.out.mono ?_
          rintro e W6 ⟨⟨v, rfl, rr⟩⟩
          obtain ⟨kx, mn', mx', mm', tt', ad', ll', cc', rfl⟩ := rr.is.form
          have hs6 := rr.ks.size
          have R6 : Hid (Rd W6 P s ere i5 n5 g5 d5) := rr.rd
          have OWN : Hid (∀ b, u6.ownBlock = some b → (w.heap.size + 1 ≤ b ∧ b ≠ W1.heap.size) ∧ b < W5.heap.size) := L5.out.block
          have I6 : Hid (Is W6 (fun b => (w.heap.size + 1 ≤ b ∧ b ≠ W1.heap.size) ∧ u6.ownBlock ≠ some b) r5 (rxv kx mn' mx' mm' tt' (.slice ad' ll' cc'))) := rr.is.weak (fun b hb _ => ⟨⟨by omega, by omega⟩, fun he => by have := OWN.out b he; omega⟩)
          have L6 := hid (L5.out.ks rr.ks (fun _ hb => by omega))
          have A6 := hid (bl_ks A5.out (by omega) rr.ks)
          have B6 := hid (bl_ks B5.out (by omega) rr.ks)
          have K6 := hid (K5.out.trans rr.ks)
          clear rr R5 L5 A5 B5 K5 RA
          dsimp only
          have a0 := bl_cell (A6.out) 0 _ rfl
          have fa0 := bl_frozen (A6.out) 0
          have a1 := bl_cell (A6.out) 1 _ rfl
          have fa1 := bl_frozen (A6.out) 1
          have a2 := bl_cell (A6.out) 2 _ rfl
          have fa2 := bl_frozen (A6.out) 2
          have a3 := bl_cell (A6.out) 3 _ rfl
          have fa3 := bl_frozen (A6.out) 3
          have a4 := bl_cell (A6.out) 4 _ rfl
          have fa4 := bl_frozen (A6.out) 4
          have a5 := bl_cell (A6.out) 5 _ rfl
          have fa5 := bl_frozen (A6.out) 5
          have a6 := bl_cell (A6.out) 6 _ rfl
          have fa6 := bl_frozen (A6.out) 6
          have a7 := bl_cell (A6.out) 7 _ rfl
          have fa7 := bl_frozen (A6.out) 7
          have a8 := bl_cell (A6.out) 8 _ rfl
          have fa8 := bl_frozen (A6.out) 8
          go_upto_region 8 with fail
          clear a0 fa0 a1 fa1 a2 fa2 a3 fa3 a4 fa4 a5 fa5 a6 fa6 a7 fa7 a8 fa8
          refine opq (fun W7 => Rd W7 P s ere i5 n5 g5 d5 ∧ RK (fun b => w.heap.size + 1 ≤ b ∧ b ≠ W1.heap.size) (w.heap.size + 1) W7 u6 ks ∧ W7.heap[W1.heap.size]? = some (rxo kx mn' mx' mm' tt' (.slice ad' ll' cc')) ∧ W7.heap[w.heap.size]? = some rzo ∧ Is W7 (fun b => (w.heap.size + 1 ≤ b ∧ b ≠ W1.heap.size) ∧ u6.ownBlock ≠ some b) r5 (rxv kx mn' mx' mm' tt' (.slice ad' ll' cc')) ∧ Ks P w W7) ⟨by exact R6.out.ks (ks_set9 _ _ _ _ _ _ _ _ _) (by omega) (by omega), by exact L6.out.ks (ks_set9 _ _ _ _ _ _ _ _ _) (fun _ hb => by omega), by exact bl_set9 A6.out _ _ _ _ _ _ _ _ _, by exact bl_ks B6.out (by omega) (ks_set9 _ _ _ _ _ _ _ _ _), by exact I6.out.ks (ks_set9 _ _ _ _ _ _ _ _ _) (fun _ hb _ => by omega), by exact K6.out.off (ks_set9 _ _ _ _ _ _ _ _ _) (by omega) hP⟩ ?_
          rintro W7 ⟨xR7, xL7, xA7, xB7, xI7, xK7⟩
          have R7 : Hid (Rd W7 P s ere i5 n5 g5 d5) := xR7
          have L7 : Hid (RK (fun b => w.heap.size + 1 ≤ b ∧ b ≠ W1.heap.size) (w.heap.size + 1) W7 u6 ks) := xL7
          have A7 : Hid (W7.heap[W1.heap.size]? = some (rxo kx mn' mx' mm' tt' (.slice ad' ll' cc'))) := xA7
          have B7 : Hid (W7.heap[w.heap.size]? = some rzo) := xB7
          have I7 : Hid (Is W7 (fun b => (w.heap.size + 1 ≤ b ∧ b ≠ W1.heap.size) ∧ u6.ownBlock ≠ some b) r5 (rxv kx mn' mx' mm' tt' (.slice ad' ll' cc'))) := xI7
          have K7 : Hid (Ks P w W7) := xK7
          clear xR7 xL7 xA7 xB7 xI7 xK7
          have hs7 : W1.heap.size < W7.heap.size := bl_lt A7.out
          have hs7' : w.heap.size < W7.heap.size := bl_lt B7.out
          clear R6 L6 A6 B6 I6 K6
          by_cases he : er5 = 0
          · subst he
            obtain ⟨m1, m2, m3, m4⟩ := HGO2.out.ok rfl
            simp only at m1 m2 m3 m4
            have m0 : i5 ≤ s.size := HGO2.out.le
            have E4 : Hid (pChL c s ere k (keepL n5 ks r5) ⟨i5, n5, g5, d5⟩ = pCh1 c s ere ⟨i, n, g, d2⟩) := by show _ = _; rw [E3.out]; rfl
            have a0 := bl_cell (A7.out) 0 _ rfl
            have a1 := bl_cell (A7.out) 1 _ rfl
            have a2 := bl_cell (A7.out) 2 _ rfl
            have a3 := bl_cell (A7.out) 3 _ rfl
            have a4 := bl_cell (A7.out) 4 _ rfl
            have a5 := bl_cell (A7.out) 5 _ rfl
            have a6 := bl_cell (A7.out) 6 _ rfl
            have a7 := bl_cell (A7.out) 7 _ rfl
            have a8 := bl_cell (A7.out) 8 _ rfl
            go_wp2_with fail
            refine (keep_rk (fun b => w.heap.size + 1 ≤ b ∧ b ≠ W1.heap.size) (w.heap.size + 1) u6 ks r5 kx mn' mx' mm' tt' ad' ll' cc' s ere i5 n5 g5 d5 P _ R7.out L7.out I7.out (fun _ hb => ⟨by omega, by omega⟩) (by omega) (by omega)).mono ?_
            rintro e W8 ⟨v', rfl, l8, g8⟩
            have R8 := hid (R7.out.grown g8 (fun he => by have := OWN.out P he; omega) (fun he => by have := OWN.out 0 he; omega))
            have L8 := hid l8
            have A8 := hid (bl_grown A7.out g8 (fun he => by have := OWN.out _ he; omega))
            have B8 := hid (bl_grown B7.out g8 (fun he => by have := OWN.out _ he; omega))
            have K8 := hid (K7.out.grown g8 (fun k hk => by have := OWN.out k hk; omega) hP)
            clear l8 g8 R7 A7 I7 L7 B7 K7 a0 a1 a2 a3 a4 a5 a6 a7 a8
            have HL : Hid ((keepL n5 ks r5).length ≤ i5 + 1) := by
              show _ ≤ _
              unfold keepL
              split
              · omega
              · simp; omega
            go_wp2_with fail
            go_roundg k
            case measure => omega
            case rel => exact ⟨rfl, _, ⟨i5, n5, g5, d5⟩, L8.out, R8.out, m0, m2, m3, m4, by show s.size < k + i5; omega, HL.out, E4.out, ⟨_, _, _, _, _, _, _, _, A8.out⟩, B8.out, K8.out⟩
          · have ge : ((er5 : Int) != 0) = true := by simp; omega
            have E : Hid (pCh1 c s ere ⟨i, n, g, d2⟩ = ⟨rx0, er5, ⟨i5, n5, g5, d5⟩⟩) := by show _ = _; rw [E3.out]; exact if_pos he
            have b0 := bl_cell (B7.out) 0 _ rfl
            have fb0 := bl_frozen (B7.out) 0
            have b1 := bl_cell (B7.out) 1 _ rfl
            have fb1 := bl_frozen (B7.out) 1
            have b2 := bl_cell (B7.out) 2 _ rfl
            have fb2 := bl_frozen (B7.out) 2
            have b3 := bl_cell (B7.out) 3 _ rfl
            have fb3 := bl_frozen (B7.out) 3
            have b4 := bl_cell (B7.out) 4 _ rfl
            have fb4 := bl_frozen (B7.out) 4
            have b5 := bl_cell (B7.out) 5 _ rfl
            have fb5 := bl_frozen (B7.out) 5
            have b6 := bl_cell (B7.out) 6 _ rfl
            have fb6 := bl_frozen (B7.out) 6
            have b7 := bl_cell (B7.out) 7 _ rfl
            have fb7 := bl_frozen (B7.out) 7
            have b8 := bl_cell (B7.out) 8 _ rfl
            have fb8 := bl_frozen (B7.out) 8
            go_wp2_with fail
            refine bodyPost_ret (v := .tuple #[rz, .int .i64 (er5 : Int)]) (rx_ret2 rfl _ _ _ _ _ rfl rfl (bl_set9 B7.out _ _ _ _ _ _ _ _ _) rfl) rfl ?_
            rw [E.out]
            exact ⟨_, rfl, Ret.fail R7.out K7.out (ks_set9 _ _ _ _ _ _ _ _ _) hP (Nat.le_refl _)⟩
        · have g9 : ((x : Int) == 9) = false := by simp; omega
          have E : Hid (pCh1 c s ere ⟨i, n, g, d2⟩ = ⟨.mk 3 0 0 0 W4.z ks, 0, ⟨i2, n2 + 1, g2, d2⟩⟩) := by
            have := EQ.out
            unfold pChL at this
            rw [HG2.out] at this
            rw [if_neg x9] at this
            exact this.symm
          obtain ⟨ad9, cap, hv6, hcap⟩ := L4.out.form
          have IS := hid (L4.out.is 3 0 0 0 W4.z)
          subst hv6
          go_wp2_with fail
          refine (node_any0 3 0 0 0 ad9 ks.length cap s ere i2 n2 g2 d2 P _ R4.out (by omega)).mono ?_
          rintro e W9 ⟨rfl, r9, k9⟩
          have R9 := hid r9
          have I9 := hid (IS.out.ks k9 (fun _ hb _ => by omega))
          have B9 := hid (bl_ks B4.out (by omega) k9)
          have K9 := hid (K4.out.trans k9)
          clear r9 k9 R4 L4 A4 B4 K4 IS
          have b0 := bl_cell (B9.out) 0 _ rfl
          have fb0 := bl_frozen (B9.out) 0
          have b1 := bl_cell (B9.out) 1 _ rfl
          have fb1 := bl_frozen (B9.out) 1
          have b2 := bl_cell (B9.out) 2 _ rfl
          have fb2 := bl_frozen (B9.out) 2
          have b3 := bl_cell (B9.out) 3 _ rfl
          have fb3 := bl_frozen (B9.out) 3
          have b4 := bl_cell (B9.out) 4 _ rfl
          have fb4 := bl_frozen (B9.out) 4
          have b5 := bl_cell (B9.out) 5 _ rfl
          have fb5 := bl_frozen (B9.out) 5
          have b6 := bl_cell (B9.out) 6 _ rfl
          have fb6 := bl_frozen (B9.out) 6
          have b7 := bl_cell (B9.out) 7 _ rfl
          have fb7 := bl_frozen (B9.out) 7
          have b8 := bl_cell (B9.out) 8 _ rfl
          have fb8 := bl_frozen (B9.out) 8
          go_wp2_with fail
          refine bodyPost_ret (v := .tuple #[rxv 3 0 0 0 W4.z (.slice ad9 ks.length cap), .int .i64 0]) (rx_ret2 rfl _ _ _ _ _ rfl rfl (bl_set9 B9.out _ _ _ _ _ _ _ _ _) rfl) rfl ?_
          rw [E.out]
          exact ⟨_, rfl, Ret.fin (I9.out.weak (fun _ hb _ => ⟨by omega, by omega⟩)) R9.out K9.out (ks_set9 _ _ _ _ _ _ _ _ _) hP (Nat.le_refl _)⟩
    · have g9 : ((x : Int) != 9) = true := by simp; omega
      have E : Hid (pCh1 c s ere ⟨i, n, g, d1⟩ = ⟨r, 0, ⟨i1, n1, g1, d1⟩⟩) := by show _ = _; rw [E1.out, if_pos h9]
      have a0 := bl_cell (A3.out) 0 _ rfl
      have a1 := bl_cell (A3.out) 1 _ rfl
      have a2 := bl_cell (A3.out) 2 _ rfl
      have a3 := bl_cell (A3.out) 3 _ rfl
      have a4 := bl_cell (A3.out) 4 _ rfl
      have a5 := bl_cell (A3.out) 5 _ rfl
      have a6 := bl_cell (A3.out) 6 _ rfl
      have a7 := bl_cell (A3.out) 7 _ rfl
      have a8 := bl_cell (A3.out) 8 _ rfl
      have b0 := bl_cell (B3.out) 0 _ rfl
      have fb0 := bl_frozen (B3.out) 0
      have b1 := bl_cell (B3.out) 1 _ rfl
      have fb1 := bl_frozen (B3.out) 1
      have b2 := bl_cell (B3.out) 2 _ rfl
      have fb2 := bl_frozen (B3.out) 2
      have b3 := bl_cell (B3.out) 3 _ rfl
      have fb3 := bl_frozen (B3.out) 3
      have b4 := bl_cell (B3.out) 4 _ rfl
      have fb4 := bl_frozen (B3.out) 4
      have b5 := bl_cell (B3.out) 5 _ rfl
      have fb5 := bl_frozen (B3.out) 5
      have b6 := bl_cell (B3.out) 6 _ rfl
      have fb6 := bl_frozen (B3.out) 6
      have b7 := bl_cell (B3.out) 7 _ rfl
      have fb7 := bl_frozen (B3.out) 7
      have b8 := bl_cell (B3.out) 8 _ rfl
      have fb8 := bl_frozen (B3.out) 8
      go_wp2_with fail
      refine bodyPost_ret (v := .tuple #[rxv kk mn mx mm tt (.slice ad ll cc), .int .i64 0]) (rx_ret2 rfl _ _ _ _ _ rfl rfl (bl_set9 B3.out _ _ _ _ _ _ _ _ _) rfl) rfl ?_
      rw [E.out]
      exact ⟨_, rfl, Ret.fin I3.out R3.out K3.out (ks_set9 _ _ _ _ _ _ _ _ _) hP (Nat.le_refl _)⟩
  · have ge : ((er : Int) != 0) = true := by simp; omega
    have E : Hid (pCh1 c s ere ⟨i, n, g, d⟩ = ⟨r, er, ⟨i1, n1, g1, d1⟩⟩) := by show _ = _; rw [E0.out, if_pos (Or.inl he)]
    have a0 := bl_cell (A2.out) 0 _ rfl
    have a1 := bl_cell (A2.out) 1 _ rfl
    have a2 := bl_cell (A2.out) 2 _ rfl
    have a3 := bl_cell (A2.out) 3 _ rfl
    have a4 := bl_cell (A2.out) 4 _ rfl
    have a5 := bl_cell (A2.out) 5 _ rfl
    have a6 := bl_cell (A2.out) 6 _ rfl
    have a7 := bl_cell (A2.out) 7 _ rfl
    have a8 := bl_cell (A2.out) 8 _ rfl
    have b0 := bl_cell (B2.out) 0 _ rfl
    have fb0 := bl_frozen (B2.out) 0
    have b1 := bl_cell (B2.out) 1 _ rfl
    have fb1 := bl_frozen (B2.out) 1
    have b2 := bl_cell (B2.out) 2 _ rfl
    have fb2 := bl_frozen (B2.out) 2
    have b3 := bl_cell (B2.out) 3 _ rfl
    have fb3 := bl_frozen (B2.out) 3
    have b4 := bl_cell (B2.out) 4 _ rfl
    have fb4 := bl_frozen (B2.out) 4
    have b5 := bl_cell (B2.out) 5 _ rfl
    have fb5 := bl_frozen (B2.out) 5
    have b6 := bl_cell (B2.out) 6 _ rfl
    have fb6 := bl_frozen (B2.out) 6
    have b7 := bl_cell (B2.out) 7 _ rfl
    have fb7 := bl_frozen (B2.out) 7
    have b8 := bl_cell (B2.out) 8 _ rfl
    have fb8 := bl_frozen (B2.out) 8
    go_wp2_with fail
    refine bodyPost_ret (v := .tuple #[rxv kk mn mx mm tt (.slice ad ll cc), .int .i64 (er : Int)]) (rx_ret2 rfl _ _ _ _ _ rfl rfl (bl_set9 B2.out _ _ _ _ _ _ _ _ _) rfl) rfl ?_
    rw [E.out]
    exact ⟨_, rfl, Ret.fin I2.out R2.out K2.out (ks_set9 _ _ _ _ _ _ _ _ _) hP (Nat.le_refl _)⟩
end Go.Proofs.YtikmgckefbjbkabGreatDoor

/-! ### Parse -/

namespace Go.Proofs.YtikmgckefbjbkabGreatDoor
open Go.RowKit

theorem choice_all (s : ByteArray) (ere : Bool) (hs : s.size ≤ 1000000) : ∀ D, ChSaid (pCh s ere D) s ere D
  | 0 => ⟨fun i n g d P w h hv hD h6 => absurd hD (by omega)⟩
  | D + 1 => ⟨fun i n g d P w h hv hD _ => choice_any (pCh s ere D) D s ere i n g d P w (choice_all s ere hs D) (pCh_good s ere D) h hv (by omega) hs⟩

set_option maxHeartbeats 2000000 in
set_option maxRecDepth 100000 in
theorem whole_any (s : ByteArray) (ere : Bool) (P : Nat) (w : World) (h : Rd w P s ere 0 0 0 0) (hs : s.size ≤ 1000000) :
    Calls Tryz.prog 19 #[.pointer (some ⟨P, 0, none⟩)] w fun e w' => RetE w P s ere (pWhole s ere) e w' := by
  have R : Hid (Rd w P s ere 0 0 0 0) := h
  have hP : P < w.heap.size := h.lt
  clear h
  have hinv : Inv s ⟨0, 0, 0, 0⟩ := ⟨Nat.zero_le _, by show 0 ≤ 3 * 0 + 1; omega, Nat.le_refl _⟩
  obtain ⟨o, ho⟩ : ∃ o, pCh s ere 7 ⟨0, 0, 0, 0⟩ = o := ⟨_, rfl⟩
  have hgood := (pCh_good s ere 7).all _ hinv
  have CA : Hid (∀ w, Rd w P s ere 0 0 0 0 → Calls Tryz.prog 25 #[.pointer (some ⟨P, 0, none⟩)] w fun e w' => RetE w P s ere o e w') := by
    intro w h
    have := (choice_all s ere hs 7).all 0 0 0 0 P w h hinv rfl (by omega)
    rw [ho] at this
    exact this
  have E0 : Hid (pWhole s ere = if o.e ≠ 0 then ⟨rx0, o.e, o.st⟩ else if o.st.i < s.size then ⟨rx0, 1, o.st⟩ else if o.st.n > 40 ∨ o.st.g > 3 then ⟨rx0, 4, o.st⟩ else o) := by
    show _ = _
    unfold pWhole
    rw [ho]
  rw [ho] at hgood
  have ho1 : o.st.i ≤ s.size := hgood.1
  clear ho hgood hinv
  obtain ⟨r, er, ⟨i, n, g, d⟩⟩ := o
  simp only at ho1
  go_enter Tryz.func19, Tryz.ntmps19
  go_upto_region 1 with fail
  refine opq (fun W0 => Rd W0 P s ere 0 0 0 0 ∧ W0.heap[w.heap.size]? = some rzo ∧ Ks P w W0) ⟨by exact R.out.kp (by repeat (first | exact Kp.refl _ | refine Kp.alloc ?_ _ | refine Kp.drew ?_ | refine Kp.drewN _ ?_)), by (first | exact last_at _ _ _ (by simp) | (refine bl_alloc ?_ _; first | exact last_at _ _ _ (by simp) | (refine bl_alloc ?_ _; first | exact last_at _ _ _ (by simp) | (refine bl_alloc ?_ _; exact last_at _ _ _ (by simp))))), by exact (Kp.ks (by repeat (first | exact Kp.refl _ | refine Kp.alloc ?_ _ | refine Kp.drew ?_ | refine Kp.drewN _ ?_)) (Nat.le_of_lt hP))⟩ ?_
  rintro W0 ⟨xR0, xB0, xK0⟩
  have R0 : Hid (Rd W0 P s ere 0 0 0 0) := xR0
  have B0 : Hid (W0.heap[w.heap.size]? = some rzo) := xB0
  have K0 : Hid (Ks P w W0) := xK0
  clear xR0 xB0 xK0
  clear R
  have hs0 : w.heap.size < W0.heap.size := bl_lt B0.out
  go_wp2_with fail
  refine (CA.out _ R0.out).mono ?_
  rintro e W1 ⟨⟨v, rfl, rr⟩⟩
  obtain ⟨kk, mn, mx, mm, tt, ad, ll, cc, rfl⟩ := rr.is.form
  have hs1 := rr.ks.size
  have R1 : Hid (Rd W1 P s ere i n g d) := rr.rd
  have I1 : Hid (Is W1 (fun b => W0.heap.size ≤ b) r (rxv kk mn mx mm tt (.slice ad ll cc))) := rr.is
  have B1 := hid (bl_ks B0.out (by omega) rr.ks)
  have K1 := hid (K0.out.trans rr.ks)
  clear rr R0 B0 K0 CA
  dsimp only
  go_upto_region 2 with fail
  refine opq (fun W2 => Rd W2 P s ere i n g d ∧ W2.heap[W1.heap.size]? = some (rxo kk mn mx mm tt (.slice ad ll cc)) ∧ Is W2 (fun b => w.heap.size ≤ b ∧ b ≠ w.heap.size) r (rxv kk mn mx mm tt (.slice ad ll cc)) ∧ W2.heap[w.heap.size]? = some rzo ∧ Ks P w W2) ⟨by exact R1.out.kp (by repeat (first | exact Kp.refl _ | refine Kp.alloc ?_ _ | refine Kp.drew ?_ | refine Kp.drewN _ ?_)), by (first | exact last_at _ _ _ (by simp) | (refine bl_alloc ?_ _; first | exact last_at _ _ _ (by simp) | (refine bl_alloc ?_ _; first | exact last_at _ _ _ (by simp) | (refine bl_alloc ?_ _; exact last_at _ _ _ (by simp))))), by exact (I1.out.weak (ok' := fun b => w.heap.size ≤ b ∧ b ≠ w.heap.size) (fun _ hb _ => ⟨by omega, by omega⟩)).kp (by repeat (first | exact Kp.refl _ | refine Kp.alloc ?_ _ | refine Kp.drew ?_ | refine Kp.drewN _ ?_)), by exact bl_kp B1.out (by repeat (first | exact Kp.refl _ | refine Kp.alloc ?_ _ | refine Kp.drew ?_ | refine Kp.drewN _ ?_)), by exact K1.out.kpt (by repeat (first | exact Kp.refl _ | refine Kp.alloc ?_ _ | refine Kp.drew ?_ | refine Kp.drewN _ ?_)) hP⟩ ?_
  rintro W2 ⟨xR2, xA2, xI2, xB2, xK2⟩
  have R2 : Hid (Rd W2 P s ere i n g d) := xR2
  have A2 : Hid (W2.heap[W1.heap.size]? = some (rxo kk mn mx mm tt (.slice ad ll cc))) := xA2
  have I2 : Hid (Is W2 (fun b => w.heap.size ≤ b ∧ b ≠ w.heap.size) r (rxv kk mn mx mm tt (.slice ad ll cc))) := xI2
  have B2 : Hid (W2.heap[w.heap.size]? = some rzo) := xB2
  have K2 : Hid (Ks P w W2) := xK2
  clear xR2 xA2 xI2 xB2 xK2
  clear R1 I1 B1 K1
  by_cases he : er = 0
  · subst he
    obtain ⟨lt, hlt⟩ : ∃ lt, decide (i < s.size) = lt := ⟨_, rfl⟩
    have HLT := hid hlt
    go_upto_region 4 with fail
    go_cut [16] (fun v wc => v = .bool lt ∧ Kp W2 wc)
    case first =>
      have Q0 : Kp W2 W2.drew := (Kp.refl _).drew
      have MK : Hid (∀ W, Kp W2 W → W.cell? ⟨P, 0, none⟩ = some (.string s) ∧ W.cell? ⟨P, 2, none⟩ = some (.int .i64 (i : Int)) ∧ Hid (Kp W2 W)) := fun W k => ⟨(R2.out.kp k).cells.1, (R2.out.kp k).cells.2.2.1, k⟩
      refine wp_region_noPanic ?_
      refine wp_region_held_drew (S := (fun W => W.cell? ⟨P, 0, none⟩ = some (.string s) ∧ W.cell? ⟨P, 2, none⟩ = some (.int .i64 (i : Int)) ∧ Hid (Kp W2 W))) (by kernel_rfl) ?_ (fun hH => ?_)
      · exact MK.out _ Q0
      have KQ := Q0
      refine wpAnyH_take (i := 0) (oi := { dst := some 17, op := Op.move (Operand.tmp 0), type := 63, pos := "parse.go:35", after := #[], guard := none }) (v := ?v0a1) rfl (by kernel_rfl) (by kernel_rfl) (by kernel_rfl) (fun _ _ _ h => h) (Or.inl ⟨by rfl, ?hy0a1⟩) hH ?r0a1
      case hy0a1 => (intro W hSw; (try dsimp only at hSw); go_simp; try (with_reducible rfl))
      try simp only [Act.put, List.setIfInBounds_toArray, List.set_cons_zero, List.set_cons_succ]
      refine wpAnyH_take (i := 1) (oi := { dst := some 18, op := Op.nilCheck (Operand.tmp 17), type := 0, pos := "parse.go:35", after := #[{ on := 0, ground := Ground.data }], guard := none }) (v := ?v1a2) rfl (by kernel_rfl) (by kernel_rfl) (by kernel_rfl) (fun _ _ _ h => h) (Or.inl ⟨by rfl, ?hy1a2⟩) hH ?r1a2
      case hy1a2 => (intro W hSw; (try dsimp only at hSw); go_simp; try (with_reducible rfl))
      try simp only [Act.put, List.setIfInBounds_toArray, List.set_cons_zero, List.set_cons_succ]
      refine wpAnyH_take (i := 2) (oi := { dst := some 19, op := Op.fieldAddr 49 (Operand.tmp 18) 2, type := 0, pos := "parse.go:35", after := #[{ on := 1, ground := Ground.data }], guard := none }) (v := ?v2a3) rfl (by kernel_rfl) (by kernel_rfl) (by kernel_rfl) (fun _ _ _ h => h) (Or.inl ⟨by rfl, ?hy2a3⟩) hH ?r2a3
      case hy2a3 => (intro W hSw; (try dsimp only at hSw); go_simp; try (with_reducible rfl))
      try simp only [Act.put, List.setIfInBounds_toArray, List.set_cons_zero, List.set_cons_succ]
      refine wpAnyH_take (i := 3) (oi := { dst := some 20, op := Op.load 3 (Operand.tmp 19), type := 3, pos := "parse.go:35", after := #[{ on := 2, ground := Ground.data }], guard := none }) (v := ?v3a4) rfl (by kernel_rfl) (by kernel_rfl) (by kernel_rfl) (fun _ _ _ h => h) (Or.inl ⟨by rfl, ?hy3a4⟩) hH ?r3a4
      case hy3a4 => (intro W hSw; (try dsimp only at hSw); go_simp; try (with_reducible rfl))
      try simp only [Act.put, List.setIfInBounds_toArray, List.set_cons_zero, List.set_cons_succ]
      refine wpAnyH_take (i := 4) (oi := { dst := some 21, op := Op.move (Operand.tmp 0), type := 63, pos := "parse.go:35", after := #[], guard := none }) (v := ?v4a5) rfl (by kernel_rfl) (by kernel_rfl) (by kernel_rfl) (fun _ _ _ h => h) (Or.inl ⟨by rfl, ?hy4a5⟩) hH ?r4a5
      case hy4a5 => (intro W hSw; (try dsimp only at hSw); go_simp; try (with_reducible rfl))
      try simp only [Act.put, List.setIfInBounds_toArray, List.set_cons_zero, List.set_cons_succ]
      refine wpAnyH_take (i := 5) (oi := { dst := some 22, op := Op.nilCheck (Operand.tmp 21), type := 0, pos := "parse.go:35", after := #[{ on := 4, ground := Ground.data }], guard := none }) (v := ?v5a6) rfl (by kernel_rfl) (by kernel_rfl) (by kernel_rfl) (fun _ _ _ h => h) (Or.inl ⟨by rfl, ?hy5a6⟩) hH ?r5a6
      case hy5a6 => (intro W hSw; (try dsimp only at hSw); go_simp; try (with_reducible rfl))
      try simp only [Act.put, List.setIfInBounds_toArray, List.set_cons_zero, List.set_cons_succ]
      refine wpAnyH_take (i := 6) (oi := { dst := some 23, op := Op.fieldAddr 49 (Operand.tmp 22) 0, type := 0, pos := "parse.go:35", after := #[{ on := 5, ground := Ground.data }], guard := none }) (v := ?v6a7) rfl (by kernel_rfl) (by kernel_rfl) (by kernel_rfl) (fun _ _ _ h => h) (Or.inl ⟨by rfl, ?hy6a7⟩) hH ?r6a7
      case hy6a7 => (intro W hSw; (try dsimp only at hSw); go_simp; try (with_reducible rfl))
      try simp only [Act.put, List.setIfInBounds_toArray, List.set_cons_zero, List.set_cons_succ]
      refine wpAnyH_take (i := 7) (oi := { dst := some 24, op := Op.load 9 (Operand.tmp 23), type := 9, pos := "parse.go:35", after := #[{ on := 6, ground := Ground.data }], guard := none }) (v := ?v7a8) rfl (by kernel_rfl) (by kernel_rfl) (by kernel_rfl) (fun _ _ _ h => h) (Or.inl ⟨by rfl, ?hy7a8⟩) hH ?r7a8
      case hy7a8 => (intro W hSw; (try dsimp only at hSw); go_simp; try (with_reducible rfl))
      try simp only [Act.put, List.setIfInBounds_toArray, List.set_cons_zero, List.set_cons_succ]
      refine wpAnyH_take (i := 8) (oi := { dst := some 25, op := Op.call { callee := Callee.builtin Builtin.len, args := #[Operand.tmp 24], argTypes := #[9] }, type := 3, pos := "parse.go:35", after := #[{ on := 7, ground := Ground.data }], guard := none }) (v := ?v8a9) rfl (by kernel_rfl) (by kernel_rfl) (by kernel_rfl) (fun _ _ _ h => h) (Or.inl ⟨by rfl, ?hy8a9⟩) hH ?r8a9
      case hy8a9 => (intro W hSw; (try dsimp only at hSw); go_simp; try (with_reducible rfl))
      try simp only [Act.put, List.setIfInBounds_toArray, List.set_cons_zero, List.set_cons_succ]
      refine wpAnyH_take (i := 9) (oi := { dst := some 26, op := Op.binOp BinOp.lss 3 (Operand.tmp 20) (Operand.tmp 25) 3, type := 4, pos := "parse.go:35", after := #[{ on := 3, ground := Ground.data }, { on := 8, ground := Ground.data }], guard := none }) (v := ?v9a10) rfl (by kernel_rfl) (by kernel_rfl) (by kernel_rfl) (fun _ _ _ h => h) (Or.inl ⟨by rfl, ?hy9a10⟩) hH ?r9a10
      case hy9a10 => (intro W hSw; (try dsimp only at hSw); go_simp; try (with_reducible rfl))
      try simp only [Act.put, List.setIfInBounds_toArray, List.set_cons_zero, List.set_cons_succ]
      refine wpAnyH_take (i := 10) (oi := { dst := some 16, op := Op.assign (Operand.tmp 26), type := 4, pos := "parse.go:35", after := #[{ on := 9, ground := Ground.data }], guard := none }) (v := ?v10a11) rfl (by kernel_rfl) (by kernel_rfl) (by kernel_rfl) (fun _ _ _ h => h) (Or.inl ⟨by rfl, ?hy10a11⟩) hH ?r10a11
      case hy10a11 => (intro W hSw; (try dsimp only at hSw); go_simp; try (with_reducible rfl))
      try simp only [Act.put, List.setIfInBounds_toArray, List.set_cons_zero, List.set_cons_succ]
      refine wpAnyH_done (by kernel_rfl) ?_ _
      refine NoPanic.normal ?_
      go_wp2_with fail
      go_meet
      case rel => exact ⟨rfl, KQ⟩
    case rest =>
      obtain ⟨rfl, k3⟩ := hcut
      rename World => W3
      have R3 := hid (R2.out.kp k3)
      have A3 := hid (bl_kp A2.out k3)
      have I3 := hid (I2.out.kp k3)
      have B3 := hid (bl_kp B2.out k3)
      have K3 := hid (K2.out.kpt k3 hP)
      clear k3 R2 A2 I2 B2 K2 hlt
      have p3 := R3.out.cells.2.2.2.1
      have p4 := R3.out.cells.2.2.2.2.1
      cases lt with
      | true =>
        have h1 : i < s.size := by have := HLT.out; simp at this; omega
        have E : Hid (pWhole s ere = ⟨rx0, 1, ⟨i, n, g, d⟩⟩) := by show _ = _; rw [E0.out]; rw [if_neg (by omega), if_pos h1]
        have b0 := bl_cell (B3.out) 0 _ rfl
        have fb0 := bl_frozen (B3.out) 0
        have b1 := bl_cell (B3.out) 1 _ rfl
        have fb1 := bl_frozen (B3.out) 1
        have b2 := bl_cell (B3.out) 2 _ rfl
        have fb2 := bl_frozen (B3.out) 2
        have b3 := bl_cell (B3.out) 3 _ rfl
        have fb3 := bl_frozen (B3.out) 3
        have b4 := bl_cell (B3.out) 4 _ rfl
        have fb4 := bl_frozen (B3.out) 4
        have b5 := bl_cell (B3.out) 5 _ rfl
        have fb5 := bl_frozen (B3.out) 5
        have b6 := bl_cell (B3.out) 6 _ rfl
        have fb6 := bl_frozen (B3.out) 6
        have b7 := bl_cell (B3.out) 7 _ rfl
        have fb7 := bl_frozen (B3.out) 7
        have b8 := bl_cell (B3.out) 8 _ rfl
        have fb8 := bl_frozen (B3.out) 8
        go_wp2_with fail
        refine bodyPost_ret (v := .tuple #[rz, .int .i64 1]) (rx_ret2 rfl _ _ _ _ _ rfl rfl (bl_set9 B3.out _ _ _ _ _ _ _ _ _) rfl) rfl ?_
        rw [E.out]
        exact ⟨_, rfl, Ret.fail R3.out K3.out (ks_set9 _ _ _ _ _ _ _ _ _) hP (Nat.le_refl _)⟩
      | false =>
        have h1 : ¬ i < s.size := by have := HLT.out; simp at this; omega
        by_cases hn : n > 40
        · have gn : (40 : Int) < (n : Int) := by omega
          have E : Hid (pWhole s ere = ⟨rx0, 4, ⟨i, n, g, d⟩⟩) := by show _ = _; rw [E0.out]; rw [if_neg (by omega), if_neg h1, if_pos (Or.inl hn)]
          have b0 := bl_cell (B3.out) 0 _ rfl
          have fb0 := bl_frozen (B3.out) 0
          have b1 := bl_cell (B3.out) 1 _ rfl
          have fb1 := bl_frozen (B3.out) 1
          have b2 := bl_cell (B3.out) 2 _ rfl
          have fb2 := bl_frozen (B3.out) 2
          have b3 := bl_cell (B3.out) 3 _ rfl
          have fb3 := bl_frozen (B3.out) 3
          have b4 := bl_cell (B3.out) 4 _ rfl
          have fb4 := bl_frozen (B3.out) 4
          have b5 := bl_cell (B3.out) 5 _ rfl
          have fb5 := bl_frozen (B3.out) 5
          have b6 := bl_cell (B3.out) 6 _ rfl
          have fb6 := bl_frozen (B3.out) 6
          have b7 := bl_cell (B3.out) 7 _ rfl
          have fb7 := bl_frozen (B3.out) 7
          have b8 := bl_cell (B3.out) 8 _ rfl
          have fb8 := bl_frozen (B3.out) 8
          go_wp2_with fail
          refine bodyPost_ret (v := .tuple #[rz, .int .i64 4]) (rx_ret2 rfl _ _ _ _ _ rfl rfl (bl_set9 B3.out _ _ _ _ _ _ _ _ _) rfl) rfl ?_
          rw [E.out]
          exact ⟨_, rfl, Ret.fail R3.out K3.out (ks_set9 _ _ _ _ _ _ _ _ _) hP (Nat.le_refl _)⟩
        have gn : ¬ (40 : Int) < (n : Int) := by omega
        by_cases hg : g > 3
        · have gg : (3 : Int) < (g : Int) := by omega
          have E : Hid (pWhole s ere = ⟨rx0, 4, ⟨i, n, g, d⟩⟩) := by show _ = _; rw [E0.out]; rw [if_neg (by omega), if_neg h1, if_pos (Or.inr hg)]
          have b0 := bl_cell (B3.out) 0 _ rfl
          have fb0 := bl_frozen (B3.out) 0
          have b1 := bl_cell (B3.out) 1 _ rfl
          have fb1 := bl_frozen (B3.out) 1
          have b2 := bl_cell (B3.out) 2 _ rfl
          have fb2 := bl_frozen (B3.out) 2
          have b3 := bl_cell (B3.out) 3 _ rfl
          have fb3 := bl_frozen (B3.out) 3
          have b4 := bl_cell (B3.out) 4 _ rfl
          have fb4 := bl_frozen (B3.out) 4
          have b5 := bl_cell (B3.out) 5 _ rfl
          have fb5 := bl_frozen (B3.out) 5
          have b6 := bl_cell (B3.out) 6 _ rfl
          have fb6 := bl_frozen (B3.out) 6
          have b7 := bl_cell (B3.out) 7 _ rfl
          have fb7 := bl_frozen (B3.out) 7
          have b8 := bl_cell (B3.out) 8 _ rfl
          have fb8 := bl_frozen (B3.out) 8
          go_wp2_with fail
          refine bodyPost_ret (v := .tuple #[rz, .int .i64 4]) (rx_ret2 rfl _ _ _ _ _ rfl rfl (bl_set9 B3.out _ _ _ _ _ _ _ _ _) rfl) rfl ?_
          rw [E.out]
          exact ⟨_, rfl, Ret.fail R3.out K3.out (ks_set9 _ _ _ _ _ _ _ _ _) hP (Nat.le_refl _)⟩
        have gg : ¬ (3 : Int) < (g : Int) := by omega
        have E : Hid (pWhole s ere = ⟨r, 0, ⟨i, n, g, d⟩⟩) := by show _ = _; rw [E0.out]; rw [if_neg (by omega), if_neg h1, if_neg (by omega)]
        have a0 := bl_cell (A3.out) 0 _ rfl
        have a1 := bl_cell (A3.out) 1 _ rfl
        have a2 := bl_cell (A3.out) 2 _ rfl
        have a3 := bl_cell (A3.out) 3 _ rfl
        have a4 := bl_cell (A3.out) 4 _ rfl
        have a5 := bl_cell (A3.out) 5 _ rfl
        have a6 := bl_cell (A3.out) 6 _ rfl
        have a7 := bl_cell (A3.out) 7 _ rfl
        have a8 := bl_cell (A3.out) 8 _ rfl
        have b0 := bl_cell (B3.out) 0 _ rfl
        have fb0 := bl_frozen (B3.out) 0
        have b1 := bl_cell (B3.out) 1 _ rfl
        have fb1 := bl_frozen (B3.out) 1
        have b2 := bl_cell (B3.out) 2 _ rfl
        have fb2 := bl_frozen (B3.out) 2
        have b3 := bl_cell (B3.out) 3 _ rfl
        have fb3 := bl_frozen (B3.out) 3
        have b4 := bl_cell (B3.out) 4 _ rfl
        have fb4 := bl_frozen (B3.out) 4
        have b5 := bl_cell (B3.out) 5 _ rfl
        have fb5 := bl_frozen (B3.out) 5
        have b6 := bl_cell (B3.out) 6 _ rfl
        have fb6 := bl_frozen (B3.out) 6
        have b7 := bl_cell (B3.out) 7 _ rfl
        have fb7 := bl_frozen (B3.out) 7
        have b8 := bl_cell (B3.out) 8 _ rfl
        have fb8 := bl_frozen (B3.out) 8
        go_wp2_with fail
        refine bodyPost_ret (v := .tuple #[rxv kk mn mx mm tt (.slice ad ll cc), .int .i64 0]) (rx_ret2 rfl _ _ _ _ _ rfl rfl (bl_set9 B3.out _ _ _ _ _ _ _ _ _) rfl) rfl ?_
        rw [E.out]
        exact ⟨_, rfl, Ret.fin I3.out R3.out K3.out (ks_set9 _ _ _ _ _ _ _ _ _) hP (Nat.le_refl _)⟩
  · have ge : ((er : Int) != 0) = true := by simp; omega
    have E : Hid (pWhole s ere = ⟨rx0, er, ⟨i, n, g, d⟩⟩) := by show _ = _; rw [E0.out]; exact if_pos he
    have b0 := bl_cell (B2.out) 0 _ rfl
    have fb0 := bl_frozen (B2.out) 0
    have b1 := bl_cell (B2.out) 1 _ rfl
    have fb1 := bl_frozen (B2.out) 1
    have b2 := bl_cell (B2.out) 2 _ rfl
    have fb2 := bl_frozen (B2.out) 2
    have b3 := bl_cell (B2.out) 3 _ rfl
    have fb3 := bl_frozen (B2.out) 3
    have b4 := bl_cell (B2.out) 4 _ rfl
    have fb4 := bl_frozen (B2.out) 4
    have b5 := bl_cell (B2.out) 5 _ rfl
    have fb5 := bl_frozen (B2.out) 5
    have b6 := bl_cell (B2.out) 6 _ rfl
    have fb6 := bl_frozen (B2.out) 6
    have b7 := bl_cell (B2.out) 7 _ rfl
    have fb7 := bl_frozen (B2.out) 7
    have b8 := bl_cell (B2.out) 8 _ rfl
    have fb8 := bl_frozen (B2.out) 8
    go_wp2_with fail
    refine bodyPost_ret (v := .tuple #[rz, .int .i64 (er : Int)]) (rx_ret2 rfl _ _ _ _ _ rfl rfl (bl_set9 B2.out _ _ _ _ _ _ _ _ _) rfl) rfl ?_
    rw [E.out]
    exact ⟨_, rfl, Ret.fail R2.out K2.out (ks_set9 _ _ _ _ _ _ _ _ _) hP (Nat.le_refl _)⟩

theorem rx_ret3 {fn : Func} {p u x : Tmp} (h : fn.results = #[.cell p 30, .tmp u, .tmp x]) (tmps : Array Value) (w : World) (S : Nat) (cs : Array Value) (a b : Value) (hp : tmps.getD p undef = .pointer (some ⟨S, 0, none⟩)) (hu : tmps.getD u undef = a) (hx : tmps.getD x undef = b) (hA : w.heap[S]? = some (.cells cs 30)) (hc : cs.size = 9) : (results fn tmps).run Tryz.prog w = .ok (.tuple #[.agg cs, a, b]) w := by
  have hl := run_loadVar_row (P := Tryz.prog) w S 30 30 cs (0, 0) _ hA Tryz.underlying30 rfl (by rw [hc]; kernel_rfl)
  have hp' : tmps[p]?.getD undef = .pointer (some ⟨S, 0, none⟩) := by simpa using hp
  have hu' : tmps[u]?.getD undef = a := by simpa using hu
  have hx' : tmps[x]?.getD undef = b := by simpa using hx
  simp [results, h, hp', hu', hx', asAddr, hl]

/-- What Parse leaves. -/
structure Parsed (w : World) (s : ByteArray) (ere : Bool) (e : Ending) (w' : World) : Prop where
  ex : ∃ v, e = .returned (.tuple #[v, .int .i64 ((pParse s ere).2.1 : Nat), .int .i64 ((pParse s ere).2.2 : Nat)]) ∧ Is w' (fun b => w.heap.size ≤ b) (pParse s ere).1 v ∧ Kp w w'

set_option maxHeartbeats 2000000 in
set_option maxRecDepth 100000 in
theorem parse_any (s : ByteArray) (ere : Bool) (w : World) (h0 : ∃ m, w.cell? ⟨0, 0, none⟩ = some (.int .i64 m)) (hs : s.size ≤ 1000000) :
    Calls Tryz.prog 9 #[.string s, .bool ere] w fun e w' => Parsed w s ere e w' := by
  have H0 := hid h0
  have hw : 0 < w.heap.size := by obtain ⟨m, hm⟩ := h0; exact World.block_lt_of_cell? w _ hm
  clear h0
  obtain ⟨o, ho⟩ : ∃ o, pWhole s ere = o := ⟨_, rfl⟩
  have E0 : Hid (pParse s ere = if o.e ≠ 0 then (rx0, o.st.i, o.e) else (o.r, 0, 0)) := by
    show _ = _
    unfold pParse
    rw [ho]
  have WA : Hid (∀ P w, Rd w P s ere 0 0 0 0 → Calls Tryz.prog 19 #[.pointer (some ⟨P, 0, none⟩)] w fun e w' => RetE w P s ere o e w') := by
    intro P w h
    have := whole_any s ere P w h hs
    rw [ho] at this
    exact this
  clear ho
  obtain ⟨r, er, ⟨i, n, g, d⟩⟩ := o
  go_enter Tryz.func9, Tryz.ntmps9
  go_upto_region 2 with fail
  refine opq (fun W0 => Rd W0 (w.heap.size + 1) s ere 0 0 0 0 ∧ W0.heap[w.heap.size]? = some rzo ∧ Kp w W0) ⟨by exact ⟨last_at _ _ _ (by simp), by omega, by obtain ⟨m, hm⟩ := H0.out; exact ⟨m, (Kp.cell (a := w) (by repeat (first | exact Kp.refl _ | refine Kp.alloc ?_ _ | refine Kp.drew ?_ | refine Kp.drewN _ ?_)) hw).trans hm⟩⟩, by (first | exact last_at _ _ _ (by simp) | (refine bl_alloc ?_ _; first | exact last_at _ _ _ (by simp) | (refine bl_alloc ?_ _; first | exact last_at _ _ _ (by simp) | (refine bl_alloc ?_ _; exact last_at _ _ _ (by simp))))), by exact (by repeat (first | exact Kp.refl _ | refine Kp.alloc ?_ _ | refine Kp.drew ?_ | refine Kp.drewN _ ?_))⟩ ?_
  rintro W0 ⟨xR0, xB0, xK0⟩
  have R0 : Hid (Rd W0 (w.heap.size + 1) s ere 0 0 0 0) := xR0
  have B0 : Hid (W0.heap[w.heap.size]? = some rzo) := xB0
  have K0 : Hid (Kp w W0) := xK0
  clear xR0 xB0 xK0
  have hs0 : w.heap.size + 1 < W0.heap.size := R0.out.lt
  go_wp2_with fail
  refine (WA.out (w.heap.size + 1) _ R0.out).mono ?_
  rintro e W1 ⟨⟨v, rfl, rr⟩⟩
  obtain ⟨kk, mn, mx, mm, tt, ad, ll, cc, rfl⟩ := rr.is.form
  have hs1 := rr.ks.size
  have R1 : Hid (Rd W1 (w.heap.size + 1) s ere i n g d) := rr.rd
  have I1 : Hid (Is W1 (fun b => W0.heap.size ≤ b) r (rxv kk mn mx mm tt (.slice ad ll cc))) := rr.is
  have B1 := hid (bl_ks B0.out (by omega) rr.ks)
  have K1 := hid (rr.ks.up K0.out (by omega))
  clear rr R0 B0 K0 WA
  dsimp only
  go_upto_region 3 with fail
  refine opq (fun W2 => Rd W2 (w.heap.size + 1) s ere i n g d ∧ W2.heap[W1.heap.size]? = some (rxo kk mn mx mm tt (.slice ad ll cc)) ∧ Is W2 (fun b => w.heap.size ≤ b ∧ b ≠ w.heap.size) r (rxv kk mn mx mm tt (.slice ad ll cc)) ∧ W2.heap[w.heap.size]? = some rzo ∧ Kp w W2) ⟨by exact R1.out.kp (by repeat (first | exact Kp.refl _ | refine Kp.alloc ?_ _ | refine Kp.drew ?_ | refine Kp.drewN _ ?_)), by (first | exact last_at _ _ _ (by simp) | (refine bl_alloc ?_ _; first | exact last_at _ _ _ (by simp) | (refine bl_alloc ?_ _; first | exact last_at _ _ _ (by simp) | (refine bl_alloc ?_ _; exact last_at _ _ _ (by simp))))), by exact (I1.out.weak (ok' := fun b => w.heap.size ≤ b ∧ b ≠ w.heap.size) (fun _ hb _ => ⟨by omega, by omega⟩)).kp (by repeat (first | exact Kp.refl _ | refine Kp.alloc ?_ _ | refine Kp.drew ?_ | refine Kp.drewN _ ?_)), by exact bl_kp B1.out (by repeat (first | exact Kp.refl _ | refine Kp.alloc ?_ _ | refine Kp.drew ?_ | refine Kp.drewN _ ?_)), by exact K1.out.trans (by repeat (first | exact Kp.refl _ | refine Kp.alloc ?_ _ | refine Kp.drew ?_ | refine Kp.drewN _ ?_))⟩ ?_
  rintro W2 ⟨xR2, xA2, xI2, xB2, xK2⟩
  have R2 : Hid (Rd W2 (w.heap.size + 1) s ere i n g d) := xR2
  have A2 : Hid (W2.heap[W1.heap.size]? = some (rxo kk mn mx mm tt (.slice ad ll cc))) := xA2
  have I2 : Hid (Is W2 (fun b => w.heap.size ≤ b ∧ b ≠ w.heap.size) r (rxv kk mn mx mm tt (.slice ad ll cc))) := xI2
  have B2 : Hid (W2.heap[w.heap.size]? = some rzo) := xB2
  have K2 : Hid (Kp w W2) := xK2
  clear xR2 xA2 xI2 xB2 xK2
  clear R1 I1 B1 K1
  by_cases he : er = 0
  · subst he
    have E : Hid (pParse s ere = (r, 0, 0)) := by show _ = _; rw [E0.out]; rfl
    have a0 := bl_cell (A2.out) 0 _ rfl
    have a1 := bl_cell (A2.out) 1 _ rfl
    have a2 := bl_cell (A2.out) 2 _ rfl
    have a3 := bl_cell (A2.out) 3 _ rfl
    have a4 := bl_cell (A2.out) 4 _ rfl
    have a5 := bl_cell (A2.out) 5 _ rfl
    have a6 := bl_cell (A2.out) 6 _ rfl
    have a7 := bl_cell (A2.out) 7 _ rfl
    have a8 := bl_cell (A2.out) 8 _ rfl
    have b0 := bl_cell (B2.out) 0 _ rfl
    have fb0 := bl_frozen (B2.out) 0
    have b1 := bl_cell (B2.out) 1 _ rfl
    have fb1 := bl_frozen (B2.out) 1
    have b2 := bl_cell (B2.out) 2 _ rfl
    have fb2 := bl_frozen (B2.out) 2
    have b3 := bl_cell (B2.out) 3 _ rfl
    have fb3 := bl_frozen (B2.out) 3
    have b4 := bl_cell (B2.out) 4 _ rfl
    have fb4 := bl_frozen (B2.out) 4
    have b5 := bl_cell (B2.out) 5 _ rfl
    have fb5 := bl_frozen (B2.out) 5
    have b6 := bl_cell (B2.out) 6 _ rfl
    have fb6 := bl_frozen (B2.out) 6
    have b7 := bl_cell (B2.out) 7 _ rfl
    have fb7 := bl_frozen (B2.out) 7
    have b8 := bl_cell (B2.out) 8 _ rfl
    have fb8 := bl_frozen (B2.out) 8
    go_wp2_with fail
    refine bodyPost_ret (v := .tuple #[rxv kk mn mx mm tt (.slice ad ll cc), .int .i64 0, .int .i64 0]) (rx_ret3 rfl _ _ _ _ _ _ rfl rfl rfl (bl_set9 B2.out _ _ _ _ _ _ _ _ _) rfl) rfl ?_
    refine ⟨rxv kk mn mx mm tt (.slice ad ll cc), ?_, ?_, (ks_set9 _ _ _ _ _ _ _ _ _).up K2.out (Nat.le_refl _)⟩
    · rw [E.out]; rfl
    · rw [E.out]; exact (I2.out.ks (ks_set9 _ _ _ _ _ _ _ _ _) (fun _ hb _ => hb.2)).weak (fun _ hb _ => hb.1)
  · have ge : ((er : Int) != 0) = true := by simp; omega
    have E : Hid (pParse s ere = (rx0, i, er)) := by show _ = _; rw [E0.out]; exact if_pos he
    go_upto_region 4 with fail
    have Q0 : Ks w.heap.size W2 W2.drew := (Ks.refl _ _).drew
    have MK : Hid (∀ W, Ks w.heap.size W2 W → W.cell? ⟨(w.heap.size + 1), 2, none⟩ = some (.int .i64 (i : Int)) ∧ Hid (Ks w.heap.size W2 W)) := fun W k => ⟨(R2.out.ks k (by omega) (by omega)).cells.2.2.1, k⟩
    refine wp_region_noPanic ?_
    refine wp_region_held_drew (S := (fun W => W.cell? ⟨(w.heap.size + 1), 2, none⟩ = some (.int .i64 (i : Int)) ∧ Hid (Ks w.heap.size W2 W))) (by kernel_rfl) ?_ (fun hH => ?_)
    · exact MK.out _ Q0
    have KQ := Q0
    refine wpAnyH_take (i := 0) (oi := { dst := some 19, op := Op.build 30 #[], type := 30, pos := "parse.go:15", after := #[], guard := none }) (v := ?v0b1) rfl (by kernel_rfl) (by kernel_rfl) (by kernel_rfl) (fun _ _ _ h => h) (Or.inl ⟨by rfl, ?hy0b1⟩) hH ?r0b1
    case hy0b1 => (intro W hSw; (try dsimp only at hSw); go_simp; try (with_reducible rfl))
    try simp only [Act.put, List.setIfInBounds_toArray, List.set_cons_zero, List.set_cons_succ]
    refine wpAnyH_take (i := 1) (oi := { dst := some 20, op := Op.fieldAddr 49 (Operand.tmp 7) 2, type := 0, pos := "parse.go:15", after := #[{ on := 4, ground := Ground.gcOnly Departure.lateStores }], guard := none }) (v := ?v1b2) rfl (by kernel_rfl) (by kernel_rfl) (by kernel_rfl) (fun _ _ _ h => h) (Or.inl ⟨by rfl, ?hy1b2⟩) hH ?r1b2
    case hy1b2 => (intro W hSw; (try dsimp only at hSw); go_simp; try (with_reducible rfl))
    try simp only [Act.put, List.setIfInBounds_toArray, List.set_cons_zero, List.set_cons_succ]
    refine wpAnyH_take (i := 2) (oi := { dst := some 21, op := Op.load 3 (Operand.tmp 20), type := 3, pos := "parse.go:15", after := #[{ on := 1, ground := Ground.data }, { on := 4, ground := Ground.gcOnly Departure.lateStores }], guard := none }) (v := ?v2b3) rfl (by kernel_rfl) (by kernel_rfl) (by kernel_rfl) (fun _ _ _ h => h) (Or.inl ⟨by rfl, ?hy2b3⟩) hH ?r2b3
    case hy2b3 => (intro W hSw; (try dsimp only at hSw); go_simp; try (with_reducible rfl))
    try simp only [Act.put, List.setIfInBounds_toArray, List.set_cons_zero, List.set_cons_succ]
    refine wpAnyH_take (i := 3) (oi := { dst := some 22, op := Op.move (Operand.tmp 9), type := 31, pos := "parse.go:15", after := #[{ on := 5, ground := Ground.gcOnly Departure.lateStores }], guard := none }) (v := ?v3b4) rfl (by kernel_rfl) (by kernel_rfl) (by kernel_rfl) (fun _ _ _ h => h) (Or.inl ⟨by rfl, ?hy3b4⟩) hH ?r3b4
    case hy3b4 => (intro W hSw; (try dsimp only at hSw); go_simp; try (with_reducible rfl))
    try simp only [Act.put, List.setIfInBounds_toArray, List.set_cons_zero, List.set_cons_succ]
    refine wpAnyH_ready (rs := [4]) (by kernel_rfl) (by simp) ?_
    refine AllReadyH.cons (o := { dst := none, op := Op.store 30 (Operand.tmp 4) (Operand.tmp 19), type := 0, pos := "parse.go:15", after := #[{ on := 0, ground := Ground.data }, { on := 0, ground := Ground.phase }, { on := 1, ground := Ground.textOnly Departure.lateStores }, { on := 2, ground := Ground.textOnly Departure.lateStores }, { on := 3, ground := Ground.textOnly Departure.lateStores }], guard := none }) rfl (fun K hKq => ?_) AllReadyH.nil
    have b0 := bl_cell (B2.out) 0 _ rfl
    have fb0 := bl_frozen (B2.out) 0
    have b1 := bl_cell (B2.out) 1 _ rfl
    have fb1 := bl_frozen (B2.out) 1
    have b2 := bl_cell (B2.out) 2 _ rfl
    have fb2 := bl_frozen (B2.out) 2
    have b3 := bl_cell (B2.out) 3 _ rfl
    have fb3 := bl_frozen (B2.out) 3
    have b4 := bl_cell (B2.out) 4 _ rfl
    have fb4 := bl_frozen (B2.out) 4
    have b5 := bl_cell (B2.out) 5 _ rfl
    have fb5 := bl_frozen (B2.out) 5
    have b6 := bl_cell (B2.out) 6 _ rfl
    have fb6 := bl_frozen (B2.out) 6
    have b7 := bl_cell (B2.out) 7 _ rfl
    have fb7 := bl_frozen (B2.out) 7
    have b8 := bl_cell (B2.out) 8 _ rfl
    have fb8 := bl_frozen (B2.out) 8
    go_simp
    refine hKq.out _ _ (MK.out _ (ks_set9 _ _ _ _ _ _ _ _ _).drew) (fun hN => ?_)
    clear hKq K hH KQ
    have hH := hN
    clear hN
    have KQ := hH.2.out
    try simp only [Act.put, List.setIfInBounds_toArray, List.set_cons_zero, List.set_cons_succ]
    refine wpAnyH_take (i := 5) (oi := { dst := some 5, op := Op.assign (Operand.tmp 21), type := 3, pos := "parse.go:15", after := #[{ on := 2, ground := Ground.data }, { on := 4, ground := Ground.chain }, { on := 0, ground := Ground.phase }, { on := 1, ground := Ground.phase }, { on := 2, ground := Ground.phase }, { on := 3, ground := Ground.textOnly Departure.lateStores }, { on := 4, ground := Ground.phase }], guard := none }) (v := ?v5b5) rfl (by kernel_rfl) (by kernel_rfl) (by kernel_rfl) (fun _ _ _ h => h) (Or.inl ⟨by rfl, ?hy5b5⟩) hH ?r5b5
    case hy5b5 => (intro W hSw; (try dsimp only at hSw); go_simp; try (with_reducible rfl))
    try simp only [Act.put, List.setIfInBounds_toArray, List.set_cons_zero, List.set_cons_succ]
    refine wpAnyH_take (i := 6) (oi := { dst := some 6, op := Op.assign (Operand.tmp 22), type := 31, pos := "parse.go:15", after := #[{ on := 3, ground := Ground.data }, { on := 5, ground := Ground.chain }, { on := 0, ground := Ground.phase }, { on := 1, ground := Ground.phase }, { on := 2, ground := Ground.phase }, { on := 3, ground := Ground.phase }, { on := 4, ground := Ground.phase }, { on := 5, ground := Ground.phase }], guard := none }) (v := ?v6b6) rfl (by kernel_rfl) (by kernel_rfl) (by kernel_rfl) (fun _ _ _ h => h) (Or.inl ⟨by rfl, ?hy6b6⟩) hH ?r6b6
    case hy6b6 => (intro W hSw; (try dsimp only at hSw); go_simp; try (with_reducible rfl))
    try simp only [Act.put, List.setIfInBounds_toArray, List.set_cons_zero, List.set_cons_succ]
    refine wpAnyH_done (by kernel_rfl) ?_ _
    refine NoPanic.normal ?_
    go_wp2_with fail
    refine bodyPost_ret (v := .tuple #[rz, .int .i64 (i : Int), .int .i64 (er : Int)]) (rx_ret3 rfl _ _ _ _ _ _ rfl rfl rfl (bl_drew (bl_set9 B2.out _ _ _ _ _ _ _ _ _)) rfl) rfl ?_
    refine ⟨rz, ?_, ?_, ((ks_set9 _ _ _ _ _ _ _ _ _).up K2.out (Nat.le_refl _)).drew⟩
    · rw [E.out]
    · rw [E.out]; exact is_zero _ _
end Go.Proofs.YtikmgckefbjbkabGreatDoor

/-! ### Text1 -/

namespace Go.Proofs.YtikmgckefbjbkabGreatDoor
open Go.RowKit

/-- A text of bytes. -/
def bs (l : List UInt8) : ByteArray := ⟨l.toArray⟩
theorem bs_app (a b : List UInt8) : bs a ++ bs b = bs (a ++ b) := by
  apply ByteArray.ext
  apply Array.toList_inj.1
  rw [ByteArray.data_append, Array.toList_append]
  simp [bs]
theorem bs_size (a : List UInt8) : (bs a).size = a.length := by
  show a.toArray.size = a.length
  simp
theorem bs_toList (a : List UInt8) : (bs a).toList = a := ByteArray.toList_mk a
def dec (n : Nat) : List UInt8 := Lib.decDigits n
theorem dec_len (n : Nat) (h : n < 100) : (dec n).length ≤ 2 := (by decide +kernel : ∀ n : Fin 100, (dec n.val).length ≤ 2) ⟨n, h⟩
theorem itoa_any (n : Nat) (h : n < 100) (w : World) : Calls Tryz.prog 39 #[.int .i64 (n : Int)] w fun e w' => e = .returned (.string (bs (dec n))) ∧ w' = w := Tryz.strconv_Itoa_small n h w

def framedT (a x b : List UInt8) (ere : Bool) : List UInt8 := if ere then a ++ x ++ b else [92] ++ a ++ x ++ [92] ++ b
theorem lit92 : (⟨#[92]⟩ : ByteArray) = bs [92] := rfl

set_option maxHeartbeats 2000000 in
set_option maxRecDepth 100000 in
theorem framed_any (a x b : List UInt8) (ere : Bool) (ha : a.length ≤ 100) (hx : x.length ≤ 10000000) (hb : b.length ≤ 100) (w : World) : Calls Tryz.prog 38 #[.string (bs a), .string (bs x), .string (bs b), .bool ere] w fun e w' => e = .returned (.string (bs (framedT a x b ere))) ∧ w' = w := by
  rw [← bs_size] at ha hx hb
  have E : Hid (bs (framedT a x b ere) = if ere then bs a ++ bs x ++ bs b else bs [92] ++ bs a ++ bs x ++ bs [92] ++ bs b) := by
    show _ = _
    unfold framedT
    cases ere <;> simp [bs_app]
  obtain ⟨A, hA⟩ : ∃ A, bs a = A := ⟨_, rfl⟩
  obtain ⟨X, hX⟩ : ∃ X, bs x = X := ⟨_, rfl⟩
  obtain ⟨B, hB⟩ : ∃ B, bs b = B := ⟨_, rfl⟩
  rw [hA, hX, hB] at E
  rw [hA] at ha ⊢
  rw [hX] at hx ⊢
  rw [hB] at hb ⊢
  clear hA hX hB
  cases ere with
  | true =>
    go_enter Tryz.func38, Tryz.ntmps38
    go_wp2
    go_ret
    exact ⟨by rw [E.out]; rfl, rfl⟩
  | false =>
    go_enter Tryz.func38, Tryz.ntmps38
    go_wp2
    go_ret
    exact ⟨by rw [E.out]; rfl, rfl⟩

def ivT (lo : Nat) (hi : Int) : List UInt8 := if hi = lo then dec lo else if hi = -1 then dec lo ++ [44] else dec lo ++ [44] ++ dec hi.toNat

set_option maxHeartbeats 2000000 in
set_option maxRecDepth 100000 in
theorem ivText_any (lo : Nat) (hi : Int) (hlo : lo ≤ 20) (h1 : -1 ≤ hi) (h2 : hi ≤ 20) (w : World) : Calls Tryz.prog 57 #[.int .i64 (lo : Int), .int .i64 hi] w fun e w' => e = .returned (.string (bs (ivT lo hi))) ∧ w' = w := by
  have hd : (bs (dec lo)).size ≤ 2 := by rw [bs_size]; exact dec_len lo (by omega)
  obtain ⟨A, hA⟩ : ∃ A, bs (dec lo) = A := ⟨_, rfl⟩
  have IT : Hid (∀ w, Calls Tryz.prog 39 #[.int .i64 (lo : Int)] w fun e w' => e = .returned (.string A) ∧ w' = w) := fun w => by rw [← hA]; exact itoa_any lo (by omega) w
  have HA := hid hA
  rw [hA] at hd
  clear hA
  by_cases e1 : hi = lo
  · subst e1
    have E : Hid (bs (ivT lo (lo : Int)) = A) := by show _ = _; unfold ivT; rw [if_pos rfl, HA.out]
    go_enter Tryz.func57, Tryz.ntmps57
    go_wp2_with fail
    refine (IT.out _).mono ?_
    rintro e w1 ⟨rfl, rfl⟩
    go_wp2_with fail
    go_ret
    exact ⟨by rw [E.out]; rfl, rfl⟩
  have g1 : (hi == (lo : Int)) = false := by simp [e1]
  by_cases e2 : hi = -1
  · subst e2
    have E : Hid (bs (ivT lo (-1)) = A ++ bs [44]) := by show _ = _; unfold ivT; rw [if_neg e1, if_pos rfl, ← HA.out, bs_app]
    go_enter Tryz.func57, Tryz.ntmps57
    go_wp2_with fail
    refine (IT.out _).mono ?_
    rintro e w1 ⟨rfl, rfl⟩
    go_wp2_with fail
    go_ret
    exact ⟨by rw [E.out]; rfl, rfl⟩
  have g2 : (hi == -1) = false := by simp [e2]
  obtain ⟨h, rfl⟩ : ∃ h : Nat, hi = h := ⟨hi.toNat, by omega⟩
  have hd2 : (bs (dec h)).size ≤ 2 := by rw [bs_size]; exact dec_len h (by omega)
  obtain ⟨B, hB⟩ : ∃ B, bs (dec h) = B := ⟨_, rfl⟩
  have IT2 : Hid (∀ w, Calls Tryz.prog 39 #[.int .i64 (h : Int)] w fun e w' => e = .returned (.string B) ∧ w' = w) := fun w => by rw [← hB]; exact itoa_any h (by omega) w
  have E : Hid (bs (ivT lo (h : Int)) = A ++ bs [44] ++ B) := by show _ = _; unfold ivT; rw [if_neg e1, if_neg e2, ← HA.out, ← hB, bs_app, bs_app]; simp
  rw [hB] at hd2
  clear hB
  go_enter Tryz.func57, Tryz.ntmps57
  go_wp2_with fail
  refine (IT.out _).mono ?_
  rintro e w1 ⟨rfl, rfl⟩
  go_wp2_with fail
  refine (IT2.out _).mono ?_
  rintro e w2 ⟨rfl, rfl⟩
  go_wp2_with fail
  go_ret
  exact ⟨by rw [E.out]; rfl, rfl⟩

def timesT (lo : Nat) (hi : Int) (ere : Bool) : List UInt8 :=
  if lo = 0 ∧ hi = -1 then [42] else if ere = true ∧ lo = 1 ∧ hi = -1 then [43] else if ere = true ∧ lo = 0 ∧ hi = 1 then [63] else framedT [123] (ivT lo hi) [125] ere
theorem ivT_len (lo : Nat) (hi : Int) (hlo : lo ≤ 20) (h1 : -1 ≤ hi) (h2 : hi ≤ 20) : (ivT lo hi).length ≤ 5 := by
  have a := dec_len lo (by omega)
  have b := dec_len hi.toNat (by omega)
  unfold ivT
  split
  · omega
  · split
    · simp; omega
    · simp; omega

set_option maxHeartbeats 2000000 in
set_option maxRecDepth 100000 in
theorem timesText_any (lo : Nat) (hi : Int) (ere : Bool) (hlo : lo ≤ 20) (h1 : -1 ≤ hi) (h2 : hi ≤ 20) (w : World) : Calls Tryz.prog 37 #[.int .i64 (lo : Int), .int .i64 hi, .bool ere] w fun e w' => e = .returned (.string (bs (timesT lo hi ere))) ∧ w' = w := by
  have FR := hid (framed_any [123] (ivT lo hi) [125] ere (by simp) (by have := ivT_len lo hi hlo h1 h2; omega) (by simp))
  have IV := hid (ivText_any lo hi hlo h1 h2)
  by_cases l0 : lo = 0
  · subst l0
    by_cases m1 : hi = -1
    · subst m1
      have E : Hid (timesT 0 (-1) ere = [42]) := by show _ = _; unfold timesT; rw [if_pos ⟨rfl, rfl⟩]
      go_enter Tryz.func37, Tryz.ntmps37
      go_wp2
      go_ret
      exact ⟨by rw [E.out]; rfl, rfl⟩
    have n1 : (hi == -1) = false := by simp [m1]
    cases ere with
    | false =>
      have E : Hid (timesT 0 hi false = framedT [123] (ivT 0 hi) [125] false) := by show _ = _; unfold timesT; simp [m1]
      go_enter Tryz.func37, Tryz.ntmps37
      go_wp2_with fail
      refine (IV.out _).mono ?_
      rintro e w1 ⟨rfl, rfl⟩
      go_wp2_with fail
      refine (FR.out _).mono ?_
      rintro e w2 ⟨rfl, rfl⟩
      go_wp2_with fail
      go_ret
      exact ⟨by rw [E.out]; rfl, rfl⟩
    | true =>
      by_cases p1 : hi = 1
      · subst p1
        have E : Hid (timesT 0 1 true = [63]) := rfl
        go_enter Tryz.func37, Tryz.ntmps37
        go_wp2
        go_ret
        exact ⟨by rw [E.out]; rfl, rfl⟩
      have n2 : (hi == 1) = false := by simp [p1]
      have E : Hid (timesT 0 hi true = framedT [123] (ivT 0 hi) [125] true) := by show _ = _; unfold timesT; simp [m1, p1]
      go_enter Tryz.func37, Tryz.ntmps37
      go_wp2_with fail
      refine (IV.out _).mono ?_
      rintro e w1 ⟨rfl, rfl⟩
      go_wp2_with fail
      refine (FR.out _).mono ?_
      rintro e w2 ⟨rfl, rfl⟩
      go_wp2_with fail
      go_ret
      exact ⟨by rw [E.out]; rfl, rfl⟩
  have n0 : ((lo : Int) == 0) = false := by simp; omega
  cases ere with
  | false =>
    have E : Hid (timesT lo hi false = framedT [123] (ivT lo hi) [125] false) := by show _ = _; unfold timesT; simp [l0]
    go_enter Tryz.func37, Tryz.ntmps37
    go_wp2_with fail
    refine (IV.out _).mono ?_
    rintro e w1 ⟨rfl, rfl⟩
    go_wp2_with fail
    refine (FR.out _).mono ?_
    rintro e w2 ⟨rfl, rfl⟩
    go_wp2_with fail
    go_ret
    exact ⟨by rw [E.out]; rfl, rfl⟩
  | true =>
    by_cases l1 : lo = 1
    · subst l1
      by_cases m1 : hi = -1
      · subst m1
        have E : Hid (timesT 1 (-1) true = [43]) := rfl
        go_enter Tryz.func37, Tryz.ntmps37
        go_wp2
        go_ret
        exact ⟨by rw [E.out]; rfl, rfl⟩
      have n1 : (hi == -1) = false := by simp [m1]
      have E : Hid (timesT 1 hi true = framedT [123] (ivT 1 hi) [125] true) := by show _ = _; unfold timesT; simp [m1]
      go_enter Tryz.func37, Tryz.ntmps37
      go_wp2_with fail
      refine (IV.out _).mono ?_
      rintro e w1 ⟨rfl, rfl⟩
      go_wp2_with fail
      refine (FR.out _).mono ?_
      rintro e w2 ⟨rfl, rfl⟩
      go_wp2_with fail
      go_ret
      exact ⟨by rw [E.out]; rfl, rfl⟩
    have n3 : ((lo : Int) == 1) = false := by simp; omega
    have E : Hid (timesT lo hi true = framedT [123] (ivT lo hi) [125] true) := by show _ = _; unfold timesT; simp [l0, l1]
    go_enter Tryz.func37, Tryz.ntmps37
    go_wp2_with fail
    refine (IV.out _).mono ?_
    rintro e w1 ⟨rfl, rfl⟩
    go_wp2_with fail
    refine (FR.out _).mono ?_
    rintro e w2 ⟨rfl, rfl⟩
    go_wp2_with fail
    go_ret
    exact ⟨by rw [E.out]; rfl, rfl⟩

def byteT (b : Nat) (ere : Bool) : List UInt8 := if b = 10 then [92, 110] else if spec ere b then [92, UInt8.ofNat b] else [UInt8.ofNat b]
theorem conv_one (W : World) (b : Nat) (hb : b < 256) : (convert 46 9 (.slice (some ⟨W.heap.size, 0, none⟩) 1 1)).run Tryz.prog (W.alloc (.cells #[.int .u8 (b : Int)] 5)) = .ok (.string (bs [UInt8.ofNat b])) (W.alloc (.cells #[.int .u8 (b : Int)] 5)) := by
  refine run_convert_bytes_back (W.alloc (.cells #[.int .u8 (b : Int)] 5)) 46 9 5 ⟨W.heap.size, 0, none⟩ 1 [UInt8.ofNat b] Tryz.underlying46 Tryz.underlying5 Tryz.underlying9 ?_
  intro j hj
  have h0 : j = 0 := by simp at hj; exact hj
  subst h0
  refine bl_cell (last_of _ _) 0 _ ?_
  show some _ = some _
  simp
  omega

set_option maxHeartbeats 2000000 in
set_option maxRecDepth 100000 in
theorem byteText_any (b : Nat) (hb : b < 256) (ere : Bool) (w : World) : Calls Tryz.prog 51 #[.int .u8 (b : Int), .bool ere] w fun e w' => e = .returned (.string (bs (byteT b ere))) ∧ Kp w w' := by
  by_cases h10 : b = 10
  · subst h10
    have E : Hid (byteT 10 ere = [92, 110]) := rfl
    go_enter Tryz.func51, Tryz.ntmps51
    go_wp2
    go_ret
    exact ⟨by rw [E.out]; rfl, Kp.refl _⟩
  have g : ((b : Int) == 10) = false := by simp; omega
  obtain ⟨sp, hsp⟩ : ∃ sp, spec ere b = sp := ⟨_, rfl⟩
  have HSP := hid hsp
  have E0 : Hid (byteT b ere = if sp then [92, UInt8.ofNat b] else [UInt8.ofNat b]) := by show _ = _; unfold byteT; rw [if_neg h10, hsp]
  clear hsp
  go_enter Tryz.func51, Tryz.ntmps51
  go_wp2_with fail
  refine (special_any ere _).mono ?_
  rintro e W1 ⟨rfl, k1⟩
  have K1 := hid k1
  clear k1
  go_wp2_with fail
  refine (has_any (spec ere) b _ hb).mono ?_
  rintro e W2 ⟨rfl, k2⟩
  rw [HSP.out]
  have K2 := hid (K1.out.trans k2)
  have cv := conv_one W2 b hb
  have hz : (bs [UInt8.ofNat b]).size ≤ 10 := by rw [bs_size]; simp
  obtain ⟨T, hT⟩ : ∃ T, bs [UInt8.ofNat b] = T := ⟨_, rfl⟩
  rw [hT] at cv hz
  have HT := hid hT
  clear k2 hT K1
  cases sp with
  | true =>
    have E : Hid (bs (byteT b ere) = bs [92] ++ T) := by show _ = _; rw [E0.out, ← HT.out, bs_app]; rfl
    go_wp2_with fail
    go_ret
    exact ⟨by rw [E.out]; rfl, K2.out.alloc _⟩
  | false =>
    have E : Hid (bs (byteT b ere) = T) := by show _ = _; rw [E0.out, ← HT.out]; rfl
    go_wp2_with fail
    go_ret
    exact ⟨by rw [E.out]; rfl, K2.out.alloc _⟩
end Go.Proofs.YtikmgckefbjbkabGreatDoor

/-! ### Row2 -/

namespace Go.Proofs.YtikmgckefbjbkabGreatDoor
open Go.RowKit

def u8s (l : List Nat) : List UInt8 := l.map UInt8.ofNat
def mid (b : Nat) : Bool := !(b == 93) && !(b == 94) && !(b == 45)
def rowT (p : Nat → Bool) : List UInt8 := u8s ((lst p 256).filter (· == 93)) ++ u8s ((lst p 256).filter mid) ++ u8s ((lst p 256).filter (· == 94)) ++ u8s ((lst p 256).filter (· == 45))
theorem lst_lt (p : Nat → Bool) (k : Nat) : ∀ x ∈ lst p k, x < k := by
  intro x hx
  unfold lst at hx
  simp at hx
  exact hx.1
theorem lst_len (p : Nat → Bool) (k : Nat) : (lst p k).length ≤ k := by rw [lst_length]; exact cnt_le p k

/-- A row of bytes that the call owns. -/
def Ow (base : Nat) (w : World) (v : Value) (l : List Nat) : Prop := w.ownsRow base 5 1 v l.length (l.map u8v)
theorem Ow.kp {base : Nat} {w w' : World} {v : Value} {l : List Nat} (h : Ow base w v l) (k : Kp w w') : Ow base w' v l := owns_kp h k
theorem Ow.conv {base : Nat} {w : World} {v : Value} {l : List Nat} (h : Ow base w v l) (hl : ∀ x ∈ l, x < 256) : (convert 46 9 v).run Tryz.prog w = .ok (.string (bs (u8s l))) w := by
  obtain ⟨h1, h2⟩ := h
  rcases h2 with ⟨rfl, h0⟩ | ⟨g, cap, cur, rfl, hb, hg, hc, hm, hs, ht⟩
  · have : l = [] := List.eq_nil_of_length_eq_zero h0
    subst this
    exact Lib.run_convert_nil_bytes w 46 9 5 0 Tryz.underlying46 Tryz.underlying5 Tryz.underlying9
  · have hlen : (u8s l).length = l.length := by simp [u8s]
    rw [← hlen]
    refine run_convert_bytes_back w 46 9 5 ⟨g, 0, none⟩ cap (u8s l) Tryz.underlying46 Tryz.underlying5 Tryz.underlying9 ?_
    intro j hj
    have hj' : j < l.length := by rw [← hlen]; exact hj
    have hx : (u8s l)[j] = UInt8.ofNat l[j] := by simp [u8s]
    rw [hx]
    have hlt := hl l[j] (List.getElem_mem hj')
    rw [show (⟨g, 0, none⟩ : Addr).add j = ⟨g, j, none⟩ by simp [Addr.add]; exact Eq.symm]
    refine bl_cell hg j _ ?_
    have e1 : (cur.toList.take (l.length * 1))[j]? = (l.map u8v)[j]? := by rw [ht]
    rw [List.getElem?_take, if_pos (by omega), Array.getElem?_toList] at e1
    rw [e1, List.getElem?_map, List.getElem?_eq_getElem hj']
    show some _ = some _
    congr 1
    show Value.int .u8 _ = Value.int .u8 _
    congr 1
    rw [UInt8.toNat_ofNat_of_lt' (by simpa using hlt)]
theorem Ow.at {base : Nat} {w : World} {v : Value} {l : List Nat} (h : Ow base w v l) (j x : Nat) (hj : l[j]? = some x) : ∃ g cap, v = .slice (some ⟨g, 0, none⟩) l.length cap ∧ w.cell? ⟨g, j, none⟩ = some (.int .u8 (x : Int)) := by
  obtain ⟨h1, h2⟩ := h
  rcases h2 with ⟨rfl, h0⟩ | ⟨g, cap, cur, rfl, hb, hg, hc, hm, hs, ht⟩
  · rw [List.eq_nil_of_length_eq_zero h0] at hj; simp at hj
  · have hj' : j < l.length := (List.getElem?_eq_some_iff.1 hj).1
    refine ⟨g, cap, rfl, bl_cell hg j _ ?_⟩
    have e1 : (cur.toList.take (l.length * 1))[j]? = (l.map u8v)[j]? := by rw [ht]
    rw [List.getElem?_take, if_pos (by omega), Array.getElem?_toList] at e1
    rw [e1, List.getElem?_map, hj]
    rfl
theorem Ow.turn {base : Nat} {w w' : World} {row : Option Nat} {v : Value} {l : List Nat} (h : Ow base w v l) (g : w.grownBy w' row) (hne : ∀ b, v.ownBlock = some b → row ≠ some b) : Ow base w' v l := by
  obtain ⟨h1, h2⟩ := h
  refine ⟨h1, ?_⟩
  rcases h2 with h2 | ⟨gb, cap, cur, hv, hb, hg, hr⟩
  · exact .inl h2
  · exact .inr ⟨gb, cap, cur, hv, hb, (g.block gb (Array.getElem?_eq_some_iff.1 hg).1 (Ne.symm (hne gb (by rw [hv]; rfl)))).trans hg, hr⟩

/-- Two rows don't lie in one block. -/
def Off (u v : Value) : Prop := ∀ b, u.ownBlock = some b → v.ownBlock ≠ some b
/-- A byte put behind: where the new row lies is told too. -/
theorem wpList_append_b {ops : Array Oper} {rest : List Oper} {o : Oper} {a : Act} {Q : Exit → Act → World → Prop} (W : World) (hgd : o.guard = none) (s x : Operand)
    (ho : o.op = .call { callee := .builtin .append, args := #[s, x], argTypes := #[46, 46] })
    (base : Nat) (v : Value) (b : Nat) (l : List Nat) (hs : a.eval s = v) (hown : Hid (Ow base W v l)) (B : Nat) (hB : B = W.heap.size)
    (hx : a.eval x = .slice (some ⟨B, 0, none⟩) 1 1) (h63 : l.length ≤ 900) (hbase : base ≤ W.heap.size)
    (h : ∀ v' w', Ow base w' v' (l ++ [b]) → W.grownBy w' v.ownBlock → (v'.ownBlock = v.ownBlock ∨ v'.ownBlock = some (W.heap.size + 1)) → wpList Tryz.prog ops Q rest (a.put o.dst v') w') :
    wpList Tryz.prog ops Q (o :: rest) a (W.alloc (.cells #[.int .u8 (b : Int)] 5)) := by
  obtain ⟨i, hi, hz, hsz, hby⟩ := info5
  have kal : Kp W (W.alloc (.cells #[.int .u8 (b : Int)] 5)) := (Kp.refl _).alloc _
  subst hB
  refine wpList_append_own_at (W.alloc (.cells #[.int .u8 (b : Int)] 5)) hgd s x 46 ho base 5 i (.int .u8 0) 1 1 Tryz.underlying46 hi hz hsz hby rfl (by omega) v l.length (l.map u8v) hs (hown.out.alloc _) ⟨W.heap.size, 0, none⟩ 1 1 [u8v b] hx rfl ?_ ?_ (by unfold maxLen; omega) (by omega) (by simp; omega) ?_
  · intro j y hj
    match j, hj with
    | 0, hj => simp at hj; subst hj; simp [Addr.add]
  · intro y hy; simp at hy; subst hy; rfl
  · intro v' w' a1 a2 _ a4
    refine h v' w' ?_ ⟨a2.os.trans rfl, a2.tape.trans rfl, a2.output.trans rfl, Nat.le_trans kal.size a2.size, fun k hk hne => (a2.block k (Nat.lt_of_lt_of_le hk kal.size) hne).trans (kal.block k hk)⟩ ?_
    · unfold Ow
      rw [List.length_append, List.map_append]
      exact a1
    · rcases a4 with a4 | a4
      · exact Or.inl a4
      · refine Or.inr (a4.trans ?_)
        simp

/-- In the loop: the four rows. -/
structure Qw (p : Nat → Bool) (base : Nat) (w0 : World) (bv : Value) (k : Nat) (f m c d : Value) (wr : World) : Prop where
  of : Ow base wr f (((lst p 256).take k).filter (· == 93))
  om : Ow base wr m (((lst p 256).take k).filter mid)
  oc : Ow base wr c (((lst p 256).take k).filter (· == 94))
  od : Ow base wr d (((lst p 256).take k).filter (· == 45))
  ob : Ow w0.heap.size wr bv (lst p 256)
  fm : Off f m
  fc : Off f c
  fd : Off f d
  mc : Off m c
  md : Off m d
  cd : Off c d
  kp : Kp w0 wr
end Go.Proofs.YtikmgckefbjbkabGreatDoor

/-! ### Row3 -/

namespace Go.Proofs.YtikmgckefbjbkabGreatDoor
open Go.RowKit

theorem Kp.grownby {a b c : World} {row : Option Nat} (h : Kp a b) (g : b.grownBy c row) (hr : ∀ k, row = some k → a.heap.size ≤ k) : Kp a c :=
  ⟨g.os.trans h.os, g.tape.trans h.tape, g.output.trans h.output, Nat.le_trans h.size g.size, fun x hx => (g.block x (Nat.lt_of_lt_of_le hx h.size) (fun e => by have := hr x e.symm; omega)).trans (h.block x hx)⟩
theorem Ow.lt {base : Nat} {w : World} {v : Value} {l : List Nat} (h : Ow base w v l) : ∀ b, v.ownBlock = some b → base ≤ b ∧ b < w.heap.size := World.ownsRow.lt h
theorem Ow.len {base : Nat} {w : World} {v : Value} {l : List Nat} (h : Ow base w v l) : ∃ ad c, v = .slice ad l.length c := by
  rcases h.2 with ⟨rfl, h0⟩ | ⟨g, cap, cur, rfl, _⟩
  · exact ⟨none, 0, by rw [h0]⟩
  · exact ⟨_, cap, rfl⟩
theorem Off.symm {u v : Value} (h : Off u v) : Off v u := fun b hb he => h b he hb
/-- The new row is off the others. -/
theorem Off.new {u v v' : Value} {base : Nat} {w : World} {l : List Nat} (h : Off v u) (hu : Ow base w u l) (hn : v'.ownBlock = v.ownBlock ∨ v'.ownBlock = some (w.heap.size + 1)) : Off v' u := by
  intro b hb
  rcases hn with hn | hn
  · rw [hn] at hb; exact h b hb
  · rw [hn] at hb
    injection hb with hb
    intro he
    have := (hu.lt b he).2
    omega
theorem filt_yes (q : Nat → Bool) (l : List Nat) (k x : Nat) (hx : l[k]? = some x) (hq : q x = true) : (l.take (k + 1)).filter q = (l.take k).filter q ++ [x] := by
  have hk : k < l.length := (List.getElem?_eq_some_iff.1 hx).1
  rw [List.take_succ_eq_append_getElem hk, List.filter_append, (List.getElem?_eq_some_iff.1 hx).2]
  simp [hq]
theorem filt_no (q : Nat → Bool) (l : List Nat) (k x : Nat) (hx : l[k]? = some x) (hq : q x = false) : (l.take (k + 1)).filter q = (l.take k).filter q := by
  have hk : k < l.length := (List.getElem?_eq_some_iff.1 hx).1
  rw [List.take_succ_eq_append_getElem hk, List.filter_append, (List.getElem?_eq_some_iff.1 hx).2]
  simp [hq]

/-- In the loop: the four rows. -/
structure Qr (p : Nat → Bool) (W1 : World) (k : Nat) (f m c d : Value) (wr : World) : Prop where
  of : Ow W1.heap.size wr f (((lst p 256).take k).filter (· == 93))
  om : Ow W1.heap.size wr m (((lst p 256).take k).filter mid)
  oc : Ow W1.heap.size wr c (((lst p 256).take k).filter (· == 94))
  od : Ow W1.heap.size wr d (((lst p 256).take k).filter (· == 45))
  fm : Off f m
  fc : Off f c
  fd : Off f d
  mc : Off m c
  md : Off m d
  cd : Off c d
  kp : Kp W1 wr
theorem filt_len (q : Nat → Bool) (p : Nat → Bool) (k : Nat) : (((lst p 256).take k).filter q).length ≤ 256 :=
  Nat.le_trans (List.length_filter_le _ _) (Nat.le_trans (by rw [List.length_take]; exact Nat.min_le_right _ _) (lst_len p 256))

set_option maxHeartbeats 2000000 in
set_option maxRecDepth 100000 in
theorem bracketRow_any (p : Nat → Bool) (w : World) : Calls Tryz.prog 53 #[sv p] w fun e w' => e = .returned (.string (bs (rowT p))) ∧ Kp w w' := by
  go_enter Tryz.func53, Tryz.ntmps53
  go_wp2_with fail
  refine (bytes_any p _).mono ?_
  rintro e W1 ⟨bv, rfl, hown, k1⟩
  have K1 : Hid (Kp w W1) := ((Kp.refl _).alloc _).trans k1
  have OB : Hid (Ow 0 W1 bv (lst p 256)) := by
    obtain ⟨_, q2⟩ := hown
    refine ⟨by simp, ?_⟩
    rcases q2 with q2 | ⟨g, cap, cur, q3, q4, q5⟩
    · exact .inl q2
    · exact .inr ⟨g, cap, cur, q3, Nat.zero_le _, q5⟩
  clear hown k1
  obtain ⟨ad, cap, hbv⟩ := OB.out.len
  obtain ⟨L, hL⟩ : ∃ L, (lst p 256).length = L := ⟨_, rfl⟩
  have hL256 : L ≤ 256 := by rw [← hL]; exact lst_len p 256
  have HL := hid hL
  rw [hL] at hbv
  clear hL
  subst hbv
  go_wp2_with fail
  go_loopg [3, 4, 5, 6, 12] L (fun gg f m c d i wr => ∃ k : Nat, k + gg = L ∧ i = .int .i64 (k : Int) ∧ Qr p W1 k f m c d wr)
  case atStart => exact ⟨0, by omega, rfl, World.ownsRow_nil _ _ _ _, World.ownsRow_nil _ _ _ _, World.ownsRow_nil _ _ _ _, World.ownsRow_nil _ _ _ _, (fun b hb => by cases hb), (fun b hb => by cases hb), (fun b hb => by cases hb), (fun b hb => by cases hb), (fun b hb => by cases hb), (fun b hb => by cases hb), Kp.refl _⟩
  case round =>
    obtain ⟨k, hk, rfl, hq⟩ := hrel
    have Q := hid hq
    clear hq
    by_cases hlt : k < L
    · have gkw : IntKind.i64.wrap ((k : Int) + 1) = (k : Int) + 1 := by rw [IntKind.wrap_i64]; omega
      have ga : (k : Int) < (L : Int) := by omega
      have g0 : (0 : Int) ≤ (k : Int) := by omega
      obtain ⟨x, hx⟩ : ∃ x, (lst p 256)[k]? = some x := ⟨_, List.getElem?_eq_getElem (by rw [HL.out]; exact hlt)⟩
      have hx256 : x < 256 := lst_lt p 256 x (List.mem_of_getElem? hx)
      obtain ⟨gb, cap', hbv, hcell⟩ := (OB.out.kp Q.out.kp).at k x hx
      injection hbv with hbv1 hbv2 hbv3
      subst hbv1
      have HX := hid hx
      have hsr := Q.out.kp.size
      clear hx hbv2 hbv3
      by_cases x93 : x = 93
      · subst x93
        rw [show ((93 : Nat) : Int) = 93 from rfl] at hcell
        have OW := hid Q.out.of
        have FL := filt_len (· == 93) p k
        go_wp2_with (at_builtin; go_must (refine wpList_append_b wr (by rfl) _ _ (by rfl) W1.heap.size u3 93 _ (by rfl) OW _ (by rfl) (by rfl) ?h1 ?h2 ?_))
        case h1 => omega
        case h2 => omega
        intro v' w2 ho2 hg2 hat2
        have NX : Hid (Qr p W1 (k + 1) v' u4 u5 u6 w2) := by
          exact ⟨by rw [filt_yes _ _ _ _ HX.out (by rfl)]; exact ho2, by rw [filt_no _ _ _ _ HX.out (by rfl)]; exact Q.out.om.turn hg2 (fun b hb he => Q.out.fm b he hb), by rw [filt_no _ _ _ _ HX.out (by show ((93 : Nat) == 94) = false; rfl)]; exact Q.out.oc.turn hg2 (fun b hb he => Q.out.fc b he hb), by rw [filt_no _ _ _ _ HX.out (by show ((93 : Nat) == 45) = false; rfl)]; exact Q.out.od.turn hg2 (fun b hb he => Q.out.fd b he hb), Q.out.fm.new Q.out.om hat2, Q.out.fc.new Q.out.oc hat2, Q.out.fd.new Q.out.od hat2, Q.out.mc, Q.out.md, Q.out.cd, Q.out.kp.grownby hg2 (fun b hb => (Q.out.of.lt b hb).1)⟩
        clear ho2 hg2 hat2 OW FL
        go_wp2_with fail
        go_roundg (gk - 1)
        case measure => omega
        case rel => exact ⟨k + 1, by omega, by go_num, NX.out⟩
      by_cases x94 : x = 94
      · subst x94
        rw [show ((94 : Nat) : Int) = 94 from rfl] at hcell
        have OW := hid Q.out.oc
        have FL := filt_len (· == 94) p k
        go_wp2_with (at_builtin; go_must (refine wpList_append_b wr (by rfl) _ _ (by rfl) W1.heap.size u5 94 _ (by rfl) OW _ (by rfl) (by rfl) ?h1 ?h2 ?_))
        case h1 => omega
        case h2 => omega
        intro v' w2 ho2 hg2 hat2
        have NX : Hid (Qr p W1 (k + 1) u3 u4 v' u6 w2) := by
          exact ⟨by rw [filt_no _ _ _ _ HX.out (by show ((94 : Nat) == 93) = false; rfl)]; exact Q.out.of.turn hg2 (fun b hb he => Q.out.fc.symm b he hb), by rw [filt_no _ _ _ _ HX.out (by rfl)]; exact Q.out.om.turn hg2 (fun b hb he => Q.out.mc.symm b he hb), by rw [filt_yes _ _ _ _ HX.out (by rfl)]; exact ho2, by rw [filt_no _ _ _ _ HX.out (by show ((94 : Nat) == 45) = false; rfl)]; exact Q.out.od.turn hg2 (fun b hb he => Q.out.cd b he hb), Q.out.fm, (Q.out.fc.symm.new Q.out.of hat2).symm, Q.out.fd, (Q.out.mc.symm.new Q.out.om hat2).symm, Q.out.md, Q.out.cd.new Q.out.od hat2, Q.out.kp.grownby hg2 (fun b hb => (Q.out.oc.lt b hb).1)⟩
        clear ho2 hg2 hat2 OW FL
        go_wp2_with fail
        go_roundg (gk - 1)
        case measure => omega
        case rel => exact ⟨k + 1, by omega, by go_num, NX.out⟩
      by_cases x45 : x = 45
      · subst x45
        rw [show ((45 : Nat) : Int) = 45 from rfl] at hcell
        have OW := hid Q.out.od
        have FL := filt_len (· == 45) p k
        go_wp2_with (at_builtin; go_must (refine wpList_append_b wr (by rfl) _ _ (by rfl) W1.heap.size u6 45 _ (by rfl) OW _ (by rfl) (by rfl) ?h1 ?h2 ?_))
        case h1 => omega
        case h2 => omega
        intro v' w2 ho2 hg2 hat2
        have NX : Hid (Qr p W1 (k + 1) u3 u4 u5 v' w2) := by
          exact ⟨by rw [filt_no _ _ _ _ HX.out (by show ((45 : Nat) == 93) = false; rfl)]; exact Q.out.of.turn hg2 (fun b hb he => Q.out.fd.symm b he hb), by rw [filt_no _ _ _ _ HX.out (by rfl)]; exact Q.out.om.turn hg2 (fun b hb he => Q.out.md.symm b he hb), by rw [filt_no _ _ _ _ HX.out (by show ((45 : Nat) == 94) = false; rfl)]; exact Q.out.oc.turn hg2 (fun b hb he => Q.out.cd.symm b he hb), by rw [filt_yes _ _ _ _ HX.out (by rfl)]; exact ho2, Q.out.fm, Q.out.fc, (Q.out.fd.symm.new Q.out.of hat2).symm, Q.out.mc, (Q.out.md.symm.new Q.out.om hat2).symm, (Q.out.cd.symm.new Q.out.oc hat2).symm, Q.out.kp.grownby hg2 (fun b hb => (Q.out.od.lt b hb).1)⟩
        clear ho2 hg2 hat2 OW FL
        go_wp2_with fail
        go_roundg (gk - 1)
        case measure => omega
        case rel => exact ⟨k + 1, by omega, by go_num, NX.out⟩
      have g93 : ((x : Int) == 93) = false := by simp; omega
      have g94 : ((x : Int) == 94) = false := by simp; omega
      have g45 : ((x : Int) == 45) = false := by simp; omega
      have OW := hid Q.out.om
      have FL := filt_len mid p k
      go_wp2_with (at_builtin; go_must (refine wpList_append_b wr (by rfl) _ _ (by rfl) W1.heap.size u4 x _ (by rfl) OW _ (by rfl) (by rfl) ?h1 ?h2 ?_))
      case h1 => omega
      case h2 => omega
      intro v' w2 ho2 hg2 hat2
      have NX : Hid (Qr p W1 (k + 1) u3 v' u5 u6 w2) := by
        exact ⟨by rw [filt_no _ _ _ _ HX.out (by show (x == 93) = false; simp; omega)]; exact Q.out.of.turn hg2 (fun b hb he => Q.out.fm.symm b he hb), by rw [filt_yes _ _ _ _ HX.out (by show (!(x == 93) && !(x == 94) && !(x == 45)) = true; simp; omega)]; exact ho2, by rw [filt_no _ _ _ _ HX.out (by show (x == 94) = false; simp; omega)]; exact Q.out.oc.turn hg2 (fun b hb he => Q.out.mc b he hb), by rw [filt_no _ _ _ _ HX.out (by show (x == 45) = false; simp; omega)]; exact Q.out.od.turn hg2 (fun b hb he => Q.out.md b he hb), (Q.out.fm.symm.new Q.out.of hat2).symm, Q.out.fc, Q.out.fd, Q.out.mc.new Q.out.oc hat2, Q.out.md.new Q.out.od hat2, Q.out.cd, Q.out.kp.grownby hg2 (fun b hb => (Q.out.om.lt b hb).1)⟩
      clear ho2 hg2 hat2 OW FL
      go_wp2_with fail
      go_roundg (gk - 1)
      case measure => omega
      case rel => exact ⟨k + 1, by omega, by go_num, NX.out⟩
    · have ga : ¬ (k : Int) < (L : Int) := by omega
      have hkL : k = L := by omega
      have tk : (lst p 256).take k = lst p 256 := List.take_of_length_le (by rw [HL.out]; omega)
      have all : ∀ (q : Nat → Bool), ∀ y ∈ ((lst p 256).take k).filter q, y < 256 := fun q y hy => lst_lt p 256 y (List.mem_of_mem_take (List.mem_filter.1 hy).1)
      have c1 := Q.out.of.conv (all _)
      have c2 := Q.out.om.conv (all _)
      have c3 := Q.out.oc.conv (all _)
      have c4 := Q.out.od.conv (all _)
      have z : ∀ (q : Nat → Bool), (bs (u8s (((lst p 256).take k).filter q))).size ≤ 256 := fun q => by rw [bs_size]; unfold u8s; rw [List.length_map]; exact filt_len q p k
      have z1 := z (· == 93)
      have z2 := z mid
      have z3 := z (· == 94)
      have z4 := z (· == 45)
      have E0 : Hid (bs (rowT p) = bs (u8s (((lst p 256).take k).filter (· == 93))) ++ bs (u8s (((lst p 256).take k).filter mid)) ++ bs (u8s (((lst p 256).take k).filter (· == 94))) ++ bs (u8s (((lst p 256).take k).filter (· == 45)))) := by
        show _ = _
        rw [tk, bs_app, bs_app, bs_app]
        rfl
      clear all z tk
      obtain ⟨F, hF⟩ : ∃ F, bs (u8s (((lst p 256).take k).filter (· == 93))) = F := ⟨_, rfl⟩
      obtain ⟨M, hM⟩ : ∃ F, bs (u8s (((lst p 256).take k).filter mid)) = F := ⟨_, rfl⟩
      obtain ⟨C, hC⟩ : ∃ F, bs (u8s (((lst p 256).take k).filter (· == 94))) = F := ⟨_, rfl⟩
      obtain ⟨D, hD⟩ : ∃ F, bs (u8s (((lst p 256).take k).filter (· == 45))) = F := ⟨_, rfl⟩
      rw [hF, hM, hC, hD] at E0
      rw [hF] at c1 z1
      rw [hM] at c2 z2
      rw [hC] at c3 z3
      rw [hD] at c4 z4
      have K2 := hid (K1.out.trans Q.out.kp)
      clear hF hM hC hD hkL
      go_wp2
      go_ret
      exact ⟨by rw [E0.out]; rfl, K2.out⟩
end Go.Proofs.YtikmgckefbjbkabGreatDoor

/-! ### Text2 -/

namespace Go.Proofs.YtikmgckefbjbkabGreatDoor
open Go.RowKit

def setRow (p : Nat → Bool) : List UInt8 := if rowT p = [94, 45] then [45, 94] else rowT p
def setT (p : Nat → Bool) (ere : Bool) : List UInt8 :=
  match lst p 256 with
  | [x] => byteT x ere
  | _ => if cnt (notB p) 256 = 0 then [46] else if cnt p 256 > 128 then [91, 94] ++ rowT (notB p) ++ [93] else [91] ++ setRow p ++ [93]
theorem rowT_len (p : Nat → Bool) : (rowT p).length ≤ 1024 := by
  have h := lst_len p 256
  unfold rowT u8s
  simp only [List.length_append, List.length_map]
  have a := List.length_filter_le (· == 93) (lst p 256)
  have b := List.length_filter_le mid (lst p 256)
  have c := List.length_filter_le (· == 94) (lst p 256)
  have d := List.length_filter_le (· == 45) (lst p 256)
  omega
theorem setT_many (p : Nat → Bool) (ere : Bool) (h : cnt p 256 ≠ 1) : setT p ere = if cnt (notB p) 256 = 0 then [46] else if cnt p 256 > 128 then [91, 94] ++ rowT (notB p) ++ [93] else [91] ++ setRow p ++ [93] := by
  unfold setT
  split
  · rename_i x hx
    rw [← lst_length, hx] at h
    exact absurd rfl h
  · rfl
theorem setT_one (p : Nat → Bool) (ere : Bool) (x : Nat) (h : lst p 256 = [x]) : setT p ere = byteT x ere := by unfold setT; rw [h]

set_option maxHeartbeats 2000000 in
set_option maxRecDepth 100000 in
theorem setText_any (p : Nat → Bool) (ere : Bool) (w : World) : Calls Tryz.prog 34 #[sv p, .bool ere] w fun e w' => e = .returned (.string (bs (setT p ere))) ∧ Kp w w' := by
  by_cases h1 : cnt p 256 = 1
  · obtain ⟨x, hx⟩ : ∃ x, lst p 256 = [x] := List.length_eq_one_iff.1 (by rw [lst_length]; exact h1)
    have hx256 : x < 256 := lst_lt p 256 x (by rw [hx]; simp)
    have OY := hid (only_yes p x hx)
    have E : Hid (setT p ere = byteT x ere) := setT_one p ere x hx
    clear hx
    go_enter Tryz.func34, Tryz.ntmps34
    go_wp2_with fail
    refine (OY.out _).mono ?_
    rintro e W1 ⟨rfl, k1⟩
    have K1 : Hid (Kp w W1) := ((Kp.refl _).alloc _).trans k1
    clear k1
    go_wp2_with fail
    refine (byteText_any x hx256 ere _).mono ?_
    rintro e W2 ⟨rfl, k2⟩
    have K2 := hid (K1.out.trans k2)
    clear k2
    go_wp2_with fail
    go_ret
    exact ⟨by rw [E.out]; rfl, K2.out⟩
  have ON := hid (only_no p h1)
  have E0 := hid (setT_many p ere h1)
  go_enter Tryz.func34, Tryz.ntmps34
  go_upto_region 1 with fail
  refine opq (fun W0 => At W0 w.heap.size p ∧ Kp w W0) ⟨by exact At.new _ _, by exact (by repeat (first | exact Kp.refl _ | refine Kp.alloc ?_ _ | refine Kp.drew ?_ | refine Kp.drewN _ ?_))⟩ ?_
  rintro W0 ⟨xA0, xK0⟩
  have A0 : Hid (At W0 w.heap.size p) := xA0
  have K0 : Hid (Kp w W0) := xK0
  clear xA0 xK0
  obtain ⟨x0, x1, x2, x3⟩ := A0.out.cells
  go_wp2_with fail
  refine (ON.out _).mono ?_
  rintro e W1 ⟨rfl, k1⟩
  have A1 := hid (A0.out.kp k1)
  have K1 := hid (K0.out.trans k1)
  clear k1 x0 x1 x2 x3 A0 K0
  obtain ⟨x0, x1, x2, x3⟩ := A1.out.cells
  go_wp2_with fail
  refine (not_any p _).mono ?_
  rintro e W2 ⟨rfl, k2⟩
  have A2 := hid (A1.out.kp k2)
  have K2 := hid (K1.out.trans k2)
  clear k2 x0 x1 x2 x3 A1 K1
  go_upto_region 5 with fail
  refine opq (fun W3 => At W3 w.heap.size p ∧ At W3 W2.heap.size (notB p) ∧ Kp w W3) ⟨by exact A2.out.kp (by repeat (first | exact Kp.refl _ | refine Kp.alloc ?_ _ | refine Kp.drew ?_ | refine Kp.drewN _ ?_)), by exact At.new _ _, by exact K2.out.trans (by repeat (first | exact Kp.refl _ | refine Kp.alloc ?_ _ | refine Kp.drew ?_ | refine Kp.drewN _ ?_))⟩ ?_
  rintro W3 ⟨xA3, xN3, xK3⟩
  have A3 : Hid (At W3 w.heap.size p) := xA3
  have N3 : Hid (At W3 W2.heap.size (notB p)) := xN3
  have K3 : Hid (Kp w W3) := xK3
  clear xA3 xN3 xK3
  clear A2 K2
  obtain ⟨y0, y1, y2, y3⟩ := N3.out.cells
  go_wp2_with fail
  refine (count_any (notB p) _).mono ?_
  rintro e W4 ⟨rfl, k4⟩
  have A4 := hid (A3.out.kp k4)
  have N4 := hid (N3.out.kp k4)
  have K4 := hid (K3.out.trans k4)
  clear k4 y0 y1 y2 y3 A3 N3 K3
  by_cases hn : cnt (notB p) 256 = 0
  · have g0 : ((cnt (notB p) 256 : Int) == 0) = true := by simp; omega
    have g0' : (cnt (notB p) 256 : Int) = 0 := by omega
    have E : Hid (setT p ere = [46]) := by show _ = _; rw [E0.out, if_pos hn]
    clear hn
    go_wp2_with fail
    go_ret
    exact ⟨by rw [E.out]; rfl, K4.out⟩
  have g0 : ((cnt (notB p) 256 : Int) == 0) = false := by simp; omega
  have g0' : ¬ (cnt (notB p) 256 : Int) = 0 := by omega
  obtain ⟨x0, x1, x2, x3⟩ := A4.out.cells
  go_wp2_with fail
  refine (count_any p _).mono ?_
  rintro e W5 ⟨rfl, k5⟩
  have A5 := hid (A4.out.kp k5)
  have N5 := hid (N4.out.kp k5)
  have K5 := hid (K4.out.trans k5)
  clear k5 x0 x1 x2 x3 A4 N4 K4
  by_cases hc : cnt p 256 > 128
  · have gc : (128 : Int) < (cnt p 256 : Int) := by omega
    have hz : (bs (rowT (notB p))).size ≤ 1024 := by rw [bs_size]; exact rowT_len _
    have E : Hid (bs (setT p ere) = bs [91, 94] ++ bs (rowT (notB p)) ++ bs [93]) := by show _ = _; rw [E0.out, if_neg hn, if_pos hc, bs_app, bs_app]
    obtain ⟨T, hT⟩ : ∃ T, bs (rowT (notB p)) = T := ⟨_, rfl⟩
    have HT := hid hT
    rw [hT] at hz E
    clear hT hc hn
    obtain ⟨y0, y1, y2, y3⟩ := N5.out.cells
    go_wp2_with fail
    refine (bracketRow_any (notB p) _).mono ?_
    rintro e W6 ⟨rfl, k6⟩
    rw [HT.out]
    have K6 := hid (K5.out.trans k6)
    clear k6 y0 y1 y2 y3
    go_wp2_with fail
    go_ret
    exact ⟨by rw [E.out]; rfl, K6.out⟩
  have gc : ¬ (128 : Int) < (cnt p 256 : Int) := by omega
  have E1 : Hid (setT p ere = [91] ++ setRow p ++ [93]) := by show _ = _; rw [E0.out, if_neg hn, if_neg hc]
  have hz : (bs (rowT p)).size ≤ 1024 := by rw [bs_size]; exact rowT_len _
  have tl : (bs (rowT p)).toList = rowT p := bs_toList _
  obtain ⟨T, hT⟩ : ∃ T, bs (rowT p) = T := ⟨_, rfl⟩
  have HT := hid hT
  rw [hT] at hz tl
  have TL := hid tl
  clear hT tl hc hn
  obtain ⟨x0, x1, x2, x3⟩ := A5.out.cells
  go_wp2_with fail
  refine (bracketRow_any p _).mono ?_
  rintro e W6 ⟨rfl, k6⟩
  rw [HT.out]
  have K6 := hid (K5.out.trans k6)
  clear k6 x0 x1 x2 x3
  by_cases hr : rowT p = [94, 45]
  · have gt : (T.toList == [94, 45]) = true := by rw [TL.out, hr]; rfl
    have gt' : T.toList = [94, 45] := by rw [TL.out, hr]
    have E : Hid (setT p ere = [91, 45, 94, 93]) := by show _ = _; rw [E1.out]; unfold setRow; rw [if_pos hr]; rfl
    clear hr
    go_wp2_with fail
    go_ret
    exact ⟨by rw [E.out]; rfl, K6.out⟩
  · have gt : (T.toList == [94, 45]) = false := by rw [TL.out]; simpa using hr
    have gt' : ¬ T.toList = [94, 45] := by rw [TL.out]; exact hr
    have E : Hid (bs (setT p ere) = bs [91] ++ T ++ bs [93]) := by show _ = _; rw [E1.out, ← HT.out]; unfold setRow; rw [if_neg hr, bs_app, bs_app]
    clear hr
    go_wp2_with fail
    go_ret
    exact ⟨by rw [E.out]; rfl, K6.out⟩
end Go.Proofs.YtikmgckefbjbkabGreatDoor

/-! ### Same -/

namespace Go.Proofs.YtikmgckefbjbkabGreatDoor
open Go.RowKit

mutual
def sameR : Rx → Rx → Bool
  | .mk k mn mx n s ks, .mk k' mn' mx' n' s' ks' => k == k' && mn == mn' && mx == mx' && n == n' && s == s' && sameL ks ks'
def sameL : List Rx → List Rx → Bool
  | [], [] => true
  | a :: xs, b :: ys => sameR a b && sameL xs ys
  | _, _ => false
end

theorem cells_of_is {w : World} {b o : Nat} {k mn mx m : Int} {t : W4} {ad : Option Addr} {l c : Nat} (h : CellsAt w b o (rxv k mn mx m t (.slice ad l c))) : w.cell? ⟨b, o, none⟩ = some (.int .i64 k) ∧ w.cell? ⟨b, o + 1, none⟩ = some (.int .i64 mn) ∧ w.cell? ⟨b, o + 2, none⟩ = some (.int .i64 mx) ∧ w.cell? ⟨b, o + 3, none⟩ = some (.int .i64 m) ∧ w.cell? ⟨b, o + 4, none⟩ = some (.int .u64 (t.a : Int)) ∧ w.cell? ⟨b, o + 5, none⟩ = some (.int .u64 (t.b : Int)) ∧ w.cell? ⟨b, o + 6, none⟩ = some (.int .u64 (t.c : Int)) ∧ w.cell? ⟨b, o + 7, none⟩ = some (.int .u64 (t.d : Int)) ∧ w.cell? ⟨b, o + 8, none⟩ = some (.slice ad l c) :=
  ⟨h 0 _ rfl, h 1 _ rfl, h 2 _ rfl, h 3 _ rfl, h 4 _ rfl, h 5 _ rfl, h 6 _ rfl, h 7 _ rfl, h 8 _ rfl⟩

theorem eq_vv (a b c d a' b' c' d' : Int) (w : World) :
    (Op.equalIn 10000 26 (.agg #[.int .u64 a, .int .u64 b, .int .u64 c, .int .u64 d]) (.agg #[.int .u64 a', .int .u64 b', .int .u64 c', .int .u64 d'])).run Tryz.prog w = .ok (a == a' && (b == b' && (c == c' && d == d'))) w := by
  have u3 := Tryz.underlying24
  have a3 := Tryz.isAgg24
  have z3 := Tryz.sizeOf24
  rw [show (10000 : Nat) = 9999 + 1 from rfl, Op.equalIn]
  simp only [Sem.run_bind, run_underlying Tryz.underlying26, Result.andThen_ok]
  simp only [Std.Legacy.Range.forIn_eq_forIn_range', Std.Legacy.Range.size, Nat.sub_zero, Nat.add_sub_cancel, Nat.div_one, List.range'_succ, List.range'_zero, List.forIn_cons, List.forIn_nil]
  go_simp
  by_cases h1 : a = a' <;> by_cases h2 : b = b' <;> by_cases h3 : c = c' <;> by_cases h4 : d = d' <;> simp [h1, h2, h3, h4]
theorem w4_eq (t u : W4) : (t == u) = (((t.a : Int) == (u.a : Int)) && (((t.b : Int) == (u.b : Int)) && (((t.c : Int) == (u.c : Int)) && ((t.d : Int) == (u.d : Int))))) := by
  cases t with
  | mk a b c d =>
    cases u with
    | mk a' b' c' d' =>
      rw [Bool.eq_iff_iff]
      simp
      omega

structure SameSaid (a : Rx) : Prop where
  all : ∀ (b : Rx) (va vb : Value) (w : World) (ok ok' : Nat → Prop), Is w ok a va → Is w ok' b vb → Calls Tryz.prog 17 #[va, vb] w fun e w' => e = .returned (.bool (sameR a b)) ∧ Kp w w'

/-- The row of a tree's kids, as it lies. -/
structure RowAt (w : World) (ok : Nat → Prop) (ts : List Rx) (ad : Option Addr) (l c : Nat) : Prop where
  ln : l = ts.length
  cp : l ≤ c
  ex : ts ≠ [] → ∃ b o, ad = some ⟨b, o, none⟩ ∧ ok b ∧ b < w.heap.size ∧ IsL w ok ts b o
theorem RowAt.kp {w w' : World} {ok : Nat → Prop} {ts : List Rx} {ad : Option Addr} {l c : Nat} (h : RowAt w ok ts ad l c) (k : Kp w w') : RowAt w' ok ts ad l c :=
  ⟨h.ln, h.cp, fun hn => by
    obtain ⟨b, o, h1, h2, h3, h4⟩ := h.ex hn
    exact ⟨b, o, h1, h2, Nat.lt_of_lt_of_le h3 k.size, IsL.turn k.size (fun b hb hl => ⟨hb, k.block b hl⟩) ts b o (k.block b h3) h4⟩⟩
theorem Is.row {w : World} {ok : Nat → Prop} {k mn mx n : Int} {s : W4} {kids : List Rx} {v : Value} (h : Is w ok (.mk k mn mx n s kids) v) : ∃ ad l c, v = rxv k mn mx n s (.slice ad l c) ∧ RowAt w ok kids ad l c := by
  unfold Is at h
  obtain ⟨ad, l, c, h1, h2, h3, h4⟩ := h
  exact ⟨ad, l, c, h1, h2, h3, h4⟩
theorem RowAt.at {w : World} {ok : Nat → Prop} {ts : List Rx} {ad : Option Addr} {l c : Nat} (h : RowAt w ok ts ad l c) (j : Nat) (t : Rx) (hj : ts[j]? = some t) : ∃ b o k mn mx m s ad' l' c', ad = some ⟨b, o, none⟩ ∧ b < w.heap.size ∧ Is w ok t (rxv k mn mx m s (.slice ad' l' c')) ∧ CellsAt w b (o + j * 9) (rxv k mn mx m s (.slice ad' l' c')) := by
  obtain ⟨b, o, h1, h2, h3, h4⟩ := h.ex (by intro hn; rw [hn] at hj; simp at hj)
  obtain ⟨v, hi, hc⟩ := h4.get j t hj
  rw [Nat.mul_comm] at hc
  obtain ⟨k, mn, mx, m, s, ad', l', c', rfl⟩ := hi.form
  exact ⟨b, o, k, mn, mx, m, s, ad', l', c', h1, h3, hi, hc⟩

theorem sameL_len : ∀ (xs ys : List Rx), xs.length ≠ ys.length → sameL xs ys = false
  | [], [], h => absurd rfl h
  | [], _ :: _, _ => by simp [sameL]
  | _ :: _, [], _ => by simp [sameL]
  | a :: xs, b :: ys, h => by
    rw [sameL, sameL_len xs ys (by simpa using h), Bool.and_false]
theorem sameL_all : ∀ (xs ys : List Rx), xs.length = ys.length → (∀ (j : Nat) a b, xs[j]? = some a → ys[j]? = some b → sameR a b = true) → sameL xs ys = true
  | [], [], _, _ => by simp [sameL]
  | [], _ :: _, h, _ => by simp at h
  | _ :: _, [], h, _ => by simp at h
  | a :: xs, b :: ys, h, hs => by
    rw [sameL, hs 0 a b rfl rfl, sameL_all xs ys (by simpa using h) (fun j c d hc hd => hs (j + 1) c d (by simpa using hc) (by simpa using hd))]
    rfl
theorem sameL_not : ∀ (xs ys : List Rx) (j : Nat) (a b : Rx), xs[j]? = some a → ys[j]? = some b → sameR a b = false → sameL xs ys = false
  | [], _, j, a, b, h, _, _ => by simp at h
  | _ :: _, [], j, a, b, _, h, _ => by simp at h
  | x :: xs, y :: ys, 0, a, b, h1, h2, h => by
    simp at h1 h2
    subst h1; subst h2
    rw [sameL, h, Bool.false_and]
  | x :: xs, y :: ys, j + 1, a, b, h1, h2, h => by
    rw [sameL, sameL_not xs ys j a b (by simpa using h1) (by simpa using h2) h, Bool.and_false]

set_option maxHeartbeats 2000000 in
set_option maxRecDepth 100000 in
theorem equal_any (xs ys : List Rx) (H : ∀ a, a ∈ xs → SameSaid a) (ok ok' : Nat → Prop) (ad ad' : Option Addr) (l c l' c' : Nat) (w : World) (h1 : RowAt w ok xs ad l c) (h2 : RowAt w ok' ys ad' l' c') (hl : xs.length ≤ 1000000) :
    Calls Tryz.prog 24 #[.slice ad l c, .slice ad' l' c', .func (.func 17) #[] #[]] w fun e w' => e = .returned (.bool (sameL xs ys)) ∧ Kp w w' := by
  have e1 := h1.ln
  have e2 := h2.ln
  subst e1
  subst e2
  have hlc := h1.cp
  have hlc' := h2.cp
  have R1 := hid h1
  have R2 := hid h2
  have HH := hid H
  clear h1 h2 H
  by_cases hne : xs.length = ys.length
  · obtain ⟨L, hL1⟩ : ∃ L, xs.length = L := ⟨_, rfl⟩
    have hL2 : ys.length = L := hne.symm.trans hL1
    rw [hL1] at R1 hlc hl ⊢
    rw [hL2] at R2 hlc' ⊢
    have HL1 := hid hL1
    have HL2 := hid hL2
    have HNE := hid hne
    clear hL1 hL2 hne
    go_enter Tryz.func24, Tryz.ntmps24
    go_wp2_with fail
    go_loopg [17] L (fun gg v wr => ∃ k : Nat, k + gg = L ∧ v = .int .i64 (k : Int) ∧ (∀ (j : Nat) a b, j < k → xs[j]? = some a → ys[j]? = some b → sameR a b = true) ∧ Kp w wr)
    case atStart => exact ⟨0, by omega, rfl, fun j a b hj => absurd hj (by omega), Kp.refl _⟩
    case round =>
      obtain ⟨k, hk, rfl, hall, hK⟩ := hrel
      have HA := hid hall
      have K0 := hid hK
      clear hall hK
      by_cases hlt : k < L
      · have gkw : IntKind.i64.wrap ((k : Int) + 1) = (k : Int) + 1 := by rw [IntKind.wrap_i64]; omega
        have ga : (k : Int) < (L : Int) := by omega
        have g0 : (0 : Int) ≤ (k : Int) := by omega
        obtain ⟨a, ha⟩ : ∃ a, xs[k]? = some a := ⟨_, List.getElem?_eq_getElem (by rw [HL1.out]; exact hlt)⟩
        obtain ⟨b, hb⟩ : ∃ b, ys[k]? = some b := ⟨_, List.getElem?_eq_getElem (by rw [HL2.out]; exact hlt)⟩
        obtain ⟨bb1, o1, k1, mn1, mx1, m1, s1, ad1, l1, c1, e1, hb1, i1, ce1⟩ := (R1.out.kp K0.out).at k a ha
        obtain ⟨bb2, o2, k2, mn2, mx2, m2, s2, ad2, l2, c2, e2, hb2, i2, ce2⟩ := (R2.out.kp K0.out).at k b hb
        subst e1
        subst e2
        have SA := hid ((HH.out a (List.mem_of_getElem? ha)).all b (rxv k1 mn1 mx1 m1 s1 (.slice ad1 l1 c1)) (rxv k2 mn2 mx2 m2 s2 (.slice ad2 l2 c2)))
        have HXA := hid ha
        have HXB := hid hb
        have I1 := hid i1
        have I2 := hid i2
        have CE1 := hid ce1
        have CE2 := hid ce2
        clear ha hb i1 i2 ce1 ce2
        obtain ⟨x0, x1, x2, x3, x4, x5, x6, x7, x8⟩ := cells_of_is CE1.out
        go_upto_region 6 with fail
        clear x0 x1 x2 x3 x4 x5 x6 x7 x8
        refine opq (fun W => W.heap[wr.heap.size]? = some (rxo k1 mn1 mx1 m1 s1 (.slice ad1 l1 c1)) ∧ Kp wr W) ⟨by exact last_at _ _ _ (by simp), by exact (Kp.refl _).alloc _⟩ ?_
        rintro W1 ⟨y1, y2⟩
        have A1 := hid y1
        have K1 := hid y2
        clear y1 y2
        have CE3 := hid (CE2.out.turn (K1.out.block _ hb2))
        obtain ⟨x0, x1, x2, x3, x4, x5, x6, x7, x8⟩ := cells_of_is CE3.out
        go_upto_region 7 with fail
        clear x0 x1 x2 x3 x4 x5 x6 x7 x8
        refine opq (fun W => W.heap[wr.heap.size]? = some (rxo k1 mn1 mx1 m1 s1 (.slice ad1 l1 c1)) ∧ W.heap[W1.heap.size]? = some (rxo k2 mn2 mx2 m2 s2 (.slice ad2 l2 c2)) ∧ Kp wr W) ⟨by exact bl_alloc A1.out _, by exact last_at _ _ _ (by simp), by exact K1.out.alloc _⟩ ?_
        rintro W2 ⟨y1, y2, y3⟩
        have A2 := hid y1
        have B2 := hid y2
        have K2 := hid y3
        clear y1 y2 y3 A1 K1 CE1 CE2 CE3
        have a0 := bl_cell (A2.out) 0 _ rfl
        have a1 := bl_cell (A2.out) 1 _ rfl
        have a2 := bl_cell (A2.out) 2 _ rfl
        have a3 := bl_cell (A2.out) 3 _ rfl
        have a4 := bl_cell (A2.out) 4 _ rfl
        have a5 := bl_cell (A2.out) 5 _ rfl
        have a6 := bl_cell (A2.out) 6 _ rfl
        have a7 := bl_cell (A2.out) 7 _ rfl
        have a8 := bl_cell (A2.out) 8 _ rfl
        have b0 := bl_cell (B2.out) 0 _ rfl
        have b1 := bl_cell (B2.out) 1 _ rfl
        have b2 := bl_cell (B2.out) 2 _ rfl
        have b3 := bl_cell (B2.out) 3 _ rfl
        have b4 := bl_cell (B2.out) 4 _ rfl
        have b5 := bl_cell (B2.out) 5 _ rfl
        have b6 := bl_cell (B2.out) 6 _ rfl
        have b7 := bl_cell (B2.out) 7 _ rfl
        have b8 := bl_cell (B2.out) 8 _ rfl
        go_wp2_with fail
        clear a0 a1 a2 a3 a4 a5 a6 a7 a8 b0 b1 b2 b3 b4 b5 b6 b7 b8
        refine (SA.out _ ok ok' (I1.out.kp K2.out) (I2.out.kp K2.out)).mono ?_
        rintro e W3 ⟨rfl, k3⟩
        have K3 := hid (K0.out.trans (K2.out.trans k3))
        clear k3
        cases hsm : sameR a b with
        | false =>
          have E : Hid (sameL xs ys = false) := sameL_not xs ys k a b HXA.out HXB.out hsm
          clear hsm
          go_wp2_with fail
          go_ret
          exact ⟨ret_bool E.out.symm, K3.out⟩
        | true =>
          have NX : Hid (∀ (j : Nat) a b, j < k + 1 → xs[j]? = some a → ys[j]? = some b → sameR a b = true) := by
            intro j a' b' hj h1 h2
            by_cases hjk : j < k
            · exact HA.out j a' b' hjk h1 h2
            · obtain rfl : j = k := by omega
              have e1 := HXA.out.symm.trans h1
              have e2 := HXB.out.symm.trans h2
              injection e1 with e1
              injection e2 with e2
              subst e1
              subst e2
              exact hsm
          clear hsm
          go_wp2_with fail
          go_roundg (gk - 1)
          case measure => omega
          case rel => exact ⟨k + 1, by omega, by go_num, NX.out, K3.out⟩
      · have ga : ¬ (k : Int) < (L : Int) := by omega
        have E : Hid (sameL xs ys = true) := sameL_all xs ys HNE.out (fun j a b h1 h2 => HA.out j a b (by have := (List.getElem?_eq_some_iff.1 h1).1; rw [HL1.out] at this; omega) h1 h2)
        go_wp2
        go_ret
        exact ⟨ret_bool E.out.symm, K0.out⟩
  · have gn : ((xs.length : Int) != (ys.length : Int)) = true := by simp; omega
    have E : Hid (sameL xs ys = false) := sameL_len xs ys hne
    go_enter Tryz.func24, Tryz.ntmps24
    go_wp2
    go_ret
    exact ⟨ret_bool E.out.symm, Kp.refl _⟩

set_option maxHeartbeats 2000000 in
set_option maxRecDepth 100000 in
theorem same_step (k mn mx n : Int) (s : W4) (kids : List Rx) (H : ∀ a, a ∈ kids → SameSaid a) (hl : kids.length ≤ 1000000) : SameSaid (.mk k mn mx n s kids) := by
  refine ⟨fun b va vb w ok ok' hia hib => ?_⟩
  cases b with
  | mk k' mn' mx' n' s' kids' =>
    obtain ⟨ad, l, c, rfl, ra⟩ := hia.row
    obtain ⟨ad', l', c', rfl, rb⟩ := hib.row
    have RA := hid ra
    have RB := hid rb
    have HH := hid H
    clear ra rb hia hib H
    have e0 : Hid (sameR (.mk k mn mx n s kids) (.mk k' mn' mx' n' s' kids') = (k == k' && mn == mn' && mx == mx' && n == n' && s == s' && sameL kids kids')) := by show _ = _; rw [sameR]
    have es : ∀ w, (Op.equalIn 10000 26 (.agg #[.int .u64 (s.a : Int), .int .u64 (s.b : Int), .int .u64 (s.c : Int), .int .u64 (s.d : Int)]) (.agg #[.int .u64 (s'.a : Int), .int .u64 (s'.b : Int), .int .u64 (s'.c : Int), .int .u64 (s'.d : Int)])).run Tryz.prog w = .ok (s == s') w := fun w => by rw [eq_vv, w4_eq]
    obtain ⟨q5, hq5⟩ : ∃ q, (s == s') = q := ⟨_, rfl⟩
    rw [hq5] at es e0
    clear hq5
    go_enter Tryz.func17, Tryz.ntmps17
    go_upto_region 1 with fail
    refine opq (fun W => W.heap[w.heap.size]? = some (rxo k mn mx n s (.slice ad l c)) ∧ W.heap[w.heap.size + 1]? = some (rxo k' mn' mx' n' s' (.slice ad' l' c')) ∧ Kp w W) ⟨by exact bl_alloc (last_of _ _) _, by exact last_at _ _ _ (by simp), by exact ((Kp.refl _).alloc _).alloc _⟩ ?_
    rintro W0 ⟨y1, y2, y3⟩
    have A := hid y1
    have B := hid y2
    have K := hid y3
    clear y1 y2 y3
    have a0 := bl_cell (A.out) 0 _ rfl
    have a1 := bl_cell (A.out) 1 _ rfl
    have a2 := bl_cell (A.out) 2 _ rfl
    have a3 := bl_cell (A.out) 3 _ rfl
    have a4 := bl_cell (A.out) 4 _ rfl
    have a5 := bl_cell (A.out) 5 _ rfl
    have a6 := bl_cell (A.out) 6 _ rfl
    have a7 := bl_cell (A.out) 7 _ rfl
    have a8 := bl_cell (A.out) 8 _ rfl
    have b0 := bl_cell (B.out) 0 _ rfl
    have b1 := bl_cell (B.out) 1 _ rfl
    have b2 := bl_cell (B.out) 2 _ rfl
    have b3 := bl_cell (B.out) 3 _ rfl
    have b4 := bl_cell (B.out) 4 _ rfl
    have b5 := bl_cell (B.out) 5 _ rfl
    have b6 := bl_cell (B.out) 6 _ rfl
    have b7 := bl_cell (B.out) 7 _ rfl
    have b8 := bl_cell (B.out) 8 _ rfl
    cases h1 : (k == k') with
    | false =>
      have E : Hid (sameR (.mk k mn mx n s kids) (.mk k' mn' mx' n' s' kids') = false) := by show _ = _; rw [e0.out]; simp [h1]
      go_wp2
      go_ret
      exact ⟨ret_bool E.out.symm, K.out⟩
    | true =>
    cases h2 : (mn == mn') with
    | false =>
      have E : Hid (sameR (.mk k mn mx n s kids) (.mk k' mn' mx' n' s' kids') = false) := by show _ = _; rw [e0.out]; simp [h2]
      go_wp2
      go_ret
      exact ⟨ret_bool E.out.symm, K.out⟩
    | true =>
    cases h3 : (mx == mx') with
    | false =>
      have E : Hid (sameR (.mk k mn mx n s kids) (.mk k' mn' mx' n' s' kids') = false) := by show _ = _; rw [e0.out]; simp [h3]
      go_wp2
      go_ret
      exact ⟨ret_bool E.out.symm, K.out⟩
    | true =>
    cases h4 : (n == n') with
    | false =>
      have E : Hid (sameR (.mk k mn mx n s kids) (.mk k' mn' mx' n' s' kids') = false) := by show _ = _; rw [e0.out]; simp [h4]
      go_wp2
      go_ret
      exact ⟨ret_bool E.out.symm, K.out⟩
    | true =>
    cases q5 with
    | false =>
      have E : Hid (sameR (.mk k mn mx n s kids) (.mk k' mn' mx' n' s' kids') = false) := by show _ = _; rw [e0.out]; simp
      go_wp2
      go_ret
      exact ⟨ret_bool E.out.symm, K.out⟩
    | true =>
    have E : Hid (sameR (.mk k mn mx n s kids) (.mk k' mn' mx' n' s' kids') = sameL kids kids') := by show _ = _; rw [e0.out]; simp [h1, h2, h3, h4]
    go_wp2_with fail
    refine (equal_any kids kids' HH.out ok ok' ad ad' l c l' c' _ (RA.out.kp K.out) (RB.out.kp K.out) hl).mono ?_
    rintro e W1 ⟨rfl, k1⟩
    have K1 := hid (K.out.trans k1)
    clear k1
    go_wp2_with fail
    go_ret
    exact ⟨ret_bool E.out.symm, K1.out⟩

/-- No row of kids is longer than that. -/
def RxFit : Rx → Prop
  | .mk _ _ _ _ _ kids => kids.length ≤ 1000000 ∧ ∀ a, a ∈ kids → RxFit a
termination_by r => SizeOf.sizeOf r
decreasing_by
  have := List.sizeOf_lt_of_mem (by assumption)
  simp
  omega
theorem same_all : ∀ a, RxFit a → SameSaid a
  | .mk k mn mx n s kids, h => by
    unfold RxFit at h
    exact same_step k mn mx n s kids (fun a ha => same_all a (h.2 a ha)) h.1
termination_by a => SizeOf.sizeOf a
decreasing_by
  have := List.sizeOf_lt_of_mem ha
  simp
  omega
theorem same_any (a b : Rx) (va vb : Value) (w : World) (ok ok' : Nat → Prop) (hf : RxFit a) (ha : Is w ok a va) (hb : Is w ok' b vb) : Calls Tryz.prog 17 #[va, vb] w fun e w' => e = .returned (.bool (sameR a b)) ∧ Kp w w' := (same_all a hf).all b va vb w ok ok' ha hb
end Go.Proofs.YtikmgckefbjbkabGreatDoor

/-! ### Chk -/

namespace Go.Proofs.YtikmgckefbjbkabGreatDoor
open Go.RowKit

def kidsFit (k : Int) (n : Nat) : Bool := if k = 2 then n != 1 else if k = 3 then decide (2 ≤ n) else if k = 4 ∨ k = 5 then n == 1 else n == 0
def leanB : Rx → Bool
  | .mk k mn mx n s kids => (if k = 4 then true else mn == 0 && mx == 0) && (if k = 5 ∨ k = 6 then true else n == 0) && (if k = 1 then true else s == W4.z) && kidsFit k kids.length
def W4.bit (s : W4) : Nat → Bool := bitOf s.a s.b s.c s.d

structure Ck where
  n : Nat
  g : Nat
  d : Nat
mutual
/-- May it be? Then how far the counts are. -/
def chk (ere : Bool) : Rx → Bool → Bool → Ck → Option Ck
  | .mk k mn mx n s kids, b, e, c =>
    if c.n + 1 > 40 ∨ leanB (.mk k mn mx n s kids) = false then none
    else if k = 1 then (if cnt (W4.bit s) 256 > 0 then some ⟨c.n + 1, c.g, c.d⟩ else none)
    else if k = 2 then chkCat ere kids true ⟨c.n + 1, c.g, c.d⟩
    else if k = 3 then (if ere then chkAlt ere kids ⟨c.n + 1, c.g, c.d⟩ else none)
    else if k = 4 then (if timesFit mn mx then chkRep ere kids ⟨c.n + 1, c.g, c.d⟩ else none)
    else if k = 5 then (if n ≠ (c.g + 1 : Nat) ∨ c.g + 1 > 3 ∨ c.d = 6 then none else chkGroup ere kids ⟨c.n + 1, c.g + 1, c.d + 1⟩)
    else if k = 6 then (if 1 ≤ n ∧ n ≤ (c.g : Int) then some ⟨c.n + 1, c.g, c.d⟩ else none)
    else if k = 7 then (if ere || b then some ⟨c.n + 1, c.g, c.d⟩ else none)
    else if k = 8 then (if ere || e then some ⟨c.n + 1, c.g, c.d⟩ else none)
    else none
def chkCat (ere : Bool) : List Rx → Bool → Ck → Option Ck
  | [], _, c => some c
  | r :: rs, first, c => if r.k = 2 ∨ r.k = 3 then none else match chk ere r first rs.isEmpty c with
    | none => none
    | some c' => chkCat ere rs false c'
def chkAlt (ere : Bool) : List Rx → Ck → Option Ck
  | [], c => some c
  | r :: rs, c => if r.k = 3 then none else match chk ere r false false c with
    | none => none
    | some c' => chkAlt ere rs c'
def chkRep (ere : Bool) : List Rx → Ck → Option Ck
  | r :: _, c => if mayRep r.k then chk ere r false false c else none
  | [], _ => none
def chkGroup (ere : Bool) : List Rx → Ck → Option Ck
  | r :: _, c => match chk ere r true true c with
    | none => none
    | some c' => some ⟨c'.n, c'.g, c'.d - 1⟩
  | [], _ => none
end
def right (ere : Bool) (r : Rx) : Bool := (chk ere r true true ⟨0, 0, 0⟩).isSome

/-- The checker's block. -/
abbrev cko (ere : Bool) (n g d : Nat) : Obj := .cells #[.bool ere, .int .i64 (n : Int), .int .i64 (g : Int), .int .i64 (d : Int)] 53
def Cb (w : World) (C : Nat) (ere : Bool) (n g d : Nat) : Prop := w.heap[C]? = some (cko ere n g d)
theorem Cb.kp {w w' : World} {C : Nat} {ere : Bool} {n g d : Nat} (h : Cb w C ere n g d) (k : Kp w w') : Cb w' C ere n g d := bl_kp h k
theorem Cb.cells {w : World} {C : Nat} {ere : Bool} {n g d : Nat} (h : Cb w C ere n g d) : w.cell? ⟨C, 0, none⟩ = some (.bool ere) ∧ w.cell? ⟨C, 1, none⟩ = some (.int .i64 (n : Int)) ∧ w.cell? ⟨C, 2, none⟩ = some (.int .i64 (g : Int)) ∧ w.cell? ⟨C, 3, none⟩ = some (.int .i64 (d : Int)) := ⟨bl_cell h 0 _ rfl, bl_cell h 1 _ rfl, bl_cell h 2 _ rfl, bl_cell h 3 _ rfl⟩
/-- What a check leaves: the answer, and the counts where it is yes. -/
structure Ckd (C : Nat) (ere : Bool) (d0 : Nat) (o : Option Ck) (w : World) (e : Ending) (w' : World) : Prop where
  ex : ∃ ok, e = .returned (.bool ok) ∧ ok = o.isSome ∧ (∃ n g d, Cb w' C ere n g d ∧ n ≤ 41 ∧ g ≤ 41 ∧ d ≤ 7 ∧ d0 ≤ d ∧ ∀ c, o = some c → n = c.n ∧ g = c.g ∧ d = c.d) ∧ Ks C w w'
/-- What is asked of the check of a tree. -/
structure RightSaid (ere : Bool) (r : Rx) : Prop where
  all : ∀ (C : Nat) (ok : Nat → Prop) (v : Value) (b e : Bool) (n g d : Nat) (w : World), Is w ok r v → (∀ x, ok x → x ≠ C) → Cb w C ere n g d → n ≤ 40 → g ≤ n → d ≤ 6 → Calls Tryz.prog 20 #[.pointer (some ⟨C, 0, none⟩), v, .agg #[.bool b, .bool e]] w fun e' w' => Ckd C ere d (chk ere r b e ⟨n, g, d⟩) w e' w'

set_option maxHeartbeats 2000000 in
set_option maxRecDepth 100000 in
theorem kidsFit_any (k : Int) (n : Nat) (w : World) : Calls Tryz.prog 44 #[.int .i64 k, .int .i64 (n : Int)] w fun e w' => e = .returned (.bool (kidsFit k n)) ∧ w' = w := by
  have fin : ∀ (a b : Bool), a = b → Ending.returned (.bool a) = .returned (.bool b) := fun a b h => by rw [h]
  have FIN := hid fin
  clear fin
  by_cases k2 : k = 2
  · subst k2
    have E : Hid (((n : Int) != 1) = kidsFit 2 n) := by
      show _ = _
      rw [show kidsFit 2 n = (n != 1) from rfl]
      rw [Bool.eq_iff_iff]; simp; omega
    go_enter Tryz.func44, Tryz.ntmps44
    go_wp2
    go_ret
    exact ⟨FIN.out _ _ E.out, rfl⟩
  by_cases k3 : k = 3
  · subst k3
    have E : Hid ((decide (2 ≤ (n : Int))) = kidsFit 3 n) := by
      show _ = _
      rw [show kidsFit 3 n = (decide (2 ≤ n)) from rfl]
      rw [Bool.eq_iff_iff]; simp; omega
    go_enter Tryz.func44, Tryz.ntmps44
    go_wp2
    go_ret
    exact ⟨FIN.out _ _ E.out, rfl⟩
  by_cases k4 : k = 4
  · subst k4
    have E : Hid (((n : Int) == 1) = kidsFit 4 n) := by
      show _ = _
      rw [show kidsFit 4 n = (n == 1) from rfl]
      rw [Bool.eq_iff_iff]; simp; omega
    go_enter Tryz.func44, Tryz.ntmps44
    go_wp2
    go_ret
    exact ⟨FIN.out _ _ E.out, rfl⟩
  by_cases k5 : k = 5
  · subst k5
    have E : Hid (((n : Int) == 1) = kidsFit 5 n) := by
      show _ = _
      rw [show kidsFit 5 n = (n == 1) from rfl]
      rw [Bool.eq_iff_iff]; simp; omega
    go_enter Tryz.func44, Tryz.ntmps44
    go_wp2
    go_ret
    exact ⟨FIN.out _ _ E.out, rfl⟩
  have g2 : (k == 2) = false := by simp [k2]
  have g3 : (k == 3) = false := by simp [k3]
  have g4 : (k == 4) = false := by simp [k4]
  have g5 : (k == 5) = false := by simp [k5]
  have E : Hid (((n : Int) == 0) = kidsFit k n) := by
    show _ = _
    unfold kidsFit
    rw [if_neg k2, if_neg k3, if_neg (by omega)]
    rw [Bool.eq_iff_iff]; simp
  go_enter Tryz.func44, Tryz.ntmps44
  go_wp2
  go_ret
  exact ⟨FIN.out _ _ E.out, rfl⟩
end Go.Proofs.YtikmgckefbjbkabGreatDoor

/-! ### Lean2 -/

namespace Go.Proofs.YtikmgckefbjbkabGreatDoor
open Go.RowKit

theorem fit_nil (k mn mx n : Int) (s : W4) : RxFit (.mk k mn mx n s []) := by
  unfold RxFit
  exact ⟨by simp, fun a ha => by simp at ha⟩
theorem same_bare (k mn mx n mn' mx' n' : Int) (s s' : W4) (q : Bool) (hq : (mn == mn' && mx == mx' && n == n' && s == s') = q) (w : World) : Calls Tryz.prog 17 #[rxv k mn mx n s (.slice none 0 0), rxv k mn' mx' n' s' (.slice none 0 0)] w fun e w' => e = .returned (.bool q) ∧ Kp w w' := by
  have := same_any (.mk k mn mx n s []) (.mk k mn' mx' n' s' []) _ _ w (fun _ => True) (fun _ => True) (fit_nil _ _ _ _ _) (Is.leaf _ _ _ _ _ _ _) (Is.leaf _ _ _ _ _ _ _)
  rw [sameR, sameL] at this
  rw [show (k == k && mn == mn' && mx == mx' && n == n' && s == s' && true) = q by rw [← hq]; simp] at this
  exact this

set_option maxHeartbeats 2000000 in
set_option maxRecDepth 100000 in
theorem lean_any (k mn mx m : Int) (t : W4) (kids : List Rx) (ad : Option Addr) (l c : Nat) (w : World) (hl : l = kids.length) :
    Calls Tryz.prog 26 #[rxv k mn mx m t (.slice ad l c)] w fun e w' => e = .returned (.bool (leanB (.mk k mn mx m t kids))) ∧ Kp w w' := by
  have E0 : Hid (leanB (.mk k mn mx m t kids) = ((if k = 4 then true else mn == 0 && mx == 0) && (if k = 5 ∨ k = 6 then true else m == 0) && (if k = 1 then true else t == W4.z) && kidsFit k l)) := by show _ = _; rw [hl]; rfl
  clear hl
  obtain ⟨kf, hkf⟩ : ∃ kf, kidsFit k l = kf := ⟨_, rfl⟩
  have KF : Hid (∀ w, Calls Tryz.prog 44 #[.int .i64 k, .int .i64 (l : Int)] w fun e w' => e = .returned (.bool kf) ∧ w' = w) := fun w => by have := kidsFit_any k l w; rw [hkf] at this; exact this
  rw [hkf] at E0
  clear hkf
  go_enter Tryz.func26, Tryz.ntmps26
  go_upto_region 1 with fail
  refine opq (fun V0 => V0.heap[w.heap.size]? = some (rxo k mn mx m t (.slice ad l c)) ∧ Kp w V0) ⟨by (first | exact last_at _ _ _ (by simp) | (refine bl_alloc ?_ _; first | exact last_at _ _ _ (by simp) | (refine bl_alloc ?_ _; first | exact last_at _ _ _ (by simp) | (refine bl_alloc ?_ _; exact last_at _ _ _ (by simp))))), by exact (by repeat (first | exact Kp.refl _ | refine Kp.alloc ?_ _ | refine Kp.drew ?_ | refine Kp.drewN _ ?_))⟩ ?_
  rintro V0 ⟨xA, xK⟩
  have A : Hid (V0.heap[w.heap.size]? = some (rxo k mn mx m t (.slice ad l c))) := xA
  have K : Hid (Kp w V0) := xK
  clear xA xK
  have a0 := bl_cell (A.out) 0 _ rfl
  have a1 := bl_cell (A.out) 1 _ rfl
  have a2 := bl_cell (A.out) 2 _ rfl
  have a3 := bl_cell (A.out) 3 _ rfl
  have a4 := bl_cell (A.out) 4 _ rfl
  have a5 := bl_cell (A.out) 5 _ rfl
  have a6 := bl_cell (A.out) 6 _ rfl
  have a7 := bl_cell (A.out) 7 _ rfl
  have a8 := bl_cell (A.out) 8 _ rfl
  go_upto_region 2 with fail
  clear a0 a1 a2 a3 a4 a5 a6 a7 a8
  refine opq (fun W0 => W0.heap[w.heap.size]? = some (rxo k mn mx m t (.slice ad l c)) ∧ W0.heap[V0.heap.size]? = some (rxo k 0 0 0 W4.z (.slice none 0 0)) ∧ Kp w W0) ⟨by exact bl_kp A.out (by repeat (first | exact Kp.refl _ | refine Kp.alloc ?_ _ | refine Kp.drew ?_ | refine Kp.drewN _ ?_)), by exact last_at _ _ _ (by simp), by exact K.out.trans (by repeat (first | exact Kp.refl _ | refine Kp.alloc ?_ _ | refine Kp.drew ?_ | refine Kp.drewN _ ?_))⟩ ?_
  rintro W0 ⟨xA0, xB0, xK0⟩
  have A0 : Hid (W0.heap[w.heap.size]? = some (rxo k mn mx m t (.slice ad l c))) := xA0
  have B0 : Hid (W0.heap[V0.heap.size]? = some (rxo k 0 0 0 W4.z (.slice none 0 0))) := xB0
  have K0 : Hid (Kp w W0) := xK0
  clear xA0 xB0 xK0
  have hsV : w.heap.size < V0.heap.size := bl_lt A.out
  clear A K
  by_cases k1 : k = 1
  · subst k1
    obtain ⟨sm, hsm⟩ : ∃ sm, (mn == 0 && mx == 0 && m == 0 && t == t) = sm := ⟨_, rfl⟩
    have SB := hid (same_bare 1 mn mx m 0 0 0 t t sm hsm)
    have E : Hid (leanB (.mk 1 mn mx m t kids) = (sm && kf)) := by show _ = _; rw [E0.out, ← hsm]; (first | (simp; done) | (simp; cases mn == 0 <;> cases mx == 0 <;> cases m == 0 <;> rfl))
    clear hsm
    have a0 := bl_cell (A0.out) 0 _ rfl
    have a1 := bl_cell (A0.out) 1 _ rfl
    have a2 := bl_cell (A0.out) 2 _ rfl
    have a3 := bl_cell (A0.out) 3 _ rfl
    have a4 := bl_cell (A0.out) 4 _ rfl
    have a5 := bl_cell (A0.out) 5 _ rfl
    have a6 := bl_cell (A0.out) 6 _ rfl
    have a7 := bl_cell (A0.out) 7 _ rfl
    have a8 := bl_cell (A0.out) 8 _ rfl
    have b0 := bl_cell (B0.out) 0 _ rfl
    have fb0 := bl_frozen (B0.out) 0
    have b1 := bl_cell (B0.out) 1 _ rfl
    have fb1 := bl_frozen (B0.out) 1
    have b2 := bl_cell (B0.out) 2 _ rfl
    have fb2 := bl_frozen (B0.out) 2
    have b3 := bl_cell (B0.out) 3 _ rfl
    have fb3 := bl_frozen (B0.out) 3
    have b4 := bl_cell (B0.out) 4 _ rfl
    have fb4 := bl_frozen (B0.out) 4
    have b5 := bl_cell (B0.out) 5 _ rfl
    have fb5 := bl_frozen (B0.out) 5
    have b6 := bl_cell (B0.out) 6 _ rfl
    have fb6 := bl_frozen (B0.out) 6
    have b7 := bl_cell (B0.out) 7 _ rfl
    have fb7 := bl_frozen (B0.out) 7
    have b8 := bl_cell (B0.out) 8 _ rfl
    have fb8 := bl_frozen (B0.out) 8
    go_upto_region 10 with fail
    clear a0 a1 a2 a3 a4 a5 a6 a7 a8 b0 fb0 b1 fb1 b2 fb2 b3 fb3 b4 fb4 b5 fb5 b6 fb6 b7 fb7 b8 fb8
    refine opq (fun W1 => W1.heap[w.heap.size]? = some (rxo 1 mn mx m t (.slice ad l c)) ∧ W1.heap[V0.heap.size]? = some (rxo 1 0 0 0 t (.slice none 0 0)) ∧ Kp w W1) ⟨by exact bl_set (bl_set (bl_set (bl_set A0.out (by omega) _) (by omega) _) (by omega) _) (by omega) _, by exact bl_put (bl_put (bl_put (bl_put B0.out _) _) _) _, by exact (((K0.out.setCell (Nat.le_of_lt hsV) _).setCell (Nat.le_of_lt hsV) _).setCell (Nat.le_of_lt hsV) _).setCell (Nat.le_of_lt hsV) _⟩ ?_
    rintro W1 ⟨xA1, xB1, xK1⟩
    have A1 : Hid (W1.heap[w.heap.size]? = some (rxo 1 mn mx m t (.slice ad l c))) := xA1
    have B1 : Hid (W1.heap[V0.heap.size]? = some (rxo 1 0 0 0 t (.slice none 0 0))) := xB1
    have K1 : Hid (Kp w W1) := xK1
    clear xA1 xB1 xK1
    clear A0 B0 K0
    have A0 := A1
    have K0 := K1
    clear A1 K1
    have a0 := bl_cell (A0.out) 0 _ rfl
    have fa0 := bl_frozen (A0.out) 0
    have a1 := bl_cell (A0.out) 1 _ rfl
    have fa1 := bl_frozen (A0.out) 1
    have a2 := bl_cell (A0.out) 2 _ rfl
    have fa2 := bl_frozen (A0.out) 2
    have a3 := bl_cell (A0.out) 3 _ rfl
    have fa3 := bl_frozen (A0.out) 3
    have a4 := bl_cell (A0.out) 4 _ rfl
    have fa4 := bl_frozen (A0.out) 4
    have a5 := bl_cell (A0.out) 5 _ rfl
    have fa5 := bl_frozen (A0.out) 5
    have a6 := bl_cell (A0.out) 6 _ rfl
    have fa6 := bl_frozen (A0.out) 6
    have a7 := bl_cell (A0.out) 7 _ rfl
    have fa7 := bl_frozen (A0.out) 7
    have a8 := bl_cell (A0.out) 8 _ rfl
    have fa8 := bl_frozen (A0.out) 8
    go_upto_region 12 with fail
    clear a0 fa0 a1 fa1 a2 fa2 a3 fa3 a4 fa4 a5 fa5 a6 fa6 a7 fa7 a8 fa8
    refine opq (fun W2 => W2.heap[w.heap.size]? = some (rxo 1 mn mx m t (.slice none 0 0)) ∧ W2.heap[V0.heap.size]? = some (rxo 1 0 0 0 t (.slice none 0 0)) ∧ Kp w W2) ⟨by exact bl_put A0.out _, by exact bl_set B1.out (by omega) _, by exact K0.out.setCell (Nat.le_refl _) _⟩ ?_
    rintro W2 ⟨xA2, xB2, xK2⟩
    have A2 : Hid (W2.heap[w.heap.size]? = some (rxo 1 mn mx m t (.slice none 0 0))) := xA2
    have B2 : Hid (W2.heap[V0.heap.size]? = some (rxo 1 0 0 0 t (.slice none 0 0))) := xB2
    have K2 : Hid (Kp w W2) := xK2
    clear xA2 xB2 xK2
    have a0 := bl_cell (A2.out) 0 _ rfl
    have a1 := bl_cell (A2.out) 1 _ rfl
    have a2 := bl_cell (A2.out) 2 _ rfl
    have a3 := bl_cell (A2.out) 3 _ rfl
    have a4 := bl_cell (A2.out) 4 _ rfl
    have a5 := bl_cell (A2.out) 5 _ rfl
    have a6 := bl_cell (A2.out) 6 _ rfl
    have a7 := bl_cell (A2.out) 7 _ rfl
    have a8 := bl_cell (A2.out) 8 _ rfl
    have b0 := bl_cell (B2.out) 0 _ rfl
    have b1 := bl_cell (B2.out) 1 _ rfl
    have b2 := bl_cell (B2.out) 2 _ rfl
    have b3 := bl_cell (B2.out) 3 _ rfl
    have b4 := bl_cell (B2.out) 4 _ rfl
    have b5 := bl_cell (B2.out) 5 _ rfl
    have b6 := bl_cell (B2.out) 6 _ rfl
    have b7 := bl_cell (B2.out) 7 _ rfl
    have b8 := bl_cell (B2.out) 8 _ rfl
    go_wp2_with fail
    refine (SB.out _).mono ?_
    rintro e W3 ⟨rfl, k3⟩
    have A3 := hid (bl_kp A2.out k3)
    have K3 := hid (K2.out.trans k3)
    clear k3 a0 a1 a2 a3 a4 a5 a6 a7 a8 b0 b1 b2 b3 b4 b5 b6 b7 b8
    have x0 := bl_cell A3.out 0 _ rfl
    cases sm with
    | false =>
      go_wp2_with fail
      go_ret
      exact ⟨ret_bool (by rw [E.out]; rfl), K3.out⟩
    | true =>
      go_wp2_with fail
      refine (KF.out _).mono ?_
      rintro e W3 ⟨rfl, rfl⟩
      go_wp2_with fail
      go_ret
      exact ⟨ret_bool (by rw [E.out]; rfl), K3.out⟩
  by_cases k4 : k = 4
  · subst k4
    obtain ⟨sm, hsm⟩ : ∃ sm, (mn == mn && mx == mx && m == 0 && t == W4.z) = sm := ⟨_, rfl⟩
    have SB := hid (same_bare 4 mn mx m mn mx 0 t W4.z sm hsm)
    have E : Hid (leanB (.mk 4 mn mx m t kids) = (sm && kf)) := by show _ = _; rw [E0.out, ← hsm]; simp
    clear hsm
    have a0 := bl_cell (A0.out) 0 _ rfl
    have a1 := bl_cell (A0.out) 1 _ rfl
    have a2 := bl_cell (A0.out) 2 _ rfl
    have a3 := bl_cell (A0.out) 3 _ rfl
    have a4 := bl_cell (A0.out) 4 _ rfl
    have a5 := bl_cell (A0.out) 5 _ rfl
    have a6 := bl_cell (A0.out) 6 _ rfl
    have a7 := bl_cell (A0.out) 7 _ rfl
    have a8 := bl_cell (A0.out) 8 _ rfl
    go_upto_region 6 with fail
    clear a0 a1 a2 a3 a4 a5 a6 a7 a8
    have BB := hid B0.out
    have Q0 : Ks V0.heap.size W0 W0.drew := (Ks.refl _ _).drew
    have MK : Hid (∀ W, Ks V0.heap.size W0 W → W.cell? ⟨w.heap.size, 1, none⟩ = some (.int .i64 mn) ∧ W.cell? ⟨w.heap.size, 2, none⟩ = some (.int .i64 mx) ∧ Hid (Ks V0.heap.size W0 W)) := fun W k => ⟨bl_cell (bl_ks A0.out (by omega) k) 1 _ rfl, bl_cell (bl_ks A0.out (by omega) k) 2 _ rfl, k⟩
    refine wp_region_noPanic ?_
    refine wp_region_held_drew (S := (fun W => W.cell? ⟨w.heap.size, 1, none⟩ = some (.int .i64 mn) ∧ W.cell? ⟨w.heap.size, 2, none⟩ = some (.int .i64 mx) ∧ Hid (Ks V0.heap.size W0 W))) (by kernel_rfl) ?_ (fun hH => ?_)
    · exact MK.out _ Q0
    have KQ := Q0
    refine wpAnyH_take (i := 0) (oi := { dst := some 17, op := Op.fieldAddr 30 (Operand.tmp 1) 1, type := 0, pos := "right.go:61", after := #[], guard := none }) (v := ?v0a1) rfl (by kernel_rfl) (by kernel_rfl) (by kernel_rfl) (fun _ _ _ h => h) (Or.inl ⟨by rfl, ?hy0a1⟩) hH ?r0a1
    case hy0a1 => (intro W hSw; (try dsimp only at hSw); go_simp; try (with_reducible rfl))
    try simp only [Act.put, List.setIfInBounds_toArray, List.set_cons_zero, List.set_cons_succ]
    refine wpAnyH_take (i := 1) (oi := { dst := some 18, op := Op.load 3 (Operand.tmp 17), type := 3, pos := "right.go:61", after := #[{ on := 0, ground := Ground.data }], guard := none }) (v := ?v1a2) rfl (by kernel_rfl) (by kernel_rfl) (by kernel_rfl) (fun _ _ _ h => h) (Or.inl ⟨by rfl, ?hy1a2⟩) hH ?r1a2
    case hy1a2 => (intro W hSw; (try dsimp only at hSw); go_simp; try (with_reducible rfl))
    try simp only [Act.put, List.setIfInBounds_toArray, List.set_cons_zero, List.set_cons_succ]
    refine wpAnyH_take (i := 2) (oi := { dst := some 19, op := Op.fieldAddr 30 (Operand.tmp 1) 2, type := 0, pos := "right.go:61", after := #[{ on := 5, ground := Ground.gcOnly Departure.lateStores }], guard := none }) (v := ?v2a3) rfl (by kernel_rfl) (by kernel_rfl) (by kernel_rfl) (fun _ _ _ h => h) (Or.inl ⟨by rfl, ?hy2a3⟩) hH ?r2a3
    case hy2a3 => (intro W hSw; (try dsimp only at hSw); go_simp; try (with_reducible rfl))
    try simp only [Act.put, List.setIfInBounds_toArray, List.set_cons_zero, List.set_cons_succ]
    refine wpAnyH_take (i := 3) (oi := { dst := some 20, op := Op.load 3 (Operand.tmp 19), type := 3, pos := "right.go:61", after := #[{ on := 2, ground := Ground.data }, { on := 5, ground := Ground.gcOnly Departure.lateStores }], guard := none }) (v := ?v3a4) rfl (by kernel_rfl) (by kernel_rfl) (by kernel_rfl) (fun _ _ _ h => h) (Or.inl ⟨by rfl, ?hy3a4⟩) hH ?r3a4
    case hy3a4 => (intro W hSw; (try dsimp only at hSw); go_simp; try (with_reducible rfl))
    try simp only [Act.put, List.setIfInBounds_toArray, List.set_cons_zero, List.set_cons_succ]
    refine wpAnyH_take (i := 4) (oi := { dst := some 21, op := Op.fieldAddr 30 (Operand.tmp 3) 1, type := 0, pos := "right.go:61", after := #[{ on := 0, ground := Ground.phase }, { on := 1, ground := Ground.phase }, { on := 2, ground := Ground.textOnly Departure.lateStores }, { on := 3, ground := Ground.textOnly Departure.lateStores }], guard := none }) (v := ?v4a5) rfl (by kernel_rfl) (by kernel_rfl) (by kernel_rfl) (fun _ _ _ h => h) (Or.inl ⟨by rfl, ?hy4a5⟩) hH ?r4a5
    case hy4a5 => (intro W hSw; (try dsimp only at hSw); go_simp; try (with_reducible rfl))
    try simp only [Act.put, List.setIfInBounds_toArray, List.set_cons_zero, List.set_cons_succ]
    refine wpAnyH_ready (rs := [5]) (by kernel_rfl) (by simp) ?_
    refine AllReadyH.cons (o := { dst := none, op := Op.store 3 (Operand.tmp 21) (Operand.tmp 18), type := 0, pos := "right.go:61", after := #[{ on := 4, ground := Ground.data }, { on := 1, ground := Ground.data }, { on := 0, ground := Ground.phase }, { on := 1, ground := Ground.phase }, { on := 2, ground := Ground.textOnly Departure.lateStores }, { on := 3, ground := Ground.textOnly Departure.lateStores }], guard := none }) rfl (fun K hKq => ?_) AllReadyH.nil
    have c1 := bl_cell BB.out 1 _ rfl
    have f1 := bl_frozen BB.out 1
    go_simp
    refine hKq.out _ _ (MK.out _ (KQ.set 1 _)) (fun hN => ?_)
    have BN := hid (bl_put (j := 1) BB.out (.int .i64 mn))
    clear BB c1 f1
    have BB := BN
    clear BN
    clear hKq K hH KQ
    have hH := hN
    clear hN
    have KQ := hH.2.2.out
    try simp only [Act.put, List.setIfInBounds_toArray, List.set_cons_zero, List.set_cons_succ]
    refine wpAnyH_take (i := 6) (oi := { dst := some 22, op := Op.fieldAddr 30 (Operand.tmp 3) 2, type := 0, pos := "right.go:61", after := #[{ on := 0, ground := Ground.phase }, { on := 1, ground := Ground.phase }, { on := 2, ground := Ground.phase }, { on := 3, ground := Ground.phase }, { on := 4, ground := Ground.phase }, { on := 5, ground := Ground.phase }], guard := none }) (v := ?v6a6) rfl (by kernel_rfl) (by kernel_rfl) (by kernel_rfl) (fun _ _ _ h => h) (Or.inl ⟨by rfl, ?hy6a6⟩) hH ?r6a6
    case hy6a6 => (intro W hSw; (try dsimp only at hSw); go_simp; try (with_reducible rfl))
    try simp only [Act.put, List.setIfInBounds_toArray, List.set_cons_zero, List.set_cons_succ]
    refine wpAnyH_ready (rs := [7]) (by kernel_rfl) (by simp) ?_
    refine AllReadyH.cons (o := { dst := none, op := Op.store 3 (Operand.tmp 22) (Operand.tmp 20), type := 0, pos := "right.go:61", after := #[{ on := 6, ground := Ground.data }, { on := 3, ground := Ground.data }, { on := 5, ground := Ground.chain }, { on := 0, ground := Ground.phase }, { on := 1, ground := Ground.phase }, { on := 2, ground := Ground.phase }, { on := 3, ground := Ground.phase }, { on := 4, ground := Ground.phase }, { on := 5, ground := Ground.phase }], guard := none }) rfl (fun K hKq => ?_) AllReadyH.nil
    have c2 := bl_cell BB.out 2 _ rfl
    have f2 := bl_frozen BB.out 2
    go_simp
    refine hKq.out _ _ (MK.out _ (KQ.set 2 _)) (fun hN => ?_)
    have BN := hid (bl_put (j := 2) BB.out (.int .i64 mx))
    clear BB c2 f2
    have BB := BN
    clear BN
    clear hKq K hH KQ
    have hH := hN
    clear hN
    have KQ := hH.2.2.out
    try simp only [Act.put, List.setIfInBounds_toArray, List.set_cons_zero, List.set_cons_succ]
    refine wpAnyH_done (by kernel_rfl) ?_ _
    refine NoPanic.normal ?_
    go_upto_region 10 with fail
    refine opq (fun W1 => W1.heap[w.heap.size]? = some (rxo 4 mn mx m t (.slice ad l c)) ∧ W1.heap[V0.heap.size]? = some (rxo 4 mn mx 0 W4.z (.slice none 0 0)) ∧ Kp w W1) ⟨by exact bl_ks A0.out (by omega) KQ, by exact bl_drew BB.out, by exact KQ.up K0.out (Nat.le_of_lt hsV)⟩ ?_
    rintro W1 ⟨xA1, xB1, xK1⟩
    have A1 : Hid (W1.heap[w.heap.size]? = some (rxo 4 mn mx m t (.slice ad l c))) := xA1
    have B1 : Hid (W1.heap[V0.heap.size]? = some (rxo 4 mn mx 0 W4.z (.slice none 0 0))) := xB1
    have K1 : Hid (Kp w W1) := xK1
    clear xA1 xB1 xK1
    clear A0 B0 K0 BB hH KQ Q0 MK
    have A0 := A1
    have K0 := K1
    clear A1 K1
    have a0 := bl_cell (A0.out) 0 _ rfl
    have fa0 := bl_frozen (A0.out) 0
    have a1 := bl_cell (A0.out) 1 _ rfl
    have fa1 := bl_frozen (A0.out) 1
    have a2 := bl_cell (A0.out) 2 _ rfl
    have fa2 := bl_frozen (A0.out) 2
    have a3 := bl_cell (A0.out) 3 _ rfl
    have fa3 := bl_frozen (A0.out) 3
    have a4 := bl_cell (A0.out) 4 _ rfl
    have fa4 := bl_frozen (A0.out) 4
    have a5 := bl_cell (A0.out) 5 _ rfl
    have fa5 := bl_frozen (A0.out) 5
    have a6 := bl_cell (A0.out) 6 _ rfl
    have fa6 := bl_frozen (A0.out) 6
    have a7 := bl_cell (A0.out) 7 _ rfl
    have fa7 := bl_frozen (A0.out) 7
    have a8 := bl_cell (A0.out) 8 _ rfl
    have fa8 := bl_frozen (A0.out) 8
    go_upto_region 12 with fail
    clear a0 fa0 a1 fa1 a2 fa2 a3 fa3 a4 fa4 a5 fa5 a6 fa6 a7 fa7 a8 fa8
    refine opq (fun W2 => W2.heap[w.heap.size]? = some (rxo 4 mn mx m t (.slice none 0 0)) ∧ W2.heap[V0.heap.size]? = some (rxo 4 mn mx 0 W4.z (.slice none 0 0)) ∧ Kp w W2) ⟨by exact bl_put A0.out _, by exact bl_set B1.out (by omega) _, by exact K0.out.setCell (Nat.le_refl _) _⟩ ?_
    rintro W2 ⟨xA2, xB2, xK2⟩
    have A2 : Hid (W2.heap[w.heap.size]? = some (rxo 4 mn mx m t (.slice none 0 0))) := xA2
    have B2 : Hid (W2.heap[V0.heap.size]? = some (rxo 4 mn mx 0 W4.z (.slice none 0 0))) := xB2
    have K2 : Hid (Kp w W2) := xK2
    clear xA2 xB2 xK2
    have a0 := bl_cell (A2.out) 0 _ rfl
    have a1 := bl_cell (A2.out) 1 _ rfl
    have a2 := bl_cell (A2.out) 2 _ rfl
    have a3 := bl_cell (A2.out) 3 _ rfl
    have a4 := bl_cell (A2.out) 4 _ rfl
    have a5 := bl_cell (A2.out) 5 _ rfl
    have a6 := bl_cell (A2.out) 6 _ rfl
    have a7 := bl_cell (A2.out) 7 _ rfl
    have a8 := bl_cell (A2.out) 8 _ rfl
    have b0 := bl_cell (B2.out) 0 _ rfl
    have b1 := bl_cell (B2.out) 1 _ rfl
    have b2 := bl_cell (B2.out) 2 _ rfl
    have b3 := bl_cell (B2.out) 3 _ rfl
    have b4 := bl_cell (B2.out) 4 _ rfl
    have b5 := bl_cell (B2.out) 5 _ rfl
    have b6 := bl_cell (B2.out) 6 _ rfl
    have b7 := bl_cell (B2.out) 7 _ rfl
    have b8 := bl_cell (B2.out) 8 _ rfl
    go_wp2_with fail
    refine (SB.out _).mono ?_
    rintro e W3 ⟨rfl, k3⟩
    have A3 := hid (bl_kp A2.out k3)
    have K3 := hid (K2.out.trans k3)
    clear k3 a0 a1 a2 a3 a4 a5 a6 a7 a8 b0 b1 b2 b3 b4 b5 b6 b7 b8
    have x0 := bl_cell A3.out 0 _ rfl
    cases sm with
    | false =>
      go_wp2_with fail
      go_ret
      exact ⟨ret_bool (by rw [E.out]; rfl), K3.out⟩
    | true =>
      go_wp2_with fail
      refine (KF.out _).mono ?_
      rintro e W3 ⟨rfl, rfl⟩
      go_wp2_with fail
      go_ret
      exact ⟨ret_bool (by rw [E.out]; rfl), K3.out⟩
  by_cases k5 : k = 5
  · subst k5
    obtain ⟨sm, hsm⟩ : ∃ sm, (mn == 0 && mx == 0 && m == m && t == W4.z) = sm := ⟨_, rfl⟩
    have SB := hid (same_bare 5 mn mx m 0 0 m t W4.z sm hsm)
    have E : Hid (leanB (.mk 5 mn mx m t kids) = (sm && kf)) := by show _ = _; rw [E0.out, ← hsm]; (first | (simp; done) | (simp; cases mn == 0 <;> cases mx == 0 <;> cases t == W4.z <;> rfl))
    clear hsm
    have a0 := bl_cell (A0.out) 0 _ rfl
    have a1 := bl_cell (A0.out) 1 _ rfl
    have a2 := bl_cell (A0.out) 2 _ rfl
    have a3 := bl_cell (A0.out) 3 _ rfl
    have a4 := bl_cell (A0.out) 4 _ rfl
    have a5 := bl_cell (A0.out) 5 _ rfl
    have a6 := bl_cell (A0.out) 6 _ rfl
    have a7 := bl_cell (A0.out) 7 _ rfl
    have a8 := bl_cell (A0.out) 8 _ rfl
    have b0 := bl_cell (B0.out) 0 _ rfl
    have fb0 := bl_frozen (B0.out) 0
    have b1 := bl_cell (B0.out) 1 _ rfl
    have fb1 := bl_frozen (B0.out) 1
    have b2 := bl_cell (B0.out) 2 _ rfl
    have fb2 := bl_frozen (B0.out) 2
    have b3 := bl_cell (B0.out) 3 _ rfl
    have fb3 := bl_frozen (B0.out) 3
    have b4 := bl_cell (B0.out) 4 _ rfl
    have fb4 := bl_frozen (B0.out) 4
    have b5 := bl_cell (B0.out) 5 _ rfl
    have fb5 := bl_frozen (B0.out) 5
    have b6 := bl_cell (B0.out) 6 _ rfl
    have fb6 := bl_frozen (B0.out) 6
    have b7 := bl_cell (B0.out) 7 _ rfl
    have fb7 := bl_frozen (B0.out) 7
    have b8 := bl_cell (B0.out) 8 _ rfl
    have fb8 := bl_frozen (B0.out) 8
    go_upto_region 10 with fail
    clear a0 a1 a2 a3 a4 a5 a6 a7 a8 b0 fb0 b1 fb1 b2 fb2 b3 fb3 b4 fb4 b5 fb5 b6 fb6 b7 fb7 b8 fb8
    refine opq (fun W1 => W1.heap[w.heap.size]? = some (rxo 5 mn mx m t (.slice ad l c)) ∧ W1.heap[V0.heap.size]? = some (rxo 5 0 0 m W4.z (.slice none 0 0)) ∧ Kp w W1) ⟨by exact bl_set A0.out (by omega) _, by exact bl_put B0.out _, by exact K0.out.setCell (Nat.le_of_lt hsV) _⟩ ?_
    rintro W1 ⟨xA1, xB1, xK1⟩
    have A1 : Hid (W1.heap[w.heap.size]? = some (rxo 5 mn mx m t (.slice ad l c))) := xA1
    have B1 : Hid (W1.heap[V0.heap.size]? = some (rxo 5 0 0 m W4.z (.slice none 0 0))) := xB1
    have K1 : Hid (Kp w W1) := xK1
    clear xA1 xB1 xK1
    clear A0 B0 K0
    have A0 := A1
    have K0 := K1
    clear A1 K1
    have a0 := bl_cell (A0.out) 0 _ rfl
    have fa0 := bl_frozen (A0.out) 0
    have a1 := bl_cell (A0.out) 1 _ rfl
    have fa1 := bl_frozen (A0.out) 1
    have a2 := bl_cell (A0.out) 2 _ rfl
    have fa2 := bl_frozen (A0.out) 2
    have a3 := bl_cell (A0.out) 3 _ rfl
    have fa3 := bl_frozen (A0.out) 3
    have a4 := bl_cell (A0.out) 4 _ rfl
    have fa4 := bl_frozen (A0.out) 4
    have a5 := bl_cell (A0.out) 5 _ rfl
    have fa5 := bl_frozen (A0.out) 5
    have a6 := bl_cell (A0.out) 6 _ rfl
    have fa6 := bl_frozen (A0.out) 6
    have a7 := bl_cell (A0.out) 7 _ rfl
    have fa7 := bl_frozen (A0.out) 7
    have a8 := bl_cell (A0.out) 8 _ rfl
    have fa8 := bl_frozen (A0.out) 8
    go_upto_region 12 with fail
    clear a0 fa0 a1 fa1 a2 fa2 a3 fa3 a4 fa4 a5 fa5 a6 fa6 a7 fa7 a8 fa8
    refine opq (fun W2 => W2.heap[w.heap.size]? = some (rxo 5 mn mx m t (.slice none 0 0)) ∧ W2.heap[V0.heap.size]? = some (rxo 5 0 0 m W4.z (.slice none 0 0)) ∧ Kp w W2) ⟨by exact bl_put A0.out _, by exact bl_set B1.out (by omega) _, by exact K0.out.setCell (Nat.le_refl _) _⟩ ?_
    rintro W2 ⟨xA2, xB2, xK2⟩
    have A2 : Hid (W2.heap[w.heap.size]? = some (rxo 5 mn mx m t (.slice none 0 0))) := xA2
    have B2 : Hid (W2.heap[V0.heap.size]? = some (rxo 5 0 0 m W4.z (.slice none 0 0))) := xB2
    have K2 : Hid (Kp w W2) := xK2
    clear xA2 xB2 xK2
    have a0 := bl_cell (A2.out) 0 _ rfl
    have a1 := bl_cell (A2.out) 1 _ rfl
    have a2 := bl_cell (A2.out) 2 _ rfl
    have a3 := bl_cell (A2.out) 3 _ rfl
    have a4 := bl_cell (A2.out) 4 _ rfl
    have a5 := bl_cell (A2.out) 5 _ rfl
    have a6 := bl_cell (A2.out) 6 _ rfl
    have a7 := bl_cell (A2.out) 7 _ rfl
    have a8 := bl_cell (A2.out) 8 _ rfl
    have b0 := bl_cell (B2.out) 0 _ rfl
    have b1 := bl_cell (B2.out) 1 _ rfl
    have b2 := bl_cell (B2.out) 2 _ rfl
    have b3 := bl_cell (B2.out) 3 _ rfl
    have b4 := bl_cell (B2.out) 4 _ rfl
    have b5 := bl_cell (B2.out) 5 _ rfl
    have b6 := bl_cell (B2.out) 6 _ rfl
    have b7 := bl_cell (B2.out) 7 _ rfl
    have b8 := bl_cell (B2.out) 8 _ rfl
    go_wp2_with fail
    refine (SB.out _).mono ?_
    rintro e W3 ⟨rfl, k3⟩
    have A3 := hid (bl_kp A2.out k3)
    have K3 := hid (K2.out.trans k3)
    clear k3 a0 a1 a2 a3 a4 a5 a6 a7 a8 b0 b1 b2 b3 b4 b5 b6 b7 b8
    have x0 := bl_cell A3.out 0 _ rfl
    cases sm with
    | false =>
      go_wp2_with fail
      go_ret
      exact ⟨ret_bool (by rw [E.out]; rfl), K3.out⟩
    | true =>
      go_wp2_with fail
      refine (KF.out _).mono ?_
      rintro e W3 ⟨rfl, rfl⟩
      go_wp2_with fail
      go_ret
      exact ⟨ret_bool (by rw [E.out]; rfl), K3.out⟩
  by_cases k6 : k = 6
  · subst k6
    obtain ⟨sm, hsm⟩ : ∃ sm, (mn == 0 && mx == 0 && m == m && t == W4.z) = sm := ⟨_, rfl⟩
    have SB := hid (same_bare 6 mn mx m 0 0 m t W4.z sm hsm)
    have E : Hid (leanB (.mk 6 mn mx m t kids) = (sm && kf)) := by show _ = _; rw [E0.out, ← hsm]; (first | (simp; done) | (simp; cases mn == 0 <;> cases mx == 0 <;> cases t == W4.z <;> rfl))
    clear hsm
    have a0 := bl_cell (A0.out) 0 _ rfl
    have a1 := bl_cell (A0.out) 1 _ rfl
    have a2 := bl_cell (A0.out) 2 _ rfl
    have a3 := bl_cell (A0.out) 3 _ rfl
    have a4 := bl_cell (A0.out) 4 _ rfl
    have a5 := bl_cell (A0.out) 5 _ rfl
    have a6 := bl_cell (A0.out) 6 _ rfl
    have a7 := bl_cell (A0.out) 7 _ rfl
    have a8 := bl_cell (A0.out) 8 _ rfl
    have b0 := bl_cell (B0.out) 0 _ rfl
    have fb0 := bl_frozen (B0.out) 0
    have b1 := bl_cell (B0.out) 1 _ rfl
    have fb1 := bl_frozen (B0.out) 1
    have b2 := bl_cell (B0.out) 2 _ rfl
    have fb2 := bl_frozen (B0.out) 2
    have b3 := bl_cell (B0.out) 3 _ rfl
    have fb3 := bl_frozen (B0.out) 3
    have b4 := bl_cell (B0.out) 4 _ rfl
    have fb4 := bl_frozen (B0.out) 4
    have b5 := bl_cell (B0.out) 5 _ rfl
    have fb5 := bl_frozen (B0.out) 5
    have b6 := bl_cell (B0.out) 6 _ rfl
    have fb6 := bl_frozen (B0.out) 6
    have b7 := bl_cell (B0.out) 7 _ rfl
    have fb7 := bl_frozen (B0.out) 7
    have b8 := bl_cell (B0.out) 8 _ rfl
    have fb8 := bl_frozen (B0.out) 8
    go_upto_region 10 with fail
    clear a0 a1 a2 a3 a4 a5 a6 a7 a8 b0 fb0 b1 fb1 b2 fb2 b3 fb3 b4 fb4 b5 fb5 b6 fb6 b7 fb7 b8 fb8
    refine opq (fun W1 => W1.heap[w.heap.size]? = some (rxo 6 mn mx m t (.slice ad l c)) ∧ W1.heap[V0.heap.size]? = some (rxo 6 0 0 m W4.z (.slice none 0 0)) ∧ Kp w W1) ⟨by exact bl_set A0.out (by omega) _, by exact bl_put B0.out _, by exact K0.out.setCell (Nat.le_of_lt hsV) _⟩ ?_
    rintro W1 ⟨xA1, xB1, xK1⟩
    have A1 : Hid (W1.heap[w.heap.size]? = some (rxo 6 mn mx m t (.slice ad l c))) := xA1
    have B1 : Hid (W1.heap[V0.heap.size]? = some (rxo 6 0 0 m W4.z (.slice none 0 0))) := xB1
    have K1 : Hid (Kp w W1) := xK1
    clear xA1 xB1 xK1
    clear A0 B0 K0
    have A0 := A1
    have K0 := K1
    clear A1 K1
    have a0 := bl_cell (A0.out) 0 _ rfl
    have fa0 := bl_frozen (A0.out) 0
    have a1 := bl_cell (A0.out) 1 _ rfl
    have fa1 := bl_frozen (A0.out) 1
    have a2 := bl_cell (A0.out) 2 _ rfl
    have fa2 := bl_frozen (A0.out) 2
    have a3 := bl_cell (A0.out) 3 _ rfl
    have fa3 := bl_frozen (A0.out) 3
    have a4 := bl_cell (A0.out) 4 _ rfl
    have fa4 := bl_frozen (A0.out) 4
    have a5 := bl_cell (A0.out) 5 _ rfl
    have fa5 := bl_frozen (A0.out) 5
    have a6 := bl_cell (A0.out) 6 _ rfl
    have fa6 := bl_frozen (A0.out) 6
    have a7 := bl_cell (A0.out) 7 _ rfl
    have fa7 := bl_frozen (A0.out) 7
    have a8 := bl_cell (A0.out) 8 _ rfl
    have fa8 := bl_frozen (A0.out) 8
    go_upto_region 12 with fail
    clear a0 fa0 a1 fa1 a2 fa2 a3 fa3 a4 fa4 a5 fa5 a6 fa6 a7 fa7 a8 fa8
    refine opq (fun W2 => W2.heap[w.heap.size]? = some (rxo 6 mn mx m t (.slice none 0 0)) ∧ W2.heap[V0.heap.size]? = some (rxo 6 0 0 m W4.z (.slice none 0 0)) ∧ Kp w W2) ⟨by exact bl_put A0.out _, by exact bl_set B1.out (by omega) _, by exact K0.out.setCell (Nat.le_refl _) _⟩ ?_
    rintro W2 ⟨xA2, xB2, xK2⟩
    have A2 : Hid (W2.heap[w.heap.size]? = some (rxo 6 mn mx m t (.slice none 0 0))) := xA2
    have B2 : Hid (W2.heap[V0.heap.size]? = some (rxo 6 0 0 m W4.z (.slice none 0 0))) := xB2
    have K2 : Hid (Kp w W2) := xK2
    clear xA2 xB2 xK2
    have a0 := bl_cell (A2.out) 0 _ rfl
    have a1 := bl_cell (A2.out) 1 _ rfl
    have a2 := bl_cell (A2.out) 2 _ rfl
    have a3 := bl_cell (A2.out) 3 _ rfl
    have a4 := bl_cell (A2.out) 4 _ rfl
    have a5 := bl_cell (A2.out) 5 _ rfl
    have a6 := bl_cell (A2.out) 6 _ rfl
    have a7 := bl_cell (A2.out) 7 _ rfl
    have a8 := bl_cell (A2.out) 8 _ rfl
    have b0 := bl_cell (B2.out) 0 _ rfl
    have b1 := bl_cell (B2.out) 1 _ rfl
    have b2 := bl_cell (B2.out) 2 _ rfl
    have b3 := bl_cell (B2.out) 3 _ rfl
    have b4 := bl_cell (B2.out) 4 _ rfl
    have b5 := bl_cell (B2.out) 5 _ rfl
    have b6 := bl_cell (B2.out) 6 _ rfl
    have b7 := bl_cell (B2.out) 7 _ rfl
    have b8 := bl_cell (B2.out) 8 _ rfl
    go_wp2_with fail
    refine (SB.out _).mono ?_
    rintro e W3 ⟨rfl, k3⟩
    have A3 := hid (bl_kp A2.out k3)
    have K3 := hid (K2.out.trans k3)
    clear k3 a0 a1 a2 a3 a4 a5 a6 a7 a8 b0 b1 b2 b3 b4 b5 b6 b7 b8
    have x0 := bl_cell A3.out 0 _ rfl
    cases sm with
    | false =>
      go_wp2_with fail
      go_ret
      exact ⟨ret_bool (by rw [E.out]; rfl), K3.out⟩
    | true =>
      go_wp2_with fail
      refine (KF.out _).mono ?_
      rintro e W3 ⟨rfl, rfl⟩
      go_wp2_with fail
      go_ret
      exact ⟨ret_bool (by rw [E.out]; rfl), K3.out⟩
  have g1 : (k == 1) = false := by simp [k1]
  have g4 : (k == 4) = false := by simp [k4]
  have g5 : (k == 5) = false := by simp [k5]
  have g6 : (k == 6) = false := by simp [k6]
  obtain ⟨sm, hsm⟩ : ∃ sm, (mn == 0 && mx == 0 && m == 0 && t == W4.z) = sm := ⟨_, rfl⟩
  have SB := hid (same_bare k mn mx m 0 0 0 t W4.z sm hsm)
  have E : Hid (leanB (.mk k mn mx m t kids) = (sm && kf)) := by show _ = _; rw [E0.out, ← hsm]; rw [if_neg k4, if_neg (by omega), if_neg k1]; first | done | (cases mn == 0 <;> cases mx == 0 <;> cases m == 0 <;> cases t == W4.z <;> rfl)
  clear hsm
  have a0 := bl_cell (A0.out) 0 _ rfl
  have fa0 := bl_frozen (A0.out) 0
  have a1 := bl_cell (A0.out) 1 _ rfl
  have fa1 := bl_frozen (A0.out) 1
  have a2 := bl_cell (A0.out) 2 _ rfl
  have fa2 := bl_frozen (A0.out) 2
  have a3 := bl_cell (A0.out) 3 _ rfl
  have fa3 := bl_frozen (A0.out) 3
  have a4 := bl_cell (A0.out) 4 _ rfl
  have fa4 := bl_frozen (A0.out) 4
  have a5 := bl_cell (A0.out) 5 _ rfl
  have fa5 := bl_frozen (A0.out) 5
  have a6 := bl_cell (A0.out) 6 _ rfl
  have fa6 := bl_frozen (A0.out) 6
  have a7 := bl_cell (A0.out) 7 _ rfl
  have fa7 := bl_frozen (A0.out) 7
  have a8 := bl_cell (A0.out) 8 _ rfl
  have fa8 := bl_frozen (A0.out) 8
  go_upto_region 12 with fail
  clear a0 fa0 a1 fa1 a2 fa2 a3 fa3 a4 fa4 a5 fa5 a6 fa6 a7 fa7 a8 fa8
  refine opq (fun W2 => W2.heap[w.heap.size]? = some (rxo k mn mx m t (.slice none 0 0)) ∧ W2.heap[V0.heap.size]? = some (rxo k 0 0 0 W4.z (.slice none 0 0)) ∧ Kp w W2) ⟨by exact bl_put A0.out _, by exact bl_set B0.out (by omega) _, by exact K0.out.setCell (Nat.le_refl _) _⟩ ?_
  rintro W2 ⟨xA2, xB2, xK2⟩
  have A2 : Hid (W2.heap[w.heap.size]? = some (rxo k mn mx m t (.slice none 0 0))) := xA2
  have B2 : Hid (W2.heap[V0.heap.size]? = some (rxo k 0 0 0 W4.z (.slice none 0 0))) := xB2
  have K2 : Hid (Kp w W2) := xK2
  clear xA2 xB2 xK2
  have a0 := bl_cell (A2.out) 0 _ rfl
  have a1 := bl_cell (A2.out) 1 _ rfl
  have a2 := bl_cell (A2.out) 2 _ rfl
  have a3 := bl_cell (A2.out) 3 _ rfl
  have a4 := bl_cell (A2.out) 4 _ rfl
  have a5 := bl_cell (A2.out) 5 _ rfl
  have a6 := bl_cell (A2.out) 6 _ rfl
  have a7 := bl_cell (A2.out) 7 _ rfl
  have a8 := bl_cell (A2.out) 8 _ rfl
  have b0 := bl_cell (B2.out) 0 _ rfl
  have b1 := bl_cell (B2.out) 1 _ rfl
  have b2 := bl_cell (B2.out) 2 _ rfl
  have b3 := bl_cell (B2.out) 3 _ rfl
  have b4 := bl_cell (B2.out) 4 _ rfl
  have b5 := bl_cell (B2.out) 5 _ rfl
  have b6 := bl_cell (B2.out) 6 _ rfl
  have b7 := bl_cell (B2.out) 7 _ rfl
  have b8 := bl_cell (B2.out) 8 _ rfl
  go_wp2_with fail
  refine (SB.out _).mono ?_
  rintro e W3 ⟨rfl, k3⟩
  have A3 := hid (bl_kp A2.out k3)
  have K3 := hid (K2.out.trans k3)
  clear k3 a0 a1 a2 a3 a4 a5 a6 a7 a8 b0 b1 b2 b3 b4 b5 b6 b7 b8
  have x0 := bl_cell A3.out 0 _ rfl
  cases sm with
  | false =>
    go_wp2_with fail
    go_ret
    exact ⟨ret_bool (by rw [E.out]; rfl), K3.out⟩
  | true =>
    go_wp2_with fail
    refine (KF.out _).mono ?_
    rintro e W3 ⟨rfl, rfl⟩
    go_wp2_with fail
    go_ret
    exact ⟨ret_bool (by rw [E.out]; rfl), K3.out⟩
end Go.Proofs.YtikmgckefbjbkabGreatDoor

/-! ### Right1 -/

namespace Go.Proofs.YtikmgckefbjbkabGreatDoor
open Go.RowKit

theorem RowAt.ks {P : Nat} {w w' : World} {ok : Nat → Prop} {ts : List Rx} {ad : Option Addr} {l c : Nat} (h : RowAt w ok ts ad l c) (k : Ks P w w') (hP : ∀ x, ok x → x ≠ P) : RowAt w' ok ts ad l c :=
  ⟨h.ln, h.cp, fun hn => by
    obtain ⟨b, o, h1, h2, h3, h4⟩ := h.ex hn
    exact ⟨b, o, h1, h2, Nat.lt_of_lt_of_le h3 k.size, IsL.turn k.size (fun b hb hl => ⟨hb, k.block b hl (hP b hb)⟩) ts b o (k.block b h3 (hP b h2)) h4⟩⟩
theorem Cb.lt {w : World} {C : Nat} {ere : Bool} {n g d : Nat} (h : Cb w C ere n g d) : C < w.heap.size := bl_lt h
theorem Ckd.no {C : Nat} {ere : Bool} {o : Option Ck} {w w' : World} {d0 n g d : Nat} (ho : o = none) (hc : Cb w' C ere n g d) (hn : n ≤ 41) (hg : g ≤ 41) (hd : d ≤ 7) (h0 : d0 ≤ d) (k : Ks C w w') : Ckd C ere d0 o w (.returned (.bool false)) w' :=
  ⟨false, rfl, by rw [ho]; rfl, ⟨n, g, d, hc, hn, hg, hd, h0, fun c h => by rw [ho] at h; cases h⟩, k⟩
theorem Ckd.yes {C : Nat} {ere : Bool} {o : Option Ck} {w w' : World} {d0 n g d : Nat} (ho : o = some ⟨n, g, d⟩) (hc : Cb w' C ere n g d) (hn : n ≤ 41) (hg : g ≤ 41) (hd : d ≤ 7) (h0 : d0 ≤ d) (k : Ks C w w') : Ckd C ere d0 o w (.returned (.bool true)) w' :=
  ⟨true, rfl, by rw [ho]; rfl, ⟨n, g, d, hc, hn, hg, hd, h0, fun c h => by rw [ho] at h; injection h with h; subst h; exact ⟨rfl, rfl, rfl⟩⟩, k⟩

/-- The counts stay within their bounds. -/
structure CkOk (c c' : Ck) : Prop where
  n : c'.n ≤ 40
  g : c'.g ≤ c'.n
  d : c'.d = c.d
mutual
theorem chk_ok (ere : Bool) : ∀ (r : Rx) (b e : Bool) (c c' : Ck), c.n ≤ 40 → c.g ≤ c.n → chk ere r b e c = some c' → CkOk c c' ∧ c.n < c'.n
  | .mk k mn mx n s kids, b, e, c, c', hn, hg, h => by
    unfold chk at h
    split at h
    · cases h
    · rename_i h0
      have h40 : c.n + 1 ≤ 40 := by omega
      have one : some (⟨c.n + 1, c.g, c.d⟩ : Ck) = some c' → CkOk c c' ∧ c.n < c'.n := fun h => by
        injection h with h; subst h
        exact ⟨⟨h40, by show c.g ≤ c.n + 1; omega, rfl⟩, by show c.n < c.n + 1; omega⟩
      split at h
      · split at h
        · exact one h
        · cases h
      split at h
      · have := chkCat_ok ere kids true ⟨c.n + 1, c.g, c.d⟩ c' h40 (by show c.g ≤ c.n + 1; omega) h
        exact ⟨⟨this.1.n, this.1.g, this.1.d⟩, by have := this.2; simp only at this; omega⟩
      split at h
      · split at h
        · have := chkAlt_ok ere kids ⟨c.n + 1, c.g, c.d⟩ c' h40 (by show c.g ≤ c.n + 1; omega) h
          exact ⟨⟨this.1.n, this.1.g, this.1.d⟩, by have := this.2; simp only at this; omega⟩
        · cases h
      split at h
      · split at h
        · have := chkRep_ok ere kids ⟨c.n + 1, c.g, c.d⟩ c' h40 (by show c.g ≤ c.n + 1; omega) h
          exact ⟨⟨this.1.n, this.1.g, this.1.d⟩, by have := this.2; simp only at this; omega⟩
        · cases h
      split at h
      · split at h
        · cases h
        · have := chkGroup_ok ere kids ⟨c.n + 1, c.g + 1, c.d + 1⟩ c' h40 (by show c.g + 1 ≤ c.n + 1; omega) h
          exact ⟨⟨this.1, this.2.1, by have := this.2.2.1; simp only at this; omega⟩, by have := this.2.2.2; simp only at this; omega⟩
      split at h
      · split at h
        · exact one h
        · cases h
      split at h
      · split at h
        · exact one h
        · cases h
      split at h
      · split at h
        · exact one h
        · cases h
      · cases h
theorem chkCat_ok (ere : Bool) : ∀ (rs : List Rx) (f : Bool) (c c' : Ck), c.n ≤ 40 → c.g ≤ c.n → chkCat ere rs f c = some c' → CkOk c c' ∧ c.n ≤ c'.n
  | [], f, c, c', hn, hg, h => by
    unfold chkCat at h
    injection h with h; subst h
    exact ⟨⟨hn, hg, rfl⟩, Nat.le_refl _⟩
  | r :: rs, f, c, c', hn, hg, h => by
    unfold chkCat at h
    split at h
    · cases h
    · split at h
      · cases h
      · rename_i c1 hc1
        have h1 := chk_ok ere r f rs.isEmpty c c1 hn hg hc1
        have h2 := chkCat_ok ere rs false c1 c' h1.1.n h1.1.g h
        exact ⟨⟨h2.1.n, h2.1.g, h2.1.d.trans h1.1.d⟩, by omega⟩
theorem chkAlt_ok (ere : Bool) : ∀ (rs : List Rx) (c c' : Ck), c.n ≤ 40 → c.g ≤ c.n → chkAlt ere rs c = some c' → CkOk c c' ∧ c.n ≤ c'.n
  | [], c, c', hn, hg, h => by
    unfold chkAlt at h
    injection h with h; subst h
    exact ⟨⟨hn, hg, rfl⟩, Nat.le_refl _⟩
  | r :: rs, c, c', hn, hg, h => by
    unfold chkAlt at h
    split at h
    · cases h
    · split at h
      · cases h
      · rename_i c1 hc1
        have h1 := chk_ok ere r false false c c1 hn hg hc1
        have h2 := chkAlt_ok ere rs c1 c' h1.1.n h1.1.g h
        exact ⟨⟨h2.1.n, h2.1.g, h2.1.d.trans h1.1.d⟩, by omega⟩
theorem chkRep_ok (ere : Bool) : ∀ (rs : List Rx) (c c' : Ck), c.n ≤ 40 → c.g ≤ c.n → chkRep ere rs c = some c' → CkOk c c' ∧ c.n ≤ c'.n
  | [], c, c', hn, hg, h => by unfold chkRep at h; cases h
  | r :: rs, c, c', hn, hg, h => by
    unfold chkRep at h
    split at h
    · have h1 := chk_ok ere r false false c c' hn hg h
      exact ⟨h1.1, by omega⟩
    · cases h
theorem chkGroup_ok (ere : Bool) : ∀ (rs : List Rx) (c c' : Ck), c.n ≤ 40 → c.g ≤ c.n → chkGroup ere rs c = some c' → c'.n ≤ 40 ∧ c'.g ≤ c'.n ∧ c'.d = c.d - 1 ∧ c.n ≤ c'.n
  | [], c, c', hn, hg, h => by unfold chkGroup at h; cases h
  | r :: rs, c, c', hn, hg, h => by
    unfold chkGroup at h
    split at h
    · cases h
    · rename_i c1 hc1
      injection h with h; subst h
      have h1 := chk_ok ere r true true c c1 hn hg hc1
      exact ⟨h1.1.n, h1.1.g, by show c1.d - 1 = c.d - 1; rw [h1.1.d], by show c.n ≤ c1.n; omega⟩
end
end Go.Proofs.YtikmgckefbjbkabGreatDoor

/-! ### Right2 -/

namespace Go.Proofs.YtikmgckefbjbkabGreatDoor
open Go.RowKit

theorem chkCat_cons (ere : Bool) (r : Rx) (rs : List Rx) (f : Bool) (c : Ck) : chkCat ere (r :: rs) f c = if r.k = 2 ∨ r.k = 3 then none else (chk ere r f rs.isEmpty c).bind fun c' => chkCat ere rs false c' := by
  rw [chkCat]
  split
  · rfl
  · cases chk ere r f rs.isEmpty c <;> rfl
theorem Is.kind' {w : World} {ok : Nat → Prop} {r : Rx} {k mn mx n : Int} {s : W4} {ks : Value} (h : Is w ok r (rxv k mn mx n s ks)) : r.k = k := by
  cases r with
  | mk k' mn' mx' n' s' kids =>
    unfold Is at h
    obtain ⟨ad, l, c, he, _⟩ := h
    injection he with he
    injection he with he
    simp at he
    exact he.1.symm
theorem Ks.kpt' {P : Nat} {a b c : World} (h : Ks P a b) (k : Kp b c) (hP : P < b.heap.size) : Ks P a c := h.kp k (Nat.le_of_lt hP)
/-- In the loop of a row. -/
structure Kw (ere : Bool) (C : Nat) (d0 : Nat) (w : World) (ts : List Rx) (o : Option Ck) (k : Nat) (wr : World) (c : Ck) : Prop where
  cb : Cb wr C ere c.n c.g c.d
  n : c.n ≤ 40
  g : c.g ≤ c.n
  d : c.d = d0
  eq : chkCat ere (ts.drop k) (k == 0) c = o
  ks : Ks C w wr
theorem Ckd.form {C : Nat} {ere : Bool} {d0 : Nat} {o : Option Ck} {w w' : World} {e : Ending} (h : Ckd C ere d0 o w e w') : (∃ c, o = some c ∧ e = .returned (.bool true) ∧ Cb w' C ere c.n c.g c.d ∧ Ks C w w') ∨ (o = none ∧ e = .returned (.bool false) ∧ (∃ n g d, Cb w' C ere n g d ∧ n ≤ 41 ∧ g ≤ 41 ∧ d ≤ 7 ∧ d0 ≤ d) ∧ Ks C w w') := by
  obtain ⟨b, he, hb, ⟨n, g, d, hc, h1, h2, h3, h3', h4⟩, hk⟩ := h.ex
  cases o with
  | none =>
    refine Or.inr ⟨rfl, ?_, ⟨n, g, d, hc, h1, h2, h3, h3'⟩, hk⟩
    rw [he, hb]; rfl
  | some c =>
    obtain ⟨e1, e2, e3⟩ := h4 c rfl
    subst e1; subst e2; subst e3
    refine Or.inl ⟨c, rfl, ?_, hc, hk⟩
    rw [he, hb]; rfl

set_option maxHeartbeats 2000000 in
set_option maxRecDepth 100000 in
theorem cat_any (ere : Bool) (ts : List Rx) (H : ∀ r, r ∈ ts → RightSaid ere r) (C : Nat) (ok : Nat → Prop) (ad : Option Addr) (l c : Nat) (n g d : Nat) (w : World) (hr : RowAt w ok ts ad l c) (hok : ∀ x, ok x → x ≠ C) (hc : Cb w C ere n g d) (hn : n ≤ 40) (hg : g ≤ n) (hd : d ≤ 6) (hl : ts.length ≤ 1000000) :
    Calls Tryz.prog 27 #[.pointer (some ⟨C, 0, none⟩), .slice ad l c] w fun e w' => Ckd C ere d (chkCat ere ts true ⟨n, g, d⟩) w e w' := by
  have hle := hr.ln
  have hlc := hr.cp
  subst hle
  obtain ⟨L, hL⟩ : ∃ L, ts.length = L := ⟨_, rfl⟩
  rw [hL] at hr hlc hl ⊢
  have HL := hid hL
  have RR := hid hr
  have HC := hid hc
  have HH := hid H
  have HOK := hid hok
  clear hL hr hc H hok
  obtain ⟨o, ho⟩ : ∃ o, chkCat ere ts true ⟨n, g, d⟩ = o := ⟨_, rfl⟩
  rw [ho]
  have HO := hid ho
  clear ho
  go_enter Tryz.func27, Tryz.ntmps27
  go_wp2_with fail
  go_loopg [9] L (fun gg v wr => ∃ (k : Nat) (c : Ck), k + gg = L ∧ v = .int .i64 (k : Int) ∧ Kw ere C d w ts o k wr c)
  case atStart => exact ⟨0, ⟨n, g, d⟩, by omega, rfl, HC.out, hn, hg, rfl, HO.out, Ks.refl _ _⟩
  case round =>
    obtain ⟨k, ⟨n1, g1, d1⟩, hk, rfl, hw⟩ := hrel
    have KW := hid hw
    have hn1 : n1 ≤ 40 := hw.n
    have hg1 : g1 ≤ n1 := hw.g
    have hd1 : d1 = d := hw.d
    subst hd1
    clear hw
    by_cases hlt : k < L
    · have gkw : IntKind.i64.wrap ((k : Int) + 1) = (k : Int) + 1 := by rw [IntKind.wrap_i64]; omega
      have ga : (k : Int) < (L : Int) := by omega
      have g0 : (0 : Int) ≤ (k : Int) := by omega
      have gl : IntKind.i64.wrap ((L : Int) - 1) = (L : Int) - 1 := by rw [IntKind.wrap_i64]; omega
      obtain ⟨r, hr⟩ : ∃ r, ts[k]? = some r := ⟨_, List.getElem?_eq_getElem (by rw [HL.out]; exact hlt)⟩
      have hdrop : ts.drop k = r :: ts.drop (k + 1) := List.drop_eq_getElem_cons (by rw [HL.out]; exact hlt) ▸ by
        have := (List.getElem?_eq_some_iff.1 hr).2
        rw [this]
      have RW := hid (RR.out.ks KW.out.ks HOK.out)
      obtain ⟨bb, oo, kk, mn, mx, mm, tt, ad', ll, cc, e1, hbb, i1, ce1⟩ := RW.out.at k r hr
      subst e1
      have RS := hid (HH.out r (List.mem_of_getElem? hr))
      have I1 := hid i1
      have hkk : r.k = kk := i1.kind'
      have HKK := hid hkk
      have CE1 := hid ce1
      have HD := hid hdrop
      have lastB : (ts.drop (k + 1)).isEmpty = ((k : Int) == (L : Int) - 1) := by
        rw [Bool.eq_iff_iff]
        simp
        rw [HL.out]
        omega
      have HLB := hid lastB
      have E0 : Hid (o = if kk = 2 ∨ kk = 3 then none else (chk ere r ((k : Int) == 0) ((k : Int) == (L : Int) - 1) ⟨n1, g1, d1⟩).bind fun c' => chkCat ere (ts.drop (k + 1)) false c') := by
        show _ = _
        rw [← KW.out.eq, hdrop, chkCat_cons, hkk, lastB]
        rw [show (k == 0) = ((k : Int) == 0) by rw [Bool.eq_iff_iff]; simp]
      obtain ⟨zb, hzb⟩ : ∃ zb, ((k : Int) == 0) = zb := ⟨_, rfl⟩
      obtain ⟨zl, hzl⟩ : ∃ zl, ((k : Int) == (L : Int) - 1) = zl := ⟨_, rfl⟩
      rw [hzb, hzl] at E0
      clear hr i1 ce1 hkk hdrop lastB
      obtain ⟨x0, x1, x2, x3, x4, x5, x6, x7, x8⟩ := cells_of_is CE1.out
      go_upto_region 4 with fail
      clear x0 x1 x2 x3 x4 x5 x6 x7 x8
      refine opq (fun W => W.heap[wr.heap.size]? = some (rxo kk mn mx mm tt (.slice ad' ll cc)) ∧ Kp wr W) ⟨by exact last_at _ _ _ (by simp), by exact (Kp.refl _).alloc _⟩ ?_
      rintro W1 ⟨y1, y2⟩
      have A1 := hid y1
      have K1 := hid y2
      clear y1 y2
      have a0 := bl_cell (A1.out) 0 _ rfl
      have a1 := bl_cell (A1.out) 1 _ rfl
      have a2 := bl_cell (A1.out) 2 _ rfl
      have a3 := bl_cell (A1.out) 3 _ rfl
      have a4 := bl_cell (A1.out) 4 _ rfl
      have a5 := bl_cell (A1.out) 5 _ rfl
      have a6 := bl_cell (A1.out) 6 _ rfl
      have a7 := bl_cell (A1.out) 7 _ rfl
      have a8 := bl_cell (A1.out) 8 _ rfl
      have hCw := KW.out.cb.lt
      have CB1 := hid (KW.out.cb.kp K1.out)
      have KS1 := hid (KW.out.ks.kpt' K1.out hCw)
      by_cases h2 : kk = 2
      · subst h2
        have E : Hid (o = none) := by show _ = _; rw [E0.out]; rfl
        go_wp2_with fail
        go_ret
        exact Ckd.no E.out CB1.out (by show n1 ≤ 41; omega) (by show g1 ≤ 41; omega) (by show d1 ≤ 7; omega) (Nat.le_refl _) KS1.out
      by_cases h3 : kk = 3
      · subst h3
        have E : Hid (o = none) := by show _ = _; rw [E0.out]; rfl
        go_wp2_with fail
        go_ret
        exact Ckd.no E.out CB1.out (by show n1 ≤ 41; omega) (by show g1 ≤ 41; omega) (by show d1 ≤ 7; omega) (Nat.le_refl _) KS1.out
      have g2 : (kk == 2) = false := by simp [h2]
      have g3 : (kk == 3) = false := by simp [h3]
      have E1 : Hid (o = (chk ere r zb zl ⟨n1, g1, d1⟩).bind fun c' => chkCat ere (ts.drop (k + 1)) false c') := by show _ = _; rw [E0.out, if_neg (by omega)]
      go_wp2_with fail
      clear a0 a1 a2 a3 a4 a5 a6 a7 a8
      refine (RS.out.all C ok _ zb zl n1 g1 d1 _ (I1.out.kp K1.out) HOK.out CB1.out hn1 hg1 hd).mono ?_
      intro e W2 hcd
      rcases hcd.form with ⟨c2, ho2, rfl, hcb2, hks2⟩ | ⟨ho2, rfl, ⟨n2, g2', d2, hcb2, b1, b2, b3, b4⟩, hks2⟩
      · have hck := chk_ok ere r zb zl ⟨n1, g1, d1⟩ c2 hn1 hg1 ho2
        have CB2 := hid hcb2
        have KS2 := hid (KS1.out.trans hks2)
        have E2 : Hid (chkCat ere (ts.drop (k + 1)) (k + 1 == 0) c2 = o) := by show _ = _; rw [E1.out, ho2]; rfl
        have b1 : c2.n ≤ 40 := hck.1.n
        have b2 : c2.g ≤ c2.n := hck.1.g
        have b3 : c2.d = d1 := hck.1.d
        have B3 := hid b3
        clear b3
        clear hcd hcb2 hks2 ho2 hck
        go_wp2_with fail
        go_roundg (gk - 1)
        case measure => omega
        case rel => exact ⟨k + 1, c2, by omega, by go_num, CB2.out, b1, b2, B3.out, E2.out, KS2.out⟩
      · have CB2 := hid hcb2
        have KS2 := hid (KS1.out.trans hks2)
        have E : Hid (o = none) := by show _ = _; rw [E1.out, ho2]; rfl
        clear hcd hcb2 hks2 ho2
        go_wp2_with fail
        go_ret
        exact Ckd.no E.out CB2.out b1 b2 b3 b4 KS2.out
    · have ga : ¬ (k : Int) < (L : Int) := by omega
      have E : Hid (o = some ⟨n1, g1, d1⟩) := by
        have := KW.out.eq
        rw [List.drop_eq_nil_of_le (by rw [HL.out]; omega)] at this
        unfold chkCat at this
        exact this.symm
      go_wp2
      go_ret
      exact Ckd.yes E.out KW.out.cb (by omega) (by omega) (by omega) (Nat.le_refl _) KW.out.ks
end Go.Proofs.YtikmgckefbjbkabGreatDoor
