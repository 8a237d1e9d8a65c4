/-
  A row of trees that the call owns, all in blocks of which something holds.
-/
import Derived.Test.YtikmgckefbjbkaaGreatDoorKeep
import Derived.OwnWalk
namespace Go.Proofs.YtikmgckefbjbkaaGreatDoor
open Go.RowKit

structure RK (ok : Nat → Prop) (base : Nat) (w : World) (v : Value) (ts : List Rx) : Prop where
  ex : ∃ vs : List Value, vs.length = ts.length ∧ w.ownsRow base 27 9 v ts.length (rowOf vs) ∧ (∀ b, v.ownBlock = some b → ok b) ∧ ∀ (j : Nat) t u, ts[j]? = some t → vs[j]? = some u → Is w (fun b => ok b ∧ v.ownBlock ≠ some b) t u
theorem RK.turn {ok : Nat → Prop} {base : Nat} {w w' : World} {v : Value} {ts : List Rx} (h : RK ok base w v ts) (hs : w.heap.size ≤ w'.heap.size) (hk : ∀ b, ok b → b < w.heap.size → w'.heap[b]? = w.heap[b]?) : RK ok base w' v ts := by
  obtain ⟨vs, h1, h2, h0, h3⟩ := h.ex
  exact ⟨vs, h1, owns_same h2 (fun b hb hl => hk b (h0 b hb) hl), h0, fun j t u hj hu => Is.turn hs (fun b hb hl => ⟨hb, hk b hb.1 hl⟩) t u (h3 j t u hj hu)⟩
theorem RK.kp {ok : Nat → Prop} {base : Nat} {w w' : World} {v : Value} {ts : List Rx} (h : RK ok base w v ts) (k : Kp w w') : RK ok base w' v ts := h.turn k.size (fun b _ hl => k.block b hl)
theorem RK.ks {ok : Nat → Prop} {P base : Nat} {w w' : World} {v : Value} {ts : List Rx} (h : RK ok base w v ts) (k : Ks P w w') (hP : ∀ b, ok b → b ≠ P) : RK ok base w' v ts := h.turn k.size (fun b hb hl => k.block b hl (hP b hb))
theorem RK.block {ok : Nat → Prop} {base : Nat} {w : World} {v : Value} {ts : List Rx} (h : RK ok base w v ts) : ∀ b, v.ownBlock = some b → ok b ∧ b < w.heap.size := by
  obtain ⟨vs, _, h2, h0, _⟩ := h.ex
  exact fun b hb => ⟨h0 b hb, (h2.lt b hb).2⟩
theorem RK.base {ok : Nat → Prop} {base : Nat} {w : World} {v : Value} {ts : List Rx} (h : RK ok base w v ts) (hb : ∀ b, ok b → base ≤ b) : RKids base w v ts := by
  obtain ⟨vs, h1, h2, h0, h3⟩ := h.ex
  exact ⟨vs, h1, h2, fun j t u hj hu => (h3 j t u hj hu).weak (fun b hx _ => ⟨hb b hx.1, hx.2⟩)⟩
theorem RK.form {ok : Nat → Prop} {base : Nat} {w : World} {v : Value} {ts : List Rx} (h : RK ok base w v ts) : ∃ ad c, v = .slice ad ts.length c ∧ ts.length ≤ c := by
  obtain ⟨vs, _, h2, _, _⟩ := h.ex
  rcases h2.2 with ⟨rfl, h0⟩ | ⟨g, cap, cur, hv, _, _, hc, _⟩
  · exact ⟨none, 0, by rw [h0], by omega⟩
  · exact ⟨_, cap, hv, hc⟩
/-- A tree whose kids they are. -/
theorem RK.is {ok : Nat → Prop} {base : Nat} {w : World} {v : Value} {ts : List Rx} (h : RK ok base w v ts) (k mn mx n : Int) (s : W4) : Is w ok (.mk k mn mx n s ts) (rxv k mn mx n s v) := by
  obtain ⟨vs, h1, h2, h0, h3⟩ := h.ex
  unfold Is
  by_cases hn : 0 < ts.length
  · obtain ⟨g, cap, rfl, hc, hb, hl, hcell⟩ := owns_cells h2 hn
    refine ⟨_, _, cap, rfl, rfl, hc, fun _ => ⟨g, 0, rfl, h0 g rfl, hl, IsL.put fun j t hj => ?_⟩⟩
    have hjl : j < vs.length := by rw [h1]; exact (List.getElem?_eq_some_iff.1 hj).1
    have hu : vs[j]? = some vs[j] := List.getElem?_eq_getElem hjl
    refine ⟨vs[j], (h3 j t _ hj hu).weak (fun _ hb _ => hb.1), fun i x hi => ?_⟩
    rw [Nat.zero_add]
    refine hcell _ _ (rowOf_at vs ?_ j _ hu i x hi)
    intro y hy
    obtain ⟨q, hq⟩ := List.mem_iff_getElem?.1 hy
    have hq' : q < ts.length := by rw [← h1]; exact (List.getElem?_eq_some_iff.1 hq).1
    obtain ⟨k, mn, mx, n, s, ad, l, c, rfl⟩ := (h3 q _ y (List.getElem?_eq_getElem hq') hq).form
    rfl
  · obtain ⟨ad, c, rfl, hc⟩ := h.form
    exact ⟨ad, _, c, rfl, rfl, hc, fun hne => absurd (List.eq_nil_of_length_eq_zero (by omega)) hne⟩
/-- One tree in a block of its own. -/
theorem RK.single {ok : Nat → Prop} {base : Nat} {w : World} {r : Rx} (k mn mx m : Int) (t : W4) (ad : Option Addr) (l c : Nat) (hI : Is w ok r (rxv k mn mx m t (.slice ad l c))) (hb : base ≤ w.heap.size) (ho : ok w.heap.size) :
    RK ok base (w.alloc (rxo k mn mx m t (.slice ad l c))) (.slice (some ⟨w.heap.size, 0, none⟩) 1 1) [r] := by
  refine ⟨[rxv k mn mx m t (.slice ad l c)], rfl, ⟨rfl, .inr ⟨w.heap.size, 1, _, rfl, hb, last_of w _, Nat.le_refl _, by unfold maxLen; omega, rfl, rfl⟩⟩, ?_, ?_⟩
  · intro b hb'
    injection hb' with hb'
    rw [← hb']; exact ho
  intro j t' u hj hu
  match j, hj, hu with
  | 0, hj, hu =>
    simp at hj hu
    subst hj
    subst hu
    refine (hI.weak (ok' := fun b => ok b ∧ (Value.slice (some ⟨w.heap.size, 0, none⟩) 1 1).ownBlock ≠ some b) (fun b hb hl => ⟨hb, ?_⟩)).kp ((Kp.refl _).alloc _)
    show some w.heap.size ≠ some b
    intro he; injection he with he; omega
  | j + 1, hj, _ => simp at hj

/-- A tree put behind those that the call owns. -/
theorem wpList_append_rk {ops : Array Oper} {rest : List Oper} {o : Oper} {a : Act} {Q : Exit → Act → World → Prop} (W : World) (hgd : o.guard = none) (s x : Operand)
    (ho : o.op = .call { callee := .builtin .append, args := #[s, x], argTypes := #[25, 25] })
    (base : Nat) (v : Value) (ts : List Rx) (r : Rx) (hs : a.eval s = v) (ok : Nat → Prop) (hnew : ∀ b, W.heap.size ≤ b → ok b) (hK : Hid (RK ok base W v ts)) (k mn mx m : Int) (t : W4) (ad : Option Addr) (l c : Nat)
    (hI : Hid (Is W (fun b => ok b ∧ v.ownBlock ≠ some b) r (rxv k mn mx m t (.slice ad l c)))) (B : Nat) (hB : B = W.heap.size)
    (hx : a.eval x = .slice (some ⟨B, 0, none⟩) 1 1) (h63 : ts.length ≤ 1000000) (hbase : base ≤ W.heap.size)
    (h : ∀ v' w', RK ok base w' v' (ts ++ [r]) → W.grownBy w' v.ownBlock → wpList Tryz.prog ops Q rest (a.put o.dst v') w') :
    wpList Tryz.prog ops Q (o :: rest) a (W.alloc (rxo k mn mx m t (.slice ad l c))) := by
  obtain ⟨i, hi, hz, hsz, hby⟩ := info27
  obtain ⟨vs, hv1, hv2, hv0, hv3⟩ := hK.out.ex
  have kal : Kp W (W.alloc (rxo k mn mx m t (.slice ad l c))) := (Kp.refl _).alloc _
  subst hB
  refine wpList_append_own_at (W.alloc (rxo k mn mx m t (.slice ad l c))) hgd s x 25 ho base 27 i rz 9 88 Tryz.underlying25 hi hz hsz hby rfl (by omega) v ts.length (rowOf vs) hs (owns_same hv2 fun b _ hl => kal.block b hl) ⟨W.heap.size, 0, none⟩ 1 1 (cellsOf (rxv k mn mx m t (.slice ad l c))) hx rfl ?_ (rx_one _ _ _ _ _ _ _ _) (by unfold maxLen; omega) (by omega) (by simp; omega) ?_
  · intro j y hj
    have hn := last_of W (rxo k mn mx m t (.slice ad l c))
    rw [show (⟨W.heap.size, 0, none⟩ : Addr).add j = ⟨W.heap.size, j, none⟩ by simp [Addr.add]; exact Eq.symm]
    refine bl_cell hn j y ?_
    rw [← Array.getElem?_toList]; exact hj
  · intro v' w' a1 a2 _ a4
    have hgr : W.grownBy w' v.ownBlock := ⟨a2.os.trans rfl, a2.tape.trans rfl, a2.output.trans rfl, Nat.le_trans kal.size a2.size, fun b hb hne => (a2.block b (Nat.lt_of_lt_of_le hb kal.size) hne).trans (kal.block b hb)⟩
    refine h v' w' ⟨vs ++ [rxv k mn mx m t (.slice ad l c)], by simp [hv1], ?_, ?_, ?_⟩ hgr
    · rw [List.length_append, rowOf_append, rowOf_one]; exact a1
    · intro b hb
      rcases a4 with a4 | a4
      · rw [a4] at hb; exact hv0 b hb
      · rw [a4] at hb; injection hb with hb; exact hnew b (by rw [← hb]; simp)
    · have hok : ∀ b, (ok b ∧ v.ownBlock ≠ some b) → b < W.heap.size → (ok b ∧ v'.ownBlock ≠ some b) ∧ w'.heap[b]? = W.heap[b]? := by
        intro b hb hl
        refine ⟨⟨hb.1, ?_⟩, hgr.block b hl (Ne.symm hb.2)⟩
        rcases a4 with a4 | a4
        · rw [a4]; exact hb.2
        · rw [a4]; intro he; injection he with he; simp at he; omega
      intro j t' u hj hu
      by_cases hlt : j < ts.length
      · rw [List.getElem?_append_left hlt] at hj
        rw [List.getElem?_append_left (by omega)] at hu
        exact Is.turn hgr.size hok t' u (hv3 j t' u hj hu)
      · have hj0 : j = ts.length := by
          have := (List.getElem?_eq_some_iff.1 hj).1
          simp at this; omega
        subst hj0
        rw [List.getElem?_append_right (Nat.le_refl _)] at hj
        rw [List.getElem?_append_right (by omega), hv1] at hu
        simp at hj hu
        subst hj
        subst hu
        exact Is.turn hgr.size hok _ _ hI.out

set_option maxHeartbeats 2000000 in
set_option maxRecDepth 100000 in
theorem keep_rk (ok : Nat → Prop) (base : Nat) (v : Value) (ts : List Rx) (r : Rx) (k mn mx m : Int) (t : W4) (ad : Option Addr) (l c : Nat) (s : ByteArray) (ere : Bool) (i n g d P : Nat) (w : World) (h : Rd w P s ere i n g d) (hK : RK ok base w v ts) (hI : Is w (fun b => ok b ∧ v.ownBlock ≠ some b) r (rxv k mn mx m t (.slice ad l c))) (hnew : ∀ b, w.heap.size ≤ b → ok b) (hb : base ≤ w.heap.size) (ht : ts.length ≤ 1000000) :
    Calls Tryz.prog 51 #[.pointer (some ⟨P, 0, none⟩), v, rxv k mn mx m t (.slice ad l c)] w fun e w' => ∃ v', e = .returned v' ∧ RK ok base w' v' (keepL n ts r) ∧ w.grownBy w' v.ownBlock := by
  have R : Hid (Rd w P s ere i n g d) := h
  have HK : Hid (RK ok base w v ts) := hK
  have HI : Hid (Is w (fun b => ok b ∧ v.ownBlock ≠ some b) r (rxv k mn mx m t (.slice ad l c))) := hI
  have HN := hid hnew
  clear h hK hI hnew
  by_cases hc : n > 40
  · have E : Hid (keepL n ts r = ts) := by show _ = _; unfold keepL; rw [if_pos hc]
    have c1 : (40 : Int) < (n : Int) := by omega
    go_enter Tryz.func51, Tryz.ntmps51
    go_upto_region 1 with fail
    refine opq (fun W0 => Rd W0 P s ere i n g d ∧ W0.heap[w.heap.size]? = some (rxo k mn mx m t (.slice ad l c)) ∧ RK ok base W0 v ts ∧ Is W0 (fun b => ok b ∧ v.ownBlock ≠ some b) r (rxv k mn mx m t (.slice ad l c)) ∧ Kp w W0) ⟨by exact R.out.kp (by repeat (first | exact Kp.refl _ | refine Kp.alloc ?_ _ | refine Kp.drew ?_ | refine Kp.drewN _ ?_)), by (first | exact last_at _ _ _ (by simp) | (refine bl_alloc ?_ _; first | exact last_at _ _ _ (by simp) | (refine bl_alloc ?_ _; first | exact last_at _ _ _ (by simp) | (refine bl_alloc ?_ _; exact last_at _ _ _ (by simp))))), by exact HK.out.kp (by repeat (first | exact Kp.refl _ | refine Kp.alloc ?_ _ | refine Kp.drew ?_ | refine Kp.drewN _ ?_)), by exact HI.out.kp (by repeat (first | exact Kp.refl _ | refine Kp.alloc ?_ _ | refine Kp.drew ?_ | refine Kp.drewN _ ?_)), by exact (by repeat (first | exact Kp.refl _ | refine Kp.alloc ?_ _ | refine Kp.drew ?_ | refine Kp.drewN _ ?_))⟩ ?_
    rintro W0 ⟨xR0, xA0, xHK0, xHI0, xK0⟩
    have R0 : Hid (Rd W0 P s ere i n g d) := xR0
    have A0 : Hid (W0.heap[w.heap.size]? = some (rxo k mn mx m t (.slice ad l c))) := xA0
    have HK0 : Hid (RK ok base W0 v ts) := xHK0
    have HI0 : Hid (Is W0 (fun b => ok b ∧ v.ownBlock ≠ some b) r (rxv k mn mx m t (.slice ad l c))) := xHI0
    have K0 : Hid (Kp w W0) := xK0
    clear xR0 xA0 xHK0 xHI0 xK0
    have p3 := R0.out.cells.2.2.2.1
    have hs0 := K0.out.size
    go_wp2
    go_ret
    exact ⟨_, rfl, by rw [E.out]; exact HK0.out, K0.out.grown _⟩
  · have E : Hid (keepL n ts r = ts ++ [r]) := by show _ = _; unfold keepL; rw [if_neg hc]
    have c1 : ¬ (40 : Int) < (n : Int) := by omega
    go_enter Tryz.func51, Tryz.ntmps51
    go_upto_region 1 with fail
    refine opq (fun W0 => Rd W0 P s ere i n g d ∧ W0.heap[w.heap.size]? = some (rxo k mn mx m t (.slice ad l c)) ∧ RK ok base W0 v ts ∧ Is W0 (fun b => ok b ∧ v.ownBlock ≠ some b) r (rxv k mn mx m t (.slice ad l c)) ∧ Kp w W0) ⟨by exact R.out.kp (by repeat (first | exact Kp.refl _ | refine Kp.alloc ?_ _ | refine Kp.drew ?_ | refine Kp.drewN _ ?_)), by (first | exact last_at _ _ _ (by simp) | (refine bl_alloc ?_ _; first | exact last_at _ _ _ (by simp) | (refine bl_alloc ?_ _; first | exact last_at _ _ _ (by simp) | (refine bl_alloc ?_ _; exact last_at _ _ _ (by simp))))), by exact HK.out.kp (by repeat (first | exact Kp.refl _ | refine Kp.alloc ?_ _ | refine Kp.drew ?_ | refine Kp.drewN _ ?_)), by exact HI.out.kp (by repeat (first | exact Kp.refl _ | refine Kp.alloc ?_ _ | refine Kp.drew ?_ | refine Kp.drewN _ ?_)), by exact (by repeat (first | exact Kp.refl _ | refine Kp.alloc ?_ _ | refine Kp.drew ?_ | refine Kp.drewN _ ?_))⟩ ?_
    rintro W0 ⟨xR0, xA0, xHK0, xHI0, xK0⟩
    have R0 : Hid (Rd W0 P s ere i n g d) := xR0
    have A0 : Hid (W0.heap[w.heap.size]? = some (rxo k mn mx m t (.slice ad l c))) := xA0
    have HK0 : Hid (RK ok base W0 v ts) := xHK0
    have HI0 : Hid (Is W0 (fun b => ok b ∧ v.ownBlock ≠ some b) r (rxv k mn mx m t (.slice ad l c))) := xHI0
    have K0 : Hid (Kp w W0) := xK0
    clear xR0 xA0 xHK0 xHI0 xK0
    have p3 := R0.out.cells.2.2.2.1
    have hs0 := K0.out.size
    have a0 := bl_cell (A0.out) 0 _ rfl
    have a1 := bl_cell (A0.out) 1 _ rfl
    have a2 := bl_cell (A0.out) 2 _ rfl
    have a3 := bl_cell (A0.out) 3 _ rfl
    have a4 := bl_cell (A0.out) 4 _ rfl
    have a5 := bl_cell (A0.out) 5 _ rfl
    have a6 := bl_cell (A0.out) 6 _ rfl
    have a7 := bl_cell (A0.out) 7 _ rfl
    have a8 := bl_cell (A0.out) 8 _ rfl
    go_wp2_with (at_builtin; go_must (refine wpList_append_rk W0 (by rfl) _ _ (by rfl) base v ts r (by rfl) ok (fun b hb => HN.out b (Nat.le_trans hs0 hb)) HK0 k mn mx m t ad l c HI0 _ (by rfl) (by rfl) ?h1 ?h2 ?_))
    case h2 => omega
    intro v' w' hk' hg'
    have HK' : Hid (RK ok base w' v' (ts ++ [r])) := hk'
    have HG' : Hid (w.grownBy w' v.ownBlock) := ⟨hg'.os.trans K0.out.os, hg'.tape.trans K0.out.tape, hg'.output.trans K0.out.output, Nat.le_trans K0.out.size hg'.size, fun b hb hne => (hg'.block b (Nat.lt_of_lt_of_le hb K0.out.size) hne).trans (K0.out.block b hb)⟩
    clear hk' hg'
    go_wp2_with fail
    go_ret
    exact ⟨_, rfl, by rw [E.out]; exact HK'.out, HG'.out⟩

end Go.Proofs.YtikmgckefbjbkaaGreatDoor
