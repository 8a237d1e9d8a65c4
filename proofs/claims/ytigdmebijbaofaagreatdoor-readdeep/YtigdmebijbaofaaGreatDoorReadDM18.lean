/-
  Texts of this claim: Kids2, Choice, Parse.
-/
import Derived.Test.YtigdmebijbaofaaGreatDoorReadDM4
import Derived.Test.YtigdmebijbaofaaGreatDoorReadDM6
import Derived.OwnWalk
import Derived.Test.YtigdmebijbaofaaGreatDoorReadDM17
/-! ### Kids2 -/
namespace Go.Proofs.YtigdmebijbaofaaGreatDoor
set_option maxHeartbeats 2000000
set_option maxRecDepth 100000
open Go.RowKit
structure RK (ok : Nat → Prop) (base : Nat) (w : World) (v : Value) (ts : List Rx) : Prop where
 ex : ∃ vs : List Value, vs.length = ts.length ∧ w.ownsRow base 27 9 v ts.length (rowOf vs) ∧ (∀ b, v.ownBlock = some b → ok b) ∧ ∀ (j : Nat) t u, ts[j]? = some t → vs[j]? = some u → Is w (fun b => ok b ∧ v.ownBlock ≠ some b) t u
theorem RK.turn {ok : Nat → Prop} {base : Nat} {w w' : World} {v : Value} {ts : List Rx} (h : RK ok base w v ts) (hs : w.heap.size ≤ w'.heap.size) (hk : ∀ b, ok b → b < w.heap.size → w'.heap[b]? = w.heap[b]?) : RK ok base w' v ts := by
 obtain ⟨vs, h1, h2, h0, h3⟩ := h.ex
 exact ⟨vs, h1, owns_same h2 (fun b hb hl => hk b (h0 b hb) hl), h0, fun j t u hj hu => Is.turn hs (fun b hb hl => ⟨hb, hk b hb.1 hl⟩) t u (h3 j t u hj hu)⟩
theorem RK.kp {ok : Nat → Prop} {base : Nat} {w w' : World} {v : Value} {ts : List Rx} (h : RK ok base w v ts) (k : Kp w w') : RK ok base w' v ts := h.turn k.size (fun b _ hl => k.block b hl)
theorem RK.ks {ok : Nat → Prop} {P base : Nat} {w w' : World} {v : Value} {ts : List Rx} (h : RK ok base w v ts) (k : Ks P w w') (hP : ∀ b, ok b → b ≠ P) : RK ok base w' v ts := h.turn k.size (fun b hb hl => k.block b hl (hP b hb))
theorem RK.block {ok : Nat → Prop} {base : Nat} {w : World} {v : Value} {ts : List Rx} (h : RK ok base w v ts) : ∀ b, v.ownBlock = some b → ok b ∧ b < w.heap.size := by
 obtain ⟨vs, _, h2, h0, _⟩ := h.ex
 exact fun b hb => ⟨h0 b hb, (h2.lt b hb).2⟩
theorem RK.base {ok : Nat → Prop} {base : Nat} {w : World} {v : Value} {ts : List Rx} (h : RK ok base w v ts) (hb : ∀ b, ok b → base ≤ b) : RKids base w v ts := by
 obtain ⟨vs, h1, h2, h0, h3⟩ := h.ex
 exact ⟨vs, h1, h2, fun j t u hj hu => (h3 j t u hj hu).weak (fun b hx _ => ⟨hb b hx.1, hx.2⟩)⟩
theorem RK.form {ok : Nat → Prop} {base : Nat} {w : World} {v : Value} {ts : List Rx} (h : RK ok base w v ts) : ∃ ad c, v = .slice ad ts.length c ∧ ts.length ≤ c := by
 obtain ⟨vs, _, h2, _, _⟩ := h.ex
 rcases h2.2 with ⟨rfl, h0⟩ | ⟨g, cap, cur, hv, _, _, hc, _⟩
 ·
  exact ⟨none, 0, by rw [h0], by omega⟩
 ·
  exact ⟨_, cap, hv, hc⟩
theorem RK.is {ok : Nat → Prop} {base : Nat} {w : World} {v : Value} {ts : List Rx} (h : RK ok base w v ts) (k mn mx n : Int) (s : W4) : Is w ok (.mk k mn mx n s ts) (rxv k mn mx n s v) := by
 obtain ⟨vs, h1, h2, h0, h3⟩ := h.ex
 unfold Is
 by_cases hn : 0 < ts.length
 ·
  obtain ⟨g, cap, rfl, hc, hb, hl, hcell⟩ := owns_cells h2 hn
  refine ⟨_, _, cap, rfl, rfl, hc, fun _ => ⟨g, 0, rfl, h0 g rfl, hl, IsL.put fun j t hj => ?_⟩⟩
  have hjl : j < vs.length := by rw [h1]; exact (List.getElem?_eq_some_iff.1 hj).1
  have hu : vs[j]? = some vs[j] := List.getElem?_eq_getElem hjl
  refine ⟨vs[j], (h3 j t _ hj hu).weak (fun _ hb _ => hb.1), fun i x hi => ?_⟩
  rw [Nat.zero_add]
  refine hcell _ _ (rowOf_at vs ?_ j _ hu i x hi)
  intro y hy
  obtain ⟨q, hq⟩ := List.mem_iff_getElem?.1 hy
  have hq' : q < ts.length := by rw [← h1]; exact (List.getElem?_eq_some_iff.1 hq).1
  obtain ⟨k, mn, mx, n, s, ad, l, c, rfl⟩ := (h3 q _ y (List.getElem?_eq_getElem hq') hq).form
  rfl
 ·
  obtain ⟨ad, c, rfl, hc⟩ := h.form
  exact ⟨ad, _, c, rfl, rfl, hc, fun hne => absurd (List.eq_nil_of_length_eq_zero (by omega)) hne⟩
theorem RK.single {ok : Nat → Prop} {base : Nat} {w : World} {r : Rx} (k mn mx m : Int) (t : W4) (ad : Option Addr) (l c : Nat) (hI : Is w ok r (rxv k mn mx m t (.slice ad l c))) (hb : base ≤ w.heap.size) (ho : ok w.heap.size) :
  RK ok base (w.alloc (rxo k mn mx m t (.slice ad l c))) (.slice (some ⟨w.heap.size, 0, none⟩) 1 1) [r] := by
 refine ⟨[rxv k mn mx m t (.slice ad l c)], rfl, ⟨rfl, .inr ⟨w.heap.size, 1, _, rfl, hb, last_of w _, Nat.le_refl _, by unfold maxLen; omega, rfl, rfl⟩⟩, ?_, ?_⟩
 ·
  intro b hb'
  injection hb' with hb'
  rw [← hb']; exact ho
 intro j t' u hj hu
 match j, hj, hu with
 | 0, hj, hu =>
  simp at hj hu
  subst hj
  subst hu
  refine (hI.weak (ok' := fun b => ok b ∧ (Value.slice (some ⟨w.heap.size, 0, none⟩) 1 1).ownBlock ≠ some b) (fun b hb hl => ⟨hb, ?_⟩)).kp ((Kp.refl _).alloc _)
  show some w.heap.size ≠ some b
  intro he; injection he with he; omega
 | j + 1, hj, _ => simp at hj
theorem wpList_append_rk {ops : Array Oper} {rest : List Oper} {o : Oper} {a : Act} {Q : Exit → Act → World → Prop} (W : World) (hgd : o.guard = none) (s x : Operand)
  (ho : o.op = .call { callee := .builtin .append, args := #[s, x], argTypes := #[25, 25] })
  (base : Nat) (v : Value) (ts : List Rx) (r : Rx) (hs : a.eval s = v) (ok : Nat → Prop) (hnew : ∀ b, W.heap.size ≤ b → ok b) (hK : Hid (RK ok base W v ts)) (k mn mx m : Int) (t : W4) (ad : Option Addr) (l c : Nat)
  (hI : Hid (Is W (fun b => ok b ∧ v.ownBlock ≠ some b) r (rxv k mn mx m t (.slice ad l c)))) (B : Nat) (hB : B = W.heap.size)
  (hx : a.eval x = .slice (some ⟨B, 0, none⟩) 1 1) (h63 : ts.length ≤ 1000000) (hbase : base ≤ W.heap.size)
  (h : ∀ v' w', RK ok base w' v' (ts ++ [r]) → W.grownBy w' v.ownBlock → wpList Tryz.prog ops Q rest (a.put o.dst v') w') :
  wpList Tryz.prog ops Q (o :: rest) a (W.alloc (rxo k mn mx m t (.slice ad l c))) := by
 obtain ⟨i, hi, hz, hsz, hby⟩ := info27
 obtain ⟨vs, hv1, hv2, hv0, hv3⟩ := hK.out.ex
 have kal : Kp W (W.alloc (rxo k mn mx m t (.slice ad l c))) := (Kp.refl _).alloc _
 subst hB
 refine wpList_append_own_at (W.alloc (rxo k mn mx m t (.slice ad l c))) hgd s x 25 ho base 27 i rz 9 88 Tryz.underlying25 hi hz hsz hby rfl (by omega) v ts.length (rowOf vs) hs (owns_same hv2 fun b _ hl => kal.block b hl) ⟨W.heap.size, 0, none⟩ 1 1 (cellsOf (rxv k mn mx m t (.slice ad l c))) hx rfl ?_ (rx_one _ _ _ _ _ _ _ _) (by unfold maxLen; omega) (by omega) (by simp; omega) ?_
 ·
  intro j y hj
  have hn := last_of W (rxo k mn mx m t (.slice ad l c))
  rw [show (⟨W.heap.size, 0, none⟩ : Addr).add j = ⟨W.heap.size, j, none⟩ by simp [Addr.add]; exact Eq.symm]
  refine bl_cell hn j y ?_
  rw [← Array.getElem?_toList]; exact hj
 ·
  intro v' w' a1 a2 _ a4
  have hgr : W.grownBy w' v.ownBlock := ⟨a2.os.trans rfl, a2.tape.trans rfl, a2.output.trans rfl, Nat.le_trans kal.size a2.size, fun b hb hne => (a2.block b (Nat.lt_of_lt_of_le hb kal.size) hne).trans (kal.block b hb)⟩
  refine h v' w' ⟨vs ++ [rxv k mn mx m t (.slice ad l c)], by simp [hv1], ?_, ?_, ?_⟩ hgr
  ·
   rw [List.length_append, rowOf_append, rowOf_one]; exact a1
  ·
   intro b hb
   rcases a4 with a4 | a4
   ·
    rw [a4] at hb; exact hv0 b hb
   ·
    rw [a4] at hb; injection hb with hb; exact hnew b (by rw [← hb]; simp)
  ·
   have hok : ∀ b, (ok b ∧ v.ownBlock ≠ some b) → b < W.heap.size → (ok b ∧ v'.ownBlock ≠ some b) ∧ w'.heap[b]? = W.heap[b]? := by
    intro b hb hl
    refine ⟨⟨hb.1, ?_⟩, hgr.block b hl (Ne.symm hb.2)⟩
    rcases a4 with a4 | a4
    ·
     rw [a4]; exact hb.2
    ·
     rw [a4]; intro he; injection he with he; simp at he; omega
   intro j t' u hj hu
   by_cases hlt : j < ts.length
   ·
    rw [List.getElem?_append_left hlt] at hj
    rw [List.getElem?_append_left (by omega)] at hu
    exact Is.turn hgr.size hok t' u (hv3 j t' u hj hu)
   ·
    have hj0 : j = ts.length := by
     have := (List.getElem?_eq_some_iff.1 hj).1
     simp at this; omega
    subst hj0
    rw [List.getElem?_append_right (Nat.le_refl _)] at hj
    rw [List.getElem?_append_right (by omega), hv1] at hu
    simp at hj hu
    subst hj
    subst hu
    exact Is.turn hgr.size hok _ _ hI.out
theorem keep_rk (ok : Nat → Prop) (base : Nat) (v : Value) (ts : List Rx) (r : Rx) (k mn mx m : Int) (t : W4) (ad : Option Addr) (l c : Nat) (s : ByteArray) (ere : Bool) (i n g d P : Nat) (w : World) (h : Rd w P s ere i n g d) (hK : RK ok base w v ts) (hI : Is w (fun b => ok b ∧ v.ownBlock ≠ some b) r (rxv k mn mx m t (.slice ad l c))) (hnew : ∀ b, w.heap.size ≤ b → ok b) (hb : base ≤ w.heap.size) (ht : ts.length ≤ 1000000) :
  Calls Tryz.prog 136 #[.pointer (some ⟨P, 0, none⟩), v, rxv k mn mx m t (.slice ad l c)] w fun e w' => ∃ v', e = .returned v' ∧ RK ok base w' v' (keepL n ts r) ∧ w.grownBy w' v.ownBlock := by
 have R : Hid (Rd w P s ere i n g d) := h
 have HK : Hid (RK ok base w v ts) := hK
 have HI : Hid (Is w (fun b => ok b ∧ v.ownBlock ≠ some b) r (rxv k mn mx m t (.slice ad l c))) := hI
 have HN := hid hnew
 clear h hK hI hnew
 by_cases hc : n > 40
 ·
  have E : Hid (keepL n ts r = ts) := by show _ = _; unfold keepL; rw [if_pos hc]
  have c1 : (40 : Int) < (n : Int) := by omega
  go_enter Tryz.func136, Tryz.ntmps136
  go_upto_region 1 with fail
  refine opq (fun W0 => Rd W0 P s ere i n g d ∧ W0.heap[w.heap.size]? = some (rxo k mn mx m t (.slice ad l c)) ∧ RK ok base W0 v ts ∧ Is W0 (fun b => ok b ∧ v.ownBlock ≠ some b) r (rxv k mn mx m t (.slice ad l c)) ∧ Kp w W0) ⟨by exact R.out.kp kpt, by (first | exact last_at _ _ _ (by simp) | (refine bl_alloc ?_ _; first | exact last_at _ _ _ (by simp) | (refine bl_alloc ?_ _; first | exact last_at _ _ _ (by simp) | (refine bl_alloc ?_ _; exact last_at _ _ _ (by simp))))), by exact HK.out.kp kpt, by exact HI.out.kp kpt, by exact kpt⟩ ?_
  rintro W0 ⟨xR0, xA0, xHK0, xHI0, xK0⟩
  have R0 := hidT xR0
  have A0 := hidT xA0
  have HK0 := hidT xHK0
  have HI0 := hidT xHI0
  have K0 := hidT xK0
  clear xR0 xA0 xHK0 xHI0 xK0
  have p3 := R0.out.cells.2.2.2.1
  have hs0 := K0.out.size
  go_wp2
  go_ret
  exact ⟨_, rfl, by rw [E.out]; exact HK0.out, K0.out.grown _⟩
 ·
  have E : Hid (keepL n ts r = ts ++ [r]) := by show _ = _; unfold keepL; rw [if_neg hc]
  have c1 : ¬ (40 : Int) < (n : Int) := by omega
  go_enter Tryz.func136, Tryz.ntmps136
  go_upto_region 1 with fail
  refine opq (fun W0 => Rd W0 P s ere i n g d ∧ W0.heap[w.heap.size]? = some (rxo k mn mx m t (.slice ad l c)) ∧ RK ok base W0 v ts ∧ Is W0 (fun b => ok b ∧ v.ownBlock ≠ some b) r (rxv k mn mx m t (.slice ad l c)) ∧ Kp w W0) ⟨by exact R.out.kp kpt, by (first | exact last_at _ _ _ (by simp) | (refine bl_alloc ?_ _; first | exact last_at _ _ _ (by simp) | (refine bl_alloc ?_ _; first | exact last_at _ _ _ (by simp) | (refine bl_alloc ?_ _; exact last_at _ _ _ (by simp))))), by exact HK.out.kp kpt, by exact HI.out.kp kpt, by exact kpt⟩ ?_
  rintro W0 ⟨xR0, xA0, xHK0, xHI0, xK0⟩
  have R0 := hidT xR0
  have A0 := hidT xA0
  have HK0 := hidT xHK0
  have HI0 := hidT xHI0
  have K0 := hidT xK0
  clear xR0 xA0 xHK0 xHI0 xK0
  have p3 := R0.out.cells.2.2.2.1
  have hs0 := K0.out.size
  obtain ⟨a0, a1, a2, a3, a4, a5, a6, a7, a8⟩ := cells9 (A0.out)
  go_wp2_with (at_builtin; go_must (refine wpList_append_rk W0 (by rfl) _ _ (by rfl) base v ts r (by rfl) ok (fun b hb => HN.out b (Nat.le_trans hs0 hb)) HK0 k mn mx m t ad l c HI0 _ (by rfl) (by rfl) ?h1 ?h2 ?_))
  case h2 => omega
  intro v' w' hk' hg'
  have HK' : Hid (RK ok base w' v' (ts ++ [r])) := hk'
  have HG' : Hid (w.grownBy w' v.ownBlock) := ⟨hg'.os.trans K0.out.os, hg'.tape.trans K0.out.tape, hg'.output.trans K0.out.output, Nat.le_trans K0.out.size hg'.size, fun b hb hne => (hg'.block b (Nat.lt_of_lt_of_le hb K0.out.size) hne).trans (K0.out.block b hb)⟩
  clear hk' hg'
  go_wp2_with fail
  go_ret
  exact ⟨_, rfl, by rw [E.out]; exact HK'.out, HG'.out⟩
attribute [local go_sem] field91
structure Cw (c : St → Out) (s : ByteArray) (ere : Bool) (P A : Nat) (w : World) (t0 : St) (k : Nat) (v : Value) (wr : World) (ks : List Rx) (t : St) : Prop where
 kids : RK (fun b => w.heap.size + 1 ≤ b ∧ b ≠ A) (w.heap.size + 1) wr v ks
 rd : Rd wr P s ere t.i t.n t.g t.d
 i : t.i ≤ s.size
 n : t.n ≤ 3 * t.i + 2
 g : t.g ≤ t.i
 d : t.d = t0.d
 f : s.size < k + t.i
 len : ks.length ≤ t.i + 1
 eq : pChL c s ere k ks t = pCh1 c s ere t0
 a : ∃ k mn mx m t ad l c, wr.heap[A]? = some (rxo k mn mx m t (.slice ad l c))
 b : wr.heap[w.heap.size]? = some rzo
 ks : Ks P w wr
theorem choice_any (c : St → Out) (D : Nat) (s : ByteArray) (ere : Bool) (i n g d P : Nat) (w : World) (HC : ChSaid c s ere D) (HGd : CGood c s) (h : Rd w P s ere i n g d) (hv : Inv s ⟨i, n, g, d⟩) (hD : d + D = 6) (hs : s.size ≤ 1000000) :
  Calls Tryz.prog 94 #[.pointer (some ⟨P, 0, none⟩)] w fun e w' => RetE w P s ere (pCh1 c s ere ⟨i, n, g, d⟩) e w' := by
 have R : Hid (Rd w P s ere i n g d) := h
 have hP : P < w.heap.size := h.lt
 clear h
 have hi : i ≤ s.size := hv.i
 obtain ⟨o, ho⟩ : ∃ o, pRow c s ere ⟨i, n, g, d⟩ = o := ⟨_, rfl⟩
 have hgood := pRow_good (ere := ere) HGd hv
 have RA : Hid (∀ w, Rd w P s ere i n g d → Calls Tryz.prog 134 #[.pointer (some ⟨P, 0, none⟩)] w fun e w' => RetE w P s ere o e w') := by
  intro w h
  have := row_any c D s ere i n g d P w HC HGd h hv hD hs
  rw [ho] at this
  exact this
 have E0 : Hid (pCh1 c s ere ⟨i, n, g, d⟩ = if o.e ≠ 0 ∨ (sgn s ere o.st.i).1 ≠ 9 then o else pChL c s ere (s.size + 1) [o.r] o.st) := by
  show _ = _
  unfold pCh1
  rw [ho]
 rw [ho] at hgood
 have HGO := hid hgood
 have ho1 : o.st.i ≤ s.size := hgood.le
 clear ho hgood
 obtain ⟨r, er, ⟨i1, n1, g1, d1⟩⟩ := o
 simp only at ho1
 go_enter Tryz.func94, Tryz.ntmps94
 go_upto_region 1 with fail
 refine opq (fun W0 => Rd W0 P s ere i n g d ∧ W0.heap[w.heap.size]? = some rzo ∧ Ks P w W0) ⟨by exact R.out.kp kpt, by (first | exact last_at _ _ _ (by simp) | (refine bl_alloc ?_ _; first | exact last_at _ _ _ (by simp) | (refine bl_alloc ?_ _; first | exact last_at _ _ _ (by simp) | (refine bl_alloc ?_ _; exact last_at _ _ _ (by simp))))), by exact (Kp.ks kpt (Nat.le_of_lt hP))⟩ ?_
 rintro W0 ⟨xR0, xB0, xK0⟩
 have R0 := hidT xR0
 have B0 := hidT xB0
 have K0 := hidT xK0
 clear xR0 xB0 xK0
 clear R
 have hs0 : w.heap.size < W0.heap.size := bl_lt B0.out
 go_wp2_with fail
 refine (RA.out _ R0.out).mono ?_
 rintro e W1 ⟨⟨v, rfl, rr⟩⟩
 obtain ⟨kk, mn, mx, mm, tt, ad, ll, cc, rfl⟩ := rr.is.form
 have hs1 := rr.ks.size
 have R1 : Hid (Rd W1 P s ere i1 n1 g1 d1) := rr.rd
 have I1 : Hid (Is W1 (fun b => W0.heap.size ≤ b) r (rxv kk mn mx mm tt (.slice ad ll cc))) := rr.is
 have B1 := hid (bl_ks B0.out (by omega) rr.ks)
 have K1 := hid (K0.out.trans rr.ks)
 clear rr R0 B0 K0 RA
 dsimp only
 go_upto_region 2 with fail
 refine opq (fun W2 => Rd W2 P s ere i1 n1 g1 d1 ∧ W2.heap[W1.heap.size]? = some (rxo kk mn mx mm tt (.slice ad ll cc)) ∧ Is W2 (fun b => w.heap.size ≤ b ∧ b ≠ w.heap.size) r (rxv kk mn mx mm tt (.slice ad ll cc)) ∧ Is W2 (fun b => w.heap.size + 1 ≤ b ∧ b ≠ W1.heap.size) r (rxv kk mn mx mm tt (.slice ad ll cc)) ∧ W2.heap[w.heap.size]? = some rzo ∧ Ks P w W2) ⟨by exact R1.out.kp kpt, by (first | exact last_at _ _ _ (by simp) | (refine bl_alloc ?_ _; first | exact last_at _ _ _ (by simp) | (refine bl_alloc ?_ _; first | exact last_at _ _ _ (by simp) | (refine bl_alloc ?_ _; exact last_at _ _ _ (by simp))))), by exact (I1.out.weak (ok' := fun b => w.heap.size ≤ b ∧ b ≠ w.heap.size) (fun _ hb _ => ⟨by omega, by omega⟩)).kp kpt, by exact (I1.out.weak (ok' := fun b => w.heap.size + 1 ≤ b ∧ b ≠ W1.heap.size) (fun _ hb hl => ⟨by omega, by omega⟩)).kp kpt, by exact bl_kp B1.out kpt, by exact K1.out.kpt kpt hP⟩ ?_
 rintro W2 ⟨xR2, xA2, xI2, xJ2, xB2, xK2⟩
 have R2 := hidT xR2
 have A2 := hidT xA2
 have I2 := hidT xI2
 have J2 := hidT xJ2
 have B2 := hidT xB2
 have K2 := hidT xK2
 clear xR2 xA2 xI2 xJ2 xB2 xK2
 clear R1 I1 B1 K1
 have hs2 : W1.heap.size < W2.heap.size := bl_lt A2.out
 by_cases he : er = 0
 ·
  subst he
  obtain ⟨j1, j2, j3, j4⟩ := HGO.out.ok rfl
  simp only at j1 j2 j3 j4
  subst j4
  obtain ⟨x, y, z, hg⟩ : ∃ x y z, sgn s ere i1 = (x, y, z) := ⟨_, _, _, rfl⟩
  have HG := hid hg
  have E1 : Hid (pCh1 c s ere ⟨i, n, g, d1⟩ = if x ≠ 9 then ⟨r, 0, ⟨i1, n1, g1, d1⟩⟩ else pChL c s ere (s.size + 1) [r] ⟨i1, n1, g1, d1⟩) := by
   show _ = _
   rw [E0.out]
   rw [hg]
   by_cases h9 : x ≠ 9
   ·
    rw [if_pos (Or.inr h9), if_pos h9]
   ·
    rw [if_neg (by simp; omega), if_neg h9]
  clear hg
  go_wp2_with fail
  refine (sign_any s ere i1 n1 g1 d1 P _ R2.out ho1 hs).mono ?_
  rintro e W3 ⟨rfl, k3⟩
  rw [HG.out, sg3]
  have R3 := hid (R2.out.kp k3)
  have A3 := hid (bl_kp A2.out k3)
  have I3 := hid (I2.out.kp k3)
  have J3 := hid (J2.out.kp k3)
  have B3 := hid (bl_kp B2.out k3)
  have K3 := hid (K2.out.kpt k3 hP)
  have hs3 := k3.size
  clear k3 R2 A2 I2 J2 B2 K2
  by_cases h9 : x = 9
  ·
   subst h9
   have E2 : Hid (pChL c s ere (s.size + 1) [r] ⟨i1, n1, g1, d1⟩ = pCh1 c s ere ⟨i, n, g, d1⟩) := by show _ = _; rw [E1.out]; rfl
   obtain ⟨a0, a1, a2, a3, a4, a5, a6, a7, a8⟩ := cells9 (A3.out)
   go_wp2_with fail
   clear a0 a1 a2 a3 a4 a5 a6 a7 a8
   go_loopg [5, 6] (s.size + 1) (fun k v5 v wr => v5 = .int .i64 0 ∧ ∃ (ks : List Rx) (t : St), Cw c s ere P W1.heap.size w ⟨i, n, g, d1⟩ k v wr ks t)
   case atStart =>
    refine ⟨rfl, [r], ⟨i1, n1, g1, d1⟩, RK.single kk mn mx mm tt ad ll cc J3.out (by omega) ⟨by omega, by omega⟩, R3.out.kp ((Kp.refl _).alloc _), ho1, j2, j3, rfl, by show s.size < s.size + 1 + i1; omega, by simp, E2.out, ⟨_, _, _, _, _, _, _, _, bl_alloc A3.out _⟩, bl_alloc B3.out _, K3.out.kpt ((Kp.refl _).alloc _) hP⟩
   case round =>
    obtain ⟨rfl, ks, ⟨i2, n2, g2, d2⟩, hcw⟩ := hrel
    have CW := hid hcw
    have hi2 : i2 ≤ s.size := hcw.i
    have hn2 : n2 ≤ 3 * i2 + 2 := hcw.n
    have hg2 : g2 ≤ i2 := hcw.g
    have hd2 : d2 = d1 := hcw.d
    have hf : s.size < gk + i2 := hcw.f
    have hlen : ks.length ≤ i2 + 1 := hcw.len
    have hA := bl_lt hcw.a.choose_spec.choose_spec.choose_spec.choose_spec.choose_spec.choose_spec.choose_spec.choose_spec
    subst hd2
    obtain ⟨k, rfl⟩ : ∃ k, gk = k + 1 := ⟨gk - 1, by omega⟩
    clear hcw R3 A3 I3 J3 B3 K3 E2
    obtain ⟨x, y, z, hg⟩ : ∃ x y z, sgn s ere i2 = (x, y, z) := ⟨_, _, _, rfl⟩
    have HG2 := hid hg
    clear hg
    go_wp2_with fail
    refine (sign_any s ere i2 n2 g2 d2 P _ CW.out.rd hi2 hs).mono ?_
    rintro e V4 ⟨rfl, k4⟩
    rw [HG2.out, sg3]
    have R4 := hid (CW.out.rd.kp k4)
    have L4 := hid (CW.out.kids.kp k4)
    have A4 : Hid (∃ k mn mx m t ad l c, V4.heap[W1.heap.size]? = some (rxo k mn mx m t (.slice ad l c))) := by
     obtain ⟨q1, q2, q3, q4, q5, q6, q7, q8, hq⟩ := CW.out.a
     exact ⟨q1, q2, q3, q4, q5, q6, q7, q8, bl_kp hq k4⟩
    have B4 := hid (bl_kp CW.out.b k4)
    have K4 := hid (CW.out.ks.kpt k4 hP)
    have EQ := hid CW.out.eq
    have hs4 := k4.size
    have hs4' : w.heap.size < V4.heap.size := bl_lt B4.out
    clear k4 CW
    by_cases x9 : x = 9
    ·
     subst x9
     have hlt : i2 < s.size := sgn_lt HG2.out hi2 (by omega)
     have gi : IntKind.i64.wrap ((i2 : Int) + 1) = (i2 : Int) + 1 := by rw [IntKind.wrap_i64]; omega
     obtain ⟨q1, q2, q3, q4, q5, q6, q7, q8, hq⟩ := A4.out
     have A4' := hid hq
     clear hq A4
     have p2 := R4.out.cells.2.2.1
     have fp2 := bl_frozen R4.out.b 2
     go_upto_region 7 with fail
     refine opq (fun W5 => Rd W5 P s ere (i2 + 1) n2 g2 d2 ∧ RK (fun b => w.heap.size + 1 ≤ b ∧ b ≠ W1.heap.size) (w.heap.size + 1) W5 u6 ks ∧ W5.heap[W1.heap.size]? = some (rxo q1 q2 q3 q4 q5 (.slice q6 q7 q8)) ∧ W5.heap[w.heap.size]? = some rzo ∧ Ks P w W5) ⟨by exact R4.out.at (i2 + 1), by exact L4.out.ks ((Ks.refl _ _).set 2 _) (fun _ hb => by omega), by exact bl_set A4'.out (by omega) _, by exact bl_set B4.out (by omega) _, by exact K4.out.set 2 _⟩ ?_
     rintro W5 ⟨xR5, xL5, xA5, xB5, xK5⟩
     have R5 := hidT xR5
     have L5 := hidT xL5
     have A5 := hidT xA5
     have B5 := hidT xB5
     have K5 := hidT xK5
     clear xR5 xL5 xA5 xB5 xK5
     have hs5 : W1.heap.size < W5.heap.size := bl_lt A5.out
     have hs5' : w.heap.size < W5.heap.size := bl_lt B5.out
     clear p2 fp2 R4 L4 A4' B4 K4
     have hinv : Inv s ⟨i2 + 1, n2, g2, d2⟩ := ⟨hlt, by show n2 ≤ 3 * (i2 + 1) + 1; omega, by show g2 ≤ i2 + 1; omega⟩
     obtain ⟨o, ho⟩ : ∃ o, pRow c s ere ⟨i2 + 1, n2, g2, d2⟩ = o := ⟨_, rfl⟩
     have hgood := pRow_good (ere := ere) HGd hinv
     have RA := hid (row_any c D s ere (i2 + 1) n2 g2 d2 P W5 HC HGd R5.out hinv hD hs)
     rw [ho] at hgood RA
     have HGO2 := hid hgood
     have E3 : Hid (pCh1 c s ere ⟨i, n, g, d2⟩ = if o.e ≠ 0 then ⟨rx0, o.e, o.st⟩ else pChL c s ere k (keepL o.st.n ks o.r) o.st) := by
      have := EQ.out
      unfold pChL at this
      rw [HG2.out] at this
      rw [if_pos rfl, ho] at this
      exact this.symm
     clear ho hgood hinv
     obtain ⟨r5, er5, ⟨i5, n5, g5, d5⟩⟩ := o
     go_wp2_with fail
     refine RA.out.mono ?_
     rintro e W6 ⟨⟨v, rfl, rr⟩⟩
     obtain ⟨kx, mn', mx', mm', tt', ad', ll', cc', rfl⟩ := rr.is.form
     have hs6 := rr.ks.size
     have R6 : Hid (Rd W6 P s ere i5 n5 g5 d5) := rr.rd
     have OWN : Hid (∀ b, u6.ownBlock = some b → (w.heap.size + 1 ≤ b ∧ b ≠ W1.heap.size) ∧ b < W5.heap.size) := L5.out.block
     have I6 : Hid (Is W6 (fun b => (w.heap.size + 1 ≤ b ∧ b ≠ W1.heap.size) ∧ u6.ownBlock ≠ some b) r5 (rxv kx mn' mx' mm' tt' (.slice ad' ll' cc'))) := rr.is.weak (fun b hb _ => ⟨⟨by omega, by omega⟩, fun he => by have := OWN.out b he; omega⟩)
     have L6 := hid (L5.out.ks rr.ks (fun _ hb => by omega))
     have A6 := hid (bl_ks A5.out (by omega) rr.ks)
     have B6 := hid (bl_ks B5.out (by omega) rr.ks)
     have K6 := hid (K5.out.trans rr.ks)
     clear rr R5 L5 A5 B5 K5 RA
     dsimp only
     obtain ⟨a0, fa0, a1, fa1, a2, fa2, a3, fa3, a4, fa4, a5, fa5, a6, fa6, a7, fa7, a8, fa8⟩ := cellf9 (A6.out)
     go_upto_region 8 with fail
     clear a0 fa0 a1 fa1 a2 fa2 a3 fa3 a4 fa4 a5 fa5 a6 fa6 a7 fa7 a8 fa8
     refine opq (fun W7 => Rd W7 P s ere i5 n5 g5 d5 ∧ RK (fun b => w.heap.size + 1 ≤ b ∧ b ≠ W1.heap.size) (w.heap.size + 1) W7 u6 ks ∧ W7.heap[W1.heap.size]? = some (rxo kx mn' mx' mm' tt' (.slice ad' ll' cc')) ∧ W7.heap[w.heap.size]? = some rzo ∧ Is W7 (fun b => (w.heap.size + 1 ≤ b ∧ b ≠ W1.heap.size) ∧ u6.ownBlock ≠ some b) r5 (rxv kx mn' mx' mm' tt' (.slice ad' ll' cc')) ∧ Ks P w W7) ⟨by exact R6.out.ks (ks_set9 _ _ _ _ _ _ _ _ _) (by omega) (by omega), by exact L6.out.ks (ks_set9 _ _ _ _ _ _ _ _ _) (fun _ hb => by omega), by exact bl_set9 A6.out _ _ _ _ _ _ _ _ _, by exact bl_ks B6.out (by omega) (ks_set9 _ _ _ _ _ _ _ _ _), by exact I6.out.ks (ks_set9 _ _ _ _ _ _ _ _ _) (fun _ hb _ => by omega), by exact K6.out.off (ks_set9 _ _ _ _ _ _ _ _ _) (by omega) hP⟩ ?_
     rintro W7 ⟨xR7, xL7, xA7, xB7, xI7, xK7⟩
     have R7 := hidT xR7
     have L7 := hidT xL7
     have A7 := hidT xA7
     have B7 := hidT xB7
     have I7 := hidT xI7
     have K7 := hidT xK7
     clear xR7 xL7 xA7 xB7 xI7 xK7
     have hs7 : W1.heap.size < W7.heap.size := bl_lt A7.out
     have hs7' : w.heap.size < W7.heap.size := bl_lt B7.out
     clear R6 L6 A6 B6 I6 K6
     by_cases he : er5 = 0
     ·
      subst he
      obtain ⟨m1, m2, m3, m4⟩ := HGO2.out.ok rfl
      simp only at m1 m2 m3 m4
      have m0 : i5 ≤ s.size := HGO2.out.le
      have E4 : Hid (pChL c s ere k (keepL n5 ks r5) ⟨i5, n5, g5, d5⟩ = pCh1 c s ere ⟨i, n, g, d2⟩) := by show _ = _; rw [E3.out]; rfl
      obtain ⟨a0, a1, a2, a3, a4, a5, a6, a7, a8⟩ := cells9 (A7.out)
      go_wp2_with fail
      refine (keep_rk (fun b => w.heap.size + 1 ≤ b ∧ b ≠ W1.heap.size) (w.heap.size + 1) u6 ks r5 kx mn' mx' mm' tt' ad' ll' cc' s ere i5 n5 g5 d5 P _ R7.out L7.out I7.out (fun _ hb => ⟨by omega, by omega⟩) (by omega) (by omega)).mono ?_
      rintro e W8 ⟨v', rfl, l8, g8⟩
      have R8 := hid (R7.out.grown g8 (fun he => by have := OWN.out P he; omega) (fun he => by have := OWN.out 1 he; have := R7.out.p; omega))
      have L8 := hid l8
      have A8 := hid (bl_grown A7.out g8 (fun he => by have := OWN.out _ he; omega))
      have B8 := hid (bl_grown B7.out g8 (fun he => by have := OWN.out _ he; omega))
      have K8 := hid (K7.out.grown g8 (fun k hk => by have := OWN.out k hk; omega) hP)
      clear l8 g8 R7 A7 I7 L7 B7 K7 a0 a1 a2 a3 a4 a5 a6 a7 a8
      have HL : Hid ((keepL n5 ks r5).length ≤ i5 + 1) := by
       show _ ≤ _
       unfold keepL
       split
       ·
        omega
       ·
        simp; omega
      go_wp2_with fail
      go_roundg k
      case measure => omega
      case rel => exact ⟨rfl, _, ⟨i5, n5, g5, d5⟩, L8.out, R8.out, m0, m2, m3, m4, by show s.size < k + i5; omega, HL.out, E4.out, ⟨_, _, _, _, _, _, _, _, A8.out⟩, B8.out, K8.out⟩
     ·
      have ge : ((er5 : Int) != 0) = true := by simp; omega
      have E : Hid (pCh1 c s ere ⟨i, n, g, d2⟩ = ⟨rx0, er5, ⟨i5, n5, g5, d5⟩⟩) := by show _ = _; rw [E3.out]; exact if_pos he
      obtain ⟨b0, fb0, b1, fb1, b2, fb2, b3, fb3, b4, fb4, b5, fb5, b6, fb6, b7, fb7, b8, fb8⟩ := cellf9 (B7.out)
      go_wp2_with fail
      refine bodyPost_ret (v := .tuple #[rz, .int .i64 (er5 : Int)]) (rx_ret2 rfl _ _ _ _ _ rfl rfl (bl_set9 B7.out _ _ _ _ _ _ _ _ _) rfl) rfl ?_
      rw [E.out]
      exact ⟨_, rfl, Ret.fail R7.out K7.out (ks_set9 _ _ _ _ _ _ _ _ _) hP (Nat.le_refl _)⟩
    ·
     have g9 : ((x : Int) == 9) = false := by simp; omega
     have E : Hid (pCh1 c s ere ⟨i, n, g, d2⟩ = ⟨.mk 3 0 0 0 W4.z ks, 0, ⟨i2, n2 + 1, g2, d2⟩⟩) := by
      have := EQ.out
      unfold pChL at this
      rw [HG2.out] at this
      rw [if_neg x9] at this
      exact this.symm
     obtain ⟨ad9, cap, hv6, hcap⟩ := L4.out.form
     have IS := hid (L4.out.is 3 0 0 0 W4.z)
     subst hv6
     go_wp2_with fail
     refine (node_any0 3 0 0 0 ad9 ks.length cap s ere i2 n2 g2 d2 P _ R4.out (by omega)).mono ?_
     rintro e W9 ⟨rfl, r9, k9⟩
     have R9 := hid r9
     have I9 := hid (IS.out.ks k9 (fun _ hb _ => by omega))
     have B9 := hid (bl_ks B4.out (by omega) k9)
     have K9 := hid (K4.out.trans k9)
     clear r9 k9 R4 L4 A4 B4 K4 IS
     obtain ⟨b0, fb0, b1, fb1, b2, fb2, b3, fb3, b4, fb4, b5, fb5, b6, fb6, b7, fb7, b8, fb8⟩ := cellf9 (B9.out)
     go_wp2_with fail
     refine bodyPost_ret (v := .tuple #[rxv 3 0 0 0 W4.z (.slice ad9 ks.length cap), .int .i64 0]) (rx_ret2 rfl _ _ _ _ _ rfl rfl (bl_set9 B9.out _ _ _ _ _ _ _ _ _) rfl) rfl ?_
     rw [E.out]
     exact ⟨_, rfl, Ret.fin (I9.out.weak (fun _ hb _ => ⟨by omega, by omega⟩)) R9.out K9.out (ks_set9 _ _ _ _ _ _ _ _ _) hP (Nat.le_refl _)⟩
  ·
   have g9 : ((x : Int) != 9) = true := by simp; omega
   have E : Hid (pCh1 c s ere ⟨i, n, g, d1⟩ = ⟨r, 0, ⟨i1, n1, g1, d1⟩⟩) := by show _ = _; rw [E1.out, if_pos h9]
   obtain ⟨a0, a1, a2, a3, a4, a5, a6, a7, a8⟩ := cells9 (A3.out)
   obtain ⟨b0, fb0, b1, fb1, b2, fb2, b3, fb3, b4, fb4, b5, fb5, b6, fb6, b7, fb7, b8, fb8⟩ := cellf9 (B3.out)
   go_wp2_with fail
   refine bodyPost_ret (v := .tuple #[rxv kk mn mx mm tt (.slice ad ll cc), .int .i64 0]) (rx_ret2 rfl _ _ _ _ _ rfl rfl (bl_set9 B3.out _ _ _ _ _ _ _ _ _) rfl) rfl ?_
   rw [E.out]
   exact ⟨_, rfl, Ret.fin I3.out R3.out K3.out (ks_set9 _ _ _ _ _ _ _ _ _) hP (Nat.le_refl _)⟩
 ·
  have ge : ((er : Int) != 0) = true := by simp; omega
  have E : Hid (pCh1 c s ere ⟨i, n, g, d⟩ = ⟨r, er, ⟨i1, n1, g1, d1⟩⟩) := by show _ = _; rw [E0.out, if_pos (Or.inl he)]
  obtain ⟨a0, a1, a2, a3, a4, a5, a6, a7, a8⟩ := cells9 (A2.out)
  obtain ⟨b0, fb0, b1, fb1, b2, fb2, b3, fb3, b4, fb4, b5, fb5, b6, fb6, b7, fb7, b8, fb8⟩ := cellf9 (B2.out)
  go_wp2_with fail
  refine bodyPost_ret (v := .tuple #[rxv kk mn mx mm tt (.slice ad ll cc), .int .i64 (er : Int)]) (rx_ret2 rfl _ _ _ _ _ rfl rfl (bl_set9 B2.out _ _ _ _ _ _ _ _ _) rfl) rfl ?_
  rw [E.out]
  exact ⟨_, rfl, Ret.fin I2.out R2.out K2.out (ks_set9 _ _ _ _ _ _ _ _ _) hP (Nat.le_refl _)⟩
theorem choice_all (s : ByteArray) (ere : Bool) (hs : s.size ≤ 1000000) : ∀ D, ChSaid (pCh s ere D) s ere D
 | 0 => ⟨fun i n g d P w h hv hD h6 => absurd hD (by omega)⟩
 | D + 1 => ⟨fun i n g d P w h hv hD _ => choice_any (pCh s ere D) D s ere i n g d P w (choice_all s ere hs D) (pCh_good s ere D) h hv (by omega) hs⟩
theorem whole_any (s : ByteArray) (ere : Bool) (P : Nat) (w : World) (h : Rd w P s ere 0 0 0 0) (hs : s.size ≤ 1000000) :
  Calls Tryz.prog 51 #[.pointer (some ⟨P, 0, none⟩)] w fun e w' => RetE w P s ere (pWhole s ere) e w' := by
 have R : Hid (Rd w P s ere 0 0 0 0) := h
 have hP : P < w.heap.size := h.lt
 clear h
 have hinv : Inv s ⟨0, 0, 0, 0⟩ := ⟨Nat.zero_le _, by show 0 ≤ 3 * 0 + 1; omega, Nat.le_refl _⟩
 obtain ⟨o, ho⟩ : ∃ o, pCh s ere 7 ⟨0, 0, 0, 0⟩ = o := ⟨_, rfl⟩
 have hgood := (pCh_good s ere 7).all _ hinv
 have CA : Hid (∀ w, Rd w P s ere 0 0 0 0 → Calls Tryz.prog 94 #[.pointer (some ⟨P, 0, none⟩)] w fun e w' => RetE w P s ere o e w') := by
  intro w h
  have := (choice_all s ere hs 7).all 0 0 0 0 P w h hinv rfl (by omega)
  rw [ho] at this
  exact this
 have E0 : Hid (pWhole s ere = if o.e ≠ 0 then ⟨rx0, o.e, o.st⟩ else if o.st.i < s.size then ⟨rx0, 1, o.st⟩ else if o.st.n > 40 ∨ o.st.g > 3 then ⟨rx0, 4, o.st⟩ else o) := by
  show _ = _
  unfold pWhole
  rw [ho]
 rw [ho] at hgood
 have ho1 : o.st.i ≤ s.size := hgood.1
 clear ho hgood hinv
 obtain ⟨r, er, ⟨i, n, g, d⟩⟩ := o
 simp only at ho1
 go_enter Tryz.func51, Tryz.ntmps51
 go_upto_region 1 with fail
 refine opq (fun W0 => Rd W0 P s ere 0 0 0 0 ∧ W0.heap[w.heap.size]? = some rzo ∧ Ks P w W0) ⟨by exact R.out.kp kpt, by (first | exact last_at _ _ _ (by simp) | (refine bl_alloc ?_ _; first | exact last_at _ _ _ (by simp) | (refine bl_alloc ?_ _; first | exact last_at _ _ _ (by simp) | (refine bl_alloc ?_ _; exact last_at _ _ _ (by simp))))), by exact (Kp.ks kpt (Nat.le_of_lt hP))⟩ ?_
 rintro W0 ⟨xR0, xB0, xK0⟩
 have R0 := hidT xR0
 have B0 := hidT xB0
 have K0 := hidT xK0
 clear xR0 xB0 xK0
 clear R
 have hs0 : w.heap.size < W0.heap.size := bl_lt B0.out
 go_wp2_with fail
 refine (CA.out _ R0.out).mono ?_
 rintro e W1 ⟨⟨v, rfl, rr⟩⟩
 obtain ⟨kk, mn, mx, mm, tt, ad, ll, cc, rfl⟩ := rr.is.form
 have hs1 := rr.ks.size
 have R1 : Hid (Rd W1 P s ere i n g d) := rr.rd
 have I1 : Hid (Is W1 (fun b => W0.heap.size ≤ b) r (rxv kk mn mx mm tt (.slice ad ll cc))) := rr.is
 have B1 := hid (bl_ks B0.out (by omega) rr.ks)
 have K1 := hid (K0.out.trans rr.ks)
 clear rr R0 B0 K0 CA
 dsimp only
 go_upto_region 2 with fail
 refine opq (fun W2 => Rd W2 P s ere i n g d ∧ W2.heap[W1.heap.size]? = some (rxo kk mn mx mm tt (.slice ad ll cc)) ∧ Is W2 (fun b => w.heap.size ≤ b ∧ b ≠ w.heap.size) r (rxv kk mn mx mm tt (.slice ad ll cc)) ∧ W2.heap[w.heap.size]? = some rzo ∧ Ks P w W2) ⟨by exact R1.out.kp kpt, by (first | exact last_at _ _ _ (by simp) | (refine bl_alloc ?_ _; first | exact last_at _ _ _ (by simp) | (refine bl_alloc ?_ _; first | exact last_at _ _ _ (by simp) | (refine bl_alloc ?_ _; exact last_at _ _ _ (by simp))))), by exact (I1.out.weak (ok' := fun b => w.heap.size ≤ b ∧ b ≠ w.heap.size) (fun _ hb _ => ⟨by omega, by omega⟩)).kp kpt, by exact bl_kp B1.out kpt, by exact K1.out.kpt kpt hP⟩ ?_
 rintro W2 ⟨xR2, xA2, xI2, xB2, xK2⟩
 have R2 := hidT xR2
 have A2 := hidT xA2
 have I2 := hidT xI2
 have B2 := hidT xB2
 have K2 := hidT xK2
 clear xR2 xA2 xI2 xB2 xK2
 clear R1 I1 B1 K1
 by_cases he : er = 0
 ·
  subst he
  obtain ⟨lt, hlt⟩ : ∃ lt, decide (i < s.size) = lt := ⟨_, rfl⟩
  have HLT := hid hlt
  go_upto_region 4 with fail
  go_cut [16] (fun v wc => v = .bool lt ∧ Kp W2 wc)
  case first =>
   have Q0 : Kp W2 W2.drew := (Kp.refl _).drew
   have MK : Hid (∀ W, Kp W2 W → W.cell? ⟨P, 0, none⟩ = some (.string s) ∧ W.cell? ⟨P, 2, none⟩ = some (.int .i64 (i : Int)) ∧ Hid (Kp W2 W)) := fun W k => ⟨(R2.out.kp k).cells.1, (R2.out.kp k).cells.2.2.1, k⟩
   refine wp_region_noPanic ?_
   refine hdrew MK Q0 (fun hH => ?_)
   have KQ := Q0
   refine tk 0 (some 17) (.move (.tmp 0)) 142 (v := ?v0a1) rfl ?h0a1 hH ?_
   case h0a1 => intro _ _; go_simp; try with_reducible rfl
   try simp only [ps]
   refine tk 1 (some 18) (.nilCheck (.tmp 17)) 0 (v := ?v1a2) rfl ?h1a2 hH ?_
   case h1a2 => intro _ _; go_simp; try with_reducible rfl
   try simp only [ps]
   refine tk 2 (some 19) (.fieldAddr 99 (.tmp 18) 2) 0 (v := ?v2a3) rfl ?h2a3 hH ?_
   case h2a3 => intro _ _; go_simp; try with_reducible rfl
   try simp only [ps]
   refine tk 3 (some 20) (.load 3 (.tmp 19)) 3 (v := ?v3a4) rfl ?h3a4 hH ?_
   case h3a4 => intro _ _; go_simp; try with_reducible rfl
   try simp only [ps]
   refine tk 4 (some 21) (.move (.tmp 0)) 142 (v := ?v4a5) rfl ?h4a5 hH ?_
   case h4a5 => intro _ _; go_simp; try with_reducible rfl
   try simp only [ps]
   refine tk 5 (some 22) (.nilCheck (.tmp 21)) 0 (v := ?v5a6) rfl ?h5a6 hH ?_
   case h5a6 => intro _ _; go_simp; try with_reducible rfl
   try simp only [ps]
   refine tk 6 (some 23) (.fieldAddr 99 (.tmp 22) 0) 0 (v := ?v6a7) rfl ?h6a7 hH ?_
   case h6a7 => intro _ _; go_simp; try with_reducible rfl
   try simp only [ps]
   refine tk 7 (some 24) (.load 9 (.tmp 23)) 9 (v := ?v7a8) rfl ?h7a8 hH ?_
   case h7a8 => intro _ _; go_simp; try with_reducible rfl
   try simp only [ps]
   refine tk 8 (some 25) (.call { callee := .builtin .len, args := #[.tmp 24], argTypes := #[9] }) 3 (v := ?v8a9) rfl ?h8a9 hH ?_
   case h8a9 => intro _ _; go_simp; try with_reducible rfl
   try simp only [ps]
   refine tk 9 (some 26) (.binOp .lss 3 (.tmp 20) (.tmp 25) 3) 4 (v := ?v9a10) rfl ?h9a10 hH ?_
   case h9a10 => intro _ _; go_simp; try with_reducible rfl
   try simp only [ps]
   refine tk 10 (some 16) (.assign (.tmp 26)) 4 (v := ?v10a11) rfl ?h10a11 hH ?_
   case h10a11 => intro _ _; go_simp; try with_reducible rfl
   try simp only [ps]
   refine wpAnyH_done (by kernel_rfl) ?_ _
   refine NoPanic.normal ?_
   go_wp2_with fail
   go_meet
   case rel => exact ⟨rfl, KQ⟩
  case rest =>
   obtain ⟨rfl, k3⟩ := hcut
   rename World => W3
   have R3 := hid (R2.out.kp k3)
   have A3 := hid (bl_kp A2.out k3)
   have I3 := hid (I2.out.kp k3)
   have B3 := hid (bl_kp B2.out k3)
   have K3 := hid (K2.out.kpt k3 hP)
   clear k3 R2 A2 I2 B2 K2 hlt
   have p3 := R3.out.cells.2.2.2.1
   have p4 := R3.out.cells.2.2.2.2.1
   cases lt with
   | true =>
    have h1 : i < s.size := by have := HLT.out; simp at this; omega
    have E : Hid (pWhole s ere = ⟨rx0, 1, ⟨i, n, g, d⟩⟩) := by show _ = _; rw [E0.out]; rw [if_neg (by omega), if_pos h1]
    obtain ⟨b0, fb0, b1, fb1, b2, fb2, b3, fb3, b4, fb4, b5, fb5, b6, fb6, b7, fb7, b8, fb8⟩ := cellf9 (B3.out)
    go_wp2_with fail
    refine bodyPost_ret (v := .tuple #[rz, .int .i64 1]) (rx_ret2 rfl _ _ _ _ _ rfl rfl (bl_set9 B3.out _ _ _ _ _ _ _ _ _) rfl) rfl ?_
    rw [E.out]
    exact ⟨_, rfl, Ret.fail R3.out K3.out (ks_set9 _ _ _ _ _ _ _ _ _) hP (Nat.le_refl _)⟩
   | false =>
    have h1 : ¬ i < s.size := by have := HLT.out; simp at this; omega
    by_cases hn : n > 40
    ·
     have gn : (40 : Int) < (n : Int) := by omega
     have E : Hid (pWhole s ere = ⟨rx0, 4, ⟨i, n, g, d⟩⟩) := by show _ = _; rw [E0.out]; rw [if_neg (by omega), if_neg h1, if_pos (Or.inl hn)]
     obtain ⟨b0, fb0, b1, fb1, b2, fb2, b3, fb3, b4, fb4, b5, fb5, b6, fb6, b7, fb7, b8, fb8⟩ := cellf9 (B3.out)
     go_wp2_with fail
     refine bodyPost_ret (v := .tuple #[rz, .int .i64 4]) (rx_ret2 rfl _ _ _ _ _ rfl rfl (bl_set9 B3.out _ _ _ _ _ _ _ _ _) rfl) rfl ?_
     rw [E.out]
     exact ⟨_, rfl, Ret.fail R3.out K3.out (ks_set9 _ _ _ _ _ _ _ _ _) hP (Nat.le_refl _)⟩
    have gn : ¬ (40 : Int) < (n : Int) := by omega
    by_cases hg : g > 3
    ·
     have gg : (3 : Int) < (g : Int) := by omega
     have E : Hid (pWhole s ere = ⟨rx0, 4, ⟨i, n, g, d⟩⟩) := by show _ = _; rw [E0.out]; rw [if_neg (by omega), if_neg h1, if_pos (Or.inr hg)]
     obtain ⟨b0, fb0, b1, fb1, b2, fb2, b3, fb3, b4, fb4, b5, fb5, b6, fb6, b7, fb7, b8, fb8⟩ := cellf9 (B3.out)
     go_wp2_with fail
     refine bodyPost_ret (v := .tuple #[rz, .int .i64 4]) (rx_ret2 rfl _ _ _ _ _ rfl rfl (bl_set9 B3.out _ _ _ _ _ _ _ _ _) rfl) rfl ?_
     rw [E.out]
     exact ⟨_, rfl, Ret.fail R3.out K3.out (ks_set9 _ _ _ _ _ _ _ _ _) hP (Nat.le_refl _)⟩
    have gg : ¬ (3 : Int) < (g : Int) := by omega
    have E : Hid (pWhole s ere = ⟨r, 0, ⟨i, n, g, d⟩⟩) := by show _ = _; rw [E0.out]; rw [if_neg (by omega), if_neg h1, if_neg (by omega)]
    obtain ⟨a0, a1, a2, a3, a4, a5, a6, a7, a8⟩ := cells9 (A3.out)
    obtain ⟨b0, fb0, b1, fb1, b2, fb2, b3, fb3, b4, fb4, b5, fb5, b6, fb6, b7, fb7, b8, fb8⟩ := cellf9 (B3.out)
    go_wp2_with fail
    refine bodyPost_ret (v := .tuple #[rxv kk mn mx mm tt (.slice ad ll cc), .int .i64 0]) (rx_ret2 rfl _ _ _ _ _ rfl rfl (bl_set9 B3.out _ _ _ _ _ _ _ _ _) rfl) rfl ?_
    rw [E.out]
    exact ⟨_, rfl, Ret.fin I3.out R3.out K3.out (ks_set9 _ _ _ _ _ _ _ _ _) hP (Nat.le_refl _)⟩
 ·
  have ge : ((er : Int) != 0) = true := by simp; omega
  have E : Hid (pWhole s ere = ⟨rx0, er, ⟨i, n, g, d⟩⟩) := by show _ = _; rw [E0.out]; exact if_pos he
  obtain ⟨b0, fb0, b1, fb1, b2, fb2, b3, fb3, b4, fb4, b5, fb5, b6, fb6, b7, fb7, b8, fb8⟩ := cellf9 (B2.out)
  go_wp2_with fail
  refine bodyPost_ret (v := .tuple #[rz, .int .i64 (er : Int)]) (rx_ret2 rfl _ _ _ _ _ rfl rfl (bl_set9 B2.out _ _ _ _ _ _ _ _ _) rfl) rfl ?_
  rw [E.out]
  exact ⟨_, rfl, Ret.fail R2.out K2.out (ks_set9 _ _ _ _ _ _ _ _ _) hP (Nat.le_refl _)⟩
theorem rx_ret3 {fn : Func} {p u x : Tmp} (h : fn.results = #[.cell p 27, .tmp u, .tmp x]) (tmps : Array Value) (w : World) (S : Nat) (cs : Array Value) (a b : Value) (hp : tmps.getD p undef = .pointer (some ⟨S, 0, none⟩)) (hu : tmps.getD u undef = a) (hx : tmps.getD x undef = b) (hA : w.heap[S]? = some (.cells cs 27)) (hc : cs.size = 9) : (results fn tmps).run Tryz.prog w = .ok (.tuple #[.agg cs, a, b]) w := by
 have hl := run_loadVar_row (P := Tryz.prog) w S 27 27 cs (0, 0) _ hA Tryz.underlying27 rfl (by rw [hc]; kernel_rfl)
 have hp' : tmps[p]?.getD undef = .pointer (some ⟨S, 0, none⟩) := by simpa using hp
 have hu' : tmps[u]?.getD undef = a := by simpa using hu
 have hx' : tmps[x]?.getD undef = b := by simpa using hx
 simp [results, h, hp', hu', hx', asAddr, hl]
structure Parsed (w : World) (s : ByteArray) (ere : Bool) (e : Ending) (w' : World) : Prop where
 ex : ∃ v, e = .returned (.tuple #[v, .int .i64 ((pParse s ere).2.1 : Nat), .int .i64 ((pParse s ere).2.2 : Nat)]) ∧ Is w' (fun b => w.heap.size ≤ b) (pParse s ere).1 v ∧ Kp w w'
theorem parse_any (s : ByteArray) (ere : Bool) (w : World) (h0 : ∃ m, w.cell? ⟨1, 0, none⟩ = some (.int .i64 m)) (hs : s.size ≤ 1000000) :
  Calls Tryz.prog 21 #[.string s, .bool ere] w fun e w' => Parsed w s ere e w' := by
 have H0 := hid h0
 have hw : 1 < w.heap.size := by obtain ⟨m, hm⟩ := h0; exact World.block_lt_of_cell? w _ hm
 clear h0
 obtain ⟨o, ho⟩ : ∃ o, pWhole s ere = o := ⟨_, rfl⟩
 have E0 : Hid (pParse s ere = if o.e ≠ 0 then (rx0, o.st.i, o.e) else (o.r, 0, 0)) := by
  show _ = _
  unfold pParse
  rw [ho]
 have WA : Hid (∀ P w, Rd w P s ere 0 0 0 0 → Calls Tryz.prog 51 #[.pointer (some ⟨P, 0, none⟩)] w fun e w' => RetE w P s ere o e w') := by
  intro P w h
  have := whole_any s ere P w h hs
  rw [ho] at this
  exact this
 clear ho
 obtain ⟨r, er, ⟨i, n, g, d⟩⟩ := o
 go_enter Tryz.func21, Tryz.ntmps21
 go_upto_region 2 with fail
 refine opq (fun W0 => Rd W0 (w.heap.size + 1) s ere 0 0 0 0 ∧ W0.heap[w.heap.size]? = some rzo ∧ Kp w W0) ⟨by exact ⟨last_at _ _ _ (by simp), by omega, by obtain ⟨m, hm⟩ := H0.out; exact ⟨m, (Kp.cell (a := w) kpt hw).trans hm⟩⟩, by (first | exact last_at _ _ _ (by simp) | (refine bl_alloc ?_ _; first | exact last_at _ _ _ (by simp) | (refine bl_alloc ?_ _; first | exact last_at _ _ _ (by simp) | (refine bl_alloc ?_ _; exact last_at _ _ _ (by simp))))), by exact kpt⟩ ?_
 rintro W0 ⟨xR0, xB0, xK0⟩
 have R0 := hidT xR0
 have B0 := hidT xB0
 have K0 := hidT xK0
 clear xR0 xB0 xK0
 have hs0 : w.heap.size + 1 < W0.heap.size := R0.out.lt
 go_wp2_with fail
 refine (WA.out (w.heap.size + 1) _ R0.out).mono ?_
 rintro e W1 ⟨⟨v, rfl, rr⟩⟩
 obtain ⟨kk, mn, mx, mm, tt, ad, ll, cc, rfl⟩ := rr.is.form
 have hs1 := rr.ks.size
 have R1 : Hid (Rd W1 (w.heap.size + 1) s ere i n g d) := rr.rd
 have I1 : Hid (Is W1 (fun b => W0.heap.size ≤ b) r (rxv kk mn mx mm tt (.slice ad ll cc))) := rr.is
 have B1 := hid (bl_ks B0.out (by omega) rr.ks)
 have K1 := hid (rr.ks.up K0.out (by omega))
 clear rr R0 B0 K0 WA
 dsimp only
 go_upto_region 3 with fail
 refine opq (fun W2 => Rd W2 (w.heap.size + 1) s ere i n g d ∧ W2.heap[W1.heap.size]? = some (rxo kk mn mx mm tt (.slice ad ll cc)) ∧ Is W2 (fun b => w.heap.size ≤ b ∧ b ≠ w.heap.size) r (rxv kk mn mx mm tt (.slice ad ll cc)) ∧ W2.heap[w.heap.size]? = some rzo ∧ Kp w W2) ⟨by exact R1.out.kp kpt, by (first | exact last_at _ _ _ (by simp) | (refine bl_alloc ?_ _; first | exact last_at _ _ _ (by simp) | (refine bl_alloc ?_ _; first | exact last_at _ _ _ (by simp) | (refine bl_alloc ?_ _; exact last_at _ _ _ (by simp))))), by exact (I1.out.weak (ok' := fun b => w.heap.size ≤ b ∧ b ≠ w.heap.size) (fun _ hb _ => ⟨by omega, by omega⟩)).kp kpt, by exact bl_kp B1.out kpt, by exact K1.out.trans kpt⟩ ?_
 rintro W2 ⟨xR2, xA2, xI2, xB2, xK2⟩
 have R2 := hidT xR2
 have A2 := hidT xA2
 have I2 := hidT xI2
 have B2 := hidT xB2
 have K2 := hidT xK2
 clear xR2 xA2 xI2 xB2 xK2
 clear R1 I1 B1 K1
 by_cases he : er = 0
 ·
  subst he
  have E : Hid (pParse s ere = (r, 0, 0)) := by show _ = _; rw [E0.out]; rfl
  obtain ⟨a0, a1, a2, a3, a4, a5, a6, a7, a8⟩ := cells9 (A2.out)
  obtain ⟨b0, fb0, b1, fb1, b2, fb2, b3, fb3, b4, fb4, b5, fb5, b6, fb6, b7, fb7, b8, fb8⟩ := cellf9 (B2.out)
  go_wp2_with fail
  refine bodyPost_ret (v := .tuple #[rxv kk mn mx mm tt (.slice ad ll cc), .int .i64 0, .int .i64 0]) (rx_ret3 rfl _ _ _ _ _ _ rfl rfl rfl (bl_set9 B2.out _ _ _ _ _ _ _ _ _) rfl) rfl ?_
  refine ⟨rxv kk mn mx mm tt (.slice ad ll cc), ?_, ?_, (ks_set9 _ _ _ _ _ _ _ _ _).up K2.out (Nat.le_refl _)⟩
  ·
   rw [E.out]; rfl
  ·
   rw [E.out]; exact (I2.out.ks (ks_set9 _ _ _ _ _ _ _ _ _) (fun _ hb _ => hb.2)).weak (fun _ hb _ => hb.1)
 ·
  have ge : ((er : Int) != 0) = true := by simp; omega
  have E : Hid (pParse s ere = (rx0, i, er)) := by show _ = _; rw [E0.out]; exact if_pos he
  go_upto_region 4 with fail
  have Q0 : Ks w.heap.size W2 W2.drew := (Ks.refl _ _).drew
  have MK : Hid (∀ W, Ks w.heap.size W2 W → W.cell? ⟨(w.heap.size + 1), 2, none⟩ = some (.int .i64 (i : Int)) ∧ Hid (Ks w.heap.size W2 W)) := fun W k => ⟨(R2.out.ks1 k (by omega) (by omega)).cells.2.2.1, k⟩
  refine wp_region_noPanic ?_
  refine hdrew MK Q0 (fun hH => ?_)
  have KQ := Q0
  refine tk 0 (some 19) (.build 27 #[]) 27 (v := ?v0b1) rfl ?h0b1 hH ?_
  case h0b1 => intro _ _; go_simp; try with_reducible rfl
  try simp only [ps]
  refine tk 1 (some 20) (.fieldAddr 99 (.tmp 7) 2) 0 (v := ?v1b2) rfl ?h1b2 hH ?_
  case h1b2 => intro _ _; go_simp; try with_reducible rfl
  try simp only [ps]
  refine tk 2 (some 21) (.load 3 (.tmp 20)) 3 (v := ?v2b3) rfl ?h2b3 hH ?_
  case h2b3 => intro _ _; go_simp; try with_reducible rfl
  try simp only [ps]
  refine tk 3 (some 22) (.move (.tmp 9)) 28 (v := ?v3b4) rfl ?h3b4 hH ?_
  case h3b4 => intro _ _; go_simp; try with_reducible rfl
  try simp only [ps]
  refine wpAnyH_ready (rs := [4]) (by kernel_rfl) (by simp) ?_
  refine AllReadyH.cons (o := { dst := none, op := .store 27 (.tmp 4) (.tmp 19), type := 0, pos := "parse.go:15", after := _, guard := none }) rfl (fun K hKq => ?_) AllReadyH.nil
  obtain ⟨b0, fb0, b1, fb1, b2, fb2, b3, fb3, b4, fb4, b5, fb5, b6, fb6, b7, fb7, b8, fb8⟩ := cellf9 (B2.out)
  go_simp
  refine hKq.out _ _ (MK.out _ (ks_set9 _ _ _ _ _ _ _ _ _).drew) (fun hN => ?_)
  clear hKq K hH KQ
  have hH := hN
  clear hN
  have KQ := hH.2.out
  try simp only [ps]
  refine tk 5 (some 5) (.assign (.tmp 21)) 3 (v := ?v5b5) rfl ?h5b5 hH ?_
  case h5b5 => intro _ _; go_simp; try with_reducible rfl
  try simp only [ps]
  refine tk 6 (some 6) (.assign (.tmp 22)) 28 (v := ?v6b6) rfl ?h6b6 hH ?_
  case h6b6 => intro _ _; go_simp; try with_reducible rfl
  try simp only [ps]
  refine wpAnyH_done (by kernel_rfl) ?_ _
  refine NoPanic.normal ?_
  go_wp2_with fail
  refine bodyPost_ret (v := .tuple #[rz, .int .i64 (i : Int), .int .i64 (er : Int)]) (rx_ret3 rfl _ _ _ _ _ _ rfl rfl rfl (bl_drew (bl_set9 B2.out _ _ _ _ _ _ _ _ _)) rfl) rfl ?_
  refine ⟨rz, ?_, ?_, ((ks_set9 _ _ _ _ _ _ _ _ _).up K2.out (Nat.le_refl _)).drew⟩
  ·
   rw [E.out]
  ·
   rw [E.out]; exact is_zero _ _
end Go.Proofs.YtigdmebijbaofaaGreatDoor
