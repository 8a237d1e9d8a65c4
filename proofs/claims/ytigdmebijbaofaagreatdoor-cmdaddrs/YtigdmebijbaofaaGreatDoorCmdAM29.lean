/-
  Texts of this claim: Rows9, MakR, MakD, CmK0, CmK1.
-/
import Derived.Test.YtigdmebijbaofaaGreatDoorCmdAM4
import Derived.Test.YtigdmebijbaofaaGreatDoorCmdAM28
import Derived.Test.YtigdmebijbaofaaGreatDoorCmdAM26
import Derived.Test.YtigdmebijbaofaaGreatDoorCmdAM27

/-! ### Rows9 -/

namespace Go.Proofs.YtigdmebijbaofaaGreatDoor
open Go.RowKit

theorem rowOf_one9 : ∀ (vs : List Value), (∀ v ∈ vs, ∃ k mn mx m t ad l c, v = rxv k mn mx m t (.slice ad l c)) → (∀ u ∈ rowOf vs, u.oneCell' = true) ∧ (rowOf vs).length = vs.length * 9
 | [], _ => ⟨by intro u hu; simp [rowOf] at hu, rfl⟩
 | v :: vs, h => by
  obtain ⟨k, mn, mx, m, t, ad, l, c, rfl⟩ := h v (by simp)
  obtain ⟨i1, i2⟩ := rowOf_one9 vs (fun x hx => h x (by simp [hx]))
  have e : rowOf (rxv k mn mx m t (.slice ad l c) :: vs) = cellsOf (rxv k mn mx m t (.slice ad l c)) ++ rowOf vs := by simp [rowOf]
  rw [e]
  refine ⟨fun u hu => ?_, ?_⟩
  ·
   rcases List.mem_append.1 hu with hu | hu
   ·
    exact rx_one _ _ _ _ _ _ _ _ u hu
   ·
    exact i1 u hu
  ·
   rw [List.length_append, i2, List.length_cons]
   show 9 + vs.length * 9 = _
   omega
theorem wpList_append_rkr {ops : Array Oper} {rest : List Oper} {o : Oper} {a : Act} {Q : Exit → Act → World → Prop} (W : World) (hgd : o.guard = none) (s x : Operand)
  (ho : o.op = .call { callee := .builtin .append, args := #[s, x], argTypes := #[25, 25] })
  (ok : Nat → Prop) (base : Nat) (v u : Value) (ts us : List Rx) (hs : a.eval s = v) (hnew : ∀ b, W.heap.size ≤ b → ok b) (hK : Hid (RK ok base W v ts)) (hne : 0 < us.length)
  (hU : Hid (∃ ys : List Value, ys.length = us.length ∧ W.ownsRow base 27 9 u us.length (rowOf ys) ∧ ∀ (j : Nat) t y, us[j]? = some t → ys[j]? = some y → Is W (fun b => ok b ∧ v.ownBlock ≠ some b) t y))
  (hx : a.eval x = u) (h63 : ts.length + us.length ≤ 1000000) (hbase : base ≤ W.heap.size)
  (h : ∀ v' w', RK ok base w' v' (ts ++ us) → W.grownBy w' v.ownBlock → wpList Tryz.prog ops Q rest (a.put o.dst v') w') :
  wpList Tryz.prog ops Q (o :: rest) a W := by
 obtain ⟨i, hi, hz, hsz, hby⟩ := info27
 obtain ⟨vs, hv1, hv2, hv0, hv3⟩ := hK.out.ex
 obtain ⟨ys, hy1, hy2, hy3⟩ := hU.out
 obtain ⟨g, cap, hu, hcap, hbg, hgl, hcell⟩ := owns_cells hy2 hne
 have hform : ∀ y ∈ ys, ∃ k mn mx m t ad l c, y = rxv k mn mx m t (.slice ad l c) := by
  intro y hy
  obtain ⟨q, hq⟩ := List.mem_iff_getElem?.1 hy
  have hq' : q < us.length := by rw [← hy1]; exact (List.getElem?_eq_some_iff.1 hq).1
  exact (hy3 q _ y (List.getElem?_eq_getElem hq') hq).form
 obtain ⟨o1, o2⟩ := rowOf_one9 ys hform
 refine wpList_append_own_at W hgd s x 25 ho base 27 i rz 9 88 Tryz.underlying25 hi hz hsz hby rfl (by omega) v ts.length (rowOf vs) hs hv2 ⟨g, 0, none⟩ us.length cap (rowOf ys) (hx.trans hu) (by rw [o2, hy1]) ?_ o1 (by unfold maxLen; omega) (by omega) hbase ?_
 ·
  intro j y hj
  rw [show (⟨g, 0, none⟩ : Addr).add j = ⟨g, j, none⟩ by simp [Addr.add]; exact Eq.symm]
  exact hcell j y hj
 ·
  intro v' w' a1 a2 _ a4
  refine h v' w' ⟨vs ++ ys, by simp [hv1, hy1], ?_, ?_, ?_⟩ a2
  ·
   rw [List.length_append, rowOf_append]; exact a1
  ·
   intro b hb
   rcases a4 with a4 | a4
   ·
    rw [a4] at hb; exact hv0 b hb
   ·
    rw [a4] at hb; injection hb with hb; exact hnew b (by omega)
  ·
   have hok : ∀ b, (ok b ∧ v.ownBlock ≠ some b) → b < W.heap.size → (ok b ∧ v'.ownBlock ≠ some b) ∧ w'.heap[b]? = W.heap[b]? := by
    intro b hb hl
    refine ⟨⟨hb.1, ?_⟩, a2.block b hl (Ne.symm hb.2)⟩
    rcases a4 with a4 | a4
    ·
     rw [a4]; exact hb.2
    ·
     rw [a4]; intro he; injection he with he; omega
   intro j t' y hj hy
   by_cases hlt : j < ts.length
   ·
    rw [List.getElem?_append_left hlt] at hj
    rw [List.getElem?_append_left (by omega)] at hy
    exact Is.turn a2.size hok t' y (hv3 j t' y hj hy)
   ·
    rw [List.getElem?_append_right (by omega)] at hj
    rw [List.getElem?_append_right (by omega), hv1] at hy
    exact Is.turn a2.size hok t' y (hy3 _ t' y hj hy)
end Go.Proofs.YtigdmebijbaofaaGreatDoor

/-! ### MakR -/

namespace Go.Proofs.YtigdmebijbaofaaGreatDoor
open Go.RowKit

structure RMid (ere : Bool) (B d g x : Nat) (z : Int) (w : World) (v : Value) (w' : World) : Prop where
 ex : ∃ V T g' m k mn mx mm t ad l c, v = .pointer (some ⟨V, 0, none⟩) ∧ w.heap.size + 1 < V ∧ 1 ≤ m ∧ m ≤ 3 ∧ w'.heap[V]? = some (rxo k mn mx mm t (.slice ad l c)) ∧ Is w' (fun b => w.heap.size + 1 < b ∧ b ≠ V) T (rxv k mn mx mm t (.slice ad l c)) ∧
  (m = 1 → Trip.PGood ere 2 T d g g') ∧ (2 ≤ m → ∃ ks, k = 2 ∧ mn = 0 ∧ mx = 0 ∧ mm = 0 ∧ t = W4.z ∧ T = .mk 2 0 0 0 W4.z ks ∧ RK (fun b => w.heap.size + 1 < b ∧ b ≠ V) (w.heap.size + 2) w' (.slice ad l c) ks ∧ ks.length = m ∧ Trip.LG ere d ks g g') ∧
  w'.heap[w.heap.size + 1]? = some rzo ∧ Gone B 4 7 x g z w w' g'

theorem rmid_of {ere : Bool} {B d g x m V : Nat} {z : Int} {w W2 cur Yp Yq Wf : World} {T : Rx} {g' : Nat} {k mn mx mm : Int} {t : W4} {ad : Option Addr} {l c : Nat} (hBw : B + 2 < w.heap.size) (_hg3 : g ≤ 3) (h1 : 1 ≤ m) (h3 : m ≤ 3)
  (hs : w.heap.size + 1 < W2.heap.size) (K2 : Km B w W2) (kc : Kp W2 cur) (hV : w.heap.size + 1 < V) (hVY : V < cur.heap.size + 2 ∨ Yp.heap.size ≤ V) (R2 : W2.heap[w.heap.size + 1]? = some rzo)
  (hI : Is Yp (fun b => cur.heap.size + 2 ≤ b) T (rxv k mn mx mm t (.slice ad l c))) (hP : m = 1 → Trip.PGood ere 2 T d g g')
  (hL : 2 ≤ m → ∃ ks kv, rxv k mn mx mm t (.slice ad l c) = rxv 2 0 0 0 W4.z kv ∧ T = .mk 2 0 0 0 W4.z ks ∧ RKids (cur.heap.size + 2) Yp kv ks ∧ ks.length = m ∧ Trip.LG ere d ks g g')
  (hG : Gone B m (2 * m) (x + 1) g (z - 1) cur Yp g') (_hgg : g ≤ g') (kq : Kp Yp Yq) (kf : Ks V Yq Wf) (hf : Wf.heap[V]? = some (rxo k mn mx mm t (.slice ad l c))) : RMid ere B d g x z w (.pointer (some ⟨V, 0, none⟩)) Wf := by
 have hsc := kc.size
 have hsy := hG.km.size
 have hsq := kq.size
 refine ⟨V, T, g', m, k, mn, mx, mm, t, ad, l, c, rfl, hV, h1, h3, hf, ?_, hP, ?_, ?_, ?_⟩
 ·
  refine Is.turn (Nat.le_trans hsq kf.size) (fun b hb hl => ⟨⟨by omega, by omega⟩, (kf.block b (by omega) (by omega)).trans (kq.block b hl)⟩) _ _ hI
 ·
  intro h2
  obtain ⟨ks, kv, he, hT, hR, hl, hLG⟩ := hL h2
  injection he with he
  injection he with he
  simp at he
  obtain ⟨rfl, rfl, rfl, rfl, e1, e2, e3, e4, rfl⟩ := he
  refine ⟨ks, rfl, rfl, rfl, rfl, ?_, hT, ?_, hl, hLG⟩
  ·
   obtain ⟨t1, t2, t3, t4⟩ := t
   unfold W4.z at e1 e2 e3 e4 ⊢
   simp at e1 e2 e3 e4
   rw [e1, e2, e3, e4]
  ·
   obtain ⟨vs, i1, i2, i3⟩ := hR.ex
   have hlt : ∀ b, (Value.slice ad l c).ownBlock = some b → cur.heap.size + 2 ≤ b ∧ b < Yp.heap.size := hR.block
   refine ⟨vs, i1, ?_, fun b hb => ?_, fun j t' u hj hu => ?_⟩
   ·
    obtain ⟨j1, j2⟩ := i2
    refine ⟨j1, ?_⟩
    rcases j2 with j2 | ⟨g0, cap, cu, hv, hb, hg, hr⟩
    ·
     exact .inl j2
    ·
     have hgl := (Array.getElem?_eq_some_iff.1 hg).1
     exact .inr ⟨g0, cap, cu, hv, by omega, ((kf.block g0 (by omega) (by omega)).trans (kq.block g0 hgl)).trans hg, hr⟩
   ·
    have := hlt b hb
    exact ⟨by omega, by omega⟩
   ·
    refine Is.turn (Nat.le_trans hsq kf.size) (fun b hb hl => ⟨⟨⟨by omega, by omega⟩, hb.2⟩, (kf.block b (by omega) (by omega)).trans (kq.block b hl)⟩) _ _ (i3 j t' u hj hu)
 ·
  exact bl_ks (bl_kp (bl_km (bl_kp R2 kc) (by omega) hG.km) kq) (by omega) kf
 ·
  obtain ⟨x', z', hm, q1, q2, q3⟩ := hG.ex
  exact ⟨⟨x', z', (hm.kp kq).ks kf (by omega), by omega, by omega, by omega⟩, (((K2.kp kc (by omega)).trans hG.km).kp kq (by omega)).new kf (by omega) (by omega)⟩
end Go.Proofs.YtigdmebijbaofaaGreatDoor

/-! ### MakD -/

namespace Go.Proofs.YtigdmebijbaofaaGreatDoor
set_option maxHeartbeats 2000000
set_option maxRecDepth 100000
open Go.RowKit

theorem row_deep (ere : Bool) (H : ∀ d, PartSaid ere d → RowSaid ere d) : RowSaid ere 0 := by
 have p3 : PartSaid ere 3 := ⟨fun aK lK cK aN lN cN B x g z w hA => kpart_any aK lK cK aN lN cN ere B 3 x g z w (by omega) (fun h => absurd h (by omega)) hA⟩
 have p2 : PartSaid ere 2 := ⟨fun aK lK cK aN lN cN B x g z w hA => kpart_any aK lK cK aN lN cN ere B 2 x g z w (by omega) (fun _ => H 3 p3) hA⟩
 have p1 : PartSaid ere 1 := ⟨fun aK lK cK aN lN cN B x g z w hA => kpart_any aK lK cK aN lN cN ere B 1 x g z w (by omega) (fun _ => H 2 p2) hA⟩
 have p0 : PartSaid ere 0 := ⟨fun aK lK cK aN lN cN B x g z w hA => kpart_any aK lK cK aN lN cN ere B 0 x g z w (by omega) (fun _ => H 1 p1) hA⟩
 exact H 0 p0
theorem Nums.up {w : World} {B B' : Nat} {a : Option Addr} {l : Nat} (h : Nums w B a l) (hB : B ≤ B') : Nums w B' a l := ⟨fun hl => by
 obtain ⟨b, o, h1, h2, h3⟩ := h.ex hl
 exact ⟨b, o, h1, by omega, h3⟩⟩
structure Made (ere : Bool) (w : World) (e : Ending) (w' : World) : Prop where
 ex : ∃ T v, e = .returned v ∧ Is w' (fun b => w.heap.size ≤ b) T v ∧ right ere T = true ∧ RxOk T ∧ Trip.noT T = false ∧ Kp w w'
theorem made_any (ere : Bool) (HR : RowSaid ere 0) (aK : Option Addr) (lK cK : Nat) (aN : Option Addr) (lN cN : Nat) (w : World) (hK : Nums w w.heap.size aK lK) (hN : Nums w w.heap.size aN lN) :
  Calls Tryz.prog 35 #[.agg #[.slice aK lK cK, .slice aN lN cN], .bool ere] w fun e w' => Made ere w e w' := by
 have HRS := hid HR
 have HK := hid hK
 have HN := hid hN
 clear HR hK hN
 go_enter Tryz.func35, Tryz.ntmps35
 go_upto_region 2 with fail
 refine opq (fun W0 => W0.heap[w.heap.size]? = some (.cells #[.slice aK lK cK, .slice aN lN cN] 44) ∧ W0.heap[w.heap.size + 1]? = some rzo ∧ Mk W0 (w.heap.size + 1 + 1) ((0 : Nat) : Int) ((0 : Nat) : Int) 14 ∧ Kp w W0) ⟨bl_alloc (bl_alloc (bl_alloc (bl_alloc (last_of _ _) _) _) _) _, bl_alloc (bl_alloc (bl_alloc (last_at _ _ _ (by simp)) _) _) _, ⟨bl_alloc (bl_alloc (last_at _ _ _ (by simp)) _) _, bl_alloc (last_at _ _ _ (by simp)) _, last_at _ _ _ (by simp)⟩, by repeat (first | exact Kp.refl _ | refine Kp.alloc ?_ _)⟩ ?_
 rintro W0 ⟨xA, xR, xM, xK⟩
 have A0 := hid xA
 have R0 := hid xR
 have M0 := hid xM
 have K0 := hid xK
 have hs0 : w.heap.size + 1 < W0.heap.size := bl_lt xR
 clear xA xR xM xK
 have p0 := bl_cell A0.out 0 _ rfl
 have p1 := bl_cell A0.out 1 _ rfl
 go_upto_region 3 with fail
 refine opq (fun W1 => W1.heap[W0.heap.size]? = some (mko aK lK cK aN lN cN ere (w.heap.size + 1 + 1)) ∧ Kp W0 W1) ⟨last_of _ _, (Kp.refl _).alloc _⟩ ?_
 rintro W1 ⟨xA, xK⟩
 have A1 := hid xA
 have R1 := hid (bl_kp R0.out xK)
 have M1 := hid (M0.out.kp xK)
 have K1 := hid (K0.out.trans xK)
 have NK := hid ((HK.out.km (K1.out.km (Nat.le_refl _))).up (B' := w.heap.size + 1 + 1) (by omega))
 have NN := hid ((HN.out.km (K1.out.km (Nat.le_refl _))).up (B' := w.heap.size + 1 + 1) (by omega))
 have hs1 := xK.size
 clear xA xK p0 p1 A0 R0 M0 K0
 obtain ⟨p0, p1, p2, p3, p4, p5⟩ := cells6 A1.out
 go_wp2_with fail
 refine (HRS.out.all aK lK cK aN lN cN (w.heap.size + 1 + 1) 0 0 14 W1 ⟨M1.out, NK.out, NN.out, by omega, by omega, by omega, by omega⟩).mono ?_
 rintro e W2 ⟨⟨T, v, g', rfl, hI, hG, hGo⟩⟩
 obtain ⟨kk, mn, mx, mm, tt, ad, ll, cc, rfl⟩ := hI.form
 have hm1 := M1.out.lt
 have hs2 := hGo.km.size
 have hR2 : W2.heap[w.heap.size + 1]? = some rzo := (hGo.km.block _ (by omega) (by omega) (by omega) (by omega)).trans R1.out
 have R2 := hid hR2
 have I2 := hid hI
 have G2 := hid hG
 have K2 := hid (hGo.km.up K1.out (by omega))
 clear hI hG hGo hR2 p0 p1 p2 p3 p4 p5
 obtain ⟨r0, fr0, r1, fr1, r2, fr2, r3, fr3, r4, fr4, r5, fr5, r6, fr6, r7, fr7, r8, fr8⟩ := cellf9 R2.out
 go_wp2_with fail
 refine bodyPost_ret (v := rxv kk mn mx mm tt (.slice ad ll cc)) (rx_ret rfl _ _ _ _ rfl (bl_set9 R2.out _ _ _ _ _ _ _ _ _) rfl) rfl ⟨⟨T, _, rfl, ?_, G2.out.right, G2.out.ok, G2.out.nn, ?_⟩⟩
 ·
  exact (I2.out.ks (ks_set9 _ _ _ _ _ _ _ _ _) (fun b hb _ => by omega)).weak (fun b hb _ => by omega)
 ·
  exact Ks.up (P := w.heap.size + 1) (ks_set9 _ _ _ _ _ _ _ _ _) K2.out (by omega)
end Go.Proofs.YtigdmebijbaofaaGreatDoor

/-! ### CmK0 -/

namespace Go.Proofs.YtigdmebijbaofaaGreatDoor
open Go.RowKit

theorem noR_z : noR zR = true := sameR_refl zR
theorem right_z (ere : Bool) : right ere zR = false := by cases ere <;> decide +kernel
theorem noR_right {ere : Bool} {T : Rx} (h : right ere T = true) : noR T = false := by
 cases hn : noR T with
 | false => rfl
 | true => rw [sameR_eq T zR hn, right_z] at h; cases h
theorem print_some {ere : Bool} {T : Rx} (hr : right ere T = true) (hO : RxOk T) (hn : Trip.noT T = false) : printT ere T ≠ [] := by
 intro h
 obtain ⟨k, mn, mx, n, s, kids⟩ := T
 rcases (print_empty ere k mn mx n s kids hO).1 h with h1 | ⟨rfl, rfl⟩
 ·
  rw [hr] at h1; cases h1
 ·
  cases hn
theorem adT_line (l : Int) (ere : Bool) (h1 : 1 ≤ l) (h2 : l ≤ 9999) : adT 1 l zR ere = dec l.toNat := by
 unfold adT adR
 simp [noR_z, h1, h2]
theorem adT_none (l : Int) (ere : Bool) (h : ¬ (1 ≤ l ∧ l ≤ 9999)) : adT 1 l zR ere = [] := by
 unfold adT adR
 simp [noR_z]
 omega
theorem adT_last (ere : Bool) : adT 2 0 zR ere = [36] := by
 unfold adT adR
 simp [noR_z]
theorem adT_zero (ere : Bool) : adT 0 0 zR ere = [] := by
 unfold adT adR
 simp
theorem adT_bad (ere : Bool) : adT 2 1 zR ere = [] := by
 unfold adT adR
 simp
theorem adR_last (ere : Bool) : adR 2 0 zR ere = true := by
 unfold adR
 simp [noR_z]
theorem adR_zero (ere : Bool) : adR 0 0 zR ere = true := by
 unfold adR
 simp [noR_z]
theorem adR_match {ere : Bool} {T : Rx} (hr : right ere T = true) (hO : RxOk T) (hn : Trip.noT T = false) : adR 3 0 T ere = true := by
 have h := print_some hr hO hn
 unfold adR wrtR
 simp [h]
theorem adT_match {ere : Bool} {T : Rx} (hr : right ere T = true) (hO : RxOk T) (hn : Trip.noT T = false) : adT 3 0 T ere = [47] ++ printT ere T ++ [47] := by
 unfold adT
 rw [adR_match hr hO hn]
 rfl
theorem adT_more {ere : Bool} {T : Rx} (hr : right ere T = true) : adT 1 1 T ere = [] := by
 unfold adT adR
 simp [noR_right hr]

def ops9 : ByteArray := ⟨#[112, 100, 113, 97, 99, 105, 61, 58, 125]⟩
def txN (p : Nat) : ByteArray := if p = 58 then ⟨#[120]⟩ else ⟨#[]⟩
abbrev cN (a b : Av) (nt : Bool) (p : Nat) (tx : ByteArray) : Cv := ⟨a, b, nt, p, tx, Rv.z, none, 0, 0, false, false, 0, ⟨#[]⟩, ⟨#[]⟩⟩
def lbl (p : Nat) : Bool := p == 58 || p == 125
def twoA (p : Nat) : Bool := p == 112 || p == 100 || p == 99
theorem op9 : ∀ j : Fin 9, ch ops9 j.val < 256 ∧ askedR (cN Av.z Av.z false (ch ops9 j.val) (txN (ch ops9 j.val))) zR [] false = true ∧ leanR (cN Av.z Av.z false (ch ops9 j.val) (txN (ch ops9 j.val))) zR [] = true ∧
  (addrsN (ch ops9 j.val) = 0 ↔ lbl (ch ops9 j.val) = true) ∧ (addrsN (ch ops9 j.val) = 2 ↔ twoA (ch ops9 j.val) = true) ∧ addrsN (ch ops9 j.val) ≤ 2 ∧ kindN (ch ops9 j.val) ≠ 5 := by decide +kernel
theorem asked_n (a b : Av) (nt : Bool) (p : Nat) (tx : ByteArray) (ere : Bool) (h : kindN p ≠ 5) : askedR (cN a b nt p tx) zR [] ere = askedR (cN Av.z Av.z false p tx) zR [] false := by
 obtain ⟨k, hk⟩ : ∃ k, kindN p = k := ⟨_, rfl⟩
 have h6 := kind_top hk
 rw [hk] at h
 unfold askedR
 rw [show kindN (cN a b nt p tx).op = k from hk]
 match k, h, h6 with
 | 0, _, _ | 1, _, _ | 2, _, _ | 3, _, _ | 4, _, _ | 6, _, _ => rfl
 | 5, h, _ => exact absurd rfl h
 | k + 7, _, h6 => omega
theorem right_n (j : Fin 9) (a b : Av) (A B : Rx) (nt : Bool) (ere : Bool) :
  rightC (cN a b nt (ch ops9 j.val) (txN (ch ops9 j.val))) A B zR [] ere = placedR (cN a b nt (ch ops9 j.val) (txN (ch ops9 j.val))) A B ere := by
 obtain ⟨_, h1, h2, _, _, _, h5⟩ := op9 j
 unfold rightC
 rw [asked_n _ _ _ _ _ _ h5, h1, show leanR (cN a b nt (ch ops9 j.val) (txN (ch ops9 j.val))) zR [] = leanR (cN Av.z Av.z false (ch ops9 j.val) (txN (ch ops9 j.val))) zR [] from rfl, h2, Bool.and_true, Bool.and_true]
theorem right_0 (j : Fin 9) (ere : Bool) : rightC (cN Av.z Av.z false (ch ops9 j.val) (txN (ch ops9 j.val))) zR zR zR [] ere = true := by
 rw [right_n]
 unfold placedR
 show (adR 0 0 zR ere && adR 0 0 zR ere && _) = true
 rw [adR_zero]
 split
 ·
  rfl
 ·
  split <;> rfl
theorem right_1 (j : Fin 9) (ere : Bool) : rightC (cN ⟨2, 0, Rv.z⟩ Av.z false (ch ops9 j.val) (txN (ch ops9 j.val))) zR zR zR [] ere = !lbl (ch ops9 j.val) := by
 obtain ⟨_, _, _, h3, h4, h5, _⟩ := op9 j
 rw [right_n]
 unfold placedR
 show (adR 2 0 zR ere && adR 0 0 zR ere && (if addrsN (ch ops9 j.val) = 0 then _ else if addrsN (ch ops9 j.val) = 1 then _ else _)) = _
 rw [adR_zero, adR_last]
 cases hl : lbl (ch ops9 j.val) with
 | true => rw [if_pos (h3.2 hl)]; rfl
 | false =>
  rw [if_neg (fun h => by rw [h3.1 h] at hl; cases hl)]
  split <;> rfl
theorem right_2 (j : Fin 9) (r : Rv) {T : Rx} {ere : Bool} (hm : adR 3 0 T ere = true) : rightC (cN ⟨3, 0, r⟩ ⟨2, 0, Rv.z⟩ false (ch ops9 j.val) (txN (ch ops9 j.val))) T zR zR [] ere = twoA (ch ops9 j.val) := by
 obtain ⟨_, _, _, h3, h4, h5, _⟩ := op9 j
 rw [right_n]
 unfold placedR
 show (adR 3 0 T ere && adR 2 0 zR ere && (if addrsN (ch ops9 j.val) = 0 then _ else if addrsN (ch ops9 j.val) = 1 then _ else _)) = _
 rw [hm, adR_last]
 cases hl : twoA (ch ops9 j.val) with
 | true => rw [if_neg (by rw [h4.2 hl]; decide), if_neg (by rw [h4.2 hl]; decide)]; rfl
 | false =>
  have : addrsN (ch ops9 j.val) ≠ 2 := fun h => by rw [h4.1 h] at hl; cases hl
  split
  ·
   rfl
  ·
   rw [if_pos (by omega)]; rfl
theorem right_3 (j : Fin 9) (ere : Bool) : rightC (cN Av.z Av.z true (ch ops9 j.val) (txN (ch ops9 j.val))) zR zR zR [] ere = !lbl (ch ops9 j.val) := by
 obtain ⟨_, _, _, h3, h4, h5, _⟩ := op9 j
 rw [right_n]
 unfold placedR
 show (adR 0 0 zR ere && adR 0 0 zR ere && (if addrsN (ch ops9 j.val) = 0 then _ else if addrsN (ch ops9 j.val) = 1 then _ else _)) = _
 rw [adR_zero]
 cases hl : lbl (ch ops9 j.val) with
 | true => rw [if_pos (h3.2 hl)]; rfl
 | false =>
  rw [if_neg (fun h => by rw [h3.1 h] at hl; cases hl)]
  split <;> rfl
theorem cN_ok (a b : Av) (nt : Bool) (p : Nat) (tx : ByteArray) {A B : Rx} (hA : RxOk A) (hB : RxOk B) (hp : p < 256) (ht : tx.size ≤ 1) : COk (cN a b nt p tx) A B zR [] := ⟨hA, hB, zR_ok, by simp, hp, by show tx.size ≤ _; omega, by show (0 : Nat) ≤ 1000000; omega, by show (0 : Nat) ≤ 1000000; omega⟩
theorem cN_is (a b : Av) (nt : Bool) (p : Nat) (tx : ByteArray) {A B : Rx} {w : World} (hA : a.r.is w A) (hB : b.r.is w B) : CIs w (cN a b nt p tx) A B zR [] := ⟨hA, hB, zR_is w, PcAt.nil w⟩
theorem yields_av {ops : Array Oper} {S : World → Prop} {op : Oper} {a : Act} (hw : Region.wanted op (yielded ops a.tmps) = true) {x : Operand} (ho : op.op = .load 32 x) {B : Nat} (hx : a.eval x = .pointer (some ⟨B, 0, none⟩)) (c : Av) (hS : ∀ w, S w → w.heap[B]? = some c.o) : YieldsIf Tryz.prog ops S op c.v a :=
 yieldsIf_load_mid hw 32 x ho B 0 hx [.int .i64 c.k, .int .i64 c.ln, .int .i64 c.r.k, .int .i64 c.r.mn, .int .i64 c.r.mx, .int .i64 c.r.m, .int .u64 (c.r.t.a : Int), .int .u64 (c.r.t.b : Int), .int .u64 (c.r.t.c : Int), .int .u64 (c.r.t.d : Int), .slice c.r.ad c.r.l c.r.c] _ (fun w h j v hv => by rw [Nat.zero_add]; exact bl_cell (hS w h) j v (by rw [← Array.getElem?_toList]; exact hv)) Tryz.underlying32 rfl (by kernel_rfl)
theorem yields_ar {ops : Array Oper} {S : World → Prop} {op : Oper} {a : Act} (hw : Region.wanted op (yielded ops a.tmps) = true) {x : Operand} (ho : op.op = .load 27 x) {B : Nat} (hx : a.eval x = .pointer (some ⟨B, 2, none⟩)) (c : Av) (hS : ∀ w, S w → w.heap[B]? = some c.o) : YieldsIf Tryz.prog ops S op c.r.v a :=
 yieldsIf_load_mid hw 27 x ho B 2 hx [.int .i64 c.r.k, .int .i64 c.r.mn, .int .i64 c.r.mx, .int .i64 c.r.m, .int .u64 (c.r.t.a : Int), .int .u64 (c.r.t.b : Int), .int .u64 (c.r.t.c : Int), .int .u64 (c.r.t.d : Int), .slice c.r.ad c.r.l c.r.c] _ (fun w h j v hv => by
  refine bl_cell (hS w h) (2 + j) v ?_
  rw [← Array.getElem?_toList]
  simpa [Nat.add_comm] using hv) Tryz.underlying27 rfl (by kernel_rfl)

end Go.Proofs.YtigdmebijbaofaaGreatDoor

/-! ### CmK1 -/

namespace Go.Proofs.YtigdmebijbaofaaGreatDoor
open Go.RowKit

theorem wp_store_a {op : Oper} {A : Act} {W : World} {K : Act → World → Prop} {Q : Exit → Act → World → Prop} {x y : Operand} (ho : op.op = .store 32 x y) {B : Nat} (hx : A.eval x = .pointer (some ⟨B, 0, none⟩)) (a' : Av) (hy : A.eval y = a'.v) {a b : Av} {nt : Bool} {p : Nat} {tx : ByteArray} (h : W.heap[B]? = some (Cv.o (cN a b nt p tx)))
  (hk : ∀ w', w'.heap[B]? = some (Cv.o (cN a' b nt p tx)) → Ks B W w' → K (A.put op.dst undef) w') : op.wp Tryz.prog A W K Q := by
 refine wp_store_mid 32 x y ho B 0 (List.toArray [.int .i64 a'.k, .int .i64 a'.ln, .int .i64 a'.r.k, .int .i64 a'.r.mn, .int .i64 a'.r.mx, .int .i64 a'.r.m, .int .u64 (a'.r.t.a : Int), .int .u64 (a'.r.t.b : Int), .int .u64 (a'.r.t.c : Int), .int .u64 (a'.r.t.d : Int), .slice a'.r.ad a'.r.l a'.r.c]) hx hy (there_of h 0 _ (by show 0 + 11 ≤ 40; omega)) (by kernel_rfl) (by rw [← Array.all_toList]; rfl) (hk _ ?_ (ks_setCells _ 0 _ (Ks.refl _ _)))
 have := bl_setCells [.int .i64 a'.k, .int .i64 a'.ln, .int .i64 a'.r.k, .int .i64 a'.r.mn, .int .i64 a'.r.mx, .int .i64 a'.r.m, .int .u64 (a'.r.t.a : Int), .int .u64 (a'.r.t.b : Int), .int .u64 (a'.r.t.c : Int), .int .u64 (a'.r.t.d : Int), .slice a'.r.ad a'.r.l a'.r.c] 0 W _ h
 simp only [putL, List.setIfInBounds_toArray, List.set_cons_zero, List.set_cons_succ] at this
 exact this
theorem wp_store_b {op : Oper} {A : Act} {W : World} {K : Act → World → Prop} {Q : Exit → Act → World → Prop} {x y : Operand} (ho : op.op = .store 32 x y) {B : Nat} (hx : A.eval x = .pointer (some ⟨B, 11, none⟩)) (a' : Av) (hy : A.eval y = a'.v) {a b : Av} {nt : Bool} {p : Nat} {tx : ByteArray} (h : W.heap[B]? = some (Cv.o (cN a b nt p tx)))
  (hk : ∀ w', w'.heap[B]? = some (Cv.o (cN a a' nt p tx)) → Ks B W w' → K (A.put op.dst undef) w') : op.wp Tryz.prog A W K Q := by
 refine wp_store_mid 32 x y ho B 11 (List.toArray [.int .i64 a'.k, .int .i64 a'.ln, .int .i64 a'.r.k, .int .i64 a'.r.mn, .int .i64 a'.r.mx, .int .i64 a'.r.m, .int .u64 (a'.r.t.a : Int), .int .u64 (a'.r.t.b : Int), .int .u64 (a'.r.t.c : Int), .int .u64 (a'.r.t.d : Int), .slice a'.r.ad a'.r.l a'.r.c]) hx hy (there_of h 11 _ (by show 11 + 11 ≤ 40; omega)) (by kernel_rfl) (by rw [← Array.all_toList]; rfl) (hk _ ?_ (ks_setCells _ 11 _ (Ks.refl _ _)))
 have := bl_setCells [.int .i64 a'.k, .int .i64 a'.ln, .int .i64 a'.r.k, .int .i64 a'.r.mn, .int .i64 a'.r.mx, .int .i64 a'.r.m, .int .u64 (a'.r.t.a : Int), .int .u64 (a'.r.t.b : Int), .int .u64 (a'.r.t.c : Int), .int .u64 (a'.r.t.d : Int), .slice a'.r.ad a'.r.l a'.r.c] 11 W _ h
 simp only [putL, List.setIfInBounds_toArray, List.set_cons_zero, List.set_cons_succ] at this
 exact this
theorem wp_store_nt {op : Oper} {A : Act} {W : World} {K : Act → World → Prop} {Q : Exit → Act → World → Prop} {x y : Operand} (ho : op.op = .store 4 x y) {B : Nat} (hx : A.eval x = .pointer (some ⟨B, 22, none⟩)) (n' : Bool) (hy : A.eval y = .bool n') {a b : Av} {nt : Bool} {p : Nat} {tx : ByteArray} (h : W.heap[B]? = some (Cv.o (cN a b nt p tx)))
  (hk : ∀ w', w'.heap[B]? = some (Cv.o (cN a b n' p tx)) → Ks B W w' → K (A.put op.dst undef) w') : op.wp Tryz.prog A W K Q := by
 have hi : (Tryz.prog.info? 4).map (·.size) = some 1 := by kernel_rfl
 unfold Oper.wp execOp
 simp only [ho, hx, hy, Instr.storeAt, Instr.sureAddr, Sem.run_bind, Sem.run_pure, Result.andThen_ok, run_storeVar_one (P := Tryz.prog) W B 22 4 (.bool n') rfl rfl (there_of h 22 1 (by show 22 + 1 ≤ 40; omega)) hi]
 exact hk _ (bl_put h (.bool n')) ((Ks.refl _ _).set 22 (.bool n'))
theorem wp_store_cv {op : Oper} {A : Act} {W : World} {K : Act → World → Prop} {Q : Exit → Act → World → Prop} {x y : Operand} (ho : op.op = .store 37 x y) {B : Nat} (hx : A.eval x = .pointer (some ⟨B, 0, none⟩))
  (c : Cv) (hy : A.eval y = c.v) {cs : Array Value} (h : W.heap[B]? = some (.cells cs 37)) (hs : cs.size = 40)
  (hk : ∀ w', w'.heap[B]? = some c.o → Ks B W w' → K (A.put op.dst undef) w') : op.wp Tryz.prog A W K Q := by
 refine wp_store_mid 37 x y ho B 0 c.cs hx hy (there_of h 0 _ (by rw [hs]; show 0 + 40 ≤ 40; omega)) (by kernel_rfl) (one_cv c) (hk _ ?_ (ks_setCells _ 0 _ (Ks.refl _ _)))
 have := bl_setCells c.cs.toList 0 W cs h
 rw [putL_all cs c.cs hs] at this
 exact this

end Go.Proofs.YtigdmebijbaofaaGreatDoor
