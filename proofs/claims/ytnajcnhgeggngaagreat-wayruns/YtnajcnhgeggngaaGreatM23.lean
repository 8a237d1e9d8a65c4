/-
  Texts of this claim: Bld, Srt, Unb0, TKey.
-/
import Derived.Test.YtnajcnhgeggngaaGreatM18
import Derived.Test.YtnajcnhgeggngaaGreatM21
import Derived.Shelf.Sort.AssemblyIn
import Derived.Sort.EveryDepth
import Derived.Sort.OwnSortedInts
import Derived.Test.YtnajcnhgeggngaaGreatM17
import Derived.Test.YtnajcnhgeggngaaGreatM19
import Derived.Test.YtnajcnhgeggngaaGreatM15

/-! ### Bld -/

namespace Go.Proofs.YtnajcnhgeggngaaGreat.Way
set_option maxHeartbeats 2000000
set_option maxRecDepth 100000
open Go.RowKit Go.Proofs.YtnajcnhgeggngaaGreat

theorem make127 (w : World) : (Instr.makeMap 127 none).run Tryz.prog w = .ok (.map (some w.heap.size)) (w.alloc (.map #[] 0)) := run_makeMap 127 w
theorem make128 (w : World) : (Instr.makeMap 128 none).run Tryz.prog w = .ok (.map (some w.heap.size)) (w.alloc (.map #[] 0)) := run_makeMap 128 w
structure BuildS (r : Rx) : Prop where
 all : ∀ (ok : Nat → Prop) (v : Value) (w : World), Is w ok r v → Calls Tryz.prog 32 #[v] w fun e w' => ∃ p, e = .returned (ptv p.P) ∧ BuildD r w p w'
structure NewM (P : Nat) (lf : Bool) (kn so : Option Nat) (w : World) : Prop where
 nd : (P :: (kn.toList ++ so.toList)).Nodup
 at_ : ∀ b ∈ kn.toList ++ so.toList, P < b ∧ b < w.heap.size ∧ w.heap[b]? = some (.map #[] 0)
 n_ : lf = false → (∃ b, kn = some b) ∧ ∃ c, so = some c
theorem NewM.kp {P : Nat} {lf : Bool} {kn so : Option Nat} {w w' : World} (h : NewM P lf kn so w) (k : Kp w w') : NewM P lf kn so w' := ⟨h.nd, fun b hb => ⟨(h.at_ b hb).1, Nat.lt_of_lt_of_le (h.at_ b hb).2.1 k.size, bl_kp (h.at_ b hb).2.2 k⟩, h.n_⟩
theorem nodup3 {a b c : Nat} (h1 : a ≠ b) (h2 : a ≠ c) (h3 : b ≠ c) : (a :: ((some b).toList ++ (some c).toList)).Nodup := by
 simp [h1, h2, h3]
theorem ks_past {P : Nat} {S : Nat → Prop} {a b c d : World} (h : Ks P a b) (k : Kp b c) (g : Kx S c d) (hs : ∀ x, x < a.heap.size → S x → False) (hP : P < a.heap.size) (j : Nat) (u : Value) : Ks P a (d.setCell ⟨P, j, none⟩ u) := by
 have h1 := h.kpt k hP
 have hb : ∀ x, x < a.heap.size → x ≠ P → d.heap[x]? = a.heap[x]? := fun x hx hn => (g.block x (Nat.lt_of_lt_of_le hx h1.size) (fun e => hs x hx e)).trans (h1.block x hx hn)
 exact Ks.set ⟨⟨g.lo.os.trans h1.lo.os, g.lo.tape.trans h1.lo.tape, g.lo.output.trans h1.lo.output, Nat.le_trans h1.size g.size, fun x hx => hb x (by omega) (by omega)⟩, hb⟩ j u
theorem build_done {P base : Nat} {k mn mx n : Int} {s : W4} {kn so : Option Nat} {kids : List Rx} {vad : Option Addr} {vc : Nat} {ps : List Pt} {lf : Bool} {w Wb w3 w4 : World} (BW : BldW P base k mn mx n s kn so kids (.slice vad (ps.map Pt.P).length vc) ps w3) (NM : NewM P lf kn so Wb) (hb : Wb.heap.size = base) (KS : Ks P Wb w3) (hP : w.heap.size ≤ P) (KB : Kp w Wb) (hlf : leafK k = lf) (h4 : w4.heap[P]? = some (pto k mn mx n s (.slice vad ps.length vc) (usedP k mn n ps).1 (usedP k mn n ps).2 0 kn so)) (K4 : Ks P w3 w4) : BuildD (.mk k mn mx n s kids) w (.mk k mn mx n s P kn so (usedP k mn n ps).1 (usedP k mn n ps).2 0 ps) w4 := by
 have hpb := BW.pb
 have K04 : Ks P Wb w4 := KS.trans K4
 have hwb := KB.size
 have hb4 := K04.size
 have h34 := K4.size
 have hki := BW.row.kids (ok := fun b => base ≤ b) (fun _ h => h)
 have keep : ∀ b, base ≤ b → b < w3.heap.size → w.heap.size ≤ b ∧ w4.heap[b]? = w3.heap[b]? := fun b hb2 hl => ⟨by omega, K4.block b hl (by omega)⟩
 have mp : ∀ b ∈ kn.toList ++ so.toList, w.heap.size ≤ b ∧ b < base ∧ w4.heap[b]? = some (.map #[] 0) := fun b hm => by
  obtain ⟨a1, a2, a3⟩ := NM.at_ b hm
  exact ⟨by omega, by omega, (K04.block b a2 (by omega)).trans a3⟩
 refine ⟨?_, ?_, ?_, fun b hb2 => ?_, fun b hb2 => ?_, ?_, K04.up KB hP⟩
 ·
  unfold er bldE
  rw [BW.er, ← used_er k mn n ps, BW.er]
 ·
  unfold PtAt
  refine ⟨hP, ⟨vad, vc, h4, hki.cap, fun hl => ?_⟩, PtsAt.keep h34 (fun b hb2 hl => keep b hb2.1 hl) ps BW.at_⟩
  obtain ⟨b, e, h1, h2, h3⟩ := hki.at_ hl
  exact ⟨b, e, (keep b h1 h2).1, by omega, fun j q hj => (cell_same (keep b h1 h2).2 _).trans (h3 j q hj)⟩
 ·
  unfold blks
  have hn := List.nodup_cons.1 NM.nd
  refine List.nodup_cons.2 ⟨fun e => ?_, List.nodup_append.2 ⟨hn.2, BW.nd, fun a ha b hb2 e => ?_⟩⟩
  ·
   rcases List.mem_append.1 e with e | e
   ·
    exact hn.1 e
   ·
    have := (BW.rng P e).1
    omega
  ·
   have := (mp a ha).2.1
   have := (BW.rng b hb2).1
   omega
 ·
  unfold blks at hb2
  rcases List.mem_cons.1 hb2 with e | e
  ·
   subst e
   exact ⟨hP, by omega⟩
  ·
   rcases List.mem_append.1 e with e | e
   ·
    obtain ⟨a1, a2, _⟩ := mp b e
    exact ⟨a1, by omega⟩
   ·
    obtain ⟨a1, a2, _⟩ := BW.rng b e
    exact ⟨by omega, by omega⟩
 ·
  unfold mapsOf at hb2
  rcases List.mem_append.1 hb2 with e | e
  ·
   exact (mp b e).2.2
  ·
   obtain ⟨a1, a2, _⟩ := BW.rng b (mapss_sub ps b e)
   exact (keep b a1 a2).2.trans (BW.maps b e)
 ·
  unfold PtN
  exact ⟨fun e => NM.n_ (hlf.symm.trans e), BW.n_⟩
theorem build_step (k mn mx n : Int) (s : W4) (kids : List Rx) (H : ∀ r, r ∈ kids → BuildS r) (hW : RxW (.mk k mn mx n s kids)) : BuildS (.mk k mn mx n s kids) := by
 refine ⟨fun ok v w hI => ?_⟩
 unfold RxW at hW
 obtain ⟨hw1, hw2, hw3, hw4, hS, hw6⟩ := hW
 obtain ⟨ad, l, c, rfl, hr⟩ := hI.row
 have hle := hr.ln
 have hlc := hr.cp
 subst hle
 obtain ⟨L, hL⟩ : ∃ L, kids.length = L := ⟨_, rfl⟩
 rw [hL] at hr hlc hS ⊢
 have HL := hid hL
 have RR := hid hr
 have HH := hid H
 have HSS := hid hS
 have HN56 := hid (show k = 6 ∨ k = 5 → n = 1 ∨ n = 2 ∨ n = 3 from fun e => by
  rcases e with rfl | rfl
  ·
   rcases (hw1 rfl).k with e | e | e | ⟨_, e⟩
   ·
    cases e
   ·
    cases e
   ·
    cases e
   ·
    exact e
  ·
   exact hw2 rfl)
 have HNE := hid (show k = 5 ∨ k = 4 → kids ≠ [] from fun e h => by have := hw4 e; rw [h] at this; cases this)
 clear hI hr H hL hw1 hw2 hw3 hw4 hw6
 obtain ⟨lf, hlf⟩ : ∃ lf, leafK k = lf := ⟨_, rfl⟩
 have HLF := hid hlf
 clear hlf
 go_enter Tryz.func32, Tryz.ntmps32
 go_upto_region 1 with fail
 refine opq (fun Wa => Wa.heap[w.heap.size]? = some (rxo k mn mx n s (.slice ad L c)) ∧ Kp w Wa) ⟨by exact last_at _ _ _ (by simp), by exact kpt⟩ ?_
 rintro Wa ⟨xAa, xKa⟩
 have Aa := hid xAa
 have Ka := hid xKa
 clear xAa xKa
 obtain ⟨a0, a1, a2, a3, a4, a5, a6, a7, a8⟩ := cells9 (Aa.out)
 go_upto_region 2 with fail
 refine opq (fun W0 => W0.heap[Wa.heap.size]? = some (pto k mn mx n s (.slice none 0 0) 0 0 0 none none) ∧ W0.heap[w.heap.size]? = some (rxo k mn mx n s (.slice ad L c)) ∧ Kp w W0 ∧ Wa.heap.size < W0.heap.size) ⟨by exact last_of _ _, by exact bl_alloc Aa.out _, by exact Ka.out.alloc _, by simp⟩ ?_
 rintro W0 ⟨xP0, xA0, xK0, xZ0⟩
 have P0 := hid xP0
 have A0 := hid xA0
 have K0 := hid xK0
 have Z0 := hid xZ0
 clear xP0 xA0 xK0 xZ0
 have HPA := hid (show w.heap.size < Wa.heap.size from bl_lt Aa.out)
 clear a0 a1 a2 a3 a4 a5 a6 a7 a8 Aa
 have HPw := hid (show w.heap.size ≤ Wa.heap.size from Ka.out.size)
 obtain ⟨P, hPP⟩ : ∃ P, Wa.heap.size = P := ⟨_, rfl⟩
 rw [hPP] at P0 Z0 HPw HPA ⊢
 clear Ka hPP
 have HLE := hid (leaf_any k mn mx n s (.slice none 0 0) 0 0 0 none none P)
 rw [HLF.out] at HLE
 go_wp2_with fail
 refine (HLE.out _ P0.out).mono ?_
 rintro e w1 ⟨rfl, hw⟩
 rw [hw]
 clear hw w1
 go_upto_if 20 with fail
 go_cut [] (fun wc => ∃ kn so, wc.heap[P]? = some (pto k mn mx n s (.slice none 0 0) 0 0 0 kn so) ∧ NewM P lf kn so wc ∧ Ks P W0 wc)
 case first =>
  cases lf with
  | true =>
   go_wp2_with fail
   go_meet
   case rel => exact ⟨none, none, P0.out, ⟨by simp, (fun b hb => by cases hb), (fun e => by cases e)⟩, Ks.refl _ _⟩
  | false =>
   have hm1 := make127
   have hm2 := make128
   have p12 := bl_cell (bl_alloc P0.out (.map #[] 0)) 12 _ rfl
   have fp12 := bl_frozen (bl_alloc P0.out (.map #[] 0)) 12
   go_upto_region 4 with fail
   refine opq (fun W2 => W2.heap[P]? = some (pto k mn mx n s (.slice none 0 0) 0 0 0 (some W0.heap.size) none) ∧ W2.heap[W0.heap.size]? = some (.map #[] 0) ∧ Ks P W0 W2 ∧ W0.heap.size < W2.heap.size) ⟨by exact bl_put (bl_alloc P0.out _) _, by exact (Below.heap_setCell _ ⟨P, 12, none⟩ _ W0.heap.size (show W0.heap.size ≠ P by have := Z0.out; have := bl_lt P0.out; omega)).trans (last_of _ _), by exact ((Ks.refl P W0).kpt ((Kp.refl W0).alloc _) (bl_lt P0.out)).set _ _, by simp⟩ ?_
   rintro W2 ⟨xP2, xM2, xK2, xZ2⟩
   have P2 := hid xP2
   have M2 := hid xM2
   have K2 := hid xK2
   have Z2 := hid xZ2
   clear xP2 xM2 xK2 xZ2
   clear p12 fp12
   have p13 := bl_cell (bl_alloc P2.out (.map #[] 0)) 13 _ rfl
   have fp13 := bl_frozen (bl_alloc P2.out (.map #[] 0)) 13
   go_wp2_with fail
   go_meet
   case rel => exact ⟨some W0.heap.size, some W2.heap.size, bl_put (bl_alloc P2.out _) _, ⟨by have h1 := bl_lt P0.out; have h2 := Z2.out; exact nodup3 (by omega) (by omega) (by omega), fun b hb => by
    have hz0 := bl_lt P0.out
    have hz2 := Z2.out
    have hb' : b = W0.heap.size ∨ b = W2.heap.size := by simpa using hb
    rcases hb' with rfl | rfl
    ·
     exact ⟨hz0, by simp; omega, (Below.heap_setCell _ ⟨P, 13, none⟩ _ W0.heap.size (show W0.heap.size ≠ P by omega)).trans (bl_alloc M2.out _)⟩
    ·
     exact ⟨by omega, by simp, (Below.heap_setCell _ ⟨P, 13, none⟩ _ W2.heap.size (show W2.heap.size ≠ P by omega)).trans (last_of _ _)⟩, fun _ => ⟨⟨_, rfl⟩, _, rfl⟩⟩, ((K2.out).kpt ((Kp.refl W2).alloc _) (bl_lt P0.out)).set _ _⟩
 case rest =>
 obtain ⟨kn, so, hpb, hnm, hks⟩ := hcut
 rename World => Wb
 have HPL0 := hid (show P < Wb.heap.size from bl_lt hpb)
 have PBb := hid hpb
 have NM := hid hnm
 have KB := hid (hks.up K0.out HPw.out)
 have AB := hid (bl_ks A0.out (by have := HPA.out; omega) hks)
 have BW0 := hid (show BldW P Wb.heap.size k mn mx n s kn so [] (.slice none 0 0) [] Wb from ⟨hpb, rfl, PrR.nil _ _, by unfold PtsAt; trivial, List.nodup_nil, (fun b hb => by cases hb), (fun b hb => by cases hb), by unfold PtsN; trivial, HPL0.out, Nat.le_refl _⟩)
 obtain ⟨base, hbase⟩ : ∃ base, Wb.heap.size = base := ⟨_, rfl⟩
 have HPB := hid (show w.heap.size ≤ base from by rw [← hbase]; exact KB.out.size)
 have HWB := hid hbase
 rw [hbase] at BW0
 clear hpb hnm hks HLE P0 A0 Z0 K0 hbase
 obtain ⟨a0, a1, a2, a3, a4, a5, a6, a7, a8⟩ := cells9 (AB.out)
 go_wp2_with fail
 clear a0 a1 a2 a3 a4 a5 a6 a7 a8
 go_loopg [32] L (fun gg i wr => ∃ (q : Nat) (v : Value) (ps : List Pt), q + gg = L ∧ i = .int .i64 (q : Int) ∧ BldW P base k mn mx n s kn so (kids.take q) v ps wr ∧ Ks P Wb wr)
 case atStart => exact ⟨0, _, [], by omega, rfl, BW0.out, Ks.refl _ _⟩
 case round =>
  obtain ⟨q, v, ps, hq, rfl, hB, hKs⟩ := hrel
  have BW := hid hB
  have KS := hid hKs
  have KW := hid (hKs.up KB.out HPw.out)
  have HPL : Hid (ps.length = q) := by
   show _ = _
   have h1 := congrArg List.length hB.er
   rw [ers_len, bldEs_len, List.length_take, HL.out] at h1
   omega
  clear hB hKs
  by_cases hlt : q < L
  ·
   have gkw : IntKind.i64.wrap ((q : Int) + 1) = (q : Int) + 1 := by rw [IntKind.wrap_i64]; omega
   have ga : (q : Int) < (L : Int) := by omega
   have g0 : (0 : Int) ≤ (q : Int) := by omega
   obtain ⟨r, hr⟩ : ∃ r, kids[q]? = some r := ⟨_, List.getElem?_eq_getElem (by rw [HL.out]; exact hlt)⟩
   obtain ⟨bb, oo, kk, mn', mx', mm, tt, ad', ll, cc, e1, hbb, i1, ce1⟩ := (RR.out.kp KW.out).at q r hr
   subst e1
   have TS := hid (HH.out r (List.mem_of_getElem? hr)).all
   have HTK : Hid (kids.take (q + 1) = kids.take q ++ [r]) := by
    show _ = _
    rw [List.take_succ_eq_append_getElem (by rw [HL.out]; exact hlt), (List.getElem?_eq_some_iff.1 hr).2]
   have I1 := hid i1
   have CE1 := hid ce1
   clear hr i1 ce1
   obtain ⟨x0, x1, x2, x3, x4, x5, x6, x7, x8⟩ := cells_of_is CE1.out
   go_upto_region 8 with fail
   clear x0 x1 x2 x3 x4 x5 x6 x7 x8
   refine opq (fun W1 => W1.heap[wr.heap.size]? = some (rxo kk mn' mx' mm tt (.slice ad' ll cc)) ∧ Kp wr W1) ⟨by exact last_at _ _ _ (by simp), by exact (Kp.refl _).alloc _⟩ ?_
   rintro W1 ⟨xA1, xK1⟩
   have A1 := hid xA1
   have K1 := hid xK1
   clear xA1 xK1
   have BW1 := hid (BW.out.kp K1.out)
   have HVP := hid (show ¬ v.ownBlock = some P from fun e => by have := (BW.out.row.block P e).1; have := BW.out.pb; omega)
   have HVA := hid (show ¬ v.ownBlock = some wr.heap.size from fun e => by have := (BW.out.row.block _ e).2; omega)
   have Q0 : Kx (fun b => v.ownBlock = some b) W1 W1.drew := (Kx.refl _ _).drew
   have MK : Hid (∀ W, Kx (fun b => v.ownBlock = some b) W1 W → W.cell? ⟨P, 8, none⟩ = some (v) ∧ W.cell? ⟨wr.heap.size, 0, none⟩ = some (.int .i64 kk) ∧ W.cell? ⟨wr.heap.size, 1, none⟩ = some (.int .i64 mn') ∧ W.cell? ⟨wr.heap.size, 2, none⟩ = some (.int .i64 mx') ∧ W.cell? ⟨wr.heap.size, 3, none⟩ = some (.int .i64 mm) ∧ W.cell? ⟨wr.heap.size, 4, none⟩ = some (.int .u64 (tt.a : Int)) ∧ W.cell? ⟨wr.heap.size, 5, none⟩ = some (.int .u64 (tt.b : Int)) ∧ W.cell? ⟨wr.heap.size, 6, none⟩ = some (.int .u64 (tt.c : Int)) ∧ W.cell? ⟨wr.heap.size, 7, none⟩ = some (.int .u64 (tt.d : Int)) ∧ W.cell? ⟨wr.heap.size, 8, none⟩ = some (.slice ad' ll cc) ∧ Hid (Kx (fun b => v.ownBlock = some b) W1 W)) := fun W k => ⟨bl_cell (bl_kx BW1.out.b k HVP.out) 8 _ rfl, bl_cell (bl_kx A1.out k HVA.out) 0 _ rfl, bl_cell (bl_kx A1.out k HVA.out) 1 _ rfl, bl_cell (bl_kx A1.out k HVA.out) 2 _ rfl, bl_cell (bl_kx A1.out k HVA.out) 3 _ rfl, bl_cell (bl_kx A1.out k HVA.out) 4 _ rfl, bl_cell (bl_kx A1.out k HVA.out) 5 _ rfl, bl_cell (bl_kx A1.out k HVA.out) 6 _ rfl, bl_cell (bl_kx A1.out k HVA.out) 7 _ rfl, bl_cell (bl_kx A1.out k HVA.out) 8 _ rfl, k⟩
   refine wp_region_noPanic ?_
   refine hdrewZ 11 MK Q0 (fun hH => ?_)
   have KQ := Q0
   refine zk 11 0 [] (some 36) (Op.move (Operand.tmp 3)) 71 (v := ?v0a1) rfl ?h0a1 hH ?_
   case h0a1 => intro _ _; go_simp; try with_reducible rfl
   try simp only [ps]
   refine zk 11 1 [] (some 37) (Op.move (Operand.tmp 3)) 71 (v := ?v1a2) rfl ?h1a2 hH ?_
   case h1a2 => intro _ _; go_simp; try with_reducible rfl
   try simp only [ps]
   refine zk 11 2 [] (some 38) (Op.nilCheck (Operand.tmp 37)) 0 (v := ?v2a3) rfl ?h2a3 hH ?_
   case h2a3 => intro _ _; go_simp; try with_reducible rfl
   try simp only [ps]
   refine zk 11 3 [] (some 39) (Op.fieldAddr 130 (Operand.tmp 38) 5) 0 (v := ?v3a4) rfl ?h3a4 hH ?_
   case h3a4 => intro _ _; go_simp; try with_reducible rfl
   try simp only [ps]
   refine zk 11 4 [] (some 40) (Op.load 124 (Operand.tmp 39)) 124 (v := ?v4a5) rfl ?h4a5 hH ?_
   case h4a5 => intro _ _; go_simp; try with_reducible rfl
   try simp only [ps]
   refine zk 11 5 [] (some 41) (Op.load 27 (Operand.tmp 5)) 27 (v := ?v5a6) rfl ?h5a6 hH ?_
   case h5a6 => intro _ _; go_simp; try with_reducible rfl
   try simp only [ps]
   refine anyZ_ready (rs := [6]) (by kernel_rfl) (by simp) ?_
   refine AllZ.cons (o := { dst := some 42, op := Op.call { callee := Callee.value (Operand.func 32), args := #[Operand.tmp 41], argTypes := #[27] }, type := 71, pos := "part.go:49", after := #[{ on := 5, ground := Ground.data }], guard := none }) rfl (fun K hKq => ?_) AllZ.nil
   go_simp
   refine (TS.out ok _ _ (I1.out.kp (K1.out.trans ((Kp.refl _).drew)))).mono ?_
   rintro e yy ⟨p1, rfl, hd0⟩
   have HD := hid hd0
   clear hd0
   refine hKq.out _ _ (MK.out _ (KQ.then HD.out.kp)) (fun hN => ?_)
   clear hKq K hH KQ
   have hH := hN
   clear hN
   have KQ := hH.2.2.2.2.2.2.2.2.2.2.out
   try simp only [ps]
   refine anyZ_ready (rs := [7]) (by kernel_rfl) (by simp) ?_
   refine AllZ.cons (o := { dst := some 43, op := Op.buildSlice 124 1 #[(0, Operand.tmp 42)], type := 124, pos := "part.go:49", after := #[{ on := 6, ground := Ground.data }], guard := none }) rfl (fun K hKq => ?_) AllZ.nil
   go_simp
   refine hKq.out _ _ (MK.out _ (KQ.alloc _)) (fun hN => ?_)
   clear hKq K hH KQ
   have hH := hN
   clear hN
   have KQ := hH.2.2.2.2.2.2.2.2.2.2.out
   try simp only [ps]
   refine anyZ_ready (rs := [8]) (by kernel_rfl) (by simp) ?_
   refine AllZ.cons (o := { dst := some 44, op := Op.call { callee := Callee.builtin Builtin.append, args := #[Operand.tmp 40, Operand.tmp 43], argTypes := #[124, 124] }, type := 124, pos := "part.go:49", after := #[{ on := 4, ground := Ground.data }, { on := 7, ground := Ground.data }, { on := 6, ground := Ground.chain }], guard := none }) rfl (fun K hKq => ?_) AllZ.nil
   refine step_append_pr _ (by rfl) _ _ (by rfl) base v (ps.map Pt.P) p1.P (by rfl) yy.heap.size (by rfl) ((BW1.out.row.kp (((Kp.refl _).drew).trans HD.out.kp)).kp ((Kp.refl _).alloc _)) (bl_cell (last_of _ _) 0 _ rfl) (by rw [List.length_map, HPL.out]; omega) (by have := BW1.out.le; have := HD.out.kp.size; simp at this; simp; omega) ?_
   rintro v' w' md
   obtain ⟨ad9, c9, hv', -⟩ := md.row.form
   obtain ⟨n9, hn'⟩ : ∃ n9, (ps.map Pt.P ++ [p1.P]).length = n9 := ⟨_, rfl⟩
   rw [hn'] at hv'
   subst hv'
   have MD := hid md
   clear md hn'
   refine hKq.out _ _ (MK.out _ (KQ.grown MD.out.grown (fun k e _ => e))) (fun hN => ?_)
   clear hKq K hH KQ
   have hH := hN
   clear hN
   have KQ := hH.2.2.2.2.2.2.2.2.2.2.out
   try simp only [ps]
   refine zk 11 9 [10] (some 45) (Op.nilCheck (Operand.tmp 36)) 0 (v := ?v9a7) rfl ?h9a7 hH ?_
   case h9a7 => intro _ _; go_simp; try with_reducible rfl
   try simp only [ps]
   refine zk 11 10 [] (some 46) (Op.fieldAddr 130 (Operand.tmp 45) 5) 0 (v := ?v10a8) rfl ?h10a8 hH ?_
   case h10a8 => intro _ _; go_simp; try with_reducible rfl
   try simp only [ps]
   refine anyZ_ready (rs := [11]) (by kernel_rfl) (by simp) ?_
   refine AllZ.last (o := { dst := none, op := Op.store 124 (Operand.tmp 46) (Operand.tmp 44), type := 0, pos := "part.go:49", after := #[{ on := 10, ground := Ground.data }, { on := 8, ground := Ground.data }, { on := 8, ground := Ground.chain }, { on := 0, ground := Ground.phase }, { on := 1, ground := Ground.phase }, { on := 2, ground := Ground.phase }, { on := 3, ground := Ground.phase }, { on := 4, ground := Ground.phase }, { on := 5, ground := Ground.phase }, { on := 6, ground := Ground.phase }, { on := 7, ground := Ground.phase }, { on := 8, ground := Ground.phase }], guard := none }) rfl (Or.inl rfl) (fun K hKq => ?_) AllZ.nil
   have c1 := bl_cell (bl_kx BW1.out.b KQ HVP.out) 8 _ rfl
   have f1 := bl_frozen (bl_kx BW1.out.b KQ HVP.out) 8
   go_simp
   refine hKq.out _ _ ?_
   clear c1 f1
   clear hKq K
   try simp only [ps]
   refine anyZ_done (by kernel_rfl) ?_ _
   refine NoPanic.normal ?_
   go_wp2_with fail
   go_roundg (gk - 1)
   case measure => omega
   case rel => exact ⟨q + 1, _, ps ++ [p1], by omega, by go_num, by rw [HTK.out]; exact BW.out.step (K1.out.trans (Kp.refl _).drew) HD.out ((Kp.refl _).alloc _) MD.out rfl, ks_past KS.out K1.out KQ (fun b hb e => by have := (BW1.out.row.block b e).1; have := HWB.out; omega) HPL0.out _ _⟩
  ·
   have ga : ¬ (q : Int) < (L : Int) := by omega
   obtain ⟨vad, vc, hvv, -⟩ := BW.out.row.form
   rw [hvv] at BW
   have HKI := hid (BW.out.row.kids (ok := fun b => base ≤ b) (fun _ h => h))
   have HBB := BW.out.b
   rw [List.length_map] at HBB
   have HPT := hid (PtsAt.keep (ok' := fun b => base ≤ b) (Nat.le_refl _) (fun b hb _ => ⟨hb.1, rfl⟩) ps BW.out.at_)
   have HER : Hid (ers ps = bldEs kids) := by
    show _ = _
    rw [BW.out.er, List.take_of_length_le (by rw [HL.out]; omega)]
   have HWD := hid (wd_er ps (by rw [HER.out]; exact bldEs_wd kids))
   have US := hid (used_any (fun b => base ≤ b) k mn mx n s P 0 0 0 kn so vad vc ps wr HBB HKI.out HPT.out HWD.out (by rw [HPL.out]; omega) HN56.out (fun e e2 => HNE.out e (by subst e2; rw [ers] at HER; exact List.length_eq_zero_iff.1 (by have := congrArg List.length HER.out; rw [bldEs_len] at this; exact this.symm))))
   clear HBB
   go_wp2_with fail
   refine (US.out).mono ?_
   rintro e w3 hd0
   obtain ⟨rfl, hk3⟩ := hd0.ex
   have BW3 := hid (BW.out.kp hk3)
   have K3 := hid (KW.out.trans hk3)
   have KS3 := hid (show Ks P Wb w3 from KS.out.kpt hk3 HPL0.out)
   rw [List.take_of_length_le (by rw [HL.out]; omega)] at BW3
   clear hd0 hk3
   obtain ⟨p0, p1, p2, p3, p4, p5, p6, p7, p8, p9, p10, p11, p12, p13⟩ := cells14 (BW3.out.b)
   have fp9 := bl_frozen (BW3.out.b) 9
   have fp10 := bl_frozen (BW3.out.b) 10
   go_wp2_with fail
   go_ret
   exact ⟨.mk k mn mx n s P kn so (usedP k mn n ps).1 (usedP k mn n ps).2 0 ps, rfl, build_done BW3.out NM.out HWB.out KS3.out HPw.out KB.out HLF.out (by have h := bl_put (bl_put BW3.out.b (.int .u8 ((usedP k mn n ps).1 : Int)) (j := 9)) (.int .u8 ((usedP k mn n ps).2 : Int)) (j := 10); rw [List.length_map] at h; exact h) (((Ks.refl _ _).set _ _).set _ _)⟩
end Go.Proofs.YtnajcnhgeggngaaGreat.Way

/-! ### Srt -/

namespace Go.Proofs
set_option maxHeartbeats 2000000
set_option maxRecDepth 100000
open Go.Shelf Go.Sort Go.RowKit
def Tryz.lays189_ren : Go.Shelf.Ren := ⟨fun | 189 => 26 | 125 => 37 | 257 => 36 | 128 => 65 | 129 => 66 | 294 => 56 | 295 => 57 | 296 => 58 | 297 => 59 | 298 => 60 | 299 => 61 | 216 => 62 | 300 => 63 | 301 => 64 | 328 => 87 | 329 => 88 | 330 => 89 | 331 => 90 | 332 => 91 | 215 => 92 | 343 => 111 | n => n, fun | 28 => 40 | 3 => 3 | 46 => 103 | 0 => 0 | 51 => 148 | 53 => 22 | 4 => 4 | 183 => 140 | 182 => 139 | 131 => 145 | 5 => 5 | 9 => 9 | 218 => 161 | 222 => 86 | 228 => 184 | 229 => 104 | n => n, fun | n => n⟩
theorem Tryz.lays189 : Go.Proofs.Lays.n189 Tryz.prog Tryz.lays189_ren := {
 mixed := by kernel_rfl
 f125 := Tryz.func37.trans (congrArg some (by kernel_rfl))
 f128 := Tryz.func65.trans (congrArg some (by kernel_rfl))
 f129 := Tryz.func66.trans (congrArg some (by kernel_rfl))
 f189 := Tryz.func26.trans (congrArg some (by kernel_rfl))
 f215 := Tryz.func92.trans (congrArg some (by kernel_rfl))
 f216 := Tryz.func62.trans (congrArg some (by kernel_rfl))
 f257 := Tryz.func36.trans (congrArg some (by kernel_rfl))
 f294 := Tryz.func56.trans (congrArg some (by kernel_rfl))
 f295 := Tryz.func57.trans (congrArg some (by kernel_rfl))
 f296 := Tryz.func58.trans (congrArg some (by kernel_rfl))
 f297 := Tryz.func59.trans (congrArg some (by kernel_rfl))
 f298 := Tryz.func60.trans (congrArg some (by kernel_rfl))
 f299 := Tryz.func61.trans (congrArg some (by kernel_rfl))
 f300 := Tryz.func63.trans (congrArg some (by kernel_rfl))
 f301 := Tryz.func64.trans (congrArg some (by kernel_rfl))
 f328 := Tryz.func87.trans (congrArg some (by kernel_rfl))
 f329 := Tryz.func88.trans (congrArg some (by kernel_rfl))
 f330 := Tryz.func89.trans (congrArg some (by kernel_rfl))
 f331 := Tryz.func90.trans (congrArg some (by kernel_rfl))
 f332 := Tryz.func91.trans (congrArg some (by kernel_rfl))
 f343 := Tryz.func111.trans (congrArg some (by kernel_rfl))
 t0 := Tryz.underlying0
 a0 := Tryz.isAgg0
 z0 := Tryz.sizeOf0
 v0 := Tryz.zeroValue0
 t3 := Tryz.underlying3
 a3 := Tryz.isAgg3
 z3 := Tryz.sizeOf3
 v3 := Tryz.zeroValue3
 t4 := Tryz.underlying4
 a4 := Tryz.isAgg4
 z4 := Tryz.sizeOf4
 v4 := Tryz.zeroValue4
 t5 := Tryz.underlying5
 a5 := Tryz.isAgg5
 z5 := Tryz.sizeOf5
 v5 := Tryz.zeroValue5
 t9 := Tryz.underlying9
 a9 := Tryz.isAgg9
 z9 := Tryz.sizeOf9
 v9 := Tryz.zeroValue9
 t28 := Tryz.underlying40
 a28 := Tryz.isAgg40
 z28 := Tryz.sizeOf40
 v28 := Tryz.zeroValue40
 t46 := Tryz.underlying103
 a46 := Tryz.isAgg103
 z46 := Tryz.sizeOf103
 v46 := Tryz.zeroValue103
 t51 := Tryz.underlying148
 a51 := Tryz.isAgg148
 z51 := Tryz.sizeOf148
 v51 := Tryz.zeroValue148
 t53 := Tryz.underlying22
 a53 := Tryz.isAgg22
 z53 := Tryz.sizeOf22
 v53 := Tryz.zeroValue22
 t131 := Tryz.underlying145
 a131 := Tryz.isAgg145
 z131 := Tryz.sizeOf145
 v131 := Tryz.zeroValue145
 t182 := Tryz.underlying139
 a182 := Tryz.isAgg139
 z182 := Tryz.sizeOf139
 v182 := Tryz.zeroValue139
 t183 := Tryz.underlying140
 a183 := Tryz.isAgg140
 z183 := Tryz.sizeOf140
 v183 := Tryz.zeroValue140
 t218 := Tryz.underlying161
 a218 := Tryz.isAgg161
 z218 := Tryz.sizeOf161
 v218 := Tryz.zeroValue161
 t222 := Tryz.underlying86
 a222 := Tryz.isAgg86
 z222 := Tryz.sizeOf86
 v222 := Tryz.zeroValue86
 t228 := Tryz.underlying184
 a228 := Tryz.isAgg184
 z228 := Tryz.sizeOf184
 v228 := Tryz.zeroValue184
 t229 := Tryz.underlying104
 a229 := Tryz.isAgg104
 z229 := Tryz.sizeOf104
 v229 := Tryz.zeroValue104 }
theorem Tryz.slices_Sort (blk off cap : Nat) (zs : List Int) (w : World) (hH : Holds (Value.int .i64) w blk off zs.toArray) (hblk : blk < w.heap.size) (hsz : zs.length < 4611686018427387904) :
  Calls Tryz.prog 26 #[.slice (some ⟨blk, off, none⟩) zs.length cap] w fun e w' =>
   e = .returned (.tuple #[]) ∧ ∃ n os, w' = grow (putRow (Value.int .i64) (Sort.ahead w n) blk off (zs.mergeSort fun x y => decide (x ≤ y)).toArray) os :=
 calls_of_every_depth fun D => AnyS.slices_Sort_int_in Tryz.lays189 D blk off cap zs w hH hblk hsz
theorem Tryz.bits_Len0 (w : World) : Calls Tryz.prog 37 #[.int .u64 0] w fun e w' => e = .returned (.int .i64 0) ∧ w' = w :=
 calls_of_every_depth fun D => (Any.lenWalkInAll { Tryz.lays189 with } D) 0 w (by omega)
theorem Tryz.insertionSort_nil (p : Option Addr) (cap : Nat) (w : World) :
  Calls Tryz.prog 56 #[.slice p 0 cap, .int .i64 0, .int .i64 0] w fun e w' => e = .returned (.tuple #[]) ∧ w' = w := by
 go_enter Tryz.func56, Tryz.ntmps56
 go_wp2_with fail
 refine wp_loop_rounds 1 ?_
 rw [rounds_succ]
 go_wp2_with fail
 go_end0
 exact ⟨rfl, rfl⟩
theorem Tryz.pdqsort_nil (p : Option Addr) (cap : Nat) (w : World) :
  Calls Tryz.prog 36 #[.slice p 0 cap, .int .i64 0, .int .i64 0, .int .i64 0] w fun e w' => e = .returned (.tuple #[]) ∧ w' = w := by
 go_enter Tryz.func36, Tryz.ntmps36
 go_wp2_with fail
 refine wp_loop_rounds 1 ?_
 rw [rounds_succ]
 go_wp2_with (first | (go_at_call 56; refine (Tryz.insertionSort_nil p cap _).mono ?_; rintro e w' ⟨rfl, rfl⟩))
 refine bodyPost_ret (results_none rfl _ _ _) rfl ?_
 exact ⟨rfl, rfl⟩
theorem Tryz.Sort_nil (p : Option Addr) (cap : Nat) (w : World) :
  Calls Tryz.prog 26 #[.slice p 0 cap] w fun e w' => e = .returned (.tuple #[]) ∧ w' = w := by
 have hLen : ∀ w, Calls Tryz.prog 37 #[.int .u64 0] w fun e w' => e = .returned (.int .i64 0) ∧ w' = w := fun w => Tryz.bits_Len0 w
 go_enter Tryz.func26, Tryz.ntmps26
 go_wp2_with (first
  | (go_at_call 37; refine (hLen _).mono ?_; rintro e w' ⟨rfl, rfl⟩)
  | (go_at_call 36; refine (Tryz.pdqsort_nil p cap _).mono ?_; rintro e w' ⟨rfl, rfl⟩))
 go_end0
 exact ⟨rfl, rfl⟩
end Go.Proofs
namespace Go.Proofs.YtnajcnhgeggngaaGreat.Way
open Go Go.RowKit Go.Sort Go.Proofs Go.Proofs.YtnajcnhgeggngaaGreat
structure SrtD (base : Nat) (v : Value) (xs : List Nat) (w : World) (e : Ending) (w' : World) : Prop where
 ex : e = .returned (.tuple #[]) ∧ NuR base w' v (xs.mergeSort (fun a b => decide (a ≤ b))) ∧ Kx (fun b => v.ownBlock = some b) w w'
theorem sort_nu (base : Nat) (v : Value) (xs : List Nat) (w : World) (h : NuR base w v xs) (hl : xs.length ≤ 5000000000000) : Calls Tryz.prog 26 #[v] w fun e w' => SrtD base v xs w e w' := by
 obtain ⟨ad, c, hv, _⟩ := h.form
 by_cases h0 : xs.length = 0
 ·
  have hx : xs = [] := List.length_eq_zero_iff.1 h0
  subst hx
  rw [hv]
  refine (Tryz.Sort_nil ad c w).mono ?_
  rintro e w' ⟨rfl, rfl⟩
  rw [← hv]
  exact ⟨rfl, by rw [List.mergeSort_nil]; exact h, Kx.refl _ _⟩
 ·
  obtain ⟨hlen, ho⟩ := h.own
  rcases ho with ⟨_, hn⟩ | ⟨g, cap, cur, hv2, hb, hg, hc, hcap, hsz, htk⟩
  ·
   exact absurd hn h0
  ·
   subst hv2
   obtain ⟨zs, hzs⟩ : ∃ zs : List Int, xs.map (fun n : Nat => (n : Int)) = zs := ⟨_, rfl⟩
   have hzl : xs.length = zs.length := by rw [← hzs, List.length_map]
   have hms : ∀ l : List Nat, l.map nuc = (l.map (fun n : Nat => (n : Int))).map (Value.int .i64) := fun l => by
    rw [List.map_map]; rfl
   rw [hms, hzs, hzl, Nat.mul_one] at htk
   have hH := holds_of_blockI (w := w) hg htk
   rw [hzl]
   refine (Tryz.slices_Sort g 0 cap zs w hH (bl_lt hg) (by omega)).mono ?_
   rintro e w' ⟨rfl, n, os, rfl⟩
   have hme : (zs.mergeSort fun x y => decide (x ≤ y)) = (xs.mergeSort (fun a b => decide (a ≤ b))).map (fun n : Nat => (n : Int)) := by
    rw [← hzs]
    exact (List.map_mergeSort (fun a _ b _ => by rw [decide_eq_decide]; omega)).symm
   have hown := ownsRow_sortedI (w := w) (n := n) (os := os) (ts := zs.mergeSort fun x y => decide (x ≤ y)) (ss := zs) (List.length_mergeSort _) hb hg (by omega) hcap hsz
   refine ⟨rfl, ⟨?_⟩, (Kx.refl _ _).grown (grownBy_sortedI _) (fun k e _ => e.symm ▸ rfl)⟩
   rw [hms, ← hme, List.length_mergeSort, hzl]
   exact hown
end Go.Proofs.YtnajcnhgeggngaaGreat.Way

/-! ### Unb0 -/

namespace Go.Proofs.YtnajcnhgeggngaaGreat.Way
open Go.RowKit Go.Proofs.YtnajcnhgeggngaaGreat

def unbL (hd : Nat) (all : List Sp) (sel : List Nat) : List Nat := (List.range all.length).filter (fun j => match all[j]? with | some y => sel.contains (cls hd y) | none => false)
theorem filter_or {α : Type} (p q r : α → Bool) (l : List α) (h : ∀ a ∈ l, r a = (p a || q a)) (hd : ∀ a ∈ l, p a = true → q a = false) : (l.filter p ++ l.filter q).Perm (l.filter r) := by
 induction l with
 | nil => exact List.Perm.refl _
 | cons a l ih =>
  have ih := ih (fun b hb => h b (List.mem_cons_of_mem _ hb)) (fun b hb => hd b (List.mem_cons_of_mem _ hb))
  have ha := h a (List.mem_cons_self ..)
  have hda := hd a (List.mem_cons_self ..)
  cases hp : p a with
  | true =>
   have hq := hda hp
   rw [hp] at ha
   simp only [List.filter_cons, hp, hq, ha, Bool.true_or, if_true, Bool.false_eq_true, if_false, List.cons_append]
   exact ih.cons a
  | false =>
   rw [hp, Bool.false_or] at ha
   cases hq : q a with
   | true =>
    rw [hq] at ha
    simp only [List.filter_cons, hp, hq, ha, if_true, Bool.false_eq_true, if_false]
    exact List.perm_middle.trans (ih.cons a)
   | false =>
    rw [hq] at ha
    simp only [List.filter_cons, hp, hq, ha, Bool.false_eq_true, if_false]
    exact ih
theorem unb_perm (hd : Nat) (all : List Sp) : ∀ (sel : List Nat), sel.Nodup → (sel.flatMap (placesOf hd all)).Perm (unbL hd all sel)
 | [], _ => by
  unfold unbL
  rw [List.flatMap_nil, List.filter_eq_nil_iff.2 (fun j _ => by split <;> simp)]
 | i :: sel, hn => by
  have h1 := List.nodup_cons.1 hn
  rw [List.flatMap_cons]
  refine ((List.Perm.refl _).append (unb_perm hd all sel h1.2)).trans ?_
  refine filter_or _ _ _ _ (fun j _ => ?_) (fun j _ hj => ?_)
  ·
   cases all[j]? with
   | none => rfl
   | some y => exact List.contains_cons
  ·
   split at hj
   ·
    rename_i y hy
    rw [hy]
    simp only
    cases hc : sel.contains (cls hd y) with
    | false => rfl
    | true =>
     have e : cls hd y = i := by simpa using hj
     rw [e] at hc
     exact absurd (List.contains_iff_mem.1 hc) h1.1
   ·
    cases hj
theorem unb_sorted (hd : Nat) (all : List Sp) (sel : List Nat) (hn : sel.Nodup) : (sel.flatMap (placesOf hd all)).mergeSort (fun a b => decide (a ≤ b)) = unbL hd all sel := by
 have tr : ∀ a b c : Nat, decide (a ≤ b) = true → decide (b ≤ c) = true → decide (a ≤ c) = true := fun a b c h k => by
  rw [decide_eq_true_eq] at *
  omega
 have tt : ∀ a b : Nat, (decide (a ≤ b) || decide (b ≤ a)) = true := fun a b => by
  rw [Bool.or_eq_true, decide_eq_true_eq, decide_eq_true_eq]
  omega
 refine List.Perm.eq_of_pairwise (le := fun a b => decide (a ≤ b) = true) (fun a b _ _ h1 h2 => ?_) (List.pairwise_mergeSort tr tt _) ?_ ((List.mergeSort_perm _ _).trans (unb_perm hd all sel hn))
 ·
  rw [decide_eq_true_eq] at h1 h2
  omega
 ·
  refine (List.Pairwise.filter _ (List.pairwise_lt_range)).imp ?_
  intro a b h
  rw [decide_eq_true_eq]
  omega
theorem unb_len (hd : Nat) (all : List Sp) (sel : List Nat) : (unbL hd all sel).length ≤ all.length := by
 unfold unbL
 refine Nat.le_trans (List.length_filter_le _ _) ?_
 rw [List.length_range]
 exact Nat.le_refl _
theorem flat_len (hd : Nat) (all : List Sp) (sel : List Nat) (hn : sel.Nodup) : (sel.flatMap (placesOf hd all)).length ≤ all.length := by
 rw [(unb_perm hd all sel hn).length_eq]
 exact unb_len hd all sel
theorem unb_lt {hd : Nat} {all : List Sp} {sel : List Nat} : ∀ j ∈ unbL hd all sel, j < all.length := fun j hj => by
 unfold unbL at hj
 exact List.mem_range.1 (List.mem_filter.1 hj).1
def pickL (all : List Sp) (x : Sp) (ps : List Nat) : List Sp := ps.filterMap (fun j => all[j]?.map (fun y => y.behind x))
theorem all_range (all : List Sp) : (List.range all.length).filterMap (fun j => all[j]?) = all := by
 induction all with
 | nil => rfl
 | cons a l ih =>
  rw [List.length_cons, List.range_succ_eq_map, List.filterMap_cons]
  simp only [List.getElem?_cons_zero, List.filterMap_map]
  congr 1
theorem pick_all (hd : Nat) (all : List Sp) (sel : List Nat) (x : Sp) : pickL all x (unbL hd all sel) = (all.filter (fun y => sel.contains (cls hd y))).map (fun y => y.behind x) := by
 have h : all.filter (fun y => sel.contains (cls hd y)) = (List.range all.length).filterMap (fun j => (all[j]?).filter (fun y => sel.contains (cls hd y))) := by
  rw [← List.filter_filterMap, all_range]
 rw [h, List.map_filterMap]
 unfold pickL unbL
 rw [List.filterMap_filter]
 congr 1
 funext j
 cases all[j]? with
 | none => rfl
 | some y =>
  simp only [Option.map_some, Option.filter]
  split <;> rfl
theorem newCls_step {rdp : Nat} {all : List Sp} {hd : Nat} {n : Int} {x : Sp} (q : Nat) (bg : List Turn) : (List.range (q + 1)).foldl (begS rdp all hd n x) ([], bg) = begS rdp all hd n x ((List.range q).foldl (begS rdp all hd n x) ([], bg)) q := by
 rw [List.range_succ, List.foldl_append]
 rfl
theorem newCls_lt {rdp : Nat} {all : List Sp} {hd : Nat} {n : Int} {x : Sp} (bg : List Turn) : ∀ (q : Nat), ((List.range q).foldl (begS rdp all hd n x) ([], bg)).1.Nodup ∧ ∀ i ∈ ((List.range q).foldl (begS rdp all hd n x) ([], bg)).1, i < q
 | 0 => ⟨List.nodup_nil, fun i hi => by cases hi⟩
 | q + 1 => by
  obtain ⟨h1, h2⟩ := newCls_lt bg q
  rw [newCls_step]
  unfold begS
  split
  ·
   split
   ·
    exact ⟨h1, fun i hi => Nat.lt_succ_of_lt (h2 i hi)⟩
   ·
    refine ⟨List.nodup_append.2 ⟨h1, List.pairwise_singleton _ _, fun a ha b hb => ?_⟩, fun i hi => ?_⟩
    ·
     rw [List.mem_singleton.1 hb]
     have := h2 a ha
     omega
    ·
     rcases List.mem_append.1 hi with hi | hi
     ·
      exact Nat.lt_succ_of_lt (h2 i hi)
     ·
      rw [List.mem_singleton.1 hi]
      omega
  ·
   exact ⟨h1, fun i hi => Nat.lt_succ_of_lt (h2 i hi)⟩
theorem places_any (hd : Nat) (all : List Sp) (i : Nat) : (0 < (placesOf hd all i).length) ↔ all.any (fun y => cls hd y == i) = true := by
 rw [List.length_pos_iff_exists_mem, List.any_eq_true]
 constructor
 ·
  rintro ⟨j, hj⟩
  have h := (List.mem_filter.1 hj).2
  split at h
  ·
   rename_i y hy
   exact ⟨y, List.mem_of_getElem? hy, h⟩
  ·
   cases h
 ·
  rintro ⟨y, hy, he⟩
  obtain ⟨j, hj⟩ := List.getElem?_of_mem hy
  refine ⟨j, List.mem_filter.2 ⟨List.mem_range.2 (List.getElem?_eq_some_iff.1 hj).1, ?_⟩⟩
  rw [hj]
  exact he
end Go.Proofs.YtnajcnhgeggngaaGreat.Way

/-! ### TKey -/

namespace Go.Proofs.YtnajcnhgeggngaaGreat.Way
open Go.RowKit Go.Proofs.YtnajcnhgeggngaaGreat Go.Maps Go.WideElems Go.ChangeMaps Go.MapKept

abbrev tnv (t : Turn) : Value := .agg #[.int .i8 t.n, .int .u8 (t.lv : Int), .int .i8 t.x.a, .int .i8 t.x.f0, .int .i8 t.x.t0, .int .i8 t.x.f1, .int .i8 t.x.t1, .int .i8 t.x.f2, .int .i8 t.x.t2]
structure Turn.Ok (t : Turn) : Prop where
 n0 : 0 ≤ t.n
 n1 : t.n ≤ 100
 lv : t.lv < 8
 x : t.x.Ok
theorem cells75 : Tryz.prog.cellsOf 75 = 1 := by kernel_rfl
theorem cells220 : Tryz.prog.cellsOf 220 = 9 := by kernel_rfl
theorem lit75 (d : Nat) (n : Int) (h : (Lit.int .u8 n).wf = true) : Tryz.prog.keyLits (d + 1) 75 [.int .u8 n] = some [.int .u8 n] := by
 unfold Program.keyLits
 simp [Tryz.underlying75, h]
theorem wf8n (n : Int) (h : 0 ≤ n) (h2 : n ≤ 100) : (Lit.int .i8 n).wf = true := by
 simp [Lit.wf, IntKind.min, IntKind.max, IntKind.signed, IntKind.bits]; omega
theorem wfu8 (n : Nat) (h : n < 8) : (Lit.int .u8 (n : Int)).wf = true := by
 simp [Lit.wf, IntKind.min, IntKind.max, IntKind.signed, IntKind.bits]; omega
theorem lit220 (d : Nat) (t : Turn) (h : t.Ok) : Tryz.prog.keyLits (d + 5) 220 [.int .i8 t.n, .int .u8 (t.lv : Int), .int .i8 t.x.a, .int .i8 t.x.f0, .int .i8 t.x.t0, .int .i8 t.x.f1, .int .i8 t.x.t1, .int .i8 t.x.f2, .int .i8 t.x.t2] = some [.int .i8 t.n, .int .u8 (t.lv : Int), .int .i8 t.x.a, .int .i8 t.x.f0, .int .i8 t.x.t0, .int .i8 t.x.f1, .int .i8 t.x.t1, .int .i8 t.x.f2, .int .i8 t.x.t2] := by
 unfold Program.keyLits
 simp [Tryz.underlying220, cells220, cells83, cells75, cells78, lit78 _ _ (wf8n _ h.n0 h.n1), lit75 _ _ (wfu8 _ h.lv), lit83 _ _ h.x]
theorem keytype220 : Tryz.prog.keyType 220 = true := by kernel_rfl
theorem key_tn (t : Turn) (h : t.Ok) : ∃ kl, keyOf Tryz.prog 220 (tnv t) = some kl := by
 obtain ⟨m, hm⟩ := types_size
 refine ⟨.string (keyBytes [.int .i8 t.n, .int .u8 (t.lv : Int), .int .i8 t.x.a, .int .i8 t.x.f0, .int .i8 t.x.t0, .int .i8 t.x.f1, .int .i8 t.x.t1, .int .i8 t.x.f2, .int .i8 t.x.t2]), ?_⟩
 unfold keyOf
 simp only [Tryz.underlying220]
 rw [if_pos (by rw [keytype220]; simp [Value.formed, Tryz.underlying220, cells220]), hm]
 simp only [Value.cells]
 rw [lit220 (m + 1) t h]
 rfl
def Turn.code (t : Turn) : Nat := t.n.toNat + 128 * (t.lv + 8 * t.x.code)
theorem Turn.code_lt {t : Turn} (h : t.Ok) : t.code < 4503599627370496 := by
 have := Sp.code_lt h.x
 have := h.lv
 have := h.n1
 unfold Turn.code
 omega
theorem Turn.code_inj {t u : Turn} (h : t.Ok) (k : u.Ok) (e : t.code = u.code) : t = u := by
 have h1 := h.n0
 have h2 := h.n1
 have h3 := h.lv
 have k1 := k.n0
 have k2 := k.n1
 have k3 := k.lv
 unfold Turn.code at e
 have e0 : t.n = u.n := by omega
 have e1 : t.lv = u.lv := by omega
 have e2 : t.x.code = u.x.code := by omega
 have e3 := Sp.code_inj h.x k.x e2
 cases t
 cases u
 simp only at e0 e1 e3
 subst e0 e1 e3
 rfl
theorem tnv_inj {x y : Turn} (h : tnv x = tnv y) : x = y := by
 obtain ⟨n, l, a, b, c, d, f, g, i⟩ := x
 obtain ⟨n', l', a', b', c', d', f', g', i'⟩ := y
 simp [tnv] at h
 obtain ⟨h1, h2, h3, h4, h5, h6, h7, h8, h9⟩ := h
 have h2' : l = l' := by omega
 subst h1 h2' h3 h4 h5 h6 h7 h8 h9
 rfl
theorem few_turns {es : Array MapEntry} {clock : Nat} (hs : Stamped es clock) (h : ∀ e ∈ es.toList, ∃ x : Turn, x.Ok ∧ e.key = tnv x) : es.size ≤ 4503599627370496 := by
 have hp := ((stamped_iff es clock).1 hs).2.2
 let dec : MapEntry → Nat := fun e => match e.key with
  | .agg ⟨[.int _ n, .int _ l, .int _ a, .int _ b, .int _ c, .int _ d, .int _ f, .int _ g, .int _ i]⟩ => Turn.code ⟨n, l.toNat, ⟨a, b, c, d, f, g, i⟩⟩
  | _ => 0
 have hdec : ∀ e x, e.key = tnv x → dec e = x.code := fun e x he => by
  show (match e.key with
  | .agg ⟨[.int _ n, .int _ l, .int _ a, .int _ b, .int _ c, .int _ d, .int _ f, .int _ g, .int _ i]⟩ => Turn.code ⟨n, l.toNat, ⟨a, b, c, d, f, g, i⟩⟩
  | _ => 0) = _
  rw [he]
  simp
 have h1 : (es.toList.map dec).Nodup := by
  refine pairwise_map_inj dec _ (hp.imp_of_mem (fun {a b} ha hb hne he => ?_))
  obtain ⟨x, hx, kx⟩ := h a ha
  obtain ⟨y, hy, ky⟩ := h b hb
  rw [hdec a x kx, hdec b y ky] at he
  exact hne (by rw [kx, ky, Turn.code_inj hx hy he])
 have h2 := nodup_lt 4503599627370496 (es.toList.map dec) h1 (fun a ha => by
  obtain ⟨e, he, rfl⟩ := List.mem_map.1 ha
  obtain ⟨x, hx, kx⟩ := h e he
  rw [hdec e x kx]
  exact Turn.code_lt hx)
 simpa using h2
theorem fit_tn {es : Array MapEntry} {clock : Nat} (hs : Stamped es clock) (h : ∀ e ∈ es.toList, ∃ x : Turn, x.Ok ∧ e.key = tnv x) : Fit (H := Value) Tryz.prog 220 RV es clock ∧ es.size < maxLen := by
 have := few_turns hs h
 refine ⟨⟨by unfold maxLen; omega, hs, fun e he => ?_⟩, by unfold maxLen; omega⟩
 obtain ⟨x, hx, kx⟩ := h e he
 obtain ⟨kl, hk⟩ := key_tn x hx
 exact ⟨(kl, .held e.val), by unfold WideElems.rd; rw [kx, hk]; rfl⟩
structure TurnsAt (w : World) (b : Nat) (S : List Turn) : Prop where
 ex : ∃ es clock, w.heap[b]? = some (.map es clock) ∧ Stamped es clock ∧ (∀ e ∈ es.toList, ∃ x : Turn, x.Ok ∧ e.key = tnv x ∧ x ∈ S ∧ e.val = .agg #[]) ∧ ∀ x ∈ S, ∃ e ∈ es.toList, e.key = tnv x
theorem TurnsAt.lt {w : World} {b : Nat} {S : List Turn} (h : TurnsAt w b S) : b < w.heap.size := by
 obtain ⟨es, clock, hb, _⟩ := h.ex
 exact bl_lt hb
theorem TurnsAt.same {w w' : World} {b : Nat} {S : List Turn} (h : TurnsAt w b S) (hb : w'.heap[b]? = w.heap[b]?) : TurnsAt w' b S := by
 obtain ⟨es, clock, h1, h2, h3, h4⟩ := h.ex
 exact ⟨es, clock, hb.trans h1, h2, h3, h4⟩
theorem TurnsAt.made (w : World) : TurnsAt (w.alloc (.map #[] 0)) w.heap.size [] := ⟨#[], 0, last_of _ _, stamped_empty 0, (fun e he => by simp at he), (fun x hx => by cases hx)⟩
theorem TurnsAt.look {w : World} {b : Nat} {S : List Turn} (h : TurnsAt w b S) {t : TypeId} (ht : Tryz.prog.underlying t = some (.map 220 206)) (x : Turn) (hx : x.Ok) :
  (Instr.lookup t (.map (some b)) (tnv x) true).run Tryz.prog w = .ok (.tuple #[.agg #[], .bool (S.contains x)]) w := by
 obtain ⟨es, clock, h1, h2, h3, h4⟩ := h.ex
 obtain ⟨F, _⟩ := fit_tn h2 (fun e he => by obtain ⟨x, a1, a2, _⟩ := h3 e he; exact ⟨x, a1, a2⟩)
 obtain ⟨kl, hk⟩ := key_tn x hx
 rcases fit_look true keyed220 ht (zero206 w) h1 F hk with ⟨g1, g2, _⟩ | ⟨e0, y, g1, g2, g3, _⟩
 ·
  have : S.contains x = false := by
   cases hc : S.contains x with
   | false => rfl
   | true =>
    obtain ⟨e, he, hek⟩ := h4 x (List.contains_iff_mem.1 hc)
    exact absurd hek (g2 e he)
  rw [this]
  exact g1
 ·
  obtain ⟨x', _, a2, a3, a4⟩ := h3 e0 g1
  obtain rfl := tnv_inj (g2.symm.trans a2)
  rw [List.contains_iff_mem.2 a3, ← a4]
  exact g3
theorem TurnsAt.put {w : World} {b : Nat} {S : List Turn} (h : TurnsAt w b S) {t : TypeId} (ht : Tryz.prog.underlying t = some (.map 220 206)) (x : Turn) (hx : x.Ok) :
  ∃ w', (Instr.mapUpdate t (.map (some b)) (tnv x) (.agg #[])).run Tryz.prog w = .ok () w' ∧ TurnsAt w' b (S ++ [x]) ∧ w.grownBy w' (some b) := by
 obtain ⟨es, clock, h1, h2, h3, h4⟩ := h.ex
 have hkeys : ∀ e ∈ es.toList, ∃ x : Turn, x.Ok ∧ e.key = tnv x := fun e he => by obtain ⟨x, a1, a2, _⟩ := h3 e he; exact ⟨x, a1, a2⟩
 obtain ⟨F, hroom⟩ := fit_tn h2 hkeys
 obtain ⟨kl, hk⟩ := key_tn x hx
 obtain ⟨es', clock', hrun, F', hput, _, _, hent⟩ := fit_store (R' := RV) keyed220 ht h1 F hroom (fun _ _ _ _ hz => hz) hk (val := .agg #[]) (yv := (.held (.agg #[]), [])) rfl
 refine ⟨_, hrun, ⟨es', clock', heap_setBlock_same h1 _, F'.stamped, fun e he => ?_, fun y hy => ?_⟩, ⟨rfl, rfl, rfl, by simp [setBlock], fun i _ hi => heap_setBlock_other h1 _ (fun e => hi (by rw [e]))⟩⟩
 ·
  rcases hent e he with ⟨a1, _⟩ | ⟨a1, a2⟩
  ·
   obtain ⟨z, b1, b2, b3, b4⟩ := h3 e a1
   exact ⟨z, b1, b2, List.mem_append_left _ b3, b4⟩
  ·
   exact ⟨x, hx, a1, by simp, a2⟩
 ·
  -- who reads so stands there
  have back := fun p hp => read_back F' p hp
  rw [hput] at back
  rcases List.mem_append.1 hy with hy | hy
  ·
   by_cases hyx : y = x
   ·
    subst hyx
    obtain ⟨e, he, hek⟩ := back (kl, .held (.agg #[])) (put_self _ _ _)
    obtain ⟨z, z1, z2⟩ := (fun e he => by
     rcases hent e he with ⟨a1, _⟩ | ⟨a1, _⟩
     ·
      exact hkeys e a1
     ·
      exact ⟨y, hx, a1⟩ : ∀ e ∈ es'.toList, ∃ x : Turn, x.Ok ∧ e.key = tnv x) e he
    exact ⟨e, he, keyed220.inj hek hk⟩
   ·
    obtain ⟨e, he, hek⟩ := h4 y hy
    obtain ⟨q, hqk, hq⟩ := read_forth F (keyed220.key hk) e he (fun e1 => hyx (tnv_inj (hek.symm.trans (keyed220.inj e1 hk))))
    obtain ⟨e', he', hek'⟩ := back q hq
    exact ⟨e', he', (keyed220.inj hek' hqk).trans hek⟩
  ·
   obtain rfl := List.mem_singleton.1 hy
   obtain ⟨e, he, hek⟩ := back (kl, .held (.agg #[])) (put_self _ _ _)
   exact ⟨e, he, keyed220.inj hek hk⟩
end Go.Proofs.YtnajcnhgeggngaaGreat.Way
