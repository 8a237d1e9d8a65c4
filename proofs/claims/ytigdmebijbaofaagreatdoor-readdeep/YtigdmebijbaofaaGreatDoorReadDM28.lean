/-
  Texts of this claim: RdU, RdV, RdW.
-/
import Derived.Test.YtigdmebijbaofaaGreatDoorReadDM4
import Derived.Test.YtigdmebijbaofaaGreatDoorReadDM27
import Derived.Test.YtigdmebijbaofaaGreatDoorReadDM21
import Derived.Test.YtigdmebijbaofaaGreatDoorReadDM8
/-! ### RdU -/
namespace Go.Proofs.YtigdmebijbaofaaGreatDoor
set_option maxHeartbeats 2000000
set_option maxRecDepth 100000
open Go.RowKit
def Gw (r : Option Nat) (a b : World) : Prop := a.grownBy b r
theorem Gw.refl (r : Option Nat) (w : World) : Gw r w w := ⟨rfl, rfl, rfl, Nat.le_refl _, fun _ _ _ => rfl⟩
theorem Gw.drew {r : Option Nat} {a b : World} (h : Gw r a b) : Gw r a b.drew := ⟨h.os, h.tape, h.output, h.size, h.block⟩
theorem Gw.trans {r : Option Nat} {a b c : World} (h : Gw r a b) (g : b.grownBy c r) : Gw r a c := ⟨g.os.trans h.os, g.tape.trans h.tape, g.output.trans h.output, Nat.le_trans h.size g.size, fun k hk hn => (g.block k (Nat.lt_of_lt_of_le hk h.size) hn).trans (h.block k hk hn)⟩
theorem Gw.alloc {r : Option Nat} {a b : World} (h : Gw r a b) (o : Obj) : Gw r a (b.alloc o) := h.trans (World.grownBy_alloc b o r)
theorem Gw.bl {r : Option Nat} {a b : World} (h : Gw r a b) {B : Nat} {o : Obj} (hb : a.heap[B]? = some o) (hn : r ≠ some B) : b.heap[B]? = some o := (h.block B (bl_lt hb) (fun e => hn e.symm)).trans hb
structure Gx (D : Nat) (r : Option Nat) (a b : World) : Prop where
 os : b.os = a.os
 tape : b.tape = a.tape
 output : b.output = a.output
 size : a.heap.size ≤ b.heap.size
 block : ∀ k, k < a.heap.size → k ≠ D → r ≠ some k → b.heap[k]? = a.heap[k]?
theorem Gw.gx {r : Option Nat} {a b c : World} {D : Nat} (h : Gw r a b) (k : Ks D b c) : Gx D r a c := ⟨k.lo.os.trans h.os, k.lo.tape.trans h.tape, k.lo.output.trans h.output, Nat.le_trans h.size k.size, fun q hq h1 h2 => (k.block q (Nat.lt_of_lt_of_le hq h.size) h1).trans (h.block q hq (fun e => h2 e.symm))⟩
theorem Gx.below {r : Option Nat} {a b : World} {D R : Nat} (h : Gx D r a b) (hr : ∀ k, r = some k → R ≤ k) (hD : R ≤ D) (hR : R ≤ a.heap.size) : Below R a b := ⟨h.os, h.tape, h.output, h.size, fun k hk => h.block k (by omega) (by omega) (fun e => by have := hr k e; omega)⟩
structure EtF (D : Nat) (w w' : World) : Prop where
 block : ∀ B, B < w.heap.size → B ≠ D → (∀ v1 v2, w.heap[D]? = some (.cells #[v1, v2] 266) → v1.ownBlock ≠ some B) → w'.heap[B]? = w.heap[B]?
def pcsC (P : List Pc) : List Value := P.flatMap fun p => [.int .i64 p.g, .string p.s]
theorem pcsC_add (P : List Pc) (p : Pc) : pcsC (P ++ [p]) = pcsC P ++ [.int .i64 p.g, .string p.s] := by simp [pcsC]
theorem own_ty {w : World} {R : Nat} {e : TypeId} {sz : Nat} {v : Value} {n : Nat} {xs : List Value} (h : w.ownsRow R e sz v n xs) {k : Nat} (hk : v.ownBlock = some k) : ∃ cur, w.heap[k]? = some (.cells cur e (0, 0)) := by
 rcases h.2 with ⟨rfl, _⟩ | ⟨g, cap, cur, rfl, _, hg, _⟩
 ·
  cases hk
 ·
  injection hk with hk
  subst hk
  exact ⟨cur, hg⟩
theorem own_ne {w : World} {R : Nat} {e : TypeId} {sz : Nat} {v : Value} {n : Nat} {xs : List Value} (h : w.ownsRow R e sz v n xs) {k : Nat} {cs : Array Value} {t : TypeId} (hb : w.heap[k]? = some (.cells cs t)) (ht : t ≠ e) : v.ownBlock ≠ some k := by
 intro hk
 obtain ⟨cur, hc⟩ := own_ty h hk
 rw [hb] at hc
 injection hc with hc
 injection hc with _ h2
 exact ht h2
theorem own_apart {w : World} {R : Nat} {v u : Value} {n m : Nat} {xs ys : List Value} (h : w.ownsRow R 34 2 v n xs) (g : w.ownsRow R 5 1 u m ys) : u.ownBlock = none ∨ u.ownBlock ≠ v.ownBlock := by
 cases hu : u.ownBlock with
 | none => exact .inl rfl
 | some k =>
  right
  intro he
  obtain ⟨c1, h1⟩ := own_ty h he.symm
  obtain ⟨c2, h2⟩ := own_ty g hu
  rw [h1] at h2
  injection h2 with h2
  injection h2 with _ h3
  exact absurd h3 (by decide)
theorem own_form {w : World} {R : Nat} {e : TypeId} {sz : Nat} {v : Value} {n : Nat} {xs : List Value} (h : w.ownsRow R e sz v n xs) : ∃ a c, v = .slice a n c := by
 rcases h.2 with ⟨rfl, rfl⟩ | ⟨g, cap, cur, rfl, _⟩
 ·
  exact ⟨_, _, rfl⟩
 ·
  exact ⟨_, _, rfl⟩
structure Dr (R D : Nat) (P : List Pc) (l : List UInt8) (w : World) : Prop where
 hD : R ≤ D
 ex : ∃ v1 v2, w.heap[D]? = some (.cells #[v1, v2] 266) ∧ w.ownsRow R 34 2 v1 P.length (pcsC P) ∧ w.ownsRow R 5 1 v2 l.length (Lib.byteCells l)
theorem Dr.kp {R D : Nat} {P : List Pc} {l : List UInt8} {w w' : World} (h : Dr R D P l w) (k : Kp w w') : Dr R D P l w' := by
 obtain ⟨v1, v2, h1, h2, h3⟩ := h.ex
 exact ⟨h.hD, v1, v2, bl_kp h1 k, h2.kept (k.grown none) (by cases v1.ownBlock <;> simp), h3.kept (k.grown none) (by cases v2.ownBlock <;> simp)⟩
theorem Dr.lt {R D : Nat} {P : List Pc} {l : List UInt8} {w : World} (h : Dr R D P l w) : D < w.heap.size := by
 obtain ⟨v1, v2, h1, _⟩ := h.ex
 exact bl_lt h1
def endT (P : List Pc) (l : List UInt8) : List Pc := if l = [] then P else P ++ [⟨-1, bs l⟩]
theorem info34 : ∃ i, Tryz.prog.info? 34 = some i ∧ i.zero = some (.agg #[.int .i64 0, .string ⟨#[]⟩]) ∧ i.size = 2 ∧ i.bytes = 24 := by
 have h : (Tryz.prog.info? 34).map (fun i => (i.zero, i.size, i.bytes)) = some (some (.agg #[.int .i64 0, .string ⟨#[]⟩]), 2, 24) := by kernel_rfl
 cases hi : Tryz.prog.info? 34 with
 | none => rw [hi] at h; cases h
 | some i =>
  rw [hi] at h
  injection h with h
  injection h with h1 h
  injection h with h2 h3
  exact ⟨i, rfl, h1, h2, h3⟩
theorem gw_below {r : Option Nat} {a b : World} {R : Nat} (h : Gw r a b) (hr : ∀ k, r = some k → R ≤ k) (hR : R ≤ a.heap.size) : Below R a b := ⟨h.os, h.tape, h.output, h.size, fun k hk => h.block k (by omega) (fun e => by have := hr k e.symm; omega)⟩
theorem endText_any {R D : Nat} {P : List Pc} {l : List UInt8} {w : World} (h : Dr R D P l w) (hR : R ≤ w.heap.size) (hl : l.length ≤ 1000000) (hP : P.length ≤ 1000000) :
  Calls Tryz.prog 254 #[.pointer (some ⟨D, 0, none⟩)] w fun e w' => e = .returned (.tuple #[]) ∧ Dr R D (endT P l) [] w' ∧ Below R w w' ∧ EtF D w w' := by
 obtain ⟨i4, hi4, hz4, hs4, hb4⟩ := info34
 have hlD := h.lt
 have hD := h.hD
 obtain ⟨v1, v2, hb, ho1, ho2⟩ := h.ex
 have BD := hid hb
 have OW1 := hid ho1
 have OW2 := hid ho2
 have ND := hid (own_ne ho1 hb (by decide))
 have AP := hid (own_apart ho1 ho2)
 obtain ⟨a1, c1', e1⟩ := own_form ho1
 obtain ⟨a2, c2', e2⟩ := own_form ho2
 by_cases hl0 : l = []
 ·
  subst hl0
  have H := hid h
  subst e2
  have d1 := bl_cell hb 1 _ rfl
  clear h hb ho1 ho2 e1
  go_enter Tryz.func254, Tryz.ntmps254
  go_wp2_with fail
  refine bodyPost_end (v := .tuple #[]) (results_none rfl _ _ _) rfl ⟨rfl, ?_, Below.refl _ _, ⟨fun _ _ _ _ => rfl⟩⟩
  unfold endT
  rw [if_pos rfl]
  exact H.out
 ·
  have hpos : 0 < l.length := by cases l with | nil => exact absurd rfl hl0 | cons x y => simp
  have E : Hid (endT P l = P ++ [⟨-1, bs l⟩]) := by show _ = _; unfold endT; rw [if_neg hl0]
  have ST : Hid (∀ W, Gw v1.ownBlock w W → (convert 59 9 v2).run Tryz.prog W = .ok (.string (bs l)) W) := fun W g => Ob.str ⟨OW2.out.kept g AP.out⟩
  obtain ⟨L, hL⟩ : ∃ L, l.length = L := ⟨_, rfl⟩
  rw [hL] at e2 hpos hl
  have HL := hid hL
  subst e2
  have gl : (L : Int) > 0 := by omega
  have PSH : Hid (∀ {wc : World} {v : Value}, Gw v1.ownBlock w wc → wc.ownsRow R 34 2 v (P.length + 1) (pcsC P ++ [.int .i64 ((⟨-1, bs l⟩ : Pc)).g, .string ((⟨-1, bs l⟩ : Pc)).s]) → (wc.setCell ⟨D, 0, none⟩ v).heap[D]? = some (.cells #[v, (Value.slice a2 L c2')] 266) ∧ (wc.setCell ⟨D, 0, none⟩ v).ownsRow R 34 2 v (P ++ [(⟨-1, bs l⟩ : Pc)]).length (pcsC (P ++ [(⟨-1, bs l⟩ : Pc)])) ∧ (wc.setCell ⟨D, 0, none⟩ v).ownsRow R 5 1 (Value.slice a2 L c2') l.length (Lib.byteCells l) ∧ Gx D v1.ownBlock w (wc.setCell ⟨D, 0, none⟩ v)) := by
   intro wc v hg ho
   have hb1 := hg.bl BD.out ND.out
   have hks : Ks D wc (wc.setCell ⟨D, 0, none⟩ v) := (Ks.refl _ _).set 0 v
   have o2 := OW2.out.kept hg AP.out
   refine ⟨bl_put hb1 v, ?_, o2.kept hks.gwn (.inr (own_ne o2 hb1 (by decide))), hg.gx hks⟩
   rw [List.length_append, List.length_singleton, pcsC_add]
   exact ho.kept hks.gwn (.inr (own_ne ho hb1 (by decide)))
  have d1 := bl_cell hb 1 _ rfl
  clear h hb ho1 ho2 hL hl0
  subst e1
  go_enter Tryz.func254, Tryz.ntmps254
  go_upto_region 1 with fail
  clear d1
  go_cut [] (fun wc => ∃ a c, wc.heap[D]? = some (.cells #[.slice a (P.length + 1) c, .slice a2 L c2'] 266) ∧ wc.ownsRow R 34 2 (.slice a (P.length + 1) c) (P ++ [(⟨-1, bs l⟩ : Pc)]).length (pcsC (P ++ [(⟨-1, bs l⟩ : Pc)])) ∧ wc.ownsRow R 5 1 (.slice a2 L c2') l.length (Lib.byteCells l) ∧ Gx D (Value.slice a1 P.length c1').ownBlock w wc)
  case first =>
   have Q0 : Gw (Value.slice a1 P.length c1').ownBlock w w.drew := (Gw.refl _ _).drew
   have MK : Hid (∀ W, Gw (Value.slice a1 P.length c1').ownBlock w W → W.cell? ⟨D, 0, none⟩ = some (.slice a1 P.length c1') ∧ W.cell? ⟨D, 1, none⟩ = some (.slice a2 L c2') ∧ (convert 59 9 (Value.slice a2 L c2')).run Tryz.prog W = .ok (.string (bs l)) W ∧ Hid (Gw (Value.slice a1 P.length c1').ownBlock w W)) := fun W k => ⟨bl_cell (k.bl BD.out ND.out) 0 _ rfl, bl_cell (k.bl BD.out ND.out) 1 _ rfl, ST.out _ k, k⟩
   refine wp_region_noPanic ?_
   refine hdrewZ 15 MK Q0 (fun hH => ?_)
   have KQ := Q0
   refine zk 15 0 [] (some 8) (.move (.tmp 0)) 271 (v := ?v0e1) rfl ?h0e1 hH ?_
   case h0e1 => intro _ _; go_simp; try with_reducible rfl
   try simp only [ps]
   refine zk 15 1 [] (some 9) (.move (.tmp 0)) 271 (v := ?v1e2) rfl ?h1e2 hH ?_
   case h1e2 => intro _ _; go_simp; try with_reducible rfl
   try simp only [ps]
   refine zk 15 2 [] (some 10) (.nilCheck (.tmp 9)) 0 (v := ?v2e3) rfl ?h2e3 hH ?_
   case h2e3 => intro _ _; go_simp; try with_reducible rfl
   try simp only [ps]
   refine zk 15 3 [] (some 11) (.fieldAddr 266 (.tmp 10) 0) 0 (v := ?v3e4) rfl ?h3e4 hH ?_
   case h3e4 => intro _ _; go_simp; try with_reducible rfl
   try simp only [ps]
   refine zk 15 4 [] (some 12) (.load 35 (.tmp 11)) 35 (v := ?v4e5) rfl ?h4e5 hH ?_
   case h4e5 => intro _ _; go_simp; try with_reducible rfl
   try simp only [ps]
   refine zk 15 5 [] (some 13) (.move (.tmp 0)) 271 (v := ?v5e6) rfl ?h5e6 hH ?_
   case h5e6 => intro _ _; go_simp; try with_reducible rfl
   try simp only [ps]
   refine zk 15 6 [] (some 14) (.nilCheck (.tmp 13)) 0 (v := ?v6e7) rfl ?h6e7 hH ?_
   case h6e7 => intro _ _; go_simp; try with_reducible rfl
   try simp only [ps]
   refine zk 15 7 [] (some 15) (.fieldAddr 266 (.tmp 14) 1) 0 (v := ?v7e8) rfl ?h7e8 hH ?_
   case h7e8 => intro _ _; go_simp; try with_reducible rfl
   try simp only [ps]
   refine zk 15 8 [] (some 16) (.load 59 (.tmp 15)) 59 (v := ?v8e9) rfl ?h8e9 hH ?_
   case h8e9 => intro _ _; go_simp; try with_reducible rfl
   try simp only [ps]
   refine zk 15 9 [] (some 17) (.convert 59 9 (.tmp 16)) 9 (v := ?v9e10) rfl ?h9e10 hH ?_
   case h9e10 => intro _ _; go_simp; try with_reducible rfl
   try simp only [ps]
   refine zk 15 10 [] (some 18) (.build 34 #[(0, .const (.int .i64 (-1))), (1, .tmp 17)]) 34 (v := ?v10e11) rfl ?h10e11 hH ?_
   case h10e11 => intro _ _; go_simp; try with_reducible rfl
   try simp only [ps]
   refine anyZ_ready (rs := [11]) (by kernel_rfl) (by simp) ?_
   refine AllZ.cons (o := { dst := some 19, op := Op.buildSlice 35 1 #[(0, Operand.tmp 18)], type := 35, pos := "parse.go:68", after := _, guard := none }) rfl (fun K hKq => ?_) AllZ.nil
   go_simp
   refine hKq.out _ _ (MK.out _ (KQ.alloc _)) (fun hN => ?_)
   clear hKq K hH KQ
   have hH := hN
   clear hN
   have KQ := hH.2.2.2.out
   try simp only [ps]
   refine anyZ_ready (rs := [12]) (by kernel_rfl) (by simp) ?_
   refine AllZ.cons (o := { dst := some 20, op := Op.call { callee := Callee.builtin Builtin.append, args := #[Operand.tmp 12, Operand.tmp 19], argTypes := #[35, 35] }, type := 35, pos := "parse.go:68", after := _, guard := none }) rfl (fun K hKq => ?_) AllZ.nil
   refine wp_append_own _ _ _ 35 (by rfl) R 34 i4 (.agg #[.int .i64 0, .string ⟨#[]⟩]) 2 24 Tryz.underlying35 hi4 hz4 hs4 hb4 rfl (by omega) (Value.slice a1 P.length c1') P.length (pcsC P) (by rfl) (OW1.out.drew.alloc _) ⟨w.heap.size, 0, none⟩ 1 1 [.int .i64 ((⟨-1, bs l⟩ : Pc)).g, .string ((⟨-1, bs l⟩ : Pc)).s] (by rfl) rfl ?c1e ?c2e ?c3e ?c4e ?c5e ?_
   case c1e =>
    intro j u hj
    match j, hj with
    | 0, hj => simp at hj; subst hj; simp [Addr.add]
    | 1, hj => simp at hj; subst hj; simp [Addr.add]
   case c2e => intro u hu; simp at hu; rcases hu with rfl | rfl <;> rfl
   case c3e => unfold maxLen; omega
   case c4e => omega
   case c5e => simp; omega
   intro v' w' hown hgrow _
   obtain ⟨a', c', rfl⟩ := own_form hown
   have HOWN := hid hown
   have HG := hid hgrow
   clear hown hgrow
   refine hKq.out _ _ (MK.out _ (KQ.trans HG.out)) (fun hN => ?_)
   clear hKq K hH KQ
   have hH := hN
   clear hN
   have KQ := hH.2.2.2.out
   try simp only [ps]
   refine zk 15 13 [14] (some 21) (.nilCheck (.tmp 8)) 0 (v := ?v13e12) rfl ?h13e12 hH ?_
   case h13e12 => intro _ _; go_simp; try with_reducible rfl
   try simp only [ps]
   refine zk 15 14 [] (some 22) (.fieldAddr 266 (.tmp 21) 0) 0 (v := ?v14e13) rfl ?h14e13 hH ?_
   case h14e13 => intro _ _; go_simp; try with_reducible rfl
   try simp only [ps]
   refine anyZ_ready (rs := [15]) (by kernel_rfl) (by simp) ?_
   refine AllZ.last (o := { dst := none, op := Op.store 35 (Operand.tmp 22) (Operand.tmp 20), type := 0, pos := "parse.go:68", after := _, guard := none }) rfl (Or.inl rfl) (fun K hKq => ?_) AllZ.nil
   have c1 := bl_cell (KQ.bl BD.out ND.out) 0 _ rfl
   have f1 := bl_frozen (KQ.bl BD.out ND.out) 0
   go_simp
   refine hKq.out _ _ ?_
   clear c1 f1
   clear hKq K
   try simp only [ps]
   refine anyZ_done (by kernel_rfl) ?_ _
   refine NoPanic.normal ?_
   go_wp2_with fail
   go_meet
   case rel => exact ⟨_, _, PSH.out KQ HOWN.out⟩
  case rest =>
   obtain ⟨a, c, hb1, hp1, hp2, hbl⟩ := hcut
   rename World => w3
   have BD3 := hid hb1
   have OP3 := hid hp1
   have OQ3 := hid hp2
   have BL3 := hid hbl
   have d1 := bl_cell hb1 1 _ rfl
   have f1 := bl_frozen hb1 1
   clear hb1 hp1 hp2 hbl
   obtain ⟨g2, hg2⟩ : ∃ g, a2 = some ⟨g, 0, none⟩ := by
    rcases OQ3.out.2 with ⟨h, _⟩ | ⟨g, cap, cur, h, _⟩
    ·
     injection h with h1 h2; have := HL.out; omega
    ·
     injection h with h1; exact ⟨g, h1⟩
   subst hg2
   have hLc : L ≤ c2' := by
    rcases OQ3.out.2 with ⟨h, _⟩ | ⟨g, cap, cur, h, _, _, h3, _⟩
    ·
     cases h
    ·
     injection h with h1 h2 h4; have := HL.out; omega
   go_wp2_with fail
   refine bodyPost_end (v := .tuple #[]) (results_none rfl _ _ _) rfl ⟨rfl, ?_, ?_, ?_⟩
   ·
    rw [E.out]
    have hks : Ks D w3 (w3.setCell ⟨D, 1, none⟩ (.slice (some ⟨g2, 0, none⟩) 0 c2')) := (Ks.refl _ _).set 1 _
    have o := OQ3.out.kept hks.gwn (.inr (own_ne OQ3.out BD3.out (by decide)))
    refine ⟨hD, _, _, bl_put BD3.out _, OP3.out.kept hks.gwn (.inr (own_ne OP3.out BD3.out (by decide))), ?_⟩
    rcases o.2 with ⟨h, _⟩ | ⟨g, cap, cur, h, k1, k2, k3, k4, k5, k6⟩
    ·
     cases h
    ·
     injection h with h1 h2 h4
     injection h1 with h1
     injection h1 with h1
     subst h1
     subst h4
     exact ⟨rfl, .inr ⟨g2, c2', cur, rfl, k1, k2, Nat.zero_le _, k4, k5, by simp [Lib.byteCells]⟩⟩
   ·
    exact (BL3.out.below (fun k hk => (OW1.out.lt k hk).1) hD hR).trans (Below.mono ((Ks.refl D _).set 1 _).lo hD)
   ·
    refine ⟨fun B hB hBD hv => ?_⟩
    exact (Below.heap_setCell _ _ _ B hBD).trans (BL3.out.block B hB hBD (hv _ _ BD.out))
theorem wp_append_str {o : Oper} {a : Act} {w : World} {K : Act → World → Prop} {Q : Exit → Act → World → Prop} (sl x : Operand) (t u : TypeId)
  (ho : o.op = .call { callee := .builtin .append, args := #[sl, x], argTypes := #[t, u] })
  (base : Nat) (e : TypeId) (i : TypeInfo) (ht : Tryz.prog.underlying t = some (.slice e)) (hu : Tryz.prog.underlying u = some .string) (hi : Tryz.prog.info? e = some i) (hz : i.zero = some (.int .u8 0))
  (hsize : i.size = 1) (hby : i.bytes = 1)
  (v : Value) (n : Nat) (xs : List Value) (hs : a.eval sl = v) (hown : w.ownsRow base e 1 v n xs) (s : ByteArray) (hx : a.eval x = .string s)
  (h63 : n + s.size ≤ maxLen) (hbytes : n + s.size ≤ 140737488355328) (hbase : base ≤ w.heap.size)
  (h : ∀ v' w', w'.ownsRow base e 1 v' (n + s.size) (xs ++ Lib.strCells s) → w.grownBy w' v.ownBlock → K (a.put o.dst v') w') : o.wp Tryz.prog a w K Q := by
 obtain ⟨v', w', hr, h2, h3, _⟩ := Lib.run_append_own_string (P := Tryz.prog) w base t u o.type e i ht hu hi hz hsize hby v n xs hown s h63 hbytes hbase
 unfold Oper.wp execOp
 simp only [ho, resolve, invoke, builtin, Sem.run_bind, Sem.run_pure, Result.andThen_ok, List.map_toArray, List.map_cons, List.map_nil, hs, hx, hr]
 exact h v' w' h2 h3
def tAdd (P : List Pc) (l : List UInt8) (p : Pc) : List Pc × List UInt8 × Bool :=
 if p.g = -1 then (P, l ++ p.s.data.toList, decide (l.length + p.s.size ≤ 400)) else (endT P l ++ [p], [], true)
theorem add_any {R D : Nat} {P : List Pc} {l : List UInt8} {w : World} (p : Pc) (h : Dr R D P l w) (hR : R ≤ w.heap.size) (hl : l.length ≤ 1000) (hP : P.length ≤ 1000000) (hp : p.s.size ≤ 1000) :
  Calls Tryz.prog 253 #[.pointer (some ⟨D, 0, none⟩), .agg #[.int .i64 p.g, .string p.s]] w fun e w' => e = .returned (.bool (tAdd P l p).2.2) ∧ Dr R D (tAdd P l p).1 (tAdd P l p).2.1 w' ∧ Below R w w' := by
 obtain ⟨i5, hi5, hz5, hs5, hb5⟩ := info5
 obtain ⟨i4, hi4, hz4, hs4, hb4⟩ := info34
 have hlD := h.lt
 have hD := h.hD
 have H := hid h
 clear h
 go_enter Tryz.func253, Tryz.ntmps253
 go_upto_region 1 with fail
 refine opq (fun W0 => W0.heap[w.heap.size]? = some p.o ∧ Dr R D P l W0 ∧ Kp w W0) ⟨by (first | exact last_at _ _ _ (by simp) | (refine bl_alloc ?_ _; first | exact last_at _ _ _ (by simp) | (refine bl_alloc ?_ _; first | exact last_at _ _ _ (by simp) | (refine bl_alloc ?_ _; exact last_at _ _ _ (by simp))))), by exact H.out.kp kpt, by exact kpt⟩ ?_
 rintro W0 ⟨xA0, xH0, xK0⟩
 have A0 := hidT xA0
 have H0 := hidT xH0
 have K0 := hidT xK0
 clear xA0 xH0 xK0
 obtain ⟨B, hB⟩ : ∃ B, w.heap.size = B := ⟨_, rfl⟩
 rw [hB] at A0 hR hlD
 have hszB : B ≤ W0.heap.size := by rw [← hB]; exact K0.out.size
 have HB0 := hid hszB
 have L0 : Hid (Below R w W0) := Below.mono K0.out (by omega)
 have KB : Hid (∀ v1 v2, W0.heap[D]? = some (.cells #[v1, v2] 266) → v1.ownBlock ≠ some B) := by
  intro v1 v2 h0 h1
  obtain ⟨u1, u2, g1, g2, g3⟩ := H.out.ex
  rw [bl_kp g1 K0.out] at h0
  injection h0 with h0
  injection h0 with h0
  injection h0 with h0
  injection h0 with h0
  subst h0
  have := (g2.lt B h1).2
  omega
 rw [hB]
 clear hB H
 by_cases hg : p.g = -1
 ·
  have gg : (p.g == -1) = true := by simp [hg]
  have E : Hid (tAdd P l p = (P, l ++ p.s.data.toList, decide (l.length + p.s.size ≤ 400))) := by show _ = _; unfold tAdd; rw [if_pos hg]
  have a0 := bl_cell A0.out 0 _ rfl
  have a1' := bl_cell A0.out 1 _ rfl
  clear hg
  go_upto_region 2 with fail
  obtain ⟨v1, v2, hb, ho1, ho2⟩ := H0.out.ex
  have BD := hid hb
  have OW1 := hid ho1
  have OW2 := hid ho2
  have ND := hid (own_ne ho1 hb (by decide))
  have ND2 := hid (own_ne ho2 hb (by decide))
  have AP := hid (own_apart ho1 ho2)
  obtain ⟨a1, c1', e1⟩ := own_form ho1
  obtain ⟨a2, c2', e2⟩ := own_form ho2
  clear hb ho1 ho2
  subst e2
  have hle : l.length ≤ 1000 := hl
  have NA2 : Hid ((Value.slice a2 l.length c2').ownBlock ≠ some B) := own_ne OW2.out A0.out (by decide)
  have PSH : Hid (∀ {wc : World} {v : Value}, Gw (Value.slice a2 l.length c2').ownBlock W0 wc → wc.ownsRow R 5 1 v (l.length + p.s.size) (Lib.byteCells l ++ Lib.strCells p.s) → (wc.setCell ⟨D, 1, none⟩ v).heap[D]? = some (.cells #[v1, v] 266) ∧ Dr R D P (l ++ p.s.data.toList) (wc.setCell ⟨D, 1, none⟩ v) ∧ Below R W0 (wc.setCell ⟨D, 1, none⟩ v)) := by
   intro wc v hg ho
   have hb1 := hg.bl BD.out ND2.out
   have hks : Ks D wc (wc.setCell ⟨D, 1, none⟩ v) := (Ks.refl _ _).set 1 v
   have o1 := OW1.out.kept hg (by
    cases hu : v1.ownBlock with
    | none => exact .inl rfl
    | some k =>
     right
     intro he
     rcases AP.out with h0 | h0
     ·
      rw [h0] at he; cases he
     ·
      exact h0 (he.symm.trans hu.symm))
   refine ⟨bl_put hb1 v, ⟨hD, _, _, bl_put hb1 v, o1.kept hks.gwn (.inr (own_ne o1 hb1 (by decide))), ?_⟩, (gw_below hg (fun k hk => (OW2.out.lt k hk).1) (by omega)).trans (Below.mono hks.lo hD)⟩
   have e3 : (l ++ p.s.data.toList).length = l.length + p.s.size := by rw [List.length_append, Array.length_toList]; rfl
   have e4 : Lib.byteCells (l ++ p.s.data.toList) = Lib.byteCells l ++ Lib.strCells p.s := by simp [Lib.byteCells, Lib.strCells]
   rw [e3, e4]
   exact ho.kept hks.gwn (.inr (own_ne ho hb1 (by decide)))
  go_cut [] (fun wc => ∃ a c, wc.heap[D]? = some (.cells #[v1, .slice a (l.length + p.s.size) c] 266) ∧ Dr R D P (l ++ p.s.data.toList) wc ∧ Below R W0 wc)
  case first =>
   have Q0 : Gw (Value.slice a2 l.length c2').ownBlock W0 W0.drew := (Gw.refl _ _).drew
   have MK : Hid (∀ W, Gw (Value.slice a2 l.length c2').ownBlock W0 W → W.cell? ⟨D, 1, none⟩ = some ((Value.slice a2 l.length c2')) ∧ W.cell? ⟨B, 1, none⟩ = some (.string p.s) ∧ Hid (Gw (Value.slice a2 l.length c2').ownBlock W0 W)) := fun W k => ⟨bl_cell (k.bl BD.out ND2.out) 1 _ rfl, bl_cell (k.bl A0.out NA2.out) 1 _ rfl, k⟩
   refine wp_region_noPanic ?_
   refine hdrewZ 10 MK Q0 (fun hH => ?_)
   have KQ := Q0
   refine zk 10 0 [] (some 8) (.move (.tmp 0)) 271 (v := ?v0e1) rfl ?h0e1 hH ?_
   case h0e1 => intro _ _; go_simp; try with_reducible rfl
   try simp only [ps]
   refine zk 10 1 [] (some 9) (.move (.tmp 0)) 271 (v := ?v1e2) rfl ?h1e2 hH ?_
   case h1e2 => intro _ _; go_simp; try with_reducible rfl
   try simp only [ps]
   refine zk 10 2 [] (some 10) (.nilCheck (.tmp 9)) 0 (v := ?v2e3) rfl ?h2e3 hH ?_
   case h2e3 => intro _ _; go_simp; try with_reducible rfl
   try simp only [ps]
   refine zk 10 3 [] (some 11) (.fieldAddr 266 (.tmp 10) 1) 0 (v := ?v3e4) rfl ?h3e4 hH ?_
   case h3e4 => intro _ _; go_simp; try with_reducible rfl
   try simp only [ps]
   refine zk 10 4 [] (some 12) (.load 59 (.tmp 11)) 59 (v := ?v4e5) rfl ?h4e5 hH ?_
   case h4e5 => intro _ _; go_simp; try with_reducible rfl
   try simp only [ps]
   refine zk 10 5 [] (some 13) (.fieldAddr 34 (.tmp 3) 1) 0 (v := ?v5e6) rfl ?h5e6 hH ?_
   case h5e6 => intro _ _; go_simp; try with_reducible rfl
   try simp only [ps]
   refine zk 10 6 [] (some 14) (.load 9 (.tmp 13)) 9 (v := ?v6e7) rfl ?h6e7 hH ?_
   case h6e7 => intro _ _; go_simp; try with_reducible rfl
   try simp only [ps]
   refine anyZ_ready (rs := [7]) (by kernel_rfl) (by simp) ?_
   refine AllZ.cons (o := { dst := some 15, op := Op.call { callee := Callee.builtin Builtin.append, args := #[Operand.tmp 12, Operand.tmp 14], argTypes := #[59, 9] }, type := 59, pos := "parse.go:58", after := _, guard := none }) rfl (fun K hKq => ?_) AllZ.nil
   refine wp_append_str _ _ 59 9 (by rfl) R 5 i5 Tryz.underlying59 Tryz.underlying9 hi5 hz5 hs5 hb5 (Value.slice a2 l.length c2') l.length (Lib.byteCells l) (by rfl) OW2.out.drew p.s (by rfl) ?c3 ?c4 ?c5 ?_
   case c3 => unfold maxLen; omega
   case c4 => omega
   case c5 => simp; omega
   intro v' w' hown hgrow
   obtain ⟨a', c', rfl⟩ := own_form hown
   have HOWN := hid hown
   have HG := hid hgrow
   clear hown hgrow
   refine hKq.out _ _ (MK.out _ (KQ.trans HG.out)) (fun hN => ?_)
   clear hKq K hH KQ
   have hH := hN
   clear hN
   have KQ := hH.2.2.out
   try simp only [ps]
   refine zk 10 8 [9] (some 16) (.nilCheck (.tmp 8)) 0 (v := ?v8e8) rfl ?h8e8 hH ?_
   case h8e8 => intro _ _; go_simp; try with_reducible rfl
   try simp only [ps]
   refine zk 10 9 [] (some 17) (.fieldAddr 266 (.tmp 16) 1) 0 (v := ?v9e9) rfl ?h9e9 hH ?_
   case h9e9 => intro _ _; go_simp; try with_reducible rfl
   try simp only [ps]
   refine anyZ_ready (rs := [10]) (by kernel_rfl) (by simp) ?_
   refine AllZ.last (o := { dst := none, op := Op.store 59 (Operand.tmp 17) (Operand.tmp 15), type := 0, pos := "parse.go:58", after := _, guard := none }) rfl (Or.inl rfl) (fun K hKq => ?_) AllZ.nil
   have c1 := bl_cell (KQ.bl BD.out ND2.out) 1 _ rfl
   have f1 := bl_frozen (KQ.bl BD.out ND2.out) 1
   go_simp
   refine hKq.out _ _ ?_
   clear c1 f1
   clear hKq K
   try simp only [ps]
   refine anyZ_done (by kernel_rfl) ?_ _
   refine NoPanic.normal ?_
   go_wp2_with fail
   go_meet
   case rel => exact ⟨_, _, PSH.out KQ HOWN.out⟩
  case rest =>
   obtain ⟨a, c, hb3, hd3, hl3⟩ := hcut
   rename World => w3
   have d1 := bl_cell hb3 1 _ rfl
   have HD3 := hid hd3
   have BL3 := hid (L0.out.trans hl3)
   obtain ⟨N, hN⟩ : ∃ N, l.length + p.s.size = N := ⟨_, rfl⟩
   rw [hN] at d1 E
   have E5 : Hid (decide ((N : Int) ≤ 400) = decide (N ≤ 400)) := decide_eq_decide.2 (by omega)
   clear hb3 hd3 hl3 hN
   go_wp2_with fail
   go_ret
   exact ⟨by rw [E.out]; first | rfl | (rw [← E5.out] <;> rfl), by rw [E.out]; exact HD3.out, BL3.out⟩
 ·
  have gg : (p.g == -1) = false := by simp [hg]
  have E : Hid (tAdd P l p = (endT P l ++ [p], [], true)) := by show _ = _; unfold tAdd; rw [if_neg hg]
  have a0 := bl_cell A0.out 0 _ rfl
  go_wp2_with fail
  refine (endText_any H0.out (by omega) (by omega) hP).mono ?_
  rintro e w1 ⟨rfl, hd1, hb1, hbk⟩
  obtain ⟨P1, hP1⟩ : ∃ P1, endT P l = P1 := ⟨_, rfl⟩
  have hP1l : P1.length ≤ P.length + 1 := by rw [← hP1]; unfold endT; split <;> simp
  rw [hP1] at E hd1
  have H1 := hid hd1
  have HS1 := hid (hb1.size)
  have hRw1 : R ≤ w1.heap.size := by have := hb1.size; omega
  have L1 := hid (L0.out.trans hb1)
  have A1 : Hid (w1.heap[B]? = some p.o) := (hbk.block B (bl_lt A0.out) (fun e => by omega) KB.out).trans A0.out
  clear hd1 hb1 hbk hP1 a0 gg hg A0 H0 KB
  go_upto_region 5 with fail
  obtain ⟨v1, v2, hb, ho1, ho2⟩ := H1.out.ex
  have BD := hid hb
  have OW1 := hid ho1
  have OW2 := hid ho2
  have ND := hid (own_ne ho1 hb (by decide))
  have ND2 := hid (own_ne ho2 hb (by decide))
  have AP := hid (own_apart ho1 ho2)
  obtain ⟨a1, c1', e1⟩ := own_form ho1
  obtain ⟨a2, c2', e2⟩ := own_form ho2
  clear hb ho1 ho2
  have PSH : Hid (∀ {wc : World} {v : Value}, Gw v1.ownBlock w1 wc → wc.ownsRow R 34 2 v (P1.length + 1) (pcsC P1 ++ [.int .i64 (p).g, .string (p).s]) → (wc.setCell ⟨D, 0, none⟩ v).heap[D]? = some (.cells #[v, v2] 266) ∧ (wc.setCell ⟨D, 0, none⟩ v).ownsRow R 34 2 v (P1 ++ [p]).length (pcsC (P1 ++ [p])) ∧ (wc.setCell ⟨D, 0, none⟩ v).ownsRow R 5 1 v2 ([] : List UInt8).length (Lib.byteCells ([] : List UInt8)) ∧ Gx D v1.ownBlock w1 (wc.setCell ⟨D, 0, none⟩ v)) := by
   intro wc v hg ho
   have hb1 := hg.bl BD.out ND.out
   have hks : Ks D wc (wc.setCell ⟨D, 0, none⟩ v) := (Ks.refl _ _).set 0 v
   have o2 := OW2.out.kept hg AP.out
   refine ⟨bl_put hb1 v, ?_, o2.kept hks.gwn (.inr (own_ne o2 hb1 (by decide))), hg.gx hks⟩
   rw [List.length_append, List.length_singleton, pcsC_add]
   exact ho.kept hks.gwn (.inr (own_ne ho hb1 (by decide)))
  have DRP : Hid (∀ {wc : World} {v : Value}, (wc.heap[D]? = some (.cells #[v, v2] 266) ∧ wc.ownsRow R 34 2 v (P1 ++ [p]).length (pcsC (P1 ++ [p])) ∧ wc.ownsRow R 5 1 v2 ([] : List UInt8).length (Lib.byteCells ([] : List UInt8)) ∧ Gx D v1.ownBlock w1 wc) → Dr R D (P1 ++ [p]) [] wc ∧ Below R w1 wc) := fun {wc v} h => ⟨⟨hD, v, v2, h.1, h.2.1, h.2.2.1⟩, h.2.2.2.below (fun k hk => (OW1.out.lt k hk).1) hD hRw1⟩
  go_cut [] (fun wc => Dr R D (P1 ++ [p]) [] wc ∧ Below R w1 wc)
  case first =>
   subst e1
   have Q0 : Gw (Value.slice a1 P1.length c1').ownBlock w1 w1.drew := (Gw.refl _ _).drew
   have MK : Hid (∀ W, Gw (Value.slice a1 P1.length c1').ownBlock w1 W → W.cell? ⟨D, 0, none⟩ = some (.slice a1 P1.length c1') ∧ Hid (Gw (Value.slice a1 P1.length c1').ownBlock w1 W)) := fun W k => ⟨bl_cell (k.bl BD.out ND.out) 0 _ rfl, k⟩
   refine wp_region_noPanic ?_
   refine hdrewZ 10 MK Q0 (fun hH => ?_)
   have KQ := Q0
   refine zk 10 0 [] (some 26) (.move (.tmp 0)) 271 (v := ?v0f1) rfl ?h0f1 hH ?_
   case h0f1 => intro _ _; go_simp; try with_reducible rfl
   try simp only [ps]
   refine zk 10 1 [] (some 27) (.move (.tmp 0)) 271 (v := ?v1f2) rfl ?h1f2 hH ?_
   case h1f2 => intro _ _; go_simp; try with_reducible rfl
   try simp only [ps]
   refine zk 10 2 [] (some 28) (.nilCheck (.tmp 27)) 0 (v := ?v2f3) rfl ?h2f3 hH ?_
   case h2f3 => intro _ _; go_simp; try with_reducible rfl
   try simp only [ps]
   refine zk 10 3 [] (some 29) (.fieldAddr 266 (.tmp 28) 0) 0 (v := ?v3f4) rfl ?h3f4 hH ?_
   case h3f4 => intro _ _; go_simp; try with_reducible rfl
   try simp only [ps]
   refine zk 10 4 [] (some 30) (.load 35 (.tmp 29)) 35 (v := ?v4f5) rfl ?h4f5 hH ?_
   case h4f5 => intro _ _; go_simp; try with_reducible rfl
   try simp only [ps]
   refine anyZ_ready (rs := [5]) (by kernel_rfl) (by simp) ?_
   refine AllZ.cons (o := { dst := some 31, op := Op.load 34 (Operand.tmp 3), type := 34, pos := "parse.go:62", after := #[], guard := none }) rfl (fun K hKq => ?_) AllZ.nil
   have q0 := bl_cell (bl_drew A1.out) 0 _ rfl
   have q1 := bl_cell (bl_drew A1.out) 1 _ rfl
   go_simp
   refine hKq.out _ _ (MK.out _ KQ) (fun hN => ?_)
   clear q0 q1
   clear hKq K hH KQ
   have hH := hN
   clear hN
   have KQ := hH.2.out
   try simp only [ps]
   refine anyZ_ready (rs := [6]) (by kernel_rfl) (by simp) ?_
   refine AllZ.cons (o := { dst := some 32, op := Op.buildSlice 35 1 #[(0, Operand.tmp 31)], type := 35, pos := "parse.go:62", after := _, guard := none }) rfl (fun K hKq => ?_) AllZ.nil
   go_simp
   refine hKq.out _ _ (MK.out _ (KQ.alloc _)) (fun hN => ?_)
   clear hKq K hH KQ
   have hH := hN
   clear hN
   have KQ := hH.2.out
   try simp only [ps]
   refine anyZ_ready (rs := [7]) (by kernel_rfl) (by simp) ?_
   refine AllZ.cons (o := { dst := some 33, op := Op.call { callee := Callee.builtin Builtin.append, args := #[Operand.tmp 30, Operand.tmp 32], argTypes := #[35, 35] }, type := 35, pos := "parse.go:62", after := _, guard := none }) rfl (fun K hKq => ?_) AllZ.nil
   refine wp_append_own _ _ _ 35 (by rfl) R 34 i4 (.agg #[.int .i64 0, .string ⟨#[]⟩]) 2 24 Tryz.underlying35 hi4 hz4 hs4 hb4 rfl (by omega) (Value.slice a1 P1.length c1') P1.length (pcsC P1) (by rfl) (OW1.out.drew.alloc _) ⟨w1.heap.size, 0, none⟩ 1 1 [.int .i64 (p).g, .string (p).s] (by rfl) rfl ?c1f ?c2f ?c3f ?c4f ?c5f ?_
   case c1f =>
    intro j u hj
    match j, hj with
    | 0, hj => simp at hj; subst hj; simp [Addr.add]
    | 1, hj => simp at hj; subst hj; simp [Addr.add]
   case c2f => intro u hu; simp at hu; rcases hu with rfl | rfl <;> rfl
   case c3f => unfold maxLen; omega
   case c4f => omega
   case c5f => simp; omega
   intro v' w' hown hgrow _
   obtain ⟨a', c', rfl⟩ := own_form hown
   have HOWN := hid hown
   have HG := hid hgrow
   clear hown hgrow
   refine hKq.out _ _ (MK.out _ (KQ.trans HG.out)) (fun hN => ?_)
   clear hKq K hH KQ
   have hH := hN
   clear hN
   have KQ := hH.2.out
   try simp only [ps]
   refine zk 10 8 [9] (some 34) (.nilCheck (.tmp 26)) 0 (v := ?v8f6) rfl ?h8f6 hH ?_
   case h8f6 => intro _ _; go_simp; try with_reducible rfl
   try simp only [ps]
   refine zk 10 9 [] (some 35) (.fieldAddr 266 (.tmp 34) 0) 0 (v := ?v9f7) rfl ?h9f7 hH ?_
   case h9f7 => intro _ _; go_simp; try with_reducible rfl
   try simp only [ps]
   refine anyZ_ready (rs := [10]) (by kernel_rfl) (by simp) ?_
   refine AllZ.last (o := { dst := none, op := Op.store 35 (Operand.tmp 35) (Operand.tmp 33), type := 0, pos := "parse.go:62", after := _, guard := none }) rfl (Or.inl rfl) (fun K hKq => ?_) AllZ.nil
   have c1 := bl_cell (KQ.bl BD.out ND.out) 0 _ rfl
   have f1 := bl_frozen (KQ.bl BD.out ND.out) 0
   go_simp
   refine hKq.out _ _ ?_
   clear c1 f1
   clear hKq K
   try simp only [ps]
   refine anyZ_done (by kernel_rfl) ?_ _
   refine NoPanic.normal ?_
   go_wp2_with fail
   go_meet
   case rel => exact DRP.out (PSH.out KQ HOWN.out)
  case rest =>
   obtain ⟨hd3, hl3⟩ := hcut
   rename World => w3
   have HD3 := hid hd3
   have BL3 := hid (L1.out.trans hl3)
   clear hd3 hl3
   go_wp2_with fail
   go_ret
   exact ⟨by rw [E.out] <;> rfl, by rw [E.out]; exact HD3.out, BL3.out⟩
def tpF (s : ByteArray) (G : Int) : Nat → List Pc → List UInt8 → Nat → List Pc × Nat × Nat
 | 0, _, _, i => ([], i, 1)
 | f + 1, P, l, i =>
  if i < s.size then
   if (decide ((qNext (s.extract i s.size)).2 = 0) || !(pcR (qNext (s.extract i s.size)).1 G) || !((tAdd P l (qNext (s.extract i s.size)).1).2.2)) = true then ([], i, 1)
   else tpF s G f (tAdd P l (qNext (s.extract i s.size)).1).1 (tAdd P l (qNext (s.extract i s.size)).1).2.1 (i + (qNext (s.extract i s.size)).2)
  else (endT P l, 0, 0)
def pTpl (s : ByteArray) (G : Int) : List Pc × Nat × Nat := tpF s G (s.size + 1) [] [] 0
theorem tpF_le (s : ByteArray) (G : Int) : ∀ f P l i, i ≤ s.size → (tpF s G f P l i).2.1 ≤ s.size
 | 0, P, l, i, h => h
 | f + 1, P, l, i, h => by
  unfold tpF
  split
  ·
   rename_i hlt
   split
   ·
    exact h
   ·
    have hz := ext_szi s i h
    have h2 := (qNext_le (s.extract i s.size) (by omega)).2
    exact tpF_le s G f _ _ _ (by omega)
  ·
   exact Nat.zero_le _
theorem pTpl_le (s : ByteArray) (G : Int) : (pTpl s G).2.1 ≤ s.size := tpF_le s G _ _ _ _ (Nat.zero_le _)
theorem pcsC_get : ∀ (P : List Pc) (j : Nat) (p : Pc), P[j]? = some p → (pcsC P)[j * 2]? = some (.int .i64 p.g) ∧ (pcsC P)[j * 2 + 1]? = some (.string p.s)
 | [], j, p, h => by simp at h
 | q :: P, 0, p, h => by
  simp at h
  subst h
  exact ⟨rfl, rfl⟩
 | q :: P, j + 1, p, h => by
  have h' : P[j]? = some p := by simpa using h
  have := pcsC_get P j p h'
  have e : pcsC (q :: P) = .int .i64 q.g :: .string q.s :: pcsC P := rfl
  rw [e, show (j + 1) * 2 = j * 2 + 1 + 1 by omega]
  exact this
structure PcIs (ok : Nat → Prop) (w : World) (P : List Pc) (ad : Option Addr) (l c : Nat) : Prop where
 is : PcAt w P ad l c
 ok : P ≠ [] → ∀ a, ad = some a → ok a.block
theorem PcIs.nil (ok : Nat → Prop) (w : World) : PcIs ok w [] none 0 0 := ⟨PcAt.nil w, fun h => absurd rfl h⟩
theorem PcIs.weak {ok ok' : Nat → Prop} {w : World} {P : List Pc} {ad : Option Addr} {l c : Nat} (h : PcIs ok w P ad l c) (k : ∀ b, ok b → ok' b) : PcIs ok' w P ad l c := ⟨h.is, fun hne a ha => k _ (h.ok hne a ha)⟩
theorem PcIs.turn {ok : Nat → Prop} {w w' : World} {P : List Pc} {ad : Option Addr} {l c : Nat} (h : PcIs ok w P ad l c) (hs : w.heap.size ≤ w'.heap.size) (k : ∀ b, ok b → b < w.heap.size → w'.heap[b]? = w.heap[b]?) : PcIs ok w' P ad l c :=
 ⟨⟨h.is.ln, h.is.cp, fun hne => by
  obtain ⟨b, o, h1, h2, h3⟩ := h.is.at' hne
  have hb := k b (h.ok hne _ h1) h2
  exact ⟨b, o, h1, Nat.lt_of_lt_of_le h2 hs, fun j p hj => ⟨(World.cell?_of_block (w := w) hb).trans (h3 j p hj).1, (World.cell?_of_block (w := w) hb).trans (h3 j p hj).2⟩⟩⟩, h.ok⟩
theorem PcIs.kp {ok : Nat → Prop} {w w' : World} {P : List Pc} {ad : Option Addr} {l c : Nat} (h : PcIs ok w P ad l c) (k : Kp w w') : PcIs ok w' P ad l c := h.turn k.size (fun b _ hl => k.block b hl)
theorem PcIs.ks {ok : Nat → Prop} {S : Nat} {w w' : World} {P : List Pc} {ad : Option Addr} {l c : Nat} (h : PcIs ok w P ad l c) (k : Ks S w w') (hS : ∀ b, ok b → b ≠ S) : PcIs ok w' P ad l c := h.turn k.size (fun b hb hl => k.block b hl (hS b hb))
theorem own_pcs {w : World} {R : Nat} {P : List Pc} {ad : Option Addr} {l c : Nat} (h : w.ownsRow R 34 2 (.slice ad l c) P.length (pcsC P)) : PcIs (fun b => R ≤ b) w P ad l c := by
 rcases h.2 with ⟨h1, h0⟩ | ⟨g, cap, cur, h1, hb, hg, hc, hm, hs, ht⟩
 ·
  injection h1 with h1 h2 h3
  subst h1 h2 h3
  obtain rfl : P = [] := List.eq_nil_of_length_eq_zero h0
  exact PcIs.nil _ w
 ·
  injection h1 with h1 h2 h3
  subst h1 h2 h3
  refine ⟨⟨rfl, hc, fun _ => ⟨g, 0, rfl, (Array.getElem?_eq_some_iff.1 hg).1, fun j p hj => ?_⟩⟩, fun _ a ha => by injection ha with ha; subst ha; exact hb⟩
  have hh := pcsC_get P j p hj
  have h5 := h.cells (g := g) rfl
  have e : ∀ k, (⟨g, 0, none⟩ : Addr).add k = ⟨g, 0 + k, none⟩ := fun k => by simp [Addr.add]; exact Eq.symm
  exact ⟨by have := h5 _ _ hh.1; rwa [e] at this, by have := h5 _ _ hh.2; rwa [e] at this⟩
structure TpD (x : List Pc × Nat × Nat) (w : World) (e : Ending) (w' : World) : Prop where
 ex : ∃ ad l c, e = .returned (.tuple #[.slice ad l c, .int .i64 ((x.2.1 : Nat) : Int), .int .i64 ((x.2.2 : Nat) : Int)]) ∧ PcIs (fun b => w.heap.size ≤ b) w' x.1 ad l c ∧ Kp w w'
theorem tparse_any (s : ByteArray) (G : Int) (hs : s.size ≤ 100000) (w : World) : Calls Tryz.prog 245 #[.string s, .int .i64 G] w fun e w' => TpD (pTpl s G) w e w' := by
 obtain ⟨x, hx⟩ : ∃ x, pTpl s G = x := ⟨_, rfl⟩
 rw [hx]
 have HX := hid hx
 clear hx
 go_enter Tryz.func245, Tryz.ntmps245
 go_upto_region 2 with fail
 refine opq (fun V0 => Dr w.heap.size w.heap.size [] [] V0 ∧ Kp w V0) ⟨by exact ⟨Nat.le_refl _, _, _, last_of _ _, World.ownsRow_nil _ _ _ _, World.ownsRow_nil _ _ _ _⟩, by exact kpt⟩ ?_
 rintro V0 ⟨xD0, xK0⟩
 have D0 := hidT xD0
 have K0 := hidT xK0
 clear xD0 xK0
 obtain ⟨R, hR⟩ : ∃ R, w.heap.size = R := ⟨_, rfl⟩
 have HR := hid hR
 have hVR : R < V0.heap.size := by rw [← hR]; exact D0.out.lt
 have L0 : Hid (Below R w V0) := Below.mono K0.out (by omega)
 rw [hR] at D0 ⊢
 clear K0 hR
 go_wp2_with fail
 go_loopg [8] (s.size + 1) (fun k v wr => ∃ (P : List Pc) (l : List UInt8) (j : Nat), v = .int .i64 (j : Int) ∧ j ≤ s.size ∧ s.size < k + j ∧ l.length ≤ 400 ∧ P.length ≤ 2 * j ∧ tpF s G k P l j = x ∧ Dr R R P l wr ∧ Below R w wr ∧ R < wr.heap.size)
 case atStart => exact ⟨[], [], 0, rfl, by omega, by omega, by simp, by simp, HX.out, D0.out, L0.out, hVR⟩
 case round =>
  obtain ⟨P, l, j, rfl, hj, hk, hl, hP, hp, hD, hL, hRr⟩ := hrel
  have HP := hid hp
  have D1 := hid hD
  have L1 := hid hL
  have Z1 := hid hRr
  clear hp hD hL hRr D0 L0 HX
  by_cases hlt : j < s.size
  ·
   obtain ⟨k, rfl⟩ : ∃ k, gk = k + 1 := ⟨gk - 1, by omega⟩
   have ga : (j : Int) < (s.size : Int) := by omega
   have es : ∀ w, (Instr.slice 9 (.string s) (some (.int .i64 (j : Int))) none none).run Tryz.prog w = .ok (.string (s.extract j s.size)) w := fun w => run_from s j hj w
   obtain ⟨t, ht⟩ : ∃ t, s.extract j s.size = t := ⟨_, rfl⟩
   have htz : t.size + j = s.size := by rw [← ht]; exact ext_szi s j hj
   obtain ⟨p, n, hpn⟩ : ∃ p n, qNext t = (p, n) := ⟨_, _, rfl⟩
   have hq := qNext_le t (by omega)
   rw [hpn] at hq
   obtain ⟨hq1, hq2⟩ : p.s.size ≤ 1 ∧ n ≤ t.size := hq
   have N1 : Hid (∀ w, Calls Tryz.prog 252 #[.string t] w fun e w' => e = .returned (.tuple #[.agg #[.int .i64 p.g, .string p.s], .int .i64 (n : Int)]) ∧ Kp w w') := fun w => by have := next252_any t (by omega) (by omega) w; rw [hpn] at this; exact this
   rw [ht] at es
   obtain ⟨c, hc⟩ : ∃ c, pcR p G = c := ⟨_, rfl⟩
   have N2 : Hid (∀ w, Calls Tryz.prog 177 #[.agg #[.int .i64 p.g, .string p.s], .int .i64 G] w fun e w' => e = .returned (.bool c) ∧ Kp w w') := fun w => by rw [← hc]; exact pieceRight_any p G w
   obtain ⟨P2, l2, ok, h2⟩ : ∃ P2 l2 ok, tAdd P l p = (P2, l2, ok) := ⟨_, _, _, rfl⟩
   have N3 : Hid (∀ w, Dr R R P l w → R ≤ w.heap.size → Calls Tryz.prog 253 #[.pointer (some ⟨R, 0, none⟩), .agg #[.int .i64 p.g, .string p.s]] w fun e w' => e = .returned (.bool ok) ∧ Dr R R P2 l2 w' ∧ Below R w w') := fun w h hR => by have := add_any p h hR (by omega) (by omega) (by omega); rw [h2] at this; exact this
   have hP2 : P2.length ≤ P.length + 2 ∧ (!ok = true ∨ l2.length ≤ 400) := by
    have : tAdd P l p = (P2, l2, ok) := h2
    unfold tAdd at this
    split at this
    ·
     injection this with e1 e2
     injection e2 with e2 e3
     subst e1 e2 e3
     have e3 : (l ++ p.s.data.toList).length = l.length + p.s.size := by rw [List.length_append, Array.length_toList]; rfl
     exact ⟨by omega, by rw [e3]; by_cases h : l.length + p.s.size ≤ 400 <;> simp [h]⟩
    ·
     injection this with e1 e2
     injection e2 with e2 e3
     subst e1 e2 e3
     refine ⟨?_, .inr (by simp)⟩
     rw [List.length_append, List.length_singleton]
     unfold endT
     split <;> simp
   obtain ⟨hP2a, hP2b⟩ := hP2
   have EX : Hid ((if (decide (n = 0) || !c || !ok) = true then ([], j, 1) else tpF s G k P2 l2 (j + n)) = x) := by
    show _ = _
    rw [← HP.out]
    conv => { rhs; unfold tpF }
    rw [if_pos hlt, ht, hpn]
    dsimp only
    rw [hc, h2]
   clear HP ht hpn hc h2 hlt
   go_wp2_with fail
   refine (N1.out _).mono ?_
   rintro e w2 ⟨rfl, k1⟩
   have D2 := hid (D1.out.kp k1)
   have L2 := hid (L1.out.trans (Below.mono k1 (Nat.le_of_lt Z1.out)))
   have Z2 := hid (Nat.lt_of_lt_of_le Z1.out k1.size)
   clear k1 D1 L1 Z1 N1
   go_upto_region 5 with fail
   obtain ⟨B, hB⟩ : ∃ B, w2.heap.size = B := ⟨_, rfl⟩
   have hRB : R < B := by have := Z2.out; omega
   try rw [hB]
   refine opq (fun V3 => V3.heap[B]? = some p.o ∧ Dr R R P l V3 ∧ Below R w V3 ∧ R < V3.heap.size) ⟨by subst hB; (first | exact last_at _ _ _ (by simp) | (refine bl_alloc ?_ _; first | exact last_at _ _ _ (by simp) | (refine bl_alloc ?_ _; first | exact last_at _ _ _ (by simp) | (refine bl_alloc ?_ _; exact last_at _ _ _ (by simp))))), by exact D2.out.kp kpt, by exact L2.out.trans (Below.mono (w := w2) kpt (by omega)), by exact Nat.lt_of_lt_of_le Z2.out (Kp.size (a := w2) kpt)⟩ ?_
   rintro V3 ⟨xA3, xD3, xL3, xZ3⟩
   have A3 := hidT xA3
   have D3 := hidT xD3
   have L3 := hidT xL3
   have Z3 := hidT xZ3
   clear xA3 xD3 xL3 xZ3
   clear hB D2 L2 Z2
   have a0 := bl_cell A3.out 0 _ rfl
   have a1 := bl_cell A3.out 1 _ rfl
   by_cases hn : n = 0
   ·
    subst hn
    obtain rfl : (([], j, 1) : List Pc × Nat × Nat) = x := EX.out
    go_wp2_with fail
    refine bodyPost_ret (results_tmp3 rfl _ _ _) rfl ⟨none, 0, 0, rfl, PcIs.nil _ _, ?_⟩
    rw [← HR.out] at L3
    exact L3.out
   ·
    have gn : ((n : Int) == 0) = false := by simp; omega
    have EX1 : Hid ((if (!c || !ok) = true then ([], j, 1) else tpF s G k P2 l2 (j + n)) = x) := by have := EX.out; rw [decide_eq_false hn, Bool.false_or] at this; exact this
    clear EX
    go_wp2_with fail
    refine (N2.out _).mono ?_
    rintro e w4 ⟨rfl, k1⟩
    have D4 := hid (D3.out.kp k1)
    have L4 := hid (L3.out.trans (Below.mono k1 (Nat.le_of_lt Z3.out)))
    have Z4 := hid (Nat.lt_of_lt_of_le Z3.out k1.size)
    have A4 := hid (bl_kp A3.out k1)
    clear k1 D3 L3 Z3 A3 N2 a0 a1
    cases c with
    | false =>
     obtain rfl : (([], j, 1) : List Pc × Nat × Nat) = x := EX1.out
     go_wp2_with fail
     refine bodyPost_ret (results_tmp3 rfl _ _ _) rfl ⟨none, 0, 0, rfl, PcIs.nil _ _, ?_⟩
     rw [← HR.out] at L4
     exact L4.out
    | true =>
     have EX2 : Hid ((if (!ok) = true then ([], j, 1) else tpF s G k P2 l2 (j + n)) = x) := EX1.out
     clear EX1
     have a0 := bl_cell A4.out 0 _ rfl
     have a1 := bl_cell A4.out 1 _ rfl
     go_wp2_with fail
     refine (N3.out _ D4.out (Nat.le_of_lt Z4.out)).mono ?_
     rintro e w5 ⟨rfl, d5, l5⟩
     have D5 := hid d5
     have L5 := hid (L4.out.trans l5)
     have Z5 := hid (Nat.lt_of_lt_of_le Z4.out l5.size)
     clear d5 l5 D4 L4 Z4 A4 N3 a0 a1
     cases ok with
     | false =>
      obtain rfl : (([], j, 1) : List Pc × Nat × Nat) = x := EX2.out
      go_wp2_with fail
      refine bodyPost_ret (results_tmp3 rfl _ _ _) rfl ⟨none, 0, 0, rfl, PcIs.nil _ _, ?_⟩
      rw [← HR.out] at L5
      exact L5.out
     | true =>
      have EX3 : Hid (tpF s G k P2 l2 (j + n) = x) := EX2.out
      have gi : IntKind.i64.wrap ((j : Int) + (n : Int)) = (j : Int) + (n : Int) := by rw [IntKind.wrap_i64]; omega
      clear EX2
      go_wp2_with fail
      go_roundg k
      case measure => omega
      case rel => exact ⟨P2, l2, j + n, by go_num, by omega, by omega, by simpa using hP2b, by omega, EX3.out, D5.out, L5.out, Z5.out⟩
  ·
   have ga : ¬ (j : Int) < (s.size : Int) := by omega
   have EX : Hid ((endT P l, 0, 0) = x) := by
    show _ = _
    rw [← HP.out]
    obtain ⟨k, rfl⟩ : ∃ k, gk = k + 1 := ⟨gk - 1, by omega⟩
    unfold tpF
    rw [if_neg hlt]
   obtain rfl := EX.out
   clear EX HP hlt
   go_wp2_with fail
   refine (endText_any D1.out (Nat.le_of_lt Z1.out) (by omega) (by omega)).mono ?_
   rintro e w5 ⟨rfl, d5, l5, _⟩
   have L5 := hid (L1.out.trans l5)
   obtain ⟨v1, v2, hb, ho1, _⟩ := d5.ex
   obtain ⟨a1, c1', rfl⟩ := own_form ho1
   have d0 := bl_cell hb 0 _ rfl
   have OW := hid ho1
   clear d5 l5 hb ho1
   go_wp2_with fail
   refine bodyPost_ret (results_tmp3 rfl _ _ _) rfl ⟨a1, _, c1', rfl, ?_, ?_⟩
   ·
    rw [HR.out]
    exact own_pcs OW.out
   ·
    rw [← HR.out] at L5
    exact L5.out
end Go.Proofs.YtigdmebijbaofaaGreatDoor
