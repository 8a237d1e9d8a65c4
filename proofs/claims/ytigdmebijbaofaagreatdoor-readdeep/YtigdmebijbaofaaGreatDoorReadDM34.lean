/-
  Texts of this claim: ReF, ReG, ReH, ReI, ReJ.
-/
import Derived.Test.YtigdmebijbaofaaGreatDoorReadDM4
import Derived.Test.YtigdmebijbaofaaGreatDoorReadDM33
import Derived.Test.YtigdmebijbaofaaGreatDoorReadDM28
import Derived.Test.YtigdmebijbaofaaGreatDoorReadDM25
/-! ### ReF -/
namespace Go.Proofs.YtigdmebijbaofaaGreatDoor
set_option maxHeartbeats 2000000
set_option maxRecDepth 100000
open Go.RowKit
theorem CmIs.turn {ok ok' : Nat → Prop} {w w' : World} {c : Cv} {m : Cm} (h : CmIs ok w c m) (hs : w.heap.size ≤ w'.heap.size) (hk : ∀ b, ok b → b < w.heap.size → ok' b ∧ w'.heap[b]? = w.heap[b]?) : CmIs ok' w' c m := by
 obtain ⟨a, b, r, ad, l, k, e, ha, hb, hr, hp⟩ := h.ex
 refine ⟨a, b, r, ad, l, k, e, ⟨ha.k, ha.ln, Is.turn hs hk _ _ ha.is⟩, ⟨hb.k, hb.ln, Is.turn hs hk _ _ hb.is⟩, Is.turn hs hk _ _ hr, ?_⟩
 have hp2 := hp.turn hs (fun q hq hl => (hk q hq hl).2)
 refine ⟨hp2.is, fun hne x hx => ?_⟩
 have h1 := hp.ok hne x hx
 obtain ⟨bb, o, e1, e2, _⟩ := hp.is.at' hne
 rw [hx] at e1
 injection e1 with e1
 subst e1
 exact (hk _ h1 e2).1
theorem info37 : ∃ i, Tryz.prog.info? 37 = some i ∧ i.zero = some (.agg #[.int .i64 0, .int .i64 0, .int .i64 0, .int .i64 0, .int .i64 0, .int .i64 0, .int .u64 0, .int .u64 0, .int .u64 0, .int .u64 0, .slice none 0 0, .int .i64 0, .int .i64 0, .int .i64 0, .int .i64 0, .int .i64 0, .int .i64 0, .int .u64 0, .int .u64 0, .int .u64 0, .int .u64 0, .slice none 0 0, .bool false, .int .u8 0, .string ⟨#[]⟩, .int .i64 0, .int .i64 0, .int .i64 0, .int .i64 0, .int .u64 0, .int .u64 0, .int .u64 0, .int .u64 0, .slice none 0 0, .slice none 0 0, .bool false, .bool false, .int .i64 0, .string ⟨#[]⟩, .string ⟨#[]⟩]) ∧ i.size = 40 ∧ i.bytes = 392 := by
 have h : (Tryz.prog.info? 37).map (fun i => (i.zero, i.size, i.bytes)) = some (some (.agg #[.int .i64 0, .int .i64 0, .int .i64 0, .int .i64 0, .int .i64 0, .int .i64 0, .int .u64 0, .int .u64 0, .int .u64 0, .int .u64 0, .slice none 0 0, .int .i64 0, .int .i64 0, .int .i64 0, .int .i64 0, .int .i64 0, .int .i64 0, .int .u64 0, .int .u64 0, .int .u64 0, .int .u64 0, .slice none 0 0, .bool false, .int .u8 0, .string ⟨#[]⟩, .int .i64 0, .int .i64 0, .int .i64 0, .int .i64 0, .int .u64 0, .int .u64 0, .int .u64 0, .int .u64 0, .slice none 0 0, .slice none 0 0, .bool false, .bool false, .int .i64 0, .string ⟨#[]⟩, .string ⟨#[]⟩]), 40, 392) := by kernel_rfl
 cases hi : Tryz.prog.info? 37 with
 | none => rw [hi] at h; cases h
 | some i =>
  rw [hi] at h
  injection h with h
  injection h with h1 h
  injection h with h2 h3
  exact ⟨i, rfl, h1, h2, h3⟩
def cmC (cs : List Cv) : List Value := cs.flatMap fun c => c.cs.toList
structure CmRow (base : Nat) (w : World) (v : Value) (ms : List Cm) : Prop where
 ex : ∃ cs : List Cv, cs.length = ms.length ∧ w.ownsRow base 37 40 v ms.length (cmC cs) ∧ ∀ (j : Nat) m c, ms[j]? = some m → cs[j]? = some c → CmIs (fun b => base ≤ b ∧ v.ownBlock ≠ some b) w c m
theorem CmRow.nil (base : Nat) (w : World) : CmRow base w (.slice none 0 0) [] := ⟨[], rfl, World.ownsRow_nil w base 37 40, fun j m c h => by simp at h⟩
theorem CmRow.turn {base : Nat} {w w' : World} {v : Value} {ms : List Cm} {row : Option Nat} (h : CmRow base w v ms) (g : w.grownBy w' row) (hr : ∀ k, row = some k → k < base) : CmRow base w' v ms := by
 obtain ⟨cs, h1, h2, h3⟩ := h.ex
 refine ⟨cs, h1, h2.kept g ?_, fun j m c hj hc => (h3 j m c hj hc).turn g.size (fun b hb hl => ⟨hb, g.block b hl (fun e => by have := hr b e.symm; omega)⟩)⟩
 cases hv : v.ownBlock with
 | none => exact .inl rfl
 | some k => exact .inr (fun e => by have := hr k e.symm; have := (h2.lt k hv).1; omega)
theorem CmRow.kp {base : Nat} {w w' : World} {v : Value} {ms : List Cm} (h : CmRow base w v ms) (k : Kp w w') : CmRow base w' v ms := h.turn (k.grown none) (fun k h => by cases h)
theorem CmRow.ks {base P : Nat} {w w' : World} {v : Value} {ms : List Cm} (h : CmRow base w v ms) (k : Ks P w w') (hP : P < base) : CmRow base w' v ms := h.turn k.gwn (fun k h => by injection h with h; omega)
theorem CmRow.form {base : Nat} {w : World} {v : Value} {ms : List Cm} (h : CmRow base w v ms) : ∃ a c, v = .slice a ms.length c := by
 obtain ⟨cs, h1, h2, h3⟩ := h.ex
 exact own_form h2
theorem CmRow.own {base : Nat} {w : World} {v : Value} {ms : List Cm} (h : CmRow base w v ms) {k : Nat} (hk : v.ownBlock = some k) : base ≤ k ∧ k < w.heap.size := by
 obtain ⟨cs, h1, h2, h3⟩ := h.ex
 exact h2.lt k hk
theorem wpList_append_cm {ops : Array Oper} {rest : List Oper} {o : Oper} {a : Act} {Q : Exit → Act → World → Prop} (W : World) (hgd : o.guard = none) (s x : Operand)
  (ho : o.op = .call { callee := .builtin .append, args := #[s, x], argTypes := #[65, 65] })
  (base : Nat) (v : Value) (ms : List Cm) (m : Cm) (c : Cv) (B k : Nat) (hs : a.eval s = v) (hK : CmRow base W v ms) (hB : W.heap[B]? = some (Cv.o c)) (hm : CmIs (fun b => base ≤ b ∧ v.ownBlock ≠ some b) W c m)
  (hx : a.eval x = .slice (some ⟨B, 0, none⟩) 1 k) (h63 : ms.length ≤ 1000000) (hbase : base ≤ W.heap.size)
  (h : ∀ v' w', CmRow base w' v' (ms ++ [m]) → W.grownBy w' v.ownBlock → wpList Tryz.prog ops Q rest (a.put o.dst v') w') :
  wpList Tryz.prog ops Q (o :: rest) a W := by
 obtain ⟨i, hi, hz, hsz, hby⟩ := info37
 obtain ⟨cs, h1, h2, h3⟩ := hK.ex
 refine wpList_append_own_at W hgd s x 65 ho base 37 i (.agg #[.int .i64 0, .int .i64 0, .int .i64 0, .int .i64 0, .int .i64 0, .int .i64 0, .int .u64 0, .int .u64 0, .int .u64 0, .int .u64 0, .slice none 0 0, .int .i64 0, .int .i64 0, .int .i64 0, .int .i64 0, .int .i64 0, .int .i64 0, .int .u64 0, .int .u64 0, .int .u64 0, .int .u64 0, .slice none 0 0, .bool false, .int .u8 0, .string ⟨#[]⟩, .int .i64 0, .int .i64 0, .int .i64 0, .int .i64 0, .int .u64 0, .int .u64 0, .int .u64 0, .int .u64 0, .slice none 0 0, .slice none 0 0, .bool false, .bool false, .int .i64 0, .string ⟨#[]⟩, .string ⟨#[]⟩]) 40 392 Tryz.underlying65 hi hz hsz hby rfl (by omega) v ms.length (cmC cs) hs h2 ⟨B, 0, none⟩ 1 k c.cs.toList hx rfl ?_ ?_ (by unfold maxLen; omega) (by omega) hbase ?_
 ·
  intro j u hj
  rw [show (⟨B, 0, none⟩ : Addr).add j = ⟨B, j, none⟩ by simp [Addr.add]; exact Eq.symm]
  exact bl_cell hB j u (by rw [← Array.getElem?_toList]; exact hj)
 ·
  intro u hu
  have := one_cv c
  rw [← Array.all_toList, List.all_eq_true] at this
  exact this u hu
 ·
  intro v' w' a1 a2 _ a4
  refine h v' w' ⟨cs ++ [c], by simp [h1], ?_, ?_⟩ a2
  ·
   rw [List.length_append, List.length_singleton]
   have e : cmC (cs ++ [c]) = cmC cs ++ c.cs.toList := by simp [cmC]
   rw [e]
   exact a1
  ·
   have hok : ∀ b, (base ≤ b ∧ v.ownBlock ≠ some b) → b < W.heap.size → (base ≤ b ∧ v'.ownBlock ≠ some b) ∧ w'.heap[b]? = W.heap[b]? := by
    intro b hb hl
    refine ⟨⟨hb.1, ?_⟩, a2.block b hl (Ne.symm hb.2)⟩
    rcases a4 with a4 | a4
    ·
     rw [a4]; exact hb.2
    ·
     rw [a4]; intro he; injection he with he; omega
   intro j m' c' hj hc
   by_cases hlt : j < ms.length
   ·
    rw [List.getElem?_append_left hlt] at hj
    rw [List.getElem?_append_left (by omega)] at hc
    exact (h3 j m' c' hj hc).turn a2.size hok
   ·
    have hj0 : j - ms.length = 0 := by
     have := (List.getElem?_eq_some_iff.1 hj).1
     rw [List.length_append, List.length_singleton] at this
     omega
    rw [List.getElem?_append_right (by omega), hj0] at hj
    rw [List.getElem?_append_right (by omega), h1, hj0] at hc
    injection hj with hj
    injection hc with hc
    subst hj
    subst hc
    exact hm.turn a2.size hok
def scrF (s : ByteArray) (ere : Bool) : Nat → List Cm → Nat → Nat → List Cm × Nat × Nat
 | 0, _, _, i => ([], 1, i)
 | f + 1, ms, o, i =>
  if i = s.size then (if o = 0 then (ms, 0, i) else ([], 1, i))
  else if ms.length = 40 then ([], 4, i)
  else if (pCmd s ere o i).e = 0 then scrF s ere f (ms ++ [(pCmd s ere o i).m]) (pCmd s ere o i).o (skipN betweenL s (pCmd s ere o i).j)
  else ([], (pCmd s ere o i).e, (pCmd s ere o i).j)
def pScript (s : ByteArray) (ere : Bool) : List Cm × Nat × Nat := scrF s ere (s.size + 1) [] 0 (skipN betweenL s 0)
structure ScD (x : List Cm × Nat × Nat) (P : Nat) (s : ByteArray) (ere : Bool) (w : World) (e : Ending) (w' : World) : Prop where
 ex : ∃ a l k o, e = .returned (.tuple #[.slice a l k, .int .i64 ((x.2.1 : Nat) : Int)]) ∧ CmRow w.heap.size w' (.slice a l k) x.1 ∧ Rr w' P s ere x.2.2 o ∧ Ks P w w'
theorem script_any {w : World} {P : Nat} {s : ByteArray} {ere : Bool} (h : Rr w P s ere 0 0) (hs : s.size ≤ 100000) :
  Calls Tryz.prog 83 #[.pointer (some ⟨P, 0, none⟩)] w fun e w' => ScD (pScript s ere) P s ere w e w' := by
 have R := hid h
 have hP : P < w.heap.size := h.lt
 clear h
 obtain ⟨x, hx⟩ : ∃ x, pScript s ere = x := ⟨_, rfl⟩
 rw [hx]
 obtain ⟨j0, hj0⟩ : ∃ j0, skipN betweenL s 0 = j0 := ⟨_, rfl⟩
 have hjl0 := skipN_le betweenL s 0 (Nat.zero_le _)
 have HX : Hid (scrF s ere (s.size + 1) [] 0 j0 = x) := by show _ = _; rw [← hx, ← hj0]; rfl
 rw [hj0] at hjl0
 have S1 : Hid (∀ w, Rr w P s ere 0 0 → Calls Tryz.prog 120 #[.pointer (some ⟨P, 0, none⟩), .string ⟨#[32, 9, 10, 59]⟩] w fun e w' => e = .returned (.tuple #[]) ∧ Rr w' P s ere j0 0 ∧ Ks P w w') := fun w h => by rw [← hj0]; exact skip_any ⟨#[32, 9, 10, 59]⟩ h (Nat.zero_le _) (by omega)
 clear hx hj0
 go_enter Tryz.func83, Tryz.ntmps83
 go_wp2_with fail
 refine (S1.out _ R.out).mono ?_
 rintro e w0 ⟨rfl, r1, k1⟩
 have R0 := hid (r1)
 have K0 := hid (k1)
 clear r1 k1 R S1
 go_wp2_with fail
 go_loopg [4] (s.size + 1) (fun k v wr => ∃ (ms : List Cm) (o j : Nat), j ≤ s.size ∧ s.size < k + j ∧ ms.length ≤ 40 ∧ o ≤ 6 ∧ scrF s ere k ms o j = x ∧ CmRow w.heap.size wr v ms ∧ Rr wr P s ere j o ∧ Ks P w wr)
 case atStart => exact ⟨[], 0, j0, hjl0.2, by omega, by simp, by omega, HX.out, CmRow.nil _ _, R0.out, K0.out⟩
 case round =>
  obtain ⟨ms, o, j, hj, hk, hl, ho, hp, hM, hR, hK⟩ := hrel
  obtain ⟨k, rfl⟩ : ∃ k, gk = k + 1 := ⟨gk - 1, by omega⟩
  obtain ⟨va, vc, rfl⟩ := hM.form
  have R1 := hid hR
  have K1 := hid hK
  have M1 := hid hM
  have HP := hid hp
  clear hR hK hp R0 K0 HX hM
  go_wp2_with fail
  refine (over_any R1.out).mono ?_
  rintro e w2 ⟨rfl, k1⟩
  have R2 := hid (R1.out.kp k1)
  have K2 := hid (K1.out.kpt k1 hP)
  have M2 := hid (M1.out.kp k1)
  clear k1 R1 K1 M1
  by_cases he : j = s.size
  ·
   rw [decide_eq_true he]
   have EX : Hid ((if o = 0 then (ms, 0, j) else ([], 1, j)) = x) := by show _ = _; rw [← HP.out]; conv => { rhs; unfold scrF }; rw [if_pos he]
   have p3 := R2.out.cells.2.2.2
   clear HP he
   by_cases ho0 : o = 0
   ·
    subst ho0
    obtain rfl : (ms, 0, j) = x := EX.out
    have R3 : Hid (Rr w2 P s ere j 0) := R2.out
    clear EX R2
    go_wp2_with fail
    refine bodyPost_ret (results_tmp2 rfl _ _ _) rfl ⟨va, _, vc, 0, rfl, M2.out, R3.out, K2.out⟩
   ·
    have g0 : (o : Int) > 0 := by omega
    obtain rfl : ([], 1, j) = x := by have := EX.out; rw [if_neg ho0] at this; exact this
    have R3 : Hid (Rr w2 P s ere j o) := R2.out
    clear EX R2 ho0
    go_wp2_with fail
    refine bodyPost_ret (results_tmp2 rfl _ _ _) rfl ⟨none, 0, 0, o, rfl, CmRow.nil _ _, R3.out, K2.out⟩
  ·
   rw [decide_eq_false he]
   by_cases h40 : ms.length = 40
   ·
    have g40 : ((ms.length : Nat) : Int) = 40 := by omega
    obtain rfl : ([], 4, j) = x := by have := HP.out; unfold scrF at this; rw [if_neg he, if_pos h40] at this; exact this
    have R3 : Hid (Rr w2 P s ere j o) := R2.out
    clear HP he h40 R2 M2
    go_wp2_with fail
    refine bodyPost_ret (results_tmp2 rfl _ _ _) rfl ⟨none, 0, 0, o, rfl, CmRow.nil _ _, R3.out, K2.out⟩
   ·
    have g40 : (((ms.length : Nat) : Int) == 40) = false := by simp; omega
    have hl40 : ms.length < 40 := by omega
    obtain ⟨y, hy⟩ : ∃ y, pCmd s ere o j = y := ⟨_, rfl⟩
    have hyl := pCmd_le s ere o j hj ho
    have EX : Hid ((if y.e = 0 then scrF s ere k (ms ++ [y.m]) y.o (skipN betweenL s y.j) else ([], y.e, y.j)) = x) := by show _ = _; rw [← HP.out]; conv => { rhs; unfold scrF }; rw [if_neg he, if_neg h40, hy]
    have C1 := hid (fun w h => command_any (w := w) (P := P) (ere := ere) (o := o) (i := j) h hj ho hs)
    rw [hy] at C1 hyl
    obtain ⟨y1, y2, y3, y4⟩ := hyl
    clear HP hy he h40
    go_wp2_with fail
    refine (C1.out _ R2.out).mono ?_
    rintro e w3 ⟨⟨c, rfl, hm, r1, k1⟩⟩
    have R3 := hid r1
    have K3 := hid (K2.out.trans k1)
    have M3 := hid (M2.out.ks k1 hP)
    have HM := hid hm
    have hz2 := K2.out.size
    have HO := hid (fun (b : Nat) (hb : w2.heap.size ≤ b) => (show w.heap.size ≤ b ∧ (Value.slice va ms.length vc).ownBlock ≠ some b from ⟨Nat.le_trans hz2 hb, fun he => by have := (M2.out.own he).2; omega⟩))
    clear hm r1 k1 R2 K2 M2 C1 hz2
    obtain ⟨C, hC⟩ : ∃ C, w3.heap.size = C := ⟨_, rfl⟩
    have HCe := hid hC
    have hwC : w.heap.size ≤ C := by rw [← hC]; exact K3.out.size
    clear hC
    go_upto_region 8 with (refine wpList_store_cv rfl rfl rfl c rfl (last_of _ _) (by rfl) ?_; intro Wa x1 x2; have Waa := hid x1; have Wak := hid x2; clear x1 x2; simp only [Act.put])
    rw [HCe.out] at Waa Wak
    try rw [HCe.out]
    have KA : Hid (Ks C w3 Wa) := Ks.trans (Kp.ks ((Kp.refl _).alloc _) (by have := HCe.out; omega)) Wak.out
    have C4 : Hid (Wa.heap[C]? = some (Cv.o c)) := Waa.out
    have R4 := hid (R3.out.ks KA.out (by omega))
    have K4 := hid (K3.out.off KA.out hwC hP)
    by_cases hye : y.e = 0
    ·
     have gy : ((y.e : Nat) : Int) = 0 := by omega
     have EX2 : Hid (scrF s ere k (ms ++ [y.m]) y.o (skipN betweenL s y.j) = x) := by have := EX.out; rw [if_pos hye] at this; exact this
     have I3 := hid (HM.out hye)
     have M4 : Hid (CmRow w.heap.size Wa (.slice va ms.length vc) ms) := by
      obtain ⟨cs, q1, q2, q3⟩ := M3.out.ex
      have hne : ∀ b, b < w3.heap.size → Wa.heap[b]? = w3.heap[b]? := fun b hb => KA.out.block b hb (by have := HCe.out; omega)
      refine ⟨cs, q1, ?_, fun jj m' c' a1 a2 => (q3 jj m' c' a1 a2).turn KA.out.size (fun b hb hl => ⟨hb, hne b hl⟩)⟩
      refine q2.kept KA.out.gwn ?_
      cases hv : (Value.slice va ms.length vc).ownBlock with
      | none => exact .inl rfl
      | some kk => exact .inr (fun e => by injection e with e; have := (q2.lt kk hv).2; have := HCe.out; omega)
     have I4 : Hid (CmIs (fun b => w.heap.size ≤ b ∧ (Value.slice va ms.length vc).ownBlock ≠ some b) Wa c y.m) := I3.out.turn KA.out.size (fun b hb hl => ⟨HO.out b hb, KA.out.block b hl (by have := HCe.out; omega)⟩)
     have hWz := K4.out.size
     rw [gy]
     clear EX HM Waa Wak KA R3 K3 M3 HCe I3 gy HO
     have M5 := hid (M4.out.kp ((Kp.refl Wa).alloc (Cv.o c)))
     have I5 : Hid (CmIs (fun b => w.heap.size ≤ b ∧ (Value.slice va ms.length vc).ownBlock ≠ some b) (Wa.alloc (Cv.o c)) c y.m) := I4.out.turn ((Kp.refl Wa).alloc (Cv.o c)).size (fun b hb hl => ⟨hb, (((Kp.refl Wa).alloc (Cv.o c)).grown none).block b hl (by simp)⟩)
     have R5 := hid (R4.out.kp ((Kp.refl Wa).alloc (Cv.o c)))
     have K5 := hid (K4.out.kpt ((Kp.refl Wa).alloc (Cv.o c)) hP)
     have L5 : Hid ((Wa.alloc (Cv.o c)).heap[Wa.heap.size]? = some (Cv.o c)) := last_of _ _
     have Z5 : Hid (w.heap.size ≤ (Wa.alloc (Cv.o c)).heap.size) := K5.out.size
     clear M4 I4 R4 K4
     go_upto_region 10 with fail
     go_wp2_with (first | (refine wpList_load_cv rfl rfl c C4.out (by rfl) ?_; simp only [Act.put, List.setIfInBounds_toArray, List.set_cons_zero, List.set_cons_succ]) | (at_builtin; go_must (refine wpList_append_cm (Wa.alloc (Cv.o c)) (by rfl) _ _ (by rfl) w.heap.size (.slice va ms.length vc) ms y.m c Wa.heap.size 1 (by rfl) M5.out L5.out I5.out (by rfl) ?h1 ?h2 ?_)))
     case h1 => omega
     case h2 => exact Z5.out
     intro v' w7 hm7 hg7
     have hr7 : ∀ kk, (Value.slice va ms.length vc).ownBlock = some kk → w.heap.size ≤ kk ∧ kk ≤ (Wa.alloc (Cv.o c)).heap.size := fun kk hk => ⟨(M5.out.own hk).1, Nat.le_of_lt (M5.out.own hk).2⟩
     have M7 := hid hm7
     have R7 := hid (R5.out.grown hg7 (fun kk hk => ⟨by have := (hr7 kk hk).1; omega, (hr7 kk hk).2⟩))
     have K7 := hid (K5.out.grow hg7 hr7 (Nat.le_refl _) hP)
     clear hm7 hg7 hr7 M5 R5 K5 L5 Z5 I5 C4
     obtain ⟨j8, hj8⟩ : ∃ j8, skipN betweenL s y.j = j8 := ⟨_, rfl⟩
     have hjl8 := skipN_le betweenL s y.j y2
     have S8 : Hid (∀ w, Rr w P s ere y.j y.o → Calls Tryz.prog 120 #[.pointer (some ⟨P, 0, none⟩), .string ⟨#[32, 9, 10, 59]⟩] w fun e w' => e = .returned (.tuple #[]) ∧ Rr w' P s ere j8 y.o ∧ Ks P w w') := fun w h => by rw [← hj8]; exact skip_any ⟨#[32, 9, 10, 59]⟩ h y2 (by omega)
     rw [hj8] at EX2 hjl8
     clear hj8
     have hlt := y4 hye
     go_wp2_with fail
     refine (S8.out _ R7.out).mono ?_
     rintro e w8 ⟨rfl, r1, k1⟩
     have R8 := hid (r1)
     have K8 := hid (K7.out.trans k1)
     have M8 := hid (M7.out.ks k1 hP)
     clear r1 k1 R7 K7 M7 S8
     go_wp2_with fail
     go_roundg k
     case measure => omega
     case rel => exact ⟨ms ++ [y.m], y.o, j8, hjl8.2, by omega, by rw [List.length_append, List.length_singleton]; omega, y3, EX2.out, M8.out, R8.out, K8.out⟩
    ·
     have gy : (((y.e : Nat) : Int) != 0) = true := by simp; omega
     obtain rfl : ([], y.e, y.j) = x := by have := EX.out; rw [if_neg hye] at this; exact this
     have R5 : Hid (Rr Wa P s ere y.j y.o) := R4.out
     clear EX hye Waa Wak KA C4 R3 K3 M3 HCe HM HO R4
     go_wp2_with fail
     refine bodyPost_ret (results_tmp2 rfl _ _ _) rfl ⟨none, 0, 0, y.o, rfl, CmRow.nil _ _, R5.out, K4.out⟩
def pRead (s : ByteArray) (ere : Bool) : List Cm × Nat × Nat :=
 if 4000 < s.size then ([], 4000, 4)
 else if (pScript s ere).2.1 = 0 then ((pScript s ere).1, 0, 0)
 else ([], (pScript s ere).2.2, (pScript s ere).2.1)
structure PrD (x : List Cm × Nat × Nat) (w : World) (e : Ending) (w' : World) : Prop where
 ex : ∃ a l k, e = .returned (.tuple #[.slice a l k, .int .i64 ((x.2.1 : Nat) : Int), .int .i64 ((x.2.2 : Nat) : Int)]) ∧ CmRow w.heap.size w' (.slice a l k) x.1 ∧ Kp w w'
theorem read_any (s : ByteArray) (ere : Bool) (w : World) (h0 : ∃ m, w.cell? ⟨1, 0, none⟩ = some (.int .i64 m)) (hT : Tb w) :
  Calls Tryz.prog 38 #[.string s, .bool ere] w fun e w' => PrD (pRead s ere) w e w' := by
 have h1 : 1 < w.heap.size := by
  obtain ⟨m, hm⟩ := h0
  false_or_by_contra
  rename_i hn
  have : w.heap[1]? = none := Array.getElem?_eq_none_iff.2 (by omega)
  simp [World.cell?, this] at hm
 have H0 := hid h0
 have HT := hid hT
 obtain ⟨x, hx⟩ : ∃ x, pRead s ere = x := ⟨_, rfl⟩
 rw [hx]
 have HX := hid hx
 clear hx h0 hT
 go_enter Tryz.func38, Tryz.ntmps38
 by_cases h4 : 4000 < s.size
 ·
  have g4 : ((s.size : Nat) : Int) > 4000 := by omega
  obtain rfl : ([], 4000, 4) = x := by rw [← HX.out]; unfold pRead; rw [if_pos h4]
  clear HX h4
  go_wp2_with fail
  refine bodyPost_ret (results_tmp3 rfl _ _ _) rfl ⟨none, 0, 0, rfl, CmRow.nil _ _, Kp.refl _⟩
 ·
  have g4 : ¬ ((s.size : Nat) : Int) > 4000 := by omega
  have HX2 : Hid ((if (pScript s ere).2.1 = 0 then ((pScript s ere).1, 0, 0) else ([], (pScript s ere).2.2, (pScript s ere).2.1)) = x) := by show _ = _; rw [← HX.out]; unfold pRead; rw [if_neg h4]
  go_upto_region 4 with fail
  refine opq (fun W0 => Rr W0 w.heap.size s ere 0 0 ∧ Kp w W0) ⟨⟨by first | exact last_of _ _ | exact last_at _ _ _ (by simp), h1, by obtain ⟨m, hm⟩ := H0.out; exact ⟨m, (Kp.cell kpt h1).trans hm⟩, (Lib.tabBelow_of_tabIs HT.out).on kpt⟩, by repeat (first | exact Kp.refl _ | refine Kp.alloc ?_ _ | refine Kp.drew ?_ | refine Kp.drewN _ ?_)⟩ ?_
  rintro W0 ⟨xR, xK⟩
  have R0 := hid xR
  have K0 := hid xK
  obtain ⟨y, hy⟩ : ∃ y, pScript s ere = y := ⟨_, rfl⟩
  have C1 := hid (script_any xR (by omega))
  rw [hy] at C1 HX2
  clear xR xK hy HX H0 HT
  go_wp2_with fail
  refine C1.out.mono ?_
  rintro e w2 ⟨⟨a, l, k, o, rfl, m1, r1, k1⟩⟩
  have M1 := hid m1
  have R1 := hid r1
  have K1 := hid (k1.up K0.out (Nat.le_refl _))
  have hz0 := K0.out.size
  have p2 := R1.out.cells.2.2.1
  clear m1 r1 k1 C1 R0
  by_cases he : y.2.1 = 0
  ·
   have ge : ((y.2.1 : Nat) : Int) = 0 := by omega
   obtain rfl := (by have := HX2.out; rw [if_pos he] at this; exact this : (y.1, 0, 0) = x)
   rw [ge]
   clear HX2
   go_wp2_with fail
   refine bodyPost_ret (results_tmp3 rfl _ _ _) rfl ⟨a, l, k, rfl, ?_, K1.out⟩
   obtain ⟨cs, q1, q2, q3⟩ := M1.out.ex
   exact ⟨cs, q1, ⟨q2.1, q2.2.imp id (fun ⟨g, cap, cur, h1, h2, h⟩ => ⟨g, cap, cur, h1, Nat.le_trans hz0 h2, h⟩)⟩, fun j m c e1 e2 => (q3 j m c e1 e2).turn (Nat.le_refl _) (fun b hb _ => ⟨⟨Nat.le_trans hz0 hb.1, hb.2⟩, rfl⟩)⟩
  ·
   have ge : (((y.2.1 : Nat) : Int) != 0) = true := by simp; omega
   obtain rfl := (by have := HX2.out; rw [if_neg he] at this; exact this : ([], y.2.2, y.2.1) = x)
   clear HX2 he M1
   go_upto_region 6 with fail
   go_quiet (fail)
   go_wp2_with fail
   refine bodyPost_ret (results_tmp3 rfl _ _ _) rfl ⟨none, 0, 0, rfl, CmRow.nil _ _, Kp.drewN _ K1.out⟩
structure Cq where
 c : Cv
 A : Rx
 B : Rx
 R : Rx
 P : List Pc
def Cq.ok (q : Cq) : Prop := COk q.c q.A q.B q.R q.P
def Cq.is (q : Cq) (w : World) : Prop := CIs w q.c q.A q.B q.R q.P
def Cq.right (q : Cq) (ere : Bool) : Bool := rightC q.c q.A q.B q.R q.P ere
def Cq.t (q : Cq) (ere : Bool) : List UInt8 := cmdT q.c q.A q.B q.R q.P ere
structure CqAt (w : World) (ad : Option Addr) (l cp : Nat) (qs : List Cq) : Prop where
 ln : l = qs.length
 cp : l ≤ cp
 get : ∀ (j : Nat) (q : Cq), qs[j]? = some q → ∃ b o, ad = some ⟨b, o, none⟩ ∧ b < w.heap.size ∧ (∀ (i : Nat) v, q.c.cs.toList[i]? = some v → w.cell? ⟨b, o + j * 40 + i, none⟩ = some v) ∧ q.is w
theorem CqAt.kp {w w' : World} {ad : Option Addr} {l cp : Nat} {qs : List Cq} (h : CqAt w ad l cp qs) (k : Kp w w') : CqAt w' ad l cp qs :=
 ⟨h.ln, h.cp, fun j q hq => by
  obtain ⟨b, o, h1, h2, h3, h4⟩ := h.get j q hq
  exact ⟨b, o, h1, Nat.lt_of_lt_of_le h2 k.size, fun i v hv => (k.cell (p := ⟨b, o + j * 40 + i, none⟩) h2).trans (h3 i v hv), h4.kp k⟩⟩
theorem wpList_load_cq {ops : Array Oper} {rest : List Oper} {op : Oper} {a : Act} {W : World} {Q : Exit → Act → World → Prop} {x : Operand} (ho : op.op = .load 37 x) {B O : Nat} (hx : a.eval x = .pointer (some ⟨B, O, none⟩)) (c : Cv) (h : ∀ (i : Nat) v, c.cs.toList[i]? = some v → W.cell? ⟨B, O + i, none⟩ = some v)
  (hw : Region.wanted op (yielded ops a.tmps) = true) (hk : wpList Tryz.prog ops Q rest (a.put op.dst c.v) W) : wpList Tryz.prog ops Q (op :: rest) a W :=
 wpList_step fun K hK => by
  rw [if_pos hw]
  exact wp_load_mid 37 x ho B O hx c.cs.toList _ h Tryz.underlying37 rfl (by kernel_rfl) (hK _ _ hk)
def rgL (ere : Bool) : List Cq → Nat → Bool
 | [], o => decide (o = 0)
 | q :: r, o => decide ((nestN o q.c.op).2 = 0) && q.right ere && rgL ere r (nestN o q.c.op).1
def rightL (ere : Bool) (qs : List Cq) : Bool := decide (qs.length ≤ 40) && rgL ere qs 0
theorem nestN_le1 (o op : Nat) : (nestN o op).1 ≤ o + 1 := by
 unfold nestN
 split
 ·
  split <;> simp
 ·
  split
  ·
   split <;> simp
   omega
  ·
   simp
theorem rgL_at (ere : Bool) (qs : List Cq) (j o : Nat) (q : Cq) (h : qs[j]? = some q) : rgL ere (qs.drop j) o = (decide ((nestN o q.c.op).2 = 0) && q.right ere && rgL ere (qs.drop (j + 1)) (nestN o q.c.op).1) := by
 obtain ⟨hlt, rfl⟩ := List.getElem?_eq_some_iff.1 h
 rw [List.drop_eq_getElem_cons hlt]
 rfl
theorem rightL_any (ere : Bool) (qs : List Cq) (w : World) {ad : Option Addr} {l cp : Nat} (h : CqAt w ad l cp qs) (hO : ∀ q ∈ qs, q.ok) :
  Calls Tryz.prog 41 #[.slice ad l cp, .bool ere] w fun e w' => e = .returned (.bool (rightL ere qs)) ∧ Kp w w' := by
 obtain ⟨E, hE⟩ : ∃ E, rightL ere qs = E := ⟨_, rfl⟩
 rw [hE]
 have HE := hid hE
 have hl := h.ln
 have hcp := h.cp
 obtain ⟨L, hL⟩ : ∃ L, qs.length = L := ⟨_, rfl⟩
 have HL := hid hL
 rw [hL] at hl
 subst hl
 have H := hid h
 have HO := hid hO
 clear h hO hE hL
 go_enter Tryz.func41, Tryz.ntmps41
 by_cases h40 : l > 40
 ·
  have g40 : ((l : Nat) : Int) > 40 := by omega
  obtain rfl : false = E := by rw [← HE.out]; unfold rightL; rw [decide_eq_false (by rw [HL.out]; omega)]; rfl
  clear HE h40
  go_wp2_with fail
  go_ret
  exact ⟨rfl, Kp.refl _⟩
 ·
  have g40 : ¬ ((l : Nat) : Int) > 40 := by omega
  have HE2 : Hid (rgL ere (qs.drop 0) 0 = E) := by show _ = _; rw [← HE.out]; unfold rightL; rw [decide_eq_true (by rw [HL.out]; omega)]; simp
  clear HE
  go_wp2_with fail
  go_loopg [5, 14] l (fun gg vo v wr => ∃ (q o : Nat), q + gg = l ∧ v = .int .i64 (q : Int) ∧ vo = .int .i64 (o : Int) ∧ o ≤ q ∧ rgL ere (qs.drop q) o = E ∧ Kp w wr)
  case atStart => exact ⟨0, 0, by omega, rfl, rfl, by omega, HE2.out, Kp.refl _⟩
  case round =>
   obtain ⟨q, o, hq, rfl, rfl, ho, hp, hK⟩ := hrel
   have HP := hid hp
   have K := hid hK
   clear hp hK HE2
   by_cases hlt : q < l
   ·
    have gkw : IntKind.i64.wrap ((q : Int) + 1) = (q : Int) + 1 := by rw [IntKind.wrap_i64]; omega
    have ga : (q : Int) < (l : Int) := by omega
    have g0 : (0 : Int) ≤ (q : Int) := by omega
    obtain ⟨⟨c, A, B, R, P⟩, hp⟩ : ∃ p, qs[q]? = some p := ⟨_, List.getElem?_eq_getElem (by rw [HL.out]; exact hlt)⟩
    obtain ⟨bb, oo, e1, hbb, hc1, hc2⟩ := H.out.get q _ hp
    subst e1
    have C1 : Hid (∀ (i : Nat) v, c.cs.toList[i]? = some v → wr.cell? ⟨bb, oo + q * 40 + i, none⟩ = some v) := fun i v hv => (K.out.cell (p := ⟨bb, oo + q * 40 + i, none⟩) hbb).trans (hc1 i v hv)
    have C2 : Hid (CIs wr c A B R P) := CIs.kp hc2 K.out
    have HQ : Hid (COk c A B R P) := HO.out _ (List.mem_of_getElem? hp)
    have EX : Hid ((decide ((nestN o c.op).2 = 0) && rightC c A B R P ere && rgL ere (qs.drop (q + 1)) (nestN o c.op).1) = E) := by show _ = _; rw [← HP.out, rgL_at ere qs q o _ hp]; rfl
    clear hc1 hc2 HP hp hbb
    obtain ⟨C, hC⟩ : ∃ C, wr.heap.size = C := ⟨_, rfl⟩
    have HCe := hid hC
    clear hC
    go_upto_region 6 with fail
    go_upto_region 7 with (first | (refine wpList_load_cq rfl rfl c C1.out (by rfl) ?_; simp only [Act.put, List.setIfInBounds_toArray, List.set_cons_zero, List.set_cons_succ]) | (refine wpList_store_cv rfl rfl rfl c rfl (last_of _ _) (by rfl) ?_; intro Wa x1 x2; have Waa := hid x1; have Wak := hid x2; clear x1 x2; simp only [Act.put]))
    clear C1
    rw [HCe.out] at Waa Wak
    try rw [HCe.out]
    have KA : Hid (Kp wr Wa) := Wak.out.up ((Kp.refl wr).alloc _) (Nat.le_of_eq HCe.out)
    have K1 := hid (K.out.trans KA.out)
    have D2 := hid (CIs.kp C2.out KA.out)
    have A4 : Hid (Wa.heap[C]? = some (Cv.o c)) := Waa.out
    have c23 := bl_cell A4.out 23 _ rfl
    clear Waa Wak KA C2 K HCe
    obtain ⟨y, hy⟩ : ∃ y, nestN o c.op = y := ⟨_, rfl⟩
    have N1 := hid (fun w => nested_any o c.op (by omega) w)
    have hyl := nestN_le1 o c.op
    rw [hy] at N1 hyl EX
    clear hy
    go_wp2_with fail
    clear c23
    refine (N1.out _).mono ?_
    rintro e w2 ⟨rfl, rfl⟩
    obtain ⟨y1, y2⟩ := y
    dsimp only at EX hyl
    go_upto_region 8 with fail
    by_cases he : y2 = 0
    ·
     subst he
     obtain ⟨r, hr⟩ : ∃ r, rightC c A B R P ere = r := ⟨_, rfl⟩
     have R1 := hid (rightC_any c A B R P ere HQ.out _ D2.out)
     rw [hr] at R1 EX
     clear hr
     go_wp2_with (refine wpList_load_cv rfl rfl c A4.out (by rfl) ?_; simp only [Act.put, List.setIfInBounds_toArray, List.set_cons_zero, List.set_cons_succ])
     refine R1.out.mono ?_
     rintro e w3 ⟨rfl, k3⟩
     have K3 := hid (K1.out.trans k3)
     clear k3 K1 R1 D2 A4 HQ
     cases r with
     | false =>
      obtain rfl : false = E := by have := EX.out; simp at this; exact this.symm
      clear EX
      go_wp2_with fail
      go_ret
      exact ⟨rfl, K3.out⟩
     | true =>
      have EX2 : Hid (rgL ere (qs.drop (q + 1)) y1 = E) := by have := EX.out; simp at this; exact this
      clear EX
      go_wp2_with fail
      go_roundg (gk - 1)
      case measure => omega
      case rel => exact ⟨q + 1, y1, by omega, by go_num, rfl, by omega, EX2.out, K3.out⟩
    ·
     have gy : ((y2 : Int) != 0) = true := by simp; omega
     obtain rfl : false = E := by have := EX.out; rw [decide_eq_false he] at this; exact this
     clear EX he D2 A4 HQ N1
     go_wp2_with fail
     go_ret
     exact ⟨rfl, K1.out⟩
   ·
    have ga : ¬ (q : Int) < (l : Int) := by omega
    have hql : q = l := by omega
    have HE3 : Hid (decide (o = 0) = E) := by show _ = _; rw [← HP.out, List.drop_eq_nil_of_le (by rw [HL.out]; omega)]; rfl
    clear HP H HO
    by_cases ho0 : o = 0
    ·
     subst ho0
     obtain rfl : true = E := by rw [← HE3.out]; rfl
     clear HE3
     go_wp2_with fail
     go_ret
     exact ⟨rfl, K.out⟩
    ·
     have g0 : ((o : Int) == 0) = false := by simp; omega
     obtain rfl : false = E := by rw [← HE3.out, decide_eq_false ho0]
     clear HE3 ho0
     go_wp2_with fail
     go_ret
     exact ⟨rfl, K.out⟩
def cqsT (ere : Bool) (qs : List Cq) : List UInt8 := qs.flatMap fun q => q.t ere ++ [10]
def textL (ere : Bool) (qs : List Cq) : List UInt8 := if rightL ere qs then cqsT ere qs else []
theorem cqsT_more (ere : Bool) (qs : List Cq) (j : Nat) (q : Cq) (h : qs[j]? = some q) : Lib.byteCells (cqsT ere (qs.take (j + 1))) = Lib.byteCells (cqsT ere (qs.take j)) ++ Lib.strCells (bs (q.t ere)) ++ [.int .u8 10] := by
 rw [List.take_add_one, h]
 simp [cqsT, Lib.byteCells, Lib.strCells, bs]
theorem rightL_len (ere : Bool) (qs : List Cq) (h : rightL ere qs = true) : qs.length ≤ 40 := by
 unfold rightL at h
 simp at h
 exact h.1
theorem textL_any (ere : Bool) (qs : List Cq) (w : World) {ad : Option Addr} {l cp : Nat} (h : CqAt w ad l cp qs) (hO : ∀ q ∈ qs, q.ok) (hT : Tb w) (hN : ∀ q ∈ qs, (q.t ere).length ≤ 10000000) :
  Calls Tryz.prog 39 #[.slice ad l cp, .bool ere] w fun e w' => e = .returned (.string (bs (textL ere qs))) ∧ Kp w w' := by
 obtain ⟨E, hE⟩ : ∃ E, textL ere qs = E := ⟨_, rfl⟩
 rw [hE]
 have HE := hid hE
 obtain ⟨r, hr⟩ : ∃ r, rightL ere qs = r := ⟨_, rfl⟩
 have HR := hid hr
 have R1 := hid (rightL_any ere qs w h hO)
 rw [hr] at R1
 have hl := h.ln
 have hcp := h.cp
 obtain ⟨L, hL⟩ : ∃ L, qs.length = L := ⟨_, rfl⟩
 have HL := hid hL
 rw [hL] at hl
 subst hl
 have H := hid h
 have HO := hid hO
 have HN := hid hN
 have HT := hid hT
 clear h hO hE hL hr hT hN
 go_enter Tryz.func39, Tryz.ntmps39
 go_wp2_with fail
 refine R1.out.mono ?_
 rintro e w1 ⟨rfl, k1⟩
 have K1 := hid k1
 have H1 := hid (H.out.kp k1)
 have T1 := hid (HT.out.kp k1)
 clear k1 R1 H HT
 cases r with
 | false =>
  obtain rfl : [] = E := by rw [← HE.out]; unfold textL; rw [HR.out]; rfl
  clear HE
  go_wp2_with fail
  go_ret
  exact ⟨rfl, K1.out⟩
 | true =>
  have HS : Hid (cqsT ere qs = E) := by show _ = _; rw [← HE.out]; unfold textL; rw [HR.out]; rfl
  have hl40 : l ≤ 40 := by rw [← HL.out]; exact rightL_len ere qs HR.out
  clear HE HR
  go_upto_region 4 with fail
  refine opq (fun W => Bd (w1.heap.size + 1) w1.heap.size [] W ∧ Kp w1 W ∧ w1.heap.size + 1 ≤ W.heap.size) ⟨Bd.new _ w1.heap.size _ (last_of _ _) rfl _, (Kp.refl _).alloc _, by simp⟩ ?_
  rintro W0 ⟨y1, y2, y3⟩
  have BD := hid y1
  have K0 := hid y2
  have HZ := hid y3
  clear y1 y2 y3
  go_wp2_with fail
  go_loopg [14] l (fun gg v wr => ∃ (q : Nat) (Lv : List Value), q + gg = l ∧ v = .int .i64 (q : Int) ∧ Lv = Lib.byteCells (cqsT ere (qs.take q)) ∧ Lv.length ≤ 10000001 * q ∧ Bd (w1.heap.size + 1) w1.heap.size Lv wr ∧ Kb (w1.heap.size + 1) w1.heap.size W0 wr)
  case atStart => exact ⟨0, [], by omega, rfl, by simp [cqsT, Lib.byteCells], by simp, BD.out, Kb.refl _ _ _⟩
  case round =>
   obtain ⟨q, Lv, hq, rfl, hLv, hl, hB, hK⟩ := hrel
   have HLv := hid hLv
   have B0 := hid hB
   have K := hid hK
   have hzr : w1.heap.size + 1 ≤ wr.heap.size := by have := K.out.size; have := HZ.out; omega
   clear hLv hB hK BD
   by_cases hlt : q < l
   ·
    have gkw : IntKind.i64.wrap ((q : Int) + 1) = (q : Int) + 1 := by rw [IntKind.wrap_i64]; omega
    have ga : (q : Int) < (l : Int) := by omega
    have g0 : (0 : Int) ≤ (q : Int) := by omega
    have KW : Hid (Kp w1 wr) := Below.trans K0.out (K.out.below w1.heap.size (by omega) (by omega))
    obtain ⟨⟨c, A, B, R, P⟩, hp⟩ : ∃ p, qs[q]? = some p := ⟨_, List.getElem?_eq_getElem (by rw [HL.out]; exact hlt)⟩
    obtain ⟨bb, oo, e1, hbb, hc1, hc2⟩ := H1.out.get q _ hp
    subst e1
    have C1 : Hid (∀ (i : Nat) v, c.cs.toList[i]? = some v → wr.cell? ⟨bb, oo + q * 40 + i, none⟩ = some v) := fun i v hv => (KW.out.cell (p := ⟨bb, oo + q * 40 + i, none⟩) hbb).trans (hc1 i v hv)
    have C2 : Hid (CIs wr c A B R P) := CIs.kp hc2 KW.out
    have HQ : Hid (COk c A B R P) := HO.out _ (List.mem_of_getElem? hp)
    have hxl : (cmdT c A B R P ere).length ≤ 10000000 := HN.out _ (List.mem_of_getElem? hp)
    have ST : Hid (Lib.byteCells (cqsT ere (qs.take (q + 1))) = Lib.byteCells (cqsT ere (qs.take q)) ++ Lib.strCells (bs (cmdT c A B R P ere)) ++ [.int .u8 10]) := cqsT_more ere qs q _ hp
    have PR := hid (fun w h t => print2_any c A B R P ere HQ.out w h t)
    obtain ⟨X, hX⟩ : ∃ X, bs (cmdT c A B R P ere) = X := ⟨_, rfl⟩
    have hxs : X.size ≤ 10000000 := by rw [← hX, bs_size]; omega
    rw [hX] at ST PR
    clear hX hp hc1 hc2 hbb hxl HQ
    have hzr' := hid hzr
    clear hzr
    obtain ⟨C, hC⟩ : ∃ C, wr.heap.size = C := ⟨_, rfl⟩
    have HCe := hid hC
    clear hC
    go_upto_region 6 with fail
    go_upto_region 7 with (first | (refine wpList_load_cq rfl rfl c C1.out (by rfl) ?_; simp only [Act.put, List.setIfInBounds_toArray, List.set_cons_zero, List.set_cons_succ]) | (refine wpList_store_cv rfl rfl rfl c rfl (last_of _ _) (by rfl) ?_; intro Wa x1 x2; have Waa := hid x1; have Wak := hid x2; clear x1 x2; simp only [Act.put]))
    clear C1
    rw [HCe.out] at Waa Wak
    try rw [HCe.out]
    have KA : Hid (Kp wr Wa) := Wak.out.up ((Kp.refl wr).alloc _) (Nat.le_of_eq HCe.out)
    have A4 : Hid (Wa.heap[C]? = some (Cv.o c)) := Waa.out
    have D2 := hid (CIs.kp C2.out KA.out)
    have TA := hid (T1.out.kp (KW.out.trans KA.out))
    clear Waa Wak C2 HCe
    go_wp2_with (refine wpList_load_cv rfl rfl c A4.out (by rfl) ?_; simp only [Act.put, List.setIfInBounds_toArray, List.set_cons_zero, List.set_cons_succ])
    refine (PR.out _ D2.out TA.out).mono ?_
    rintro e W2 ⟨rfl, k2⟩
    have K2 := hid (KA.out.trans k2)
    have hz2 : Hid (w1.heap.size + 1 ≤ W2.heap.size) := by have := K2.out.size; have := hzr'.out; show _ ≤ _; omega
    clear k2 KA D2 TA A4 PR
    go_wp2_with fail
    refine (writeString_any (w1.heap.size + 1) w1.heap.size Lv X _ (B0.out.kp K2.out) (by omega) hz2.out (by omega)).mono ?_
    rintro e W3 ⟨rfl, b1, k1⟩
    have B3 := hid b1
    have K3 := hid (K.out.trans ((K2.out.kb hzr'.out).trans k1))
    have hz3 : Hid (w1.heap.size + 1 ≤ W3.heap.size) := by have := k1.size; have := hz2.out; show _ ≤ _; omega
    clear b1 k1 K2 hz2
    go_wp2_with fail
    refine (writeByte_any (w1.heap.size + 1) w1.heap.size _ 10 _ B3.out (by simp only [List.length_append, Lib.strCells_length]; omega) hz3.out (by omega)).mono ?_
    rintro e W4 ⟨rfl, b1, k1⟩
    have B4 := hid b1
    have K4 := hid (K3.out.trans k1)
    clear b1 k1 K3 hz3 B3
    go_wp2_with fail
    go_roundg (gk - 1)
    case measure => omega
    case rel => exact ⟨q + 1, Lv ++ Lib.strCells X ++ [.int .u8 10], by omega, by go_num, by rw [ST.out, ← HLv.out], by simp only [List.length_append, Lib.strCells_length, List.length_singleton]; omega, B4.out, K4.out⟩
   ·
    have ga : ¬ (q : Int) < (l : Int) := by omega
    have hLe : Lv = Lib.byteCells E := by rw [HLv.out, List.take_of_length_le (by rw [HL.out]; omega), HS.out]
    subst hLe
    go_wp2_with fail
    refine (builderString_any (w1.heap.size + 1) w1.heap.size E _ w1.heap.size B0.out (by omega) (by omega) (by omega)).mono ?_
    rintro e y ⟨rfl, k1⟩
    have KY : Hid (Kp w y) := K1.out.trans (Below.trans (Below.trans K0.out (K.out.below w1.heap.size (by omega) (by omega))) k1)
    clear k1
    go_wp2_with fail
    go_ret
    exact ⟨rfl, KY.out⟩
def cmdM (m : Cm) (ere : Bool) : List UInt8 := cmdT (cvM m) m.a.t m.b.t m.x.r m.x.p ere
theorem full_text {w w' : World} {ok ok' : Nat → Prop} {a b : Av} {A B : PA} (ha : AIs w ok a A) (hb : AIs w' ok' b B) (nt : Bool) (op : Nat) (x : Ak) (r : Rv) (ad : Option Addr) (l k : Nat) (ere : Bool) : cmdT (fullC a b nt op x r ad l k) A.t B.t x.r x.p ere = cmdM ⟨A, B, nt, op, x⟩ ere := by
 obtain ⟨k1, l1, r1⟩ := a
 obtain ⟨k2, l2, r2⟩ := b
 have h1 := ha.k
 have h2 := ha.ln
 have h3 := hb.k
 have h4 := hb.ln
 dsimp only at h1 h2 h3 h4
 subst h1 h2 h3 h4
 rfl
def cOkB (m : Cm) : Bool := rxOkB m.a.t && rxOkB m.b.t && rxOkB m.x.r && decide (m.x.p.length ≤ 1000000) && decide (m.op < 256) && decide (m.x.tx.size ≤ 1000000) && decide (m.x.y.size ≤ 1000000) && decide (m.x.z.size ≤ 1000000)
structure CqM (q : Cq) (m : Cm) : Prop where
 a : q.A = m.a.t
 b : q.B = m.b.t
 r : q.R = m.x.r
 p : q.P = m.x.p
 op : q.c.op = m.op
 nt : q.c.nt = m.nt
 ak : q.c.a.k = (m.a.k : Int)
 al : q.c.a.ln = (m.a.ln : Int)
 bk : q.c.b.k = (m.b.k : Int)
 bl : q.c.b.ln = (m.b.ln : Int)
 tx : q.c.tx = m.x.tx
 y : q.c.y = m.x.y
 z : q.c.z = m.x.z
 g : q.c.g = m.x.g
 s : q.c.s = m.x.h
 nth : q.c.nth = (m.x.n : Int)
 right : ∀ ere, q.right ere = rightM m ere
 t : ∀ ere, q.t ere = cmdM m ere
theorem CqM.ok {q : Cq} {m : Cm} (h : CqM q m) (hm : cOkB m = true) : q.ok := by
 unfold cOkB at hm
 simp only [Bool.and_eq_true, decide_eq_true_eq] at hm
 obtain ⟨⟨⟨⟨⟨⟨⟨h1, h2⟩, h3⟩, h4⟩, h5⟩, h6⟩, h7⟩, h8⟩ := hm
 exact ⟨by rw [h.a]; exact rxOk_of _ h1, by rw [h.b]; exact rxOk_of _ h2, by rw [h.r]; exact rxOk_of _ h3, by rw [h.p]; exact h4, by rw [h.op]; exact h5, by rw [h.tx]; exact h6, by rw [h.y]; exact h7, by rw [h.z]; exact h8⟩
theorem cmC_get : ∀ (cs : List Cv) (j i : Nat) (c : Cv) (v : Value), cs[j]? = some c → c.cs.toList[i]? = some v → (cmC cs)[j * 40 + i]? = some v
 | [], j, i, c, v, h, _ => by simp at h
 | d :: cs, 0, i, c, v, h, hv => by
  have e : d = c := by simpa using h
  subst e
  have e : cmC (d :: cs) = d.cs.toList ++ cmC cs := rfl
  have hl : i < d.cs.toList.length := (List.getElem?_eq_some_iff.1 hv).1
  rw [e, Nat.zero_mul, Nat.zero_add, List.getElem?_append_left hl]
  exact hv
 | d :: cs, j + 1, i, c, v, h, hv => by
  have e : cmC (d :: cs) = d.cs.toList ++ cmC cs := rfl
  have hl : d.cs.toList.length = 40 := rfl
  rw [e, List.getElem?_append_right (by rw [hl]; omega), hl, show (j + 1) * 40 + i - 40 = j * 40 + i by omega]
  exact cmC_get cs j i c v (by simpa using h) hv
theorem CmRow.at' {base : Nat} {w : World} {ad : Option Addr} {l cp : Nat} {ms : List Cm} (h : CmRow base w (.slice ad l cp) ms) :
  ∃ qs : List Cq, qs.length = ms.length ∧ CqAt w ad l cp qs ∧ ∀ (j : Nat) q m, qs[j]? = some q → ms[j]? = some m → CqM q m := by
 obtain ⟨cs, h1, h2, h3⟩ := h.ex
 refine ⟨List.zipWith (fun c m => (⟨c, m.a.t, m.b.t, m.x.r, m.x.p⟩ : Cq)) cs ms, by rw [List.length_zipWith, h1, Nat.min_self], ?_, ?_⟩
 ·
  have hz : l = (List.zipWith (fun c m => (⟨c, m.a.t, m.b.t, m.x.r, m.x.p⟩ : Cq)) cs ms).length := by
   rw [List.length_zipWith, h1, Nat.min_self]
   rcases h2.2 with ⟨e, h0⟩ | ⟨g, cap, cur, e, _⟩
   ·
    injection e with e1 e2 e3
    omega
   ·
    injection e with e1 e2 e3
  have hcp : l ≤ cp := by
   rcases h2.2 with ⟨e, h0⟩ | ⟨g, cap, cur, e, _, _, h5, _⟩
   ·
    injection e with e1 e2 e3
    omega
   ·
    injection e with e1 e2 e3
    omega
  refine ⟨hz, hcp, fun j q hq => ?_⟩
  rw [List.getElem?_zipWith] at hq
  cases hc : cs[j]? with
  | none => rw [hc] at hq; cases hq
  | some c =>
   cases hm : ms[j]? with
   | none => rw [hc, hm] at hq; cases hq
   | some m =>
    rw [hc, hm] at hq
    injection hq with hq
    subst hq
    have hjl := (List.getElem?_eq_some_iff.1 hm).1
    rcases h2.2 with ⟨e, h0⟩ | ⟨g, cap, cur, e, _, hg, h5, _, h6, h7⟩
    ·
     omega
    ·
     injection e with e1 e2 e3
     refine ⟨g, 0, e1, bl_lt hg, fun i v hv => ?_, ?_⟩
     ·
      have hi : i < 40 := (List.getElem?_eq_some_iff.1 hv).1
      have := cmC_get cs j i c v hc hv
      rw [← h7, List.getElem?_take_of_lt (by omega)] at this
      rw [Nat.zero_add]
      exact bl_cell hg _ v (by rw [← Array.getElem?_toList]; exact this)
     ·
      obtain ⟨a, b, r, ad', l', k, e, q1, q2, q3, q4⟩ := (h3 j m c hm hc).ex
      subst e
      exact full_cis q1 q2 q3 q4 _ _
 ·
  intro j q m hq hm
  rw [List.getElem?_zipWith, hm] at hq
  cases hc : cs[j]? with
  | none => rw [hc] at hq; cases hq
  | some c =>
   rw [hc] at hq
   injection hq with hq
   subst hq
   obtain ⟨a, b, r, ad', l', k, e, q1, q2, q3, q4⟩ := (h3 j m c hm hc).ex
   subst e
   exact ⟨rfl, rfl, rfl, rfl, rfl, rfl, q1.k, q1.ln, q2.k, q2.ln, rfl, rfl, rfl, rfl, rfl, rfl, fun ere => full_right q1 q2 _ _ _ _ _ _ _ ere, fun ere => full_text q1 q2 _ _ _ _ _ _ _ ere⟩
def rgM (ere : Bool) : List Cm → Nat → Bool
 | [], o => decide (o = 0)
 | m :: r, o => decide ((nestN o m.op).2 = 0) && rightM m ere && rgM ere r (nestN o m.op).1
def rightMs (ere : Bool) (ms : List Cm) : Bool := decide (ms.length ≤ 40) && rgM ere ms 0
def textMs (ere : Bool) (ms : List Cm) : List UInt8 := if rightMs ere ms then ms.flatMap fun m => cmdM m ere ++ [10] else []
theorem rgM_eq (ere : Bool) : ∀ (qs : List Cq) (ms : List Cm) (o : Nat), qs.length = ms.length → (∀ (j : Nat) q m, qs[j]? = some q → ms[j]? = some m → CqM q m) → rgL ere qs o = rgM ere ms o
 | [], [], o, _, _ => rfl
 | [], _ :: _, _, h, _ => by simp at h
 | _ :: _, [], _, h, _ => by simp at h
 | q :: qs, m :: ms, o, h, hh => by
  have h0 := hh 0 q m rfl rfl
  unfold rgL rgM
  rw [h0.right, h0.op, rgM_eq ere qs ms _ (by simpa using h) (fun j q m h1 h2 => hh (j + 1) q m h1 h2)]
theorem cqsT_eq (ere : Bool) : ∀ (qs : List Cq) (ms : List Cm), qs.length = ms.length → (∀ (j : Nat) q m, qs[j]? = some q → ms[j]? = some m → CqM q m) → cqsT ere qs = ms.flatMap fun m => cmdM m ere ++ [10]
 | [], [], _, _ => rfl
 | [], _ :: _, h, _ => by simp at h
 | _ :: _, [], h, _ => by simp at h
 | q :: qs, m :: ms, h, hh => by
  have h0 := hh 0 q m rfl rfl
  have ih := cqsT_eq ere qs ms (by simpa using h) (fun j q m h1 h2 => hh (j + 1) q m h1 h2)
  unfold cqsT at ih ⊢
  rw [List.flatMap_cons, List.flatMap_cons, ih, h0.t]
theorem rightMs_eq (ere : Bool) (qs : List Cq) (ms : List Cm) (h : qs.length = ms.length) (hh : ∀ (j : Nat) q m, qs[j]? = some q → ms[j]? = some m → CqM q m) : rightL ere qs = rightMs ere ms := by
 unfold rightL rightMs
 rw [h, rgM_eq ere qs ms 0 h hh]
theorem textMs_eq (ere : Bool) (qs : List Cq) (ms : List Cm) (h : qs.length = ms.length) (hh : ∀ (j : Nat) q m, qs[j]? = some q → ms[j]? = some m → CqM q m) : textL ere qs = textMs ere ms := by
 unfold textL textMs
 rw [rightMs_eq ere qs ms h hh, cqsT_eq ere qs ms h hh]
end Go.Proofs.YtigdmebijbaofaaGreatDoor
