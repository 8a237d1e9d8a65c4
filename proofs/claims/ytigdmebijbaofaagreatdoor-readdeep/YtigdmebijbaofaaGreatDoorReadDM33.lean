/-
  Texts of this claim: ReA, ReE.
-/
import Derived.Test.YtigdmebijbaofaaGreatDoorReadDM4
import Derived.Test.YtigdmebijbaofaaGreatDoorReadDM31
import Derived.Test.YtigdmebijbaofaaGreatDoorReadDM32
import Derived.Test.YtigdmebijbaofaaGreatDoorReadDM30
/-! ### ReA -/
namespace Go.Proofs.YtigdmebijbaofaaGreatDoor
set_option maxHeartbeats 2000000
set_option maxRecDepth 100000
open Go.RowKit
def pAsked (s : ByteArray) (ere : Bool) (op i : Nat) : Ak :=
 if op = 97 ∨ op = 105 ∨ op = 99 then { Ak.no (if (pLines s i).2.1 then 0 else 1) (pLines s i).2.2 with tx := (pLines s i).1 }
 else if op = 98 ∨ op = 116 ∨ op = 58 ∨ op = 119 then { Ak.no 0 (pLab s i).2 with tx := (pLab s i).1 }
 else if op = 115 then pSubst s ere i
 else if op = 121 then { Ak.no (if (pTab s i).2.2.1 then 0 else 1) (pTab s i).2.2.2 with y := (pTab s i).1, z := (pTab s i).2.1 }
 else Ak.no 0 i
theorem pAsked_le (s : ByteArray) (ere : Bool) (op i : Nat) (hi : i ≤ s.size) : i ≤ (pAsked s ere op i).j ∧ (pAsked s ere op i).j ≤ s.size ∧ (pAsked s ere op i).tx.size ≤ s.size + 1 ∧ RxOk (pAsked s ere op i).r ∧ (pAsked s ere op i).y.size ≤ s.size + 1 ∧ (pAsked s ere op i).z.size ≤ s.size + 1 := by
 unfold pAsked
 split
 ·
  have h := pLines_le s i hi
  exact ⟨h.1, h.2.1, h.2.2, zR_ok, Nat.zero_le _, Nat.zero_le _⟩
 ·
  split
  ·
   have h := pLab_le s i hi
   exact ⟨h.1, h.2.1, Nat.le_succ_of_le h.2.2, zR_ok, Nat.zero_le _, Nat.zero_le _⟩
  ·
   split
   ·
    have h := pSubst_le s ere i hi
    exact ⟨h.1, h.2.1, Nat.le_succ_of_le h.2.2.1, h.2.2.2⟩
   ·
    split
    ·
     have h := pTab_le s i hi
     exact ⟨h.1, h.2.1, Nat.zero_le _, zR_ok, h.2.2.1, h.2.2.2⟩
    ·
     exact ⟨Nat.le_refl _, hi, Nat.zero_le _, zR_ok, Nat.zero_le _, Nat.zero_le _⟩
theorem asked_r {w : World} {P C : Nat} {s : ByteArray} {ere : Bool} {i o : Nat} {a b : Av} {nt : Bool} {op : Nat} (h : Rr w P s ere i o) (hC : w.heap[C]? = some (Cv.o (bareC a b nt op))) (hPC : P < C) (hi : i ≤ s.size) (hs : s.size ≤ 100000) :
  Calls Tryz.prog 163 #[.pointer (some ⟨P, 0, none⟩), .pointer (some ⟨C, 0, none⟩)] w fun e w' => AkD (pAsked s ere op i) P C s ere o a b nt op w e w' := by
 have R := hid h
 have BC := hid hC
 have hP : P < w.heap.size := h.lt
 have hCw : C < w.heap.size := bl_lt hC
 clear h hC
 obtain ⟨x, hx⟩ : ∃ x, pAsked s ere op i = x := ⟨_, rfl⟩
 rw [hx]
 have HX := hid hx
 unfold pAsked at HX
 clear hx
 go_enter Tryz.func163, Tryz.ntmps163
 by_cases h97 : op = 97
 ·
  subst h97
  as_aux_lemma =>
  have q23 := bl_cell BC.out 23 (.int .u8 97) rfl
  obtain ⟨t, ok, j, hp⟩ : ∃ t ok j, pLines s i = (t, ok, j) := ⟨_, _, _, rfl⟩
  obtain rfl : ({ Ak.no (if ok then 0 else 1) j with tx := t } : Ak) = x := by have := HX.out; rw [hp] at this; exact this
  have E1 := hid (fun w h => linesr_any (w := w) (P := P) (ere := ere) (o := o) h hi (by omega))
  rw [hp] at E1
  clear hp HX
  go_wp2_with fail
  refine (E1.out _ R.out).mono ?_
  rintro e w1 ⟨rfl, r1, k1⟩
  have R1 := hid (r1)
  have B1 := hid (bl_ks BC.out (by omega) k1)
  have K1 := hid (k1.k2 C)
  clear r1 k1 R BC E1 q23
  go_upto_region 16 with (refine wpList_store_c_tx rfl rfl rfl t rfl B1.out ?_; intro Wa x1 x2; have Waa := hid x1; have Wak := hid x2; clear x1 x2; simp only [Act.put])
  have R2 := hid (R1.out.ks Wak.out hPC)
  have K2' := hid (K1.out.trans (Wak.out.k2c hPC))
  clear R1 K1 Wak B1
  cases ok with
  | false =>
   go_wp2_with fail
   refine bodyPost_ret (results_tmp rfl _ _ _) rfl ⟨⟨rfl, Rv.z, none, 0, 0, ⟨_, Waa.out, fun h => (by cases h)⟩, Is.leaf _ _ _ _ _ _ _, PcIs.nil _ _, R2.out, K2'.out⟩⟩
  | true =>
   go_wp2_with fail
   refine bodyPost_ret (results_tmp rfl _ _ _) rfl ⟨⟨rfl, Rv.z, none, 0, 0, ⟨_, Waa.out, fun _ => rfl⟩, Is.leaf _ _ _ _ _ _ _, PcIs.nil _ _, R2.out, K2'.out⟩⟩
 have g97 : ((op : Int) == 97) = false := by simp; omega
 by_cases h105 : op = 105
 ·
  subst h105
  as_aux_lemma =>
  have q23 := bl_cell BC.out 23 (.int .u8 105) rfl
  obtain ⟨t, ok, j, hp⟩ : ∃ t ok j, pLines s i = (t, ok, j) := ⟨_, _, _, rfl⟩
  obtain rfl : ({ Ak.no (if ok then 0 else 1) j with tx := t } : Ak) = x := by have := HX.out; rw [hp] at this; exact this
  have E1 := hid (fun w h => linesr_any (w := w) (P := P) (ere := ere) (o := o) h hi (by omega))
  rw [hp] at E1
  clear hp HX
  go_wp2_with fail
  refine (E1.out _ R.out).mono ?_
  rintro e w1 ⟨rfl, r1, k1⟩
  have R1 := hid (r1)
  have B1 := hid (bl_ks BC.out (by omega) k1)
  have K1 := hid (k1.k2 C)
  clear r1 k1 R BC E1 q23
  go_upto_region 16 with (refine wpList_store_c_tx rfl rfl rfl t rfl B1.out ?_; intro Wa x1 x2; have Waa := hid x1; have Wak := hid x2; clear x1 x2; simp only [Act.put])
  have R2 := hid (R1.out.ks Wak.out hPC)
  have K2' := hid (K1.out.trans (Wak.out.k2c hPC))
  clear R1 K1 Wak B1
  cases ok with
  | false =>
   go_wp2_with fail
   refine bodyPost_ret (results_tmp rfl _ _ _) rfl ⟨⟨rfl, Rv.z, none, 0, 0, ⟨_, Waa.out, fun h => (by cases h)⟩, Is.leaf _ _ _ _ _ _ _, PcIs.nil _ _, R2.out, K2'.out⟩⟩
  | true =>
   go_wp2_with fail
   refine bodyPost_ret (results_tmp rfl _ _ _) rfl ⟨⟨rfl, Rv.z, none, 0, 0, ⟨_, Waa.out, fun _ => rfl⟩, Is.leaf _ _ _ _ _ _ _, PcIs.nil _ _, R2.out, K2'.out⟩⟩
 have g105 : ((op : Int) == 105) = false := by simp; omega
 by_cases h99 : op = 99
 ·
  subst h99
  as_aux_lemma =>
  have q23 := bl_cell BC.out 23 (.int .u8 99) rfl
  obtain ⟨t, ok, j, hp⟩ : ∃ t ok j, pLines s i = (t, ok, j) := ⟨_, _, _, rfl⟩
  obtain rfl : ({ Ak.no (if ok then 0 else 1) j with tx := t } : Ak) = x := by have := HX.out; rw [hp] at this; exact this
  have E1 := hid (fun w h => linesr_any (w := w) (P := P) (ere := ere) (o := o) h hi (by omega))
  rw [hp] at E1
  clear hp HX
  go_wp2_with fail
  refine (E1.out _ R.out).mono ?_
  rintro e w1 ⟨rfl, r1, k1⟩
  have R1 := hid (r1)
  have B1 := hid (bl_ks BC.out (by omega) k1)
  have K1 := hid (k1.k2 C)
  clear r1 k1 R BC E1 q23
  go_upto_region 16 with (refine wpList_store_c_tx rfl rfl rfl t rfl B1.out ?_; intro Wa x1 x2; have Waa := hid x1; have Wak := hid x2; clear x1 x2; simp only [Act.put])
  have R2 := hid (R1.out.ks Wak.out hPC)
  have K2' := hid (K1.out.trans (Wak.out.k2c hPC))
  clear R1 K1 Wak B1
  cases ok with
  | false =>
   go_wp2_with fail
   refine bodyPost_ret (results_tmp rfl _ _ _) rfl ⟨⟨rfl, Rv.z, none, 0, 0, ⟨_, Waa.out, fun h => (by cases h)⟩, Is.leaf _ _ _ _ _ _ _, PcIs.nil _ _, R2.out, K2'.out⟩⟩
  | true =>
   go_wp2_with fail
   refine bodyPost_ret (results_tmp rfl _ _ _) rfl ⟨⟨rfl, Rv.z, none, 0, 0, ⟨_, Waa.out, fun _ => rfl⟩, Is.leaf _ _ _ _ _ _ _, PcIs.nil _ _, R2.out, K2'.out⟩⟩
 have g99 : ((op : Int) == 99) = false := by simp; omega
 by_cases h98 : op = 98
 ·
  subst h98
  as_aux_lemma =>
  have q23 := bl_cell BC.out 23 (.int .u8 98) rfl
  obtain ⟨t, j, hp⟩ : ∃ t j, pLab s i = (t, j) := ⟨_, _, rfl⟩
  obtain rfl : ({ Ak.no 0 j with tx := t } : Ak) = x := by have := HX.out; rw [hp] at this; exact this
  have E1 := hid (fun w h => labr_any (w := w) (P := P) (ere := ere) (o := o) h hi (by omega))
  rw [hp] at E1
  clear hp HX
  go_wp2_with fail
  refine (E1.out _ R.out).mono ?_
  rintro e w1 ⟨rfl, r1, k1⟩
  have R1 := hid (r1)
  have B1 := hid (bl_ks BC.out (by omega) k1)
  have K1 := hid (k1.k2 C)
  clear r1 k1 R BC E1 q23
  go_upto_region 16 with (refine wpList_store_c_tx rfl rfl rfl t rfl B1.out ?_; intro Wa x1 x2; have Waa := hid x1; have Wak := hid x2; clear x1 x2; simp only [Act.put])
  have R2 := hid (R1.out.ks Wak.out hPC)
  have K2' := hid (K1.out.trans (Wak.out.k2c hPC))
  clear R1 K1 Wak B1
  go_wp2_with fail
  refine bodyPost_ret (results_tmp rfl _ _ _) rfl ⟨⟨rfl, Rv.z, none, 0, 0, ⟨_, Waa.out, fun _ => rfl⟩, Is.leaf _ _ _ _ _ _ _, PcIs.nil _ _, R2.out, K2'.out⟩⟩
 have g98 : ((op : Int) == 98) = false := by simp; omega
 by_cases h116 : op = 116
 ·
  subst h116
  as_aux_lemma =>
  have q23 := bl_cell BC.out 23 (.int .u8 116) rfl
  obtain ⟨t, j, hp⟩ : ∃ t j, pLab s i = (t, j) := ⟨_, _, rfl⟩
  obtain rfl : ({ Ak.no 0 j with tx := t } : Ak) = x := by have := HX.out; rw [hp] at this; exact this
  have E1 := hid (fun w h => labr_any (w := w) (P := P) (ere := ere) (o := o) h hi (by omega))
  rw [hp] at E1
  clear hp HX
  go_wp2_with fail
  refine (E1.out _ R.out).mono ?_
  rintro e w1 ⟨rfl, r1, k1⟩
  have R1 := hid (r1)
  have B1 := hid (bl_ks BC.out (by omega) k1)
  have K1 := hid (k1.k2 C)
  clear r1 k1 R BC E1 q23
  go_upto_region 16 with (refine wpList_store_c_tx rfl rfl rfl t rfl B1.out ?_; intro Wa x1 x2; have Waa := hid x1; have Wak := hid x2; clear x1 x2; simp only [Act.put])
  have R2 := hid (R1.out.ks Wak.out hPC)
  have K2' := hid (K1.out.trans (Wak.out.k2c hPC))
  clear R1 K1 Wak B1
  go_wp2_with fail
  refine bodyPost_ret (results_tmp rfl _ _ _) rfl ⟨⟨rfl, Rv.z, none, 0, 0, ⟨_, Waa.out, fun _ => rfl⟩, Is.leaf _ _ _ _ _ _ _, PcIs.nil _ _, R2.out, K2'.out⟩⟩
 have g116 : ((op : Int) == 116) = false := by simp; omega
 by_cases h58 : op = 58
 ·
  subst h58
  as_aux_lemma =>
  have q23 := bl_cell BC.out 23 (.int .u8 58) rfl
  obtain ⟨t, j, hp⟩ : ∃ t j, pLab s i = (t, j) := ⟨_, _, rfl⟩
  obtain rfl : ({ Ak.no 0 j with tx := t } : Ak) = x := by have := HX.out; rw [hp] at this; exact this
  have E1 := hid (fun w h => labr_any (w := w) (P := P) (ere := ere) (o := o) h hi (by omega))
  rw [hp] at E1
  clear hp HX
  go_wp2_with fail
  refine (E1.out _ R.out).mono ?_
  rintro e w1 ⟨rfl, r1, k1⟩
  have R1 := hid (r1)
  have B1 := hid (bl_ks BC.out (by omega) k1)
  have K1 := hid (k1.k2 C)
  clear r1 k1 R BC E1 q23
  go_upto_region 16 with (refine wpList_store_c_tx rfl rfl rfl t rfl B1.out ?_; intro Wa x1 x2; have Waa := hid x1; have Wak := hid x2; clear x1 x2; simp only [Act.put])
  have R2 := hid (R1.out.ks Wak.out hPC)
  have K2' := hid (K1.out.trans (Wak.out.k2c hPC))
  clear R1 K1 Wak B1
  go_wp2_with fail
  refine bodyPost_ret (results_tmp rfl _ _ _) rfl ⟨⟨rfl, Rv.z, none, 0, 0, ⟨_, Waa.out, fun _ => rfl⟩, Is.leaf _ _ _ _ _ _ _, PcIs.nil _ _, R2.out, K2'.out⟩⟩
 have g58 : ((op : Int) == 58) = false := by simp; omega
 by_cases h119 : op = 119
 ·
  subst h119
  as_aux_lemma =>
  have q23 := bl_cell BC.out 23 (.int .u8 119) rfl
  obtain ⟨t, j, hp⟩ : ∃ t j, pLab s i = (t, j) := ⟨_, _, rfl⟩
  obtain rfl : ({ Ak.no 0 j with tx := t } : Ak) = x := by have := HX.out; rw [hp] at this; exact this
  have E1 := hid (fun w h => labr_any (w := w) (P := P) (ere := ere) (o := o) h hi (by omega))
  rw [hp] at E1
  clear hp HX
  go_wp2_with fail
  refine (E1.out _ R.out).mono ?_
  rintro e w1 ⟨rfl, r1, k1⟩
  have R1 := hid (r1)
  have B1 := hid (bl_ks BC.out (by omega) k1)
  have K1 := hid (k1.k2 C)
  clear r1 k1 R BC E1 q23
  go_upto_region 16 with (refine wpList_store_c_tx rfl rfl rfl t rfl B1.out ?_; intro Wa x1 x2; have Waa := hid x1; have Wak := hid x2; clear x1 x2; simp only [Act.put])
  have R2 := hid (R1.out.ks Wak.out hPC)
  have K2' := hid (K1.out.trans (Wak.out.k2c hPC))
  clear R1 K1 Wak B1
  go_wp2_with fail
  refine bodyPost_ret (results_tmp rfl _ _ _) rfl ⟨⟨rfl, Rv.z, none, 0, 0, ⟨_, Waa.out, fun _ => rfl⟩, Is.leaf _ _ _ _ _ _ _, PcIs.nil _ _, R2.out, K2'.out⟩⟩
 have g119 : ((op : Int) == 119) = false := by simp; omega
 by_cases h115 : op = 115
 ·
  subst h115
  as_aux_lemma =>
  have q23 := bl_cell BC.out 23 (.int .u8 115) rfl
  have EX : Hid (pSubst s ere i = x) := HX.out
  have E1 := hid (subst_any (a := a) (b := b) (nt := nt) (op := 115) R.out BC.out hPC hi hs)
  rw [EX.out] at E1
  clear HX EX
  go_wp2_with fail
  refine E1.out.mono ?_
  rintro e w1 ⟨⟨rfl, hh⟩⟩
  have HH := hid hh
  clear hh q23 E1
  go_wp2_with fail
  exact bodyPost_ret (results_tmp rfl _ _ _) rfl ⟨⟨rfl, HH.out⟩⟩
 have g115 : ((op : Int) == 115) = false := by simp; omega
 by_cases h121 : op = 121
 ·
  subst h121
  as_aux_lemma =>
  have q23 := bl_cell BC.out 23 (.int .u8 121) rfl
  obtain ⟨y, z, ok, j, hp⟩ : ∃ y z ok j, pTab s i = (y, z, ok, j) := ⟨_, _, _, _, rfl⟩
  obtain rfl : ({ Ak.no (if ok then 0 else 1) j with y := y, z := z } : Ak) = x := by have := HX.out; rw [hp] at this; exact this
  have E1 := hid (table_any2 R.out BC.out hPC hi (by omega))
  rw [hp] at E1
  clear hp HX
  go_wp2_with fail
  refine E1.out.mono ?_
  rintro e w1 ⟨rfl, hcw, r1, k1⟩
  obtain ⟨c1, hB1, hc1⟩ := hcw.ex
  have R1 := hid r1
  have B1 := hid hB1
  have HC1 := hid hc1
  have K1 := hid k1
  clear hcw hB1 hc1 r1 k1 R BC E1 q23
  cases ok with
  | false =>
   go_wp2_with fail
   refine bodyPost_ret (results_tmp rfl _ _ _) rfl ⟨⟨rfl, Rv.z, none, 0, 0, ⟨_, B1.out, fun h => (by cases h)⟩, Is.leaf _ _ _ _ _ _ _, PcIs.nil _ _, R1.out, K1.out⟩⟩
  | true =>
   obtain rfl := HC1.out rfl
   go_wp2_with fail
   refine bodyPost_ret (results_tmp rfl _ _ _) rfl ⟨⟨rfl, Rv.z, none, 0, 0, ⟨_, B1.out, fun _ => rfl⟩, Is.leaf _ _ _ _ _ _ _, PcIs.nil _ _, R1.out, K1.out⟩⟩
 have g121 : ((op : Int) == 121) = false := by simp; omega
 obtain rfl : Ak.no 0 i = x := by
  have := HX.out
  rw [if_neg (by simp [h97, h105, h99]), if_neg (by simp [h98, h116, h58, h119]), if_neg h115, if_neg h121] at this
  exact this
 have q23 := bl_cell BC.out 23 (.int .u8 (op : Int)) rfl
 clear HX h97 h105 h99 h98 h116 h58 h119 h115 h121
 go_wp2_with fail
 refine bodyPost_ret (results_tmp rfl _ _ _) rfl ⟨⟨rfl, Rv.z, none, 0, 0, ⟨_, BC.out, fun _ => rfl⟩, Is.leaf _ _ _ _ _ _ _, PcIs.nil _ _, R.out, K2.refl _ _ _⟩⟩
structure Cm where
 a : PA
 b : PA
 nt : Bool
 op : Nat
 x : Ak
def cvM (m : Cm) : Cv := ⟨⟨(m.a.k : Int), (m.a.ln : Int), Rv.z⟩, ⟨(m.b.k : Int), (m.b.ln : Int), Rv.z⟩, m.nt, m.op, m.x.tx, Rv.z, none, 0, 0, m.x.g, m.x.h, (m.x.n : Int), m.x.y, m.x.z⟩
def rightM (m : Cm) (ere : Bool) : Bool := rightC (cvM m) m.a.t m.b.t m.x.r m.x.p ere
structure CmIs (ok : Nat → Prop) (w : World) (c : Cv) (m : Cm) : Prop where
 ex : ∃ a b r ad l k, c = fullC a b m.nt m.op m.x r ad l k ∧ AIs w ok a m.a ∧ AIs w ok b m.b ∧ Is w ok m.x.r r.v ∧ PcIs ok w m.x.p ad l k
theorem full_right {w w' : World} {ok ok' : Nat → Prop} {a b : Av} {A B : PA} (ha : AIs w ok a A) (hb : AIs w' ok' b B) (nt : Bool) (op : Nat) (x : Ak) (r : Rv) (ad : Option Addr) (l k : Nat) (ere : Bool) : rightC (fullC a b nt op x r ad l k) A.t B.t x.r x.p ere = rightM ⟨A, B, nt, op, x⟩ ere := by
 obtain ⟨k1, l1, r1⟩ := a
 obtain ⟨k2, l2, r2⟩ := b
 have h1 := ha.k
 have h2 := ha.ln
 have h3 := hb.k
 have h4 := hb.ln
 dsimp only at h1 h2 h3 h4
 subst h1 h2 h3 h4
 rfl
theorem full_cis {w : World} {ok ok' ok2 ok3 : Nat → Prop} {a b : Av} {A B : PA} {x : Ak} {r : Rv} {ad : Option Addr} {l k : Nat} (ha : AIs w ok a A) (hb : AIs w ok' b B) (hr : Is w ok2 x.r r.v) (hp : PcIs ok3 w x.p ad l k) (nt : Bool) (op : Nat) : CIs w (fullC a b nt op x r ad l k) A.t B.t x.r x.p :=
 ⟨⟨ha.is.weak (fun _ _ _ => trivial)⟩, ⟨hb.is.weak (fun _ _ _ => trivial)⟩, ⟨hr.weak (fun _ _ _ => trivial)⟩, hp.is⟩
theorem tpF_len (s : ByteArray) (G : Int) : ∀ f P l i, (tpF s G f P l i).1.length ≤ P.length + 2 * f + 1
 | 0, P, l, i => by unfold tpF; simp
 | f + 1, P, l, i => by
  unfold tpF
  split
  ·
   split
   ·
    simp
   ·
    have h := tpF_len s G f (tAdd P l (qNext (s.extract i s.size)).1).1 (tAdd P l (qNext (s.extract i s.size)).1).2.1 (i + (qNext (s.extract i s.size)).2)
    have h2 : (tAdd P l (qNext (s.extract i s.size)).1).1.length ≤ P.length + 2 := by
     unfold tAdd
     split
     ·
      exact Nat.le_add_right _ _
     ·
      rw [List.length_append, List.length_singleton]
      unfold endT
      split <;> simp
    omega
  ·
   show (endT P l).length ≤ _
   unfold endT
   split
   ·
    omega
   ·
    rw [List.length_append, List.length_singleton]
    omega
theorem pRepl_len (s : ByteArray) (i : Nat) (G : Int) (hi : i ≤ s.size) (hs : s.size ≤ 100000) : (pRepl s i G).1.length ≤ 1000000 := by
 have h1 := partT_le slR s i hi
 have h2 := tpF_len (partT slR s i) G ((partT slR s i).size + 1) [] [] 0
 unfold pRepl
 split
 ·
  split
  ·
   show (pTpl (partT slR s i) G).1.length ≤ _
   unfold pTpl
   simp at h2
   omega
  ·
   simp
 ·
  simp
theorem pSubst_len (s : ByteArray) (ere : Bool) (i : Nat) (hs : s.size ≤ 100000) : (pSubst s ere i).p.length ≤ 1000000 := by
 unfold pSubst
 split
 ·
  rename_i h
  have h1 := pExpr_le s ere (i + 1) (tk_lt h)
  generalize pExpr s ere (i + 1) = x at *
  obtain ⟨T, m, j⟩ := x
  dsimp only at h1 ⊢
  split
  ·
   have h2 := pRepl_len s j (grp T) h1.2 hs
   generalize pRepl s j (grp T) = y at *
   obtain ⟨Q, q, j2⟩ := y
   dsimp only at h2 ⊢
   split
   ·
    exact h2
   ·
    exact Nat.zero_le _
  ·
   exact Nat.zero_le _
 ·
  exact Nat.zero_le _
theorem pAsked_len (s : ByteArray) (ere : Bool) (op i : Nat) (_ : i ≤ s.size) (hs : s.size ≤ 100000) : (pAsked s ere op i).p.length ≤ 1000000 := by
 have h := pSubst_len s ere i hs
 unfold pAsked
 generalize pSubst s ere i = y at *
 split
 ·
  exact Nat.zero_le _
 ·
  split
  ·
   exact Nat.zero_le _
  ·
   split
   ·
    exact h
   ·
    split
    ·
     exact Nat.zero_le _
    ·
     exact Nat.zero_le _
structure Cd where
 m : Cm
 e : Nat
 j : Nat
 o : Nat
def cmOf (h : Hd) (k : Ak) : Cm := ⟨h.a, h.b, h.nt, h.op, k⟩
def pCmd (s : ByteArray) (ere : Bool) (o i : Nat) : Cd :=
 if (pHead s ere i).e = 0 then
  if (pAsked s ere (pHead s ere i).op ((pHead s ere i).j + 1)).e = 0 then
   if (fitN (rightM (cmOf (pHead s ere i) (pAsked s ere (pHead s ere i).op ((pHead s ere i).j + 1))) ere) o (pHead s ere i).op).1 = 0 then
    ⟨cmOf (pHead s ere i) (pAsked s ere (pHead s ere i).op ((pHead s ere i).j + 1)), if (endN s (pHead s ere i).op (pAsked s ere (pHead s ere i).op ((pHead s ere i).j + 1)).j).1 then 0 else 1, (endN s (pHead s ere i).op (pAsked s ere (pHead s ere i).op ((pHead s ere i).j + 1)).j).2, (fitN (rightM (cmOf (pHead s ere i) (pAsked s ere (pHead s ere i).op ((pHead s ere i).j + 1))) ere) o (pHead s ere i).op).2⟩
   else ⟨cmOf (pHead s ere i) (Ak.no 0 0), (fitN (rightM (cmOf (pHead s ere i) (pAsked s ere (pHead s ere i).op ((pHead s ere i).j + 1))) ere) o (pHead s ere i).op).1, (pHead s ere i).j, (fitN (rightM (cmOf (pHead s ere i) (pAsked s ere (pHead s ere i).op ((pHead s ere i).j + 1))) ere) o (pHead s ere i).op).2⟩
  else ⟨cmOf (pHead s ere i) (Ak.no 0 0), (pAsked s ere (pHead s ere i).op ((pHead s ere i).j + 1)).e, (pAsked s ere (pHead s ere i).op ((pHead s ere i).j + 1)).j, o⟩
 else ⟨cmOf (pHead s ere i) (Ak.no 0 0), (pHead s ere i).e, (pHead s ere i).j, o⟩
theorem pCmd_le (s : ByteArray) (ere : Bool) (o i : Nat) (hi : i ≤ s.size) (ho : o ≤ 6) : i ≤ (pCmd s ere o i).j ∧ (pCmd s ere o i).j ≤ s.size ∧ (pCmd s ere o i).o ≤ 6 ∧ ((pCmd s ere o i).e = 0 → i < (pCmd s ere o i).j) := by
 have h1 := pHead_le s ere i hi
 unfold pCmd
 generalize pHead s ere i = h at *
 obtain ⟨A, B, nt, op, e, j⟩ := h
 dsimp only at h1 ⊢
 split
 ·
  rename_i he
  have hj := h1.2.2.1 he
  have h2 := pAsked_le s ere op (j + 1) hj
  generalize pAsked s ere op (j + 1) = k at *
  split
  ·
   have h3 := fitN_le (rightM (cmOf ⟨A, B, nt, op, e, j⟩ k) ere) o op ho
   generalize fitN (rightM (cmOf ⟨A, B, nt, op, e, j⟩ k) ere) o op = f at *
   split
   ·
    have h4 := endN_le s op k.j h2.2.1
    generalize endN s op k.j = en at *
    exact ⟨by show i ≤ en.2; omega, h4.2, h3, fun _ => by show i < en.2; omega⟩
   ·
    rename_i hf
    exact ⟨h1.1, h1.2.1, h3, fun h => absurd h hf⟩
  ·
   rename_i hk
   exact ⟨by show i ≤ k.j; omega, h2.2.1, ho, fun h => absurd h hk⟩
 ·
  rename_i he
  exact ⟨h1.1, h1.2.1, ho, fun h => absurd h he⟩
structure CdD (x : Cd) (P : Nat) (s : ByteArray) (ere : Bool) (w : World) (e : Ending) (w' : World) : Prop where
 ex : ∃ c : Cv, e = .returned (.tuple #[c.v, .int .i64 ((x.e : Nat) : Int)]) ∧ (x.e = 0 → CmIs (fun q => w.heap.size ≤ q) w' c x.m) ∧ Rr w' P s ere x.j x.o ∧ Ks P w w'
theorem command_any {w : World} {P : Nat} {s : ByteArray} {ere : Bool} {i o : Nat} (h : Rr w P s ere i o) (hi : i ≤ s.size) (ho : o ≤ 6) (hs : s.size ≤ 100000) :
  Calls Tryz.prog 122 #[.pointer (some ⟨P, 0, none⟩)] w fun e w' => CdD (pCmd s ere o i) P s ere w e w' := by
 have R := hid h
 have hP : P < w.heap.size := h.lt
 clear h
 obtain ⟨x, hx⟩ : ∃ x, pCmd s ere o i = x := ⟨_, rfl⟩
 rw [hx]
 have HX := hid hx
 unfold pCmd at HX
 clear hx
 obtain ⟨h, hh⟩ : ∃ h, pHead s ere i = h := ⟨_, rfl⟩
 have hpl := pHead_le s ere i hi
 have H1 := hid (fun w hr => head_any (w := w) (P := P) (ere := ere) (o := o) hr hi hs)
 rw [hh] at H1 HX hpl
 obtain ⟨A, B, nt, op, m, j⟩ := h
 dsimp only at H1 HX hpl
 clear hh
 obtain ⟨hj0, hjl, hjlt, hOA, hOB, hop⟩ := hpl
 go_enter Tryz.func122, Tryz.ntmps122
 go_upto_region 1 with fail
 refine opq (fun V0 => Rr V0 P s ere i o ∧ V0.heap[w.heap.size]? = some (Cv.o (bareC Av.z Av.z false 0)) ∧ Ks P w V0) ⟨by exact R.out.kp kpt, by exact last_of _ _, by exact (Kp.ks kpt (Nat.le_of_lt hP))⟩ ?_
 rintro V0 ⟨xR0, xB0, xK0⟩
 have R0 := hidT xR0
 have B0 := hidT xB0
 have K0 := hidT xK0
 clear xR0 xB0 xK0
 clear R
 go_wp2_with fail
 refine (H1.out _ R0.out).mono ?_
 rintro e w1 ⟨⟨a, b, rfl, ha, hb, r1, k1⟩⟩
 have R1 := hid r1
 have B1 := hid (bl_ks B0.out (by omega) k1)
 have hz1 := bl_lt B0.out
 have AA := hid (ha.weak (fun q hq hl => (show w.heap.size < q ∧ q < w1.heap.size from ⟨Nat.lt_of_lt_of_le hz1 hq, hl⟩)))
 have AB := hid (hb.weak (fun q hq hl => (show w.heap.size < q ∧ q < w1.heap.size from ⟨Nat.lt_of_lt_of_le hz1 hq, hl⟩)))
 have K1 := hid (K0.out.trans k1)
 have hBw := bl_lt B1.out
 clear r1 ha hb k1 R0 B0 K0 H1 hz1
 obtain ⟨C, hC⟩ : ∃ C, w1.heap.size = C := ⟨_, rfl⟩
 have HCe := hid hC
 rw [hC] at AA AB hBw
 clear hC
 have hPC : P < C := by omega
 go_upto_region 2 with (refine wpList_store_cv rfl rfl rfl (bareC a b nt op) rfl (last_of _ _) (by rfl) ?_; intro Wa x1 x2; have Waa := hid x1; have Wak := hid x2; clear x1 x2; simp only [Act.put])
 rw [HCe.out] at Waa Wak
 try rw [HCe.out]
 have KA : Hid (Ks C w1 Wa) := Ks.trans (Kp.ks ((Kp.refl _).alloc _) (by have := HCe.out; omega)) Wak.out
 have C2 : Hid (Wa.heap[C]? = some (Cv.o (bareC a b nt op))) := Waa.out
 have R2 := hid (R1.out.ks KA.out hPC)
 have B2 := hid (bl_ks B1.out (by omega) KA.out)
 have A2 := hid (AA.out.ks KA.out (fun q hq _ => by omega))
 have AB2 := hid (AB.out.ks KA.out (fun q hq _ => by omega))
 have K2' := hid (K1.out.off KA.out (by omega) hP)
 clear Waa Wak KA R1 B1 AA AB K1 HCe
 by_cases hm : m = 0
 ·
  subst hm
  have hjs := hjlt rfl
  have R3 : Hid (Rr Wa P s ere j o) := R2.out
  have p2 := R3.out.cells.2.2.1
  have fp2 := bl_frozen R3.out.b 2
  have gi : IntKind.i64.wrap ((j : Int) + 1) = (j : Int) + 1 := by rw [IntKind.wrap_i64]; omega
  go_upto_region 6 with fail
  refine opq (fun V4 => Rr V4 P s ere (j + 1) o ∧ V4.heap[w.heap.size]? = some (Cv.o (bareC Av.z Av.z false 0)) ∧ V4.heap[C]? = some (Cv.o (bareC a b nt op)) ∧ AIs V4 (fun q => w.heap.size < q ∧ q < C) a A ∧ AIs V4 (fun q => w.heap.size < q ∧ q < C) b B ∧ Ks P w V4) ⟨by exact R3.out.at (j + 1), by exact bl_set B2.out (by omega) _, by exact bl_set C2.out (by omega) _, by exact A2.out.ks ((Ks.refl P _).set 2 _) (fun q hq _ => by omega), by exact AB2.out.ks ((Ks.refl P _).set 2 _) (fun q hq _ => by omega), by exact K2'.out.set 2 _⟩ ?_
  rintro V4 ⟨xR4, xB4, xC4, xA4, xAB4, xK4⟩
  have R4 := hidT xR4
  have B4 := hidT xB4
  have C4 := hidT xC4
  have A4 := hidT xA4
  have AB4 := hidT xAB4
  have K4 := hidT xK4
  clear xR4 xB4 xC4 xA4 xAB4 xK4
  clear R2 R3 B2 C2 A2 AB2 K2' p2 fp2
  obtain ⟨k, hk⟩ : ∃ k, pAsked s ere op (j + 1) = k := ⟨_, rfl⟩
  have hkl := pAsked_le s ere op (j + 1) hjs
  have hkn := pAsked_len s ere op (j + 1) hjs hs
  have E4 := hid (asked_r (a := a) (b := b) (nt := nt) (op := op) R4.out C4.out hPC hjs hs)
  rw [hk] at E4 hkl hkn
  have HX1 : Hid ((if k.e = 0 then (if (fitN (rightM ⟨A, B, nt, op, k⟩ ere) o op).1 = 0 then ⟨⟨A, B, nt, op, k⟩, if (endN s op k.j).1 then 0 else 1, (endN s op k.j).2, (fitN (rightM ⟨A, B, nt, op, k⟩ ere) o op).2⟩ else ⟨⟨A, B, nt, op, Ak.no 0 0⟩, (fitN (rightM ⟨A, B, nt, op, k⟩ ere) o op).1, j, (fitN (rightM ⟨A, B, nt, op, k⟩ ere) o op).2⟩) else (⟨⟨A, B, nt, op, Ak.no 0 0⟩, k.e, k.j, o⟩ : Cd)) = x) := by
   have := HX.out
   rw [if_pos rfl, hk] at this
   exact this
  clear HX hk
  obtain ⟨hk1, hk2, hk3, hk4, hk5, hk6⟩ := hkl
  go_wp2_with fail
  refine E4.out.mono ?_
  rintro e w5 ⟨⟨rfl, r, ad, l, kk, hcw, hI, hPc, r1, k1⟩⟩
  obtain ⟨c5, hB5, hc5⟩ := hcw.ex
  have hV4 := bl_lt C4.out
  have R5 := hid r1
  have C5 := hid hB5
  have HC5 := hid hc5
  have B5 := hid ((k1.block w.heap.size (bl_lt B4.out) (by omega) (by omega)).trans B4.out)
  have A5 := hid ((A4.out.k2 k1 (fun q hq _ => by omega)).weak (fun q hq _ => (show w.heap.size < q ∧ q ≠ C from ⟨hq.1, by omega⟩)))
  have AB5 := hid ((AB4.out.k2 k1 (fun q hq _ => by omega)).weak (fun q hq _ => (show w.heap.size < q ∧ q ≠ C from ⟨hq.1, by omega⟩)))
  have I5 := hid (hI.weak (fun q hq _ => (show w.heap.size < q ∧ q ≠ C from ⟨by omega, by omega⟩)))
  have P5 := hid (hPc.weak (fun q hq => (show w.heap.size < q ∧ q ≠ C from ⟨by omega, by omega⟩)))
  have K5 := hid (K4.out.k2o k1 (by omega))
  clear hcw hB5 hc5 hI hPc r1 k1 R4 B4 C4 A4 AB4 K4 E4 hV4
  by_cases hke : k.e = 0
  ·
   have gk : ((k.e : Nat) : Int) = 0 := by omega
   obtain rfl := HC5.out (decide_eq_true hke)
   have HX2 : Hid ((if (fitN (rightM ⟨A, B, nt, op, k⟩ ere) o op).1 = 0 then ⟨⟨A, B, nt, op, k⟩, if (endN s op k.j).1 then 0 else 1, (endN s op k.j).2, (fitN (rightM ⟨A, B, nt, op, k⟩ ere) o op).2⟩ else (⟨⟨A, B, nt, op, Ak.no 0 0⟩, (fitN (rightM ⟨A, B, nt, op, k⟩ ere) o op).1, j, (fitN (rightM ⟨A, B, nt, op, k⟩ ere) o op).2⟩ : Cd)) = x) := by have := HX1.out; rw [if_pos hke] at this; exact this
   have HO : COk (fullC a b nt op k r ad l kk) A.t B.t k.r k.p := ⟨hOA, hOB, hk4, hkn, hop, by show k.tx.size ≤ _; omega, by show k.y.size ≤ _; omega, by show k.z.size ≤ _; omega⟩
   have HCI := hid (full_cis A5.out AB5.out I5.out P5.out nt op)
   obtain ⟨o2, f1, hf⟩ : ∃ o2 f1, fitN (rightM ⟨A, B, nt, op, k⟩ ere) o op = (f1, o2) := ⟨_, _, rfl⟩
   have ho2 : o2 ≤ 6 := by have := fitN_le (rightM ⟨A, B, nt, op, k⟩ ere) o op ho; rw [hf] at this; exact this
   have F5 : Hid (Calls Tryz.prog 164 #[.pointer (some ⟨P, 0, none⟩), (fullC a b nt op k r ad l kk).v] w5 fun e w' => e = .returned (.int .i64 (f1 : Int)) ∧ Rr w' P s ere k.j o2 ∧ Ks P w5 w') := by
    have := fit_any (fullC a b nt op k r ad l kk) A.t B.t k.r k.p HO R5.out HCI.out (by omega)
    rw [full_right A5.out AB5.out] at this
    have hf' : fitN (rightM ⟨A, B, nt, op, k⟩ ere) o (fullC a b nt op k r ad l kk).op = (f1, o2) := hf
    rw [hf'] at this
    exact this
   rw [hf] at HX2
   rw [gk]
   clear HX1 hf HC5 gk HO HCI
   go_wp2_with (refine wpList_load_cv rfl rfl (fullC a b nt op k r ad l kk) C5.out (by rfl) ?_; simp only [Act.put, List.setIfInBounds_toArray, List.set_cons_zero, List.set_cons_succ])
   refine F5.out.mono ?_
   rintro e w6 ⟨rfl, r1, k1⟩
   have R6 := hid r1
   have C6 := hid (bl_ks C5.out (by omega) k1)
   have B6 := hid (bl_ks B5.out (by omega) k1)
   have A6 := hid (A5.out.ks k1 (fun q hq _ => by omega))
   have AB6 := hid (AB5.out.ks k1 (fun q hq _ => by omega))
   have I6 := hid (I5.out.ks k1 (fun q hq _ => by omega))
   have P6 := hid (P5.out.ks k1 (fun q hq => by omega))
   have K6 := hid (K5.out.trans k1)
   clear r1 k1 R5 C5 B5 A5 AB5 I5 P5 K5 F5
   by_cases hf1 : f1 = 0
   ·
    subst hf1
    obtain ⟨q, j2, he⟩ : ∃ q j2, endN s op k.j = (q, j2) := ⟨_, _, rfl⟩
    have EN := hid (fun w h => ended_any (w := w) (P := P) (ere := ere) (o := o2) (i := k.j) op h hk2 (by omega))
    rw [he] at EN
    have HX3 : Hid ((⟨⟨A, B, nt, op, k⟩, if q then 0 else 1, j2, o2⟩ : Cd) = x) := by have := HX2.out; rw [if_pos rfl, he] at this; exact this
    have c23 := bl_cell C6.out 23 (.int .u8 (op : Int)) rfl
    clear HX2 he
    go_wp2_with fail
    refine (EN.out _ R6.out).mono ?_
    rintro e w7 ⟨rfl, r1, k1⟩
    have R7 := hid r1
    have C7 := hid (bl_ks C6.out (by omega) k1)
    have B7 := hid (bl_ks B6.out (by omega) k1)
    have A7 := hid (A6.out.ks k1 (fun q hq _ => by omega))
    have AB7 := hid (AB6.out.ks k1 (fun q hq _ => by omega))
    have I7 := hid (I6.out.ks k1 (fun q hq _ => by omega))
    have P7 := hid (P6.out.ks k1 (fun q hq => by omega))
    have K7 := hid (K6.out.trans k1)
    obtain rfl := HX3.out
    clear r1 k1 R6 C6 B6 A6 AB6 I6 P6 K6 EN c23
    cases q with
    | false =>
     have NE : Hid (¬ ((if false = true then 0 else 1 : Nat)) = 0) := by show ¬ _; decide
     have R8 : Hid (Rr w7 P s ere j2 o2) := R7.out
     clear A7 AB7 I7 P7 C7
     go_wp2_with (refine wpList_store_cv rfl rfl rfl (bareC Av.z Av.z false 0) rfl B7.out (by rfl) ?_; intro Wz x1 x2; have Wza := hid x1; have Wzk := hid x2; clear x1 x2; simp only [Act.put])
     refine bodyPost_ret (v := .tuple #[Cv.v (bareC Av.z Av.z false 0), .int .i64 1]) (cv_ret2 rfl _ _ _ (bareC Av.z Av.z false 0) _ rfl rfl Wza.out) rfl ⟨(bareC Av.z Av.z false 0), rfl, fun h => absurd h NE.out, R8.out.ks Wzk.out hP, (K7.out).off Wzk.out (Nat.le_refl _) hP⟩
    | true =>
     have R8 : Hid (Rr w7 P s ere j2 o2) := R7.out
     go_wp2_with ((refine wpList_load_cv rfl rfl (fullC a b nt op k r ad l kk) C7.out (by rfl) ?_; simp only [Act.put, List.setIfInBounds_toArray, List.set_cons_zero, List.set_cons_succ]); (refine wpList_store_cv rfl rfl rfl (fullC a b nt op k r ad l kk) rfl B7.out (by rfl) ?_; intro Wz x1 x2; have Wza := hid x1; have Wzk := hid x2; clear x1 x2; simp only [Act.put]))
     refine bodyPost_ret (v := .tuple #[Cv.v (fullC a b nt op k r ad l kk), .int .i64 0]) (cv_ret2 rfl _ _ _ (fullC a b nt op k r ad l kk) _ rfl rfl Wza.out) rfl ⟨fullC a b nt op k r ad l kk, rfl, fun _ => ⟨a, b, r, ad, l, kk, rfl, (A7.out.ks Wzk.out (fun q hq _ => by omega)).weak (fun q hq _ => by omega), (AB7.out.ks Wzk.out (fun q hq _ => by omega)).weak (fun q hq _ => by omega), (I7.out.ks Wzk.out (fun q hq _ => by omega)).weak (fun q hq _ => by omega), (P7.out.ks Wzk.out (fun q hq => by omega)).weak (fun q hq => by omega)⟩, R8.out.ks Wzk.out hP, (K7.out).off Wzk.out (Nat.le_refl _) hP⟩
   ·
    have gf : ((f1 : Int) != 0) = true := by simp; omega
    have NE : Hid (¬ f1 = 0) := hf1
    obtain rfl : (⟨⟨A, B, nt, op, Ak.no 0 0⟩, f1, j, o2⟩ : Cd) = x := by have := HX2.out; rw [if_neg hf1] at this; exact this
    have p2 := R6.out.cells.2.2.1
    have fp2 := bl_frozen R6.out.b 2
    clear HX2 hf1 A6 AB6 I6 P6 C6
    go_upto_region 12 with fail
    refine opq (fun V7 => Rr V7 P s ere j o2 ∧ V7.heap[w.heap.size]? = some (Cv.o (bareC Av.z Av.z false 0)) ∧ Ks P w V7) ⟨by exact R6.out.at j, by exact bl_set B6.out (by omega) _, by exact K6.out.set 2 _⟩ ?_
    rintro V7 ⟨xR7, xB7, xK7⟩
    have R7 := hidT xR7
    have B7 := hidT xB7
    have K7 := hidT xK7
    clear xR7 xB7 xK7
    clear R6 B6 K6 p2 fp2
    go_wp2_with (refine wpList_store_cv rfl rfl rfl (bareC Av.z Av.z false 0) rfl B7.out (by rfl) ?_; intro Wz x1 x2; have Wza := hid x1; have Wzk := hid x2; clear x1 x2; simp only [Act.put])
    refine bodyPost_ret (v := .tuple #[Cv.v (bareC Av.z Av.z false 0), .int .i64 _]) (cv_ret2 rfl _ _ _ (bareC Av.z Av.z false 0) _ rfl rfl Wza.out) rfl ⟨(bareC Av.z Av.z false 0), rfl, fun h => absurd h NE.out, R7.out.ks Wzk.out hP, (K7.out).off Wzk.out (Nat.le_refl _) hP⟩
  ·
   have gk : (((k.e : Nat) : Int) != 0) = true := by simp; omega
   have NE : Hid (¬ k.e = 0) := hke
   obtain rfl : (⟨⟨A, B, nt, op, Ak.no 0 0⟩, k.e, k.j, o⟩ : Cd) = x := by have := HX1.out; rw [if_neg hke] at this; exact this
   clear HX1 hke A5 AB5 I5 P5 C5 HC5
   go_wp2_with (refine wpList_store_cv rfl rfl rfl (bareC Av.z Av.z false 0) rfl B5.out (by rfl) ?_; intro Wz x1 x2; have Wza := hid x1; have Wzk := hid x2; clear x1 x2; simp only [Act.put])
   refine bodyPost_ret (v := .tuple #[Cv.v (bareC Av.z Av.z false 0), .int .i64 _]) (cv_ret2 rfl _ _ _ (bareC Av.z Av.z false 0) _ rfl rfl Wza.out) rfl ⟨(bareC Av.z Av.z false 0), rfl, fun h => absurd h NE.out, R5.out.ks Wzk.out hP, (K5.out).off Wzk.out (Nat.le_refl _) hP⟩
 ·
  have gm : ((m : Int) != 0) = true := by simp; omega
  have NE : Hid (¬ m = 0) := hm
  obtain rfl : (⟨⟨A, B, nt, op, Ak.no 0 0⟩, m, j, o⟩ : Cd) = x := by have := HX.out; rw [if_neg hm] at this; exact this
  clear HX hm A2 AB2 C2
  go_wp2_with (refine wpList_store_cv rfl rfl rfl (bareC Av.z Av.z false 0) rfl B2.out (by rfl) ?_; intro Wz x1 x2; have Wza := hid x1; have Wzk := hid x2; clear x1 x2; simp only [Act.put])
  refine bodyPost_ret (v := .tuple #[Cv.v (bareC Av.z Av.z false 0), .int .i64 _]) (cv_ret2 rfl _ _ _ (bareC Av.z Av.z false 0) _ rfl rfl Wza.out) rfl ⟨(bareC Av.z Av.z false 0), rfl, fun h => absurd h NE.out, R2.out.ks Wzk.out hP, (K2'.out).off Wzk.out (Nat.le_refl _) hP⟩
end Go.Proofs.YtigdmebijbaofaaGreatDoor
