/-
  Texts of this claim: RdY, RdZ, ReB.
-/
import Derived.Test.YtigdmebijbaofaaGreatDoorReadDM4
import Derived.Test.YtigdmebijbaofaaGreatDoorReadDM30
import Derived.Test.YtigdmebijbaofaaGreatDoorReadDM29
/-! ### RdY -/
namespace Go.Proofs.YtigdmebijbaofaaGreatDoor
set_option maxHeartbeats 2000000
set_option maxRecDepth 100000
open Go.RowKit
def flF (s : ByteArray) : Nat → Bool → Bool → Nat → Nat → Bool × Bool × Nat × ByteArray × Bool × Nat
 | 0, g, h, n, i => (g, h, n, ⟨#[]⟩, false, i)
 | f + 1, g, h, n, i =>
  if (!g && tkN s i 103) = true then flF s f true h n (i + 1)
  else if (!h && tkN s i 112) = true then flF s f g true n (i + 1)
  else if (decide (n = 0) && digN (ch s i)) = true then (if (numN s i).1 = 0 then (g, h, 0, ⟨#[]⟩, false, (numN s i).2) else flF s f g h (numN s i).1 (numN s i).2)
  else if tkN s i 119 = true then (g, h, n, (pLab s (i + 1)).1, !decide ((pLab s (i + 1)).1.size = 0), (pLab s (i + 1)).2)
  else (g, h, n, ⟨#[]⟩, true, i)
def pFlags (s : ByteArray) (i : Nat) : Bool × Bool × Nat × ByteArray × Bool × Nat := flF s 4 false false 0 i
theorem flF_le (s : ByteArray) : ∀ f g h n i, i ≤ s.size → n ≤ 10000 → i ≤ (flF s f g h n i).2.2.2.2.2 ∧ (flF s f g h n i).2.2.2.2.2 ≤ s.size ∧ (flF s f g h n i).2.2.1 ≤ 10000 ∧ (flF s f g h n i).2.2.2.1.size ≤ s.size
 | 0, g, h, n, i, hi, hn => ⟨Nat.le_refl _, hi, hn, Nat.zero_le _⟩
 | f + 1, g, h, n, i, hi, hn => by
  unfold flF
  split
  ·
   rename_i hc
   have h1 := tk_lt (s := s) (i := i) (b := 103) (by simp at hc; exact hc.2)
   have h2 := flF_le s f true h n (i + 1) h1 hn
   exact ⟨by omega, h2.2⟩
  ·
   split
   ·
    rename_i hc
    have h1 := tk_lt (s := s) (i := i) (b := 112) (by simp at hc; exact hc.2)
    have h2 := flF_le s f g true n (i + 1) h1 hn
    exact ⟨by omega, h2.2⟩
   ·
    split
    ·
     have h1 := numN_le s i hi
     split
     ·
      exact ⟨h1.2.1, h1.2.2, Nat.zero_le _, Nat.zero_le _⟩
     ·
      have h2 := flF_le s f g h (numN s i).1 (numN s i).2 h1.2.2 h1.1
      exact ⟨Nat.le_trans h1.2.1 h2.1, h2.2⟩
    ·
     split
     ·
      rename_i hc
      have h1 := pLab_le s (i + 1) (tk_lt hc)
      exact ⟨Nat.le_trans (Nat.le_succ _) h1.1, h1.2.1, hn, h1.2.2⟩
     ·
      exact ⟨Nat.le_refl _, hi, hn, Nat.zero_le _⟩
theorem pFlags_le (s : ByteArray) (i : Nat) (hi : i ≤ s.size) : i ≤ (pFlags s i).2.2.2.2.2 ∧ (pFlags s i).2.2.2.2.2 ≤ s.size ∧ (pFlags s i).2.2.1 ≤ 10000 ∧ (pFlags s i).2.2.2.1.size ≤ s.size := flF_le s 4 false false 0 i hi (by omega)
structure FlD (x : Bool × Bool × Nat × ByteArray × Bool × Nat) (P C : Nat) (s : ByteArray) (ere : Bool) (o : Nat) (c : Cv) (w : World) (e : Ending) (w' : World) : Prop where
 ex : e = .returned (.bool x.2.2.2.2.1) ∧ w'.heap[C]? = some (Cv.o { c with g := x.1, s := x.2.1, nth := (x.2.2.1 : Int), tx := x.2.2.2.1 }) ∧ Rr w' P s ere x.2.2.2.2.2 o ∧ K2 P C w w'
def flM (g h : Bool) (n : Nat) : Nat := (if g then 0 else 1) + (if h then 0 else 1) + (if n = 0 then 1 else 0)
theorem flagsr_any {w : World} {P C : Nat} {s : ByteArray} {ere : Bool} {i o : Nat} {c : Cv} (h : Rr w P s ere i o) (hC : w.heap[C]? = some c.o) (hPC : P < C) (hg : c.g = false) (hh : c.s = false) (hn : c.nth = 0) (ht : c.tx = ⟨#[]⟩) (hi : i ≤ s.size) (hs : s.size ≤ 100000) :
  Calls Tryz.prog 226 #[.pointer (some ⟨P, 0, none⟩), .pointer (some ⟨C, 0, none⟩)] w fun e w' => FlD (pFlags s i) P C s ere o c w e w' := by
 have R := hid h
 have BC := hid hC
 have hP : P < w.heap.size := h.lt
 have hCw : C < w.heap.size := bl_lt hC
 clear h hC
 obtain ⟨x, hx⟩ : ∃ x, pFlags s i = x := ⟨_, rfl⟩
 rw [hx]
 have HX : Hid (flF s 4 false false 0 i = x) := hx
 have BC0 : Hid (w.heap[C]? = some (Cv.o { c with g := false, s := false, nth := ((0 : Nat) : Int), tx := ⟨#[]⟩ })) := by
  show _ = _
  rw [BC.out]
  obtain ⟨a, b, nt, op, tx, r, pa, pl, pc, g, s', nth, y, z⟩ := c
  dsimp only at hg hh hn ht
  subst hg hh hn ht
  rfl
 clear hx hg hh hn ht BC
 go_enter Tryz.func226, Tryz.ntmps226
 go_wp2_with fail
 go_loopg [] 4 (fun k wr => ∃ (g h : Bool) (n j : Nat), j ≤ s.size ∧ n ≤ 10000 ∧ flM g h n + 1 ≤ k ∧ flF s k g h n j = x ∧ wr.heap[C]? = some (Cv.o { c with g := g, s := h, nth := (n : Int), tx := ⟨#[]⟩ }) ∧ Rr wr P s ere j o ∧ K2 P C w wr)
 case atStart => exact ⟨false, false, 0, i, hi, by omega, by decide, HX.out, BC0.out, R.out, K2.refl _ _ _⟩
 case round =>
  obtain ⟨g, h, n, j, hj, hn, hk, hp, hB, hR, hK⟩ := hrel
  obtain ⟨k, rfl⟩ : ∃ k, gk = k + 1 := ⟨gk - 1, by omega⟩
  have HP := hid hp
  have B1 := hid hB
  have R1 := hid hR
  have K1 := hid hK
  have HM := hid hk
  clear hp hB hR hK hk BC0 R HX
  have q35 := bl_cell B1.out 35 (.bool g) rfl
  have q36 := bl_cell B1.out 36 (.bool h) rfl
  have q37 := bl_cell B1.out 37 (.int .i64 (n : Int)) rfl
  -- is it global
  obtain ⟨u1, hu1⟩ : ∃ u, (!g && tkN s j 103) = u := ⟨_, rfl⟩
  have HP' : Hid ((if u1 = true then flF s k true h n (j + 1) else if (!h && tkN s j 112) = true then flF s k g true n (j + 1) else if (decide (n = 0) && digN (ch s j)) = true then (if (numN s j).1 = 0 then (g, h, 0, ⟨#[]⟩, false, (numN s j).2) else flF s k g h (numN s j).1 (numN s j).2) else if tkN s j 119 = true then (g, h, n, (pLab s (j + 1)).1, !decide ((pLab s (j + 1)).1.size = 0), (pLab s (j + 1)).2) else (g, h, n, ⟨#[]⟩, true, j)) = x) := by
   show _ = _
   rw [← HP.out, ← hu1]
   rfl
  clear HP
  go_upto_region 2 with fail
  go_cut [5] (fun v wc => v = .bool u1 ∧ wc.heap[C]? = some (Cv.o { c with g := g, s := h, nth := (n : Int), tx := ⟨#[]⟩ }) ∧ Rr wc P s ere (if u1 then j + 1 else j) o ∧ (u1 = true → j + 1 ≤ s.size) ∧ K2 P C w wc)
  case first =>
   cases g with
   | true =>
    obtain rfl : false = u1 := hu1
    go_wp2_with fail
    go_meet
    case rel => exact ⟨rfl, B1.out, R1.out, fun h => (by cases h), K1.out⟩
   | false =>
    have hu2 : tkN s j 103 = u1 := hu1
    clear hu1 HP'
    have ht1 : tkI s j 103 = if u1 then j + 1 else j := by unfold tkI; rw [hu2]
    have hl1 : u1 = true → j + 1 ≤ s.size := fun h => tk_lt (hu2.trans h)
    have T1 := hid (fun w h => tk_any (w := w) (P := P) (s := s) (ere := ere) (o := o) (i := j) 103 h hj (by omega))
    rw [hu2, ht1] at T1
    have HL1 := hid hl1
    clear ht1 hl1 hu2
    go_wp2_with fail
    refine (T1.out _ R1.out).mono ?_
    rintro e w2 ⟨rfl, r1, k1⟩
    have R2 := hid r1
    have B2 := hid (bl_ks B1.out (by omega) k1)
    have K2' := hid (K1.out.trans (k1.k2 C))
    clear r1 k1
    go_wp2_with fail
    go_meet
    case rel => exact ⟨rfl, B2.out, R2.out, HL1.out, K2'.out⟩
  case rest =>
  obtain ⟨rfl, hB2, hR2, hl2, hK2⟩ := hcut
  rename World => w2
  have B2 := hid hB2
  have R2 := hid hR2
  have K2' := hid hK2
  have HL2 := hid hl2
  have HU1 := hid hu1
  clear hB2 hR2 hl2 hK2 hu1 R1 B1 K1 q35 q36 q37
  cases u1 with
  | true =>
   have EX : Hid (flF s k true h n (j + 1) = x) := HP'.out
   have hj1 := HL2.out rfl
   have R3 : Hid (Rr w2 P s ere (j + 1) o) := R2.out
   have hgf : g = false := by
    have := HU1.out
    cases g with
    | false => rfl
    | true => exact Bool.noConfusion (show false = true from this)
   subst hgf
   have q35 := bl_cell B2.out 35 (.bool false) rfl
   have f35 := bl_frozen B2.out 35
   clear HP' R2 HL2 HU1
   go_wp2_with fail
   go_roundg k
   case measure => omega
   case rel => exact ⟨true, h, n, j + 1, hj1, hn, by have := HM.out; unfold flM at this ⊢; simp at this ⊢; omega, EX.out, bl_c_g B2.out true, R3.out.ks ((Ks.refl C _).set 35 _) hPC, K2'.out.trans (((Ks.refl C _).set 35 _).k2c hPC)⟩
  | false =>
  have HP2 : Hid ((if (!h && tkN s j 112) = true then flF s k g true n (j + 1) else if (decide (n = 0) && digN (ch s j)) = true then (if (numN s j).1 = 0 then (g, h, 0, ⟨#[]⟩, false, (numN s j).2) else flF s k g h (numN s j).1 (numN s j).2) else if tkN s j 119 = true then (g, h, n, (pLab s (j + 1)).1, !decide ((pLab s (j + 1)).1.size = 0), (pLab s (j + 1)).2) else (g, h, n, ⟨#[]⟩, true, j)) = x) := HP'.out
  have R3 : Hid (Rr w2 P s ere j o) := R2.out
  clear HP' R2 HL2 HU1
  have q36 := bl_cell B2.out 36 (.bool h) rfl
  obtain ⟨u1, hu1⟩ : ∃ u, (!h && tkN s j 112) = u := ⟨_, rfl⟩
  rw [hu1] at HP2
  go_upto_region 4 with fail
  go_cut [18] (fun v wc => v = .bool u1 ∧ wc.heap[C]? = some (Cv.o { c with g := g, s := h, nth := (n : Int), tx := ⟨#[]⟩ }) ∧ Rr wc P s ere (if u1 then j + 1 else j) o ∧ (u1 = true → j + 1 ≤ s.size) ∧ K2 P C w wc)
  case first =>
   cases h with
   | true =>
    obtain rfl : false = u1 := hu1
    go_wp2_with fail
    go_meet
    case rel => exact ⟨rfl, B2.out, R3.out, fun h => (by cases h), K2'.out⟩
   | false =>
    have hu2 : tkN s j 112 = u1 := hu1
    clear hu1 HP2
    have ht1 : tkI s j 112 = if u1 then j + 1 else j := by unfold tkI; rw [hu2]
    have hl1 : u1 = true → j + 1 ≤ s.size := fun h => tk_lt (hu2.trans h)
    have T1 := hid (fun w h => tk_any (w := w) (P := P) (s := s) (ere := ere) (o := o) (i := j) 112 h hj (by omega))
    rw [hu2, ht1] at T1
    have HL1 := hid hl1
    clear ht1 hl1 hu2
    go_wp2_with fail
    refine (T1.out _ R3.out).mono ?_
    rintro e w3 ⟨rfl, r1, k1⟩
    have R4 := hid r1
    have B4 := hid (bl_ks B2.out (by omega) k1)
    have K4 := hid (K2'.out.trans (k1.k2 C))
    clear r1 k1
    go_wp2_with fail
    go_meet
    case rel => exact ⟨rfl, B4.out, R4.out, HL1.out, K4.out⟩
  case rest =>
  obtain ⟨rfl, hB4, hR4, hl4, hK4⟩ := hcut
  rename World => w4
  have B4 := hid hB4
  have R4 := hid hR4
  have K4 := hid hK4
  have HL4 := hid hl4
  have HU1 := hid hu1
  clear hB4 hR4 hl4 hK4 hu1 R3 B2 K2' q36
  cases u1 with
  | true =>
   have EX : Hid (flF s k g true n (j + 1) = x) := HP2.out
   have hj1 := HL4.out rfl
   have R5 : Hid (Rr w4 P s ere (j + 1) o) := R4.out
   have hgf : h = false := by
    have := HU1.out
    cases h with
    | false => rfl
    | true => exact Bool.noConfusion (show false = true from this)
   subst hgf
   have q36 := bl_cell B4.out 36 (.bool false) rfl
   have f36 := bl_frozen B4.out 36
   clear HP2 R4 HL4 HU1
   go_wp2_with fail
   go_roundg k
   case measure => omega
   case rel => exact ⟨g, true, n, j + 1, hj1, hn, by have := HM.out; unfold flM at this ⊢; simp at this ⊢; omega, EX.out, bl_c_s B4.out true, R5.out.ks ((Ks.refl C _).set 36 _) hPC, K4.out.trans (((Ks.refl C _).set 36 _).k2c hPC)⟩
  | false =>
  have HP3 : Hid ((if (decide (n = 0) && digN (ch s j)) = true then (if (numN s j).1 = 0 then (g, h, 0, ⟨#[]⟩, false, (numN s j).2) else flF s k g h (numN s j).1 (numN s j).2) else if tkN s j 119 = true then (g, h, n, (pLab s (j + 1)).1, !decide ((pLab s (j + 1)).1.size = 0), (pLab s (j + 1)).2) else (g, h, n, ⟨#[]⟩, true, j)) = x) := HP2.out
  have R5 : Hid (Rr w4 P s ere j o) := R4.out
  clear HP2 R4 HL4 HU1
  have q37 := bl_cell B4.out 37 (.int .i64 (n : Int)) rfl
  obtain ⟨u1, hu1⟩ : ∃ u, (decide (n = 0) && digN (ch s j)) = u := ⟨_, rfl⟩
  rw [hu1] at HP3
  go_upto_region 6 with fail
  go_cut [31] (fun v wc => v = .bool u1 ∧ Kp w4 wc)
  case first =>
   by_cases hn0 : n = 0
   ·
    subst hn0
    have hu2 : digN (ch s j) = u1 := hu1
    obtain ⟨c0, hc0⟩ : ∃ c0, ch s j = c0 := ⟨_, rfl⟩
    have H0 : Hid (∀ w, Rr w P s ere j o → Calls Tryz.prog 161 #[.pointer (some ⟨P, 0, none⟩)] w fun e w' => e = .returned (.int .u8 (c0 : Int)) ∧ Kp w w') := fun w h => by rw [← hc0]; exact here_any h hj
    have H1 : Hid (∀ w, Calls Tryz.prog 240 #[.int .u8 (c0 : Int)] w fun e w' => e = .returned (.bool u1) ∧ w' = w) := fun w => by rw [← hu2, hc0]; exact dig_any c0 w
    clear hu1 hu2 hc0 HP3
    go_wp2_with fail
    refine (H0.out _ R5.out).mono ?_
    rintro e w5 ⟨rfl, k1⟩
    have KK := hid k1
    clear k1
    go_wp2_with fail
    refine (H1.out _).mono ?_
    rintro e w6 ⟨rfl, rfl⟩
    go_wp2_with fail
    go_meet
    case rel => exact ⟨rfl, KK.out⟩
   ·
    have gn : ((n : Int) == 0) = false := by simp; omega
    obtain rfl : false = u1 := by rw [← hu1, decide_eq_false hn0, Bool.false_and]
    go_wp2_with fail
    go_meet
    case rel => exact ⟨rfl, Kp.refl _⟩
  case rest =>
  obtain ⟨rfl, k1⟩ := hcut
  rename World => w5
  have B6 := hid (bl_kp B4.out k1)
  have R6 := hid (R5.out.kp k1)
  have K6 := hid (K4.out.trans (k1.k2 R5.out.lt C))
  have HU1 := hid hu1
  clear k1 hu1 R5 B4 K4 q37
  cases u1 with
  | true =>
   obtain ⟨m, j2, hm⟩ : ∃ m j2, numN s j = (m, j2) := ⟨_, _, rfl⟩
   have hml := numN_le s j hj
   rw [hm] at hml
   obtain ⟨hm1, hm2, hm3⟩ : m ≤ 10000 ∧ j ≤ j2 ∧ j2 ≤ s.size := hml
   have EX : Hid ((if m = 0 then (g, h, 0, ⟨#[]⟩, false, j2) else flF s k g h m j2) = x) := by have := HP3.out; rw [if_pos rfl, hm] at this; exact this
   have N1 : Hid (∀ w, Rr w P s ere j o → Calls Tryz.prog 246 #[.pointer (some ⟨P, 0, none⟩)] w fun e w' => e = .returned (.int .i64 (m : Int)) ∧ Rr w' P s ere j2 o ∧ Ks P w w') := fun w h => by have := numr_any h hj (by omega); rw [hm] at this; exact this
   have hn0 : n = 0 := by have := HU1.out; simp at this; exact this.1
   subst hn0
   clear HP3 hm HU1
   go_wp2_with fail
   refine (N1.out _ R6.out).mono ?_
   rintro e w7 ⟨rfl, r1, k1⟩
   have R7 := hid r1
   have B7 := hid (bl_ks B6.out (by omega) k1)
   have K7 := hid (K6.out.trans (k1.k2 C))
   clear r1 k1 R6 B6 K6 N1
   have q37 := bl_cell B7.out 37 (.int .i64 ((0 : Nat) : Int)) rfl
   have f37 := bl_frozen B7.out 37
   go_upto_region 8 with fail
   refine opq (fun V8 => V8.heap[C]? = some (Cv.o { c with g := g, s := h, nth := (m : Int), tx := ⟨#[]⟩ }) ∧ Rr V8 P s ere j2 o ∧ K2 P C w V8) ⟨by exact bl_c_nth B7.out (m : Int), by exact R7.out.ks ((Ks.refl C _).set 37 _) hPC, by exact K7.out.trans (((Ks.refl C _).set 37 _).k2c hPC)⟩ ?_
   rintro V8 ⟨xB8, xR8, xK8⟩
   have B8 := hidT xB8
   have R8 := hidT xR8
   have K8 := hidT xK8
   clear xB8 xR8 xK8
   clear R7 B7 K7 q37 f37
   have q37 := bl_cell B8.out 37 (.int .i64 (m : Int)) rfl
   by_cases hm0 : m = 0
   ·
    subst hm0
    obtain rfl : ((g, h, 0, ⟨#[]⟩, false, j2) : Bool × Bool × Nat × ByteArray × Bool × Nat) = x := EX.out
    go_wp2_with fail
    refine bodyPost_ret (results_tmp rfl _ _ _) rfl ⟨rfl, B8.out, R8.out, K8.out⟩
   ·
    have gm : ((m : Int) == 0) = false := by simp; omega
    have EX2 : Hid (flF s k g h m j2 = x) := by have := EX.out; rw [if_neg hm0] at this; exact this
    clear EX
    have HM2 : Hid (flM g h m + 1 ≤ k) := by have := HM.out; unfold flM at this ⊢; rw [if_neg hm0]; simp at this; show _ ≤ _; omega
    clear hm0
    go_wp2_with fail
    go_roundg k
    case measure => omega
    case rel => exact ⟨g, h, m, j2, hm3, hm1, HM2.out, EX2.out, B8.out, R8.out, K8.out⟩
  | false =>
  have HP4 : Hid ((if tkN s j 119 = true then (g, h, n, (pLab s (j + 1)).1, !decide ((pLab s (j + 1)).1.size = 0), (pLab s (j + 1)).2) else (g, h, n, ⟨#[]⟩, true, j)) = x) := HP3.out
  clear HP3 HU1
  obtain ⟨q, hq⟩ : ∃ q, tkN s j 119 = q := ⟨_, rfl⟩
  have htq : tkI s j 119 = if q then j + 1 else j := by unfold tkI; rw [hq]
  have hlq : q = true → j + 1 ≤ s.size := fun h => tk_lt (hq.trans h)
  have T1 := hid (fun w h => tk_any (w := w) (P := P) (s := s) (ere := ere) (o := o) (i := j) 119 h hj (by omega))
  rw [hq, htq] at T1
  rw [hq] at HP4
  clear htq hq
  go_wp2_with fail
  refine (T1.out _ R6.out).mono ?_
  rintro e w7 ⟨rfl, r1, k1⟩
  have R7 := hid r1
  have B7 := hid (bl_ks B6.out (by omega) k1)
  have K7 := hid (K6.out.trans (k1.k2 C))
  clear r1 k1 R6 B6 K6 T1
  cases q with
  | false =>
   obtain rfl : ((g, h, n, ⟨#[]⟩, true, j) : Bool × Bool × Nat × ByteArray × Bool × Nat) = x := HP4.out
   have R8 : Hid (Rr w7 P s ere j o) := R7.out
   go_wp2_with fail
   refine bodyPost_ret (results_tmp rfl _ _ _) rfl ⟨rfl, B7.out, R8.out, K7.out⟩
  | true =>
   obtain ⟨t, j2, hl⟩ : ∃ t j2, pLab s (j + 1) = (t, j2) := ⟨_, _, rfl⟩
   obtain rfl : ((g, h, n, t, !decide (t.size = 0), j2) : Bool × Bool × Nat × ByteArray × Bool × Nat) = x := by have := HP4.out; rw [if_pos rfl, hl] at this; exact this
   have hj1 := hlq rfl
   have N1 : Hid (∀ w, Rr w P s ere (j + 1) o → Calls Tryz.prog 197 #[.pointer (some ⟨P, 0, none⟩)] w fun e w' => e = .returned (.string t) ∧ Rr w' P s ere j2 o ∧ Ks P w w') := fun w h => by have := labr_any h hj1 (by omega); rw [hl] at this; exact this
   have R8 : Hid (Rr w7 P s ere (j + 1) o) := R7.out
   clear HP4 hl R7 hlq
   go_wp2_with fail
   refine (N1.out _ R8.out).mono ?_
   rintro e w9 ⟨rfl, r1, k1⟩
   have R9 := hid r1
   have B9 := hid (bl_ks B7.out (by omega) k1)
   have K9 := hid (K7.out.trans (k1.k2 C))
   clear r1 k1 R8 B7 K7 N1
   have q24 := bl_cell B9.out 24 (.string ⟨#[]⟩) rfl
   have f24 := bl_frozen B9.out 24
   go_upto_region 12 with fail
   refine opq (fun V9 => V9.heap[C]? = some (Cv.o { c with g := g, s := h, nth := (n : Int), tx := t }) ∧ Rr V9 P s ere j2 o ∧ K2 P C w V9) ⟨by exact bl_c_tx B9.out t, by exact R9.out.ks ((Ks.refl C _).set 24 _) hPC, by exact K9.out.trans (((Ks.refl C _).set 24 _).k2c hPC)⟩ ?_
   rintro V9 ⟨xBX, xRX, xKX⟩
   have BX := hidT xBX
   have RX := hidT xRX
   have KX := hidT xKX
   clear xBX xRX xKX
   clear R9 B9 K9 q24 f24
   have q24 := bl_cell BX.out 24 (.string t) rfl
   obtain ⟨z, hz⟩ : ∃ z, decide (t.size = 0) = z := ⟨_, rfl⟩
   have en : t.toList.isEmpty = z := (str_nil t).trans hz
   have HZ := hid hz
   clear hz
   go_wp2_with fail
   refine bodyPost_ret (results_tmp rfl _ _ _) rfl ⟨by rw [HZ.out] <;> rfl, BX.out, RX.out, KX.out⟩
structure Ak where
 tx : ByteArray
 r : Rx
 p : List Pc
 g : Bool
 h : Bool
 n : Nat
 y : ByteArray
 z : ByteArray
 e : Nat
 j : Nat
def Ak.no (e j : Nat) : Ak := ⟨⟨#[]⟩, zR, [], false, false, 0, ⟨#[]⟩, ⟨#[]⟩, e, j⟩
abbrev bareC (a b : Av) (nt : Bool) (op : Nat) : Cv := ⟨a, b, nt, op, ⟨#[]⟩, Rv.z, none, 0, 0, false, false, 0, ⟨#[]⟩, ⟨#[]⟩⟩
abbrev fullC (a b : Av) (nt : Bool) (op : Nat) (x : Ak) (r : Rv) (ad : Option Addr) (l k : Nat) : Cv := ⟨a, b, nt, op, x.tx, r, ad, l, k, x.g, x.h, (x.n : Int), x.y, x.z⟩
structure AkD (x : Ak) (P C : Nat) (s : ByteArray) (ere : Bool) (o : Nat) (a b : Av) (nt : Bool) (op : Nat) (w : World) (e : Ending) (w' : World) : Prop where
 ex : e = .returned (.int .i64 ((x.e : Nat) : Int)) ∧ ∃ r ad l k, CW C w' (decide (x.e = 0)) (fullC a b nt op x r ad l k) ∧ Is w' (fun b => w.heap.size ≤ b) x.r r.v ∧ PcIs (fun b => w.heap.size ≤ b) w' x.p ad l k ∧ Rr w' P s ere x.j o ∧ K2 P C w w'
def pSubst (s : ByteArray) (ere : Bool) (i : Nat) : Ak :=
 if tkN s i 47 then
  if (pExpr s ere (i + 1)).2.1 = 0 then
   if (pRepl s (pExpr s ere (i + 1)).2.2 (grp (pExpr s ere (i + 1)).1)).2.1 then
    ⟨(pFlags s (pRepl s (pExpr s ere (i + 1)).2.2 (grp (pExpr s ere (i + 1)).1)).2.2).2.2.2.1, (pExpr s ere (i + 1)).1, (pRepl s (pExpr s ere (i + 1)).2.2 (grp (pExpr s ere (i + 1)).1)).1, (pFlags s (pRepl s (pExpr s ere (i + 1)).2.2 (grp (pExpr s ere (i + 1)).1)).2.2).1, (pFlags s (pRepl s (pExpr s ere (i + 1)).2.2 (grp (pExpr s ere (i + 1)).1)).2.2).2.1, (pFlags s (pRepl s (pExpr s ere (i + 1)).2.2 (grp (pExpr s ere (i + 1)).1)).2.2).2.2.1, ⟨#[]⟩, ⟨#[]⟩, if (pFlags s (pRepl s (pExpr s ere (i + 1)).2.2 (grp (pExpr s ere (i + 1)).1)).2.2).2.2.2.2.1 then 0 else 1, (pFlags s (pRepl s (pExpr s ere (i + 1)).2.2 (grp (pExpr s ere (i + 1)).1)).2.2).2.2.2.2.2⟩
   else Ak.no 1 (pRepl s (pExpr s ere (i + 1)).2.2 (grp (pExpr s ere (i + 1)).1)).2.2
  else Ak.no (pExpr s ere (i + 1)).2.1 (pExpr s ere (i + 1)).2.2
 else Ak.no 1 i
theorem pExpr_wrt {s : ByteArray} {ere : Bool} {i : Nat} (h : (pExpr s ere i).2.1 = 0) : wrtR ere (pExpr s ere i).1 = true := by
 unfold pExpr at h ⊢
 generalize partI slE s i = j at *
 generalize pParse (partT slE s i) ere = p at *
 obtain ⟨T, n, m⟩ := p
 generalize partB slE s i = q at *
 dsimp only at h ⊢
 cases q
 ·
  exact absurd h (show ¬ (1 : Nat) = 0 by decide)
 ·
  rw [if_pos rfl] at h ⊢
  split at h
  ·
   rename_i h2
   rw [if_pos h2]
   exact h2.2
  ·
   exfalso
   dsimp only at h
   split at h <;> omega
theorem pSubst_le (s : ByteArray) (ere : Bool) (i : Nat) (hi : i ≤ s.size) : i ≤ (pSubst s ere i).j ∧ (pSubst s ere i).j ≤ s.size ∧ (pSubst s ere i).tx.size ≤ s.size ∧ RxOk (pSubst s ere i).r ∧ (pSubst s ere i).y.size ≤ s.size + 1 ∧ (pSubst s ere i).z.size ≤ s.size + 1 := by
 unfold pSubst
 split
 ·
  rename_i h
  have h1 := pExpr_le s ere (i + 1) (tk_lt h)
  have ho := pExpr_ok s ere (i + 1)
  generalize pExpr s ere (i + 1) = x at *
  obtain ⟨T, m, j⟩ := x
  dsimp only at h1 ho ⊢
  split
  ·
   have h2 := pRepl_le s j (grp T) h1.2
   generalize pRepl s j (grp T) = y at *
   obtain ⟨Q, q, j2⟩ := y
   dsimp only at h2 ⊢
   split
   ·
    have h3 := pFlags_le s j2 h2.2
    generalize pFlags s j2 = f at *
    obtain ⟨f1, f2, f3, f4, f5, f6⟩ := f
    dsimp only at h3 ⊢
    exact ⟨by omega, h3.2.1, h3.2.2.2, ho, Nat.zero_le _, Nat.zero_le _⟩
   ·
    exact ⟨by show i ≤ j2; omega, h2.2, Nat.zero_le _, zR_ok, Nat.zero_le _, Nat.zero_le _⟩
  ·
   exact ⟨by show i ≤ j; omega, h1.2, Nat.zero_le _, zR_ok, Nat.zero_le _, Nat.zero_le _⟩
 ·
  exact ⟨Nat.le_refl _, hi, Nat.zero_le _, zR_ok, Nat.zero_le _, Nat.zero_le _⟩
theorem subst_any {w : World} {P C : Nat} {s : ByteArray} {ere : Bool} {i o : Nat} {a b : Av} {nt : Bool} {op : Nat} (h : Rr w P s ere i o) (hC : w.heap[C]? = some (Cv.o (bareC a b nt op))) (hPC : P < C) (hi : i ≤ s.size) (hs : s.size ≤ 100000) :
  Calls Tryz.prog 198 #[.pointer (some ⟨P, 0, none⟩), .pointer (some ⟨C, 0, none⟩)] w fun e w' => AkD (pSubst s ere i) P C s ere o a b nt op w e w' := by
 have R := hid h
 have BC := hid hC
 have hP : P < w.heap.size := h.lt
 have hCw : C < w.heap.size := bl_lt hC
 clear h hC
 obtain ⟨x, hx⟩ : ∃ x, pSubst s ere i = x := ⟨_, rfl⟩
 rw [hx]
 have HX := hid hx
 unfold pSubst at HX
 clear hx
 go_enter Tryz.func198, Tryz.ntmps198
 obtain ⟨q, hq⟩ : ∃ q, tkN s i 47 = q := ⟨_, rfl⟩
 have htq : tkI s i 47 = if q then i + 1 else i := by unfold tkI; rw [hq]
 have hlq : q = true → i + 1 ≤ s.size := fun h => tk_lt (hq.trans h)
 have T1 := hid (fun w h => tk_any (w := w) (P := P) (s := s) (ere := ere) (o := o) (i := i) 47 h (by omega) (by omega))
 rw [hq, htq] at T1
 clear htq
 go_wp2_with fail
 refine (T1.out _ R.out).mono ?_
 rintro e w0 ⟨rfl, r1, k1⟩
 have R0 := hid (r1)
 have B0 := hid (bl_ks BC.out (by omega) k1)
 have K0 := hid (k1.k2 C)
 clear r1 k1 R BC T1
 rw [hq] at HX
 clear hq
 cases q with
 | false =>
  obtain rfl : Ak.no 1 i = x := HX.out
  go_wp2_with fail
  refine bodyPost_ret (results_tmp rfl _ _ _) rfl ⟨⟨rfl, Rv.z, none, 0, 0, ⟨_, B0.out, fun h => (by cases h)⟩, Is.leaf _ _ _ _ _ _ _, PcIs.nil _ _, R0.out, K0.out⟩⟩
 | true =>
  have hi1 := hlq rfl
  obtain ⟨T, m, j, hp⟩ : ∃ T m j, pExpr s ere (i + 1) = (T, m, j) := ⟨_, _, _, rfl⟩
  have hpl := pExpr_le s ere (i + 1) hi1
  have hOT := pExpr_ok s ere (i + 1)
  have hW : m = 0 → wrtR ere T = true := fun h => by have := pExpr_wrt (s := s) (ere := ere) (i := i + 1) (by rw [hp]; exact h); rw [hp] at this; exact this
  rw [hp] at hpl hOT
  obtain ⟨hpl1, hpl2⟩ : i + 1 ≤ j ∧ j ≤ s.size := hpl
  have E1 := hid (fun w h => expr_any (w := w) (P := P) (ere := ere) (o := o) h hi1 (by omega))
  rw [hp] at E1
  rw [if_pos rfl, hp] at HX
  have R1 : Hid (Rr w0 P s ere (i + 1) o) := R0.out
  clear hp R0 hlq
  go_wp2_with fail
  refine (E1.out _ R1.out).mono ?_
  rintro e w1 ⟨r, rfl, hI, r1, k1⟩
  have R2 := hid (r1)
  have B2 := hid (bl_ks B0.out (by omega) k1)
  have I2 := hid (hI.weak (fun b hb _ => (Nat.le_trans K0.out.size hb : w.heap.size ≤ b)))
  have K2 := hid (K0.out.trans (k1.k2 C))
  clear hI r1 k1 R1 B0 K0 E1
  go_upto_region 4 with (refine wpList_store_cr rfl rfl rfl r rfl B2.out ?_; intro Wa x1 x2; have Waa := hid x1; have Wak := hid x2; clear x1 x2; simp only [Act.put])
  have R3 := hid (R2.out.ks Wak.out hPC)
  have I3 := hid (I2.out.ks Wak.out (fun b hb _ => by omega))
  have K3 := hid (K2.out.trans (Wak.out.k2c hPC))
  clear R2 K2 Wak B2 I2
  by_cases hm : m = 0
  ·
   subst hm
   have HX1 : Hid ((if (pRepl s j (grp T)).2.1 then (⟨(pFlags s (pRepl s j (grp T)).2.2).2.2.2.1, T, (pRepl s j (grp T)).1, (pFlags s (pRepl s j (grp T)).2.2).1, (pFlags s (pRepl s j (grp T)).2.2).2.1, (pFlags s (pRepl s j (grp T)).2.2).2.2.1, ⟨#[]⟩, ⟨#[]⟩, if (pFlags s (pRepl s j (grp T)).2.2).2.2.2.2.1 then 0 else 1, (pFlags s (pRepl s j (grp T)).2.2).2.2.2.2.2⟩ : Ak) else Ak.no 1 (pRepl s j (grp T)).2.2) = x) := HX.out
   have hgT : grp T ≤ 1000000 := grp_right ere T (wrt_right (hW rfl))
   have R4 : Hid (Rr Wa P s ere j o) := R3.out
   obtain ⟨Q, q, j2, hr⟩ : ∃ Q q j2, pRepl s j (grp T) = (Q, q, j2) := ⟨_, _, _, rfl⟩
   have hrl := pRepl_le s j (grp T) hpl2
   rw [hr] at hrl HX1
   obtain ⟨hr1, hr2⟩ : j ≤ j2 ∧ j2 ≤ s.size := hrl
   have E2 : Hid (RpD (pRepl s j (grp T)) P C s ere o { bareC a b nt op with r := r } Wa = RpD (Q, q, j2) P C s ere o { bareC a b nt op with r := r } Wa) := by show _ = _; rw [hr]
   have E3 : Hid (Calls Tryz.prog 225 #[.pointer (some ⟨P, 0, none⟩), .pointer (some ⟨C, 0, none⟩)] Wa fun e w' => RpD (Q, q, j2) P C s ere o { bareC a b nt op with r := r } Wa e w') := by
    show Calls _ _ _ _ _
    rw [← hr]
    exact repl_any R4.out Waa.out hPC T (fun w0 k => ⟨_, I3.out.k2 k (fun b hb _ => by omega)⟩) hOT hgT hpl2 hs
   clear HX E2 hr hW hOT hgT R3 R4
   go_wp2_with fail
   refine E3.out.mono ?_
   rintro e w5 ⟨⟨rfl, ad, l, k, hcw, hpc, r1, k1⟩⟩
   obtain ⟨c5, hB5, hc5⟩ := hcw.ex
   have R5 := hid r1
   have B5 := hid hB5
   have HC5 := hid hc5
   have I5 := hid (I3.out.k2 k1 (fun b hb _ => by omega))
   have K5 := hid (K3.out.trans k1)
   have P5 := hid (hpc.weak (fun b hb => (Nat.le_trans K3.out.size hb : w.heap.size ≤ b)))
   clear hcw hB5 hc5 hpc r1 k1 K3 I3 E3 Waa
   cases q with
   | false =>
    obtain rfl : Ak.no 1 j2 = x := HX1.out
    have R6 : Hid (Rr w5 P s ere j2 o) := R5.out
    go_wp2_with fail
    refine bodyPost_ret (results_tmp rfl _ _ _) rfl ⟨⟨rfl, Rv.z, none, 0, 0, ⟨_, B5.out, fun h => (by cases h)⟩, Is.leaf _ _ _ _ _ _ _, PcIs.nil _ _, R6.out, K5.out⟩⟩
   | true =>
    obtain rfl := HC5.out rfl
    have R6 : Hid (Rr w5 P s ere j2 o) := R5.out
    obtain ⟨f1, f2, f3, f4, f5, f6, hf⟩ : ∃ f1 f2 f3 f4 f5 f6, pFlags s j2 = (f1, f2, f3, f4, f5, f6) := ⟨_, _, _, _, _, _, rfl⟩
    have HX2 : Hid ((⟨f4, T, Q, f1, f2, f3, ⟨#[]⟩, ⟨#[]⟩, if f5 then 0 else 1, f6⟩ : Ak) = x) := by
     have := HX1.out
     rw [if_pos rfl] at this
     try dsimp only at this
     rw [hf] at this
     exact this
    have E6 : Hid (Calls Tryz.prog 226 #[.pointer (some ⟨P, 0, none⟩), .pointer (some ⟨C, 0, none⟩)] w5 fun e w' => FlD (f1, f2, f3, f4, f5, f6) P C s ere o { bareC a b nt op with r := r, pa := ad, pl := l, pc := k } w5 e w') := by
     show Calls _ _ _ _ _
     rw [← hf]
     exact flagsr_any R6.out B5.out hPC rfl rfl rfl rfl hr2 hs
    clear HX1 hf R5 HC5
    go_wp2_with fail
    refine E6.out.mono ?_
    rintro e w7 ⟨⟨rfl, hb, r1, k1⟩⟩
    have R7 := hid r1
    have B7 := hid hb
    have I7 := hid (I5.out.k2 k1 (fun b hb _ => by omega))
    have P7 := hid (P5.out.turn k1.size (fun b hb hl => k1.block b hl (by omega) (by omega)))
    have K7 := hid (K5.out.trans k1)
    clear hb r1 k1 R6 B5 I5 P5 K5 E6
    obtain rfl := HX2.out
    cases f5 with
    | false =>
     go_wp2_with fail
     refine bodyPost_ret (results_tmp rfl _ _ _) rfl ⟨⟨rfl, r, ad, l, k, ⟨_, B7.out, fun h => (by cases h)⟩, I7.out, P7.out, R7.out, K7.out⟩⟩
    | true =>
     go_wp2_with fail
     refine bodyPost_ret (results_tmp rfl _ _ _) rfl ⟨⟨rfl, r, ad, l, k, ⟨_, B7.out, fun _ => rfl⟩, I7.out, P7.out, R7.out, K7.out⟩⟩
  ·
   have gm : ((m : Int) != 0) = true := by simp; omega
   obtain rfl : Ak.no m j = x := by have := HX.out; rw [if_neg hm] at this; exact this
   have R4 : Hid (Rr Wa P s ere j o) := R3.out
   have HNE := hid hm
   clear hm
   go_wp2_with fail
   refine bodyPost_ret (results_tmp rfl _ _ _) rfl ⟨⟨rfl, Rv.z, none, 0, 0, ⟨_, Waa.out, fun h => (by exact absurd (of_decide_eq_true h) HNE.out)⟩, Is.leaf _ _ _ _ _ _ _, PcIs.nil _ _, R4.out, K3.out⟩⟩
def pAddrs (s : ByteArray) (ere : Bool) (i : Nat) : PA × PA × Nat × Nat :=
 if (pAddr s ere i).2.1 = 0 ∧ (pAddr s ere i).1.k ≠ 0 ∧ tkN s (pAddr s ere i).2.2 44 = true then
  ((pAddr s ere i).1, (pAddr s ere (skipN blankL s ((pAddr s ere i).2.2 + 1))).1, if (pAddr s ere (skipN blankL s ((pAddr s ere i).2.2 + 1))).2.1 = 0 ∧ (pAddr s ere (skipN blankL s ((pAddr s ere i).2.2 + 1))).1.k = 0 then 1 else (pAddr s ere (skipN blankL s ((pAddr s ere i).2.2 + 1))).2.1, (pAddr s ere (skipN blankL s ((pAddr s ere i).2.2 + 1))).2.2)
 else ((pAddr s ere i).1, PA.z, (pAddr s ere i).2.1, (pAddr s ere i).2.2)
theorem pAddrs_le (s : ByteArray) (ere : Bool) (i : Nat) (hi : i ≤ s.size) : i ≤ (pAddrs s ere i).2.2.2 ∧ (pAddrs s ere i).2.2.2 ≤ s.size ∧ RxOk (pAddrs s ere i).1.t ∧ RxOk (pAddrs s ere i).2.1.t := by
 have h1 := pAddr_le s ere i hi
 have o1 := pAddr_ok s ere i
 unfold pAddrs
 generalize pAddr s ere i = a at *
 obtain ⟨A, e, j⟩ := a
 dsimp only at h1 o1 ⊢
 split
 ·
  rename_i h
  have hj := tk_lt h.2.2
  have h2 := skipN_le blankL s (j + 1) hj
  have h3 := pAddr_le s ere (skipN blankL s (j + 1)) h2.2
  have o2 := pAddr_ok s ere (skipN blankL s (j + 1))
  generalize pAddr s ere (skipN blankL s (j + 1)) = b at *
  obtain ⟨B, e2, j2⟩ := b
  dsimp only at h3 o2 ⊢
  exact ⟨by omega, h3.2, o1, o2⟩
 ·
  exact ⟨h1.1, h1.2, o1, zR_ok⟩
structure AdD (x : PA × PA × Nat × Nat) (P C : Nat) (s : ByteArray) (ere : Bool) (o : Nat) (w : World) (e : Ending) (w' : World) : Prop where
 ex : e = .returned (.int .i64 ((x.2.2.1 : Nat) : Int)) ∧ ∃ a b, w'.heap[C]? = some (Cv.o (bareC a b false 0)) ∧ AIs w' (fun b => w.heap.size ≤ b) a x.1 ∧ AIs w' (fun b => w.heap.size ≤ b) b x.2.1 ∧ Rr w' P s ere x.2.2.2 o ∧ K2 P C w w'
theorem addresses_any {w : World} {P C : Nat} {s : ByteArray} {ere : Bool} {i o : Nat} (h : Rr w P s ere i o) (hC : w.heap[C]? = some (Cv.o (bareC Av.z Av.z false 0))) (hPC : P < C) (hi : i ≤ s.size) (hs : s.size ≤ 100000) :
  Calls Tryz.prog 194 #[.pointer (some ⟨P, 0, none⟩), .pointer (some ⟨C, 0, none⟩)] w fun e w' => AdD (pAddrs s ere i) P C s ere o w e w' := by
 have R := hid h
 have BC := hid hC
 have hP : P < w.heap.size := h.lt
 have hCw : C < w.heap.size := bl_lt hC
 clear h hC
 obtain ⟨x, hx⟩ : ∃ x, pAddrs s ere i = x := ⟨_, rfl⟩
 rw [hx]
 have HX := hid hx
 unfold pAddrs at HX
 clear hx
 obtain ⟨A, m, j, hp⟩ : ∃ A m j, pAddr s ere i = (A, m, j) := ⟨_, _, _, rfl⟩
 have hpl := pAddr_le s ere i hi
 rw [hp] at hpl HX
 obtain ⟨hpl1, hpl2⟩ : i ≤ j ∧ j ≤ s.size := hpl
 have E1 := hid (fun w h => address_any (w := w) (P := P) (ere := ere) (o := o) h hi (by omega))
 rw [hp] at E1
 have HX1 : Hid ((if m = 0 ∧ A.k ≠ 0 ∧ tkN s j 44 = true then (A, (pAddr s ere (skipN blankL s (j + 1))).1, if (pAddr s ere (skipN blankL s (j + 1))).2.1 = 0 ∧ (pAddr s ere (skipN blankL s (j + 1))).1.k = 0 then 1 else (pAddr s ere (skipN blankL s (j + 1))).2.1, (pAddr s ere (skipN blankL s (j + 1))).2.2) else (A, PA.z, m, j)) = x) := HX.out
 clear hp HX
 go_enter Tryz.func194, Tryz.ntmps194
 go_wp2_with fail
 refine (E1.out _ R.out).mono ?_
 rintro e w1 ⟨a, rfl, ha, r1, k1⟩
 have R1 := hid (r1)
 have B1 := hid (bl_ks BC.out (by omega) k1)
 have A1 := hid (ha)
 have K1 := hid (k1.k2 C)
 clear ha r1 k1 R BC E1
 go_upto_region 2 with (refine wpList_store_ca rfl rfl rfl a rfl B1.out ?_; intro Wa x1 x2; have Waa := hid x1; have Wak := hid x2; clear x1 x2; simp only [Act.put])
 have R2 := hid (R1.out.ks Wak.out hPC)
 have B2 : Hid (Wa.heap[C]? = some (Cv.o (bareC a Av.z false 0))) := Waa.out
 have A2 := hid (A1.out.ks Wak.out (fun b hb _ => by omega))
 have K2' := hid (K1.out.trans (Wak.out.k2c hPC))
 clear R1 K1 Wak B1 A1 Waa
 have c0 := bl_cell B2.out 0 (.int .i64 a.k) rfl
 have FA : Hid (∀ {w2 : World}, K2 P C Wa w2 → ∀ {y : PA × PA × Nat × Nat}, Rr w2 P s ere y.2.2.2 o → w2.heap[C]? = some (Cv.o (bareC a Av.z false 0)) → y.1 = A → y.2.1 = PA.z → AdD y P C s ere o w (.returned (.int .i64 ((y.2.2.1 : Nat) : Int))) w2) := by
  intro w2 k y hr hb h1 h2
  exact ⟨rfl, a, Av.z, hb, by rw [h1]; exact A2.out.k2 k (fun b hb _ => by omega), by rw [h2]; exact AIs.zero _ _, hr, K2'.out.trans k⟩
 by_cases hm : m = 0
 ·
  subst hm
  have hak := A2.out.k
  by_cases hk : A.k = 0
  ·
   have ga : a.k = 0 := by rw [hak, hk]; rfl
   rw [ga] at c0
   obtain rfl : (A, PA.z, 0, j) = x := by have := HX1.out; rw [if_neg (by simp [hk])] at this; exact this
   have R3 : Hid (Rr Wa P s ere j o) := R2.out
   clear HX1 hak ga
   go_wp2_with fail
   exact bodyPost_ret (results_tmp rfl _ _ _) rfl (FA.out (K2.refl _ _ _) R3.out B2.out rfl rfl)
  ·
   have ga : (a.k == 0) = false := by rw [hak]; simp; omega
   obtain ⟨q, hq⟩ : ∃ q, tkN s j 44 = q := ⟨_, rfl⟩
   have htq : tkI s j 44 = if q then j + 1 else j := by unfold tkI; rw [hq]
   have hlq : q = true → j + 1 ≤ s.size := fun h => tk_lt (hq.trans h)
   have T1 := hid (fun w h => tk_any (w := w) (P := P) (s := s) (ere := ere) (o := o) (i := j) 44 h hpl2 (by omega))
   rw [hq, htq] at T1
   rw [hq] at HX1
   have R3 : Hid (Rr Wa P s ere j o) := R2.out
   clear htq hq hak R2
   go_wp2_with fail
   refine (T1.out _ R3.out).mono ?_
   rintro e w4 ⟨rfl, r1, k1⟩
   have R4 := hid (r1)
   have B4 := hid (bl_ks B2.out (by omega) k1)
   have K4 := hid (k1.k2 C)
   clear r1 k1 R3 T1 c0
   cases q with
   | false =>
    obtain rfl : (A, PA.z, 0, j) = x := by have := HX1.out; rw [if_neg (by simp)] at this; exact this
    have R5 : Hid (Rr w4 P s ere j o) := R4.out
    clear HX1 hlq
    go_wp2_with fail
    exact bodyPost_ret (results_tmp rfl _ _ _) rfl (FA.out K4.out R5.out B4.out rfl rfl)
   | true =>
    have hj1 := hlq rfl
    obtain ⟨j1, hj1e⟩ : ∃ j1, skipN blankL s (j + 1) = j1 := ⟨_, rfl⟩
    have hsk := skipN_le blankL s (j + 1) hj1
    rw [hj1e] at hsk
    have hj1l : j1 ≤ s.size := hsk.2
    have S1 : Hid (∀ w, Rr w P s ere (j + 1) o → Calls Tryz.prog 120 #[.pointer (some ⟨P, 0, none⟩), .string ⟨#[32, 9]⟩] w fun e w' => e = .returned (.tuple #[]) ∧ Rr w' P s ere j1 o ∧ Ks P w w') := fun w h => by rw [← hj1e]; exact skip_any ⟨#[32, 9]⟩ h hj1 (by omega)
    obtain ⟨B, m2, j2, hp⟩ : ∃ B m2 j2, pAddr s ere j1 = (B, m2, j2) := ⟨_, _, _, rfl⟩
    have HX2 : Hid (((A, B, if m2 = 0 ∧ B.k = 0 then 1 else m2, j2) : PA × PA × Nat × Nat) = x) := by
     have := HX1.out
     first | rw [if_pos (show (True ∧ A.k ≠ 0 ∧ true = true) from ⟨trivial, hk, rfl⟩), hj1e, hp] at this | rw [if_pos (show (0 = 0 ∧ A.k ≠ 0 ∧ true = true) from ⟨rfl, hk, rfl⟩), hj1e, hp] at this
     exact this
    have E2 := hid (fun w h => address_any (w := w) (P := P) (ere := ere) (o := o) h hj1l (by omega))
    rw [hp] at E2
    have R5 : Hid (Rr w4 P s ere (j + 1) o) := R4.out
    clear HX1 hp hsk hj1e hlq R4 FA ga hk
    go_wp2_with fail
    refine (S1.out _ R5.out).mono ?_
    rintro e w6 ⟨rfl, r1, k1⟩
    have R6 := hid (r1)
    have B6 := hid (bl_ks B4.out (by omega) k1)
    have K6 := hid (K4.out.trans (k1.k2 C))
    clear r1 k1 R5 S1 B4 K4
    go_wp2_with fail
    refine (E2.out _ R6.out).mono ?_
    rintro e w7 ⟨b, rfl, hb, r1, k1⟩
    have R7 := hid (r1)
    have B7 := hid (bl_ks B6.out (by omega) k1)
    have A7 := hid (hb.weak (fun q hq _ => (Nat.le_trans (Nat.le_trans K2'.out.size K6.out.size) hq : w.heap.size ≤ q)))
    have K7 := hid (K6.out.trans (k1.k2 C))
    clear hb r1 k1 R6 E2 B6 K6
    go_upto_region 6 with (refine wpList_store_cb rfl rfl rfl b rfl B7.out ?_; intro Wb x1 x2; have Wba := hid x1; have Wbk := hid x2; clear x1 x2; simp only [Act.put])
    have R8 := hid (R7.out.ks Wbk.out hPC)
    have B8 : Hid (Wb.heap[C]? = some (Cv.o (bareC a b false 0))) := Wba.out
    have K8 := hid (K7.out.trans (Wbk.out.k2c hPC))
    have A8 := hid (A7.out.ks Wbk.out (fun b hb _ => by omega))
    have A9 := hid (A2.out.k2 K8.out (fun b hb _ => by omega))
    have hbk := A8.out.k
    have K9 := hid (K2'.out.trans K8.out)
    clear R7 K7 Wbk B7 A7 Wba A2 K2' K8
    have c11 := bl_cell B8.out 11 (.int .i64 b.k) rfl
    have R9 : Hid (Rr Wb P s ere j2 o) := R8.out
    clear R8
    by_cases hm2 : m2 = 0
    ·
     subst hm2
     by_cases hk2 : B.k = 0
     ·
      have gb : (b.k == 0) = true := by rw [hbk, hk2]; rfl
      obtain rfl : (A, B, 1, j2) = x := by have := HX2.out; rw [if_pos ⟨rfl, hk2⟩] at this; exact this
      clear hbk
      go_wp2_with fail
      refine bodyPost_ret (results_tmp rfl _ _ _) rfl ⟨rfl, a, b, B8.out, A9.out, A8.out, R9.out, K9.out⟩
     ·
      have gb : (b.k == 0) = false := by rw [hbk]; simp; omega
      obtain rfl : (A, B, 0, j2) = x := by have := HX2.out; rw [if_neg (fun h => hk2 h.2)] at this; exact this
      clear hbk
      go_wp2_with fail
      refine bodyPost_ret (results_tmp rfl _ _ _) rfl ⟨rfl, a, b, B8.out, A9.out, A8.out, R9.out, K9.out⟩
    ·
     have gm : ((m2 : Int) == 0) = false := by simp; omega
     obtain rfl : (A, B, m2, j2) = x := by have := HX2.out; rw [if_neg (fun h => hm2 h.1)] at this; exact this
     clear hbk hm2
     go_wp2_with fail
     refine bodyPost_ret (results_tmp rfl _ _ _) rfl ⟨rfl, a, b, B8.out, A9.out, A8.out, R9.out, K9.out⟩
 ·
  have gm : ((m : Int) != 0) = true := by simp; omega
  obtain rfl : (A, PA.z, m, j) = x := by have := HX1.out; rw [if_neg (fun h => hm h.1)] at this; exact this
  have R3 : Hid (Rr Wa P s ere j o) := R2.out
  clear HX1 hm
  go_wp2_with fail
  exact bodyPost_ret (results_tmp rfl _ _ _) rfl (FA.out (K2.refl _ _ _) R3.out B2.out rfl rfl)
def nestN (o op : Nat) : Nat × Nat := if op = 123 then (if o = 6 then (0, 2) else (o + 1, 0)) else if op = 125 then (if o = 0 then (0, 1) else (o - 1, 0)) else (o, 0)
theorem nested_any (o op : Nat) (ho : o ≤ 1000000) (w : World) : Calls Tryz.prog 87 #[.int .i64 (o : Int), .int .u8 (op : Int)] w fun e w' => e = .returned (.tuple #[.int .i64 (((nestN o op).1 : Nat) : Int), .int .i64 (((nestN o op).2 : Nat) : Int)]) ∧ w' = w := by
 obtain ⟨x, hx⟩ : ∃ x, nestN o op = x := ⟨_, rfl⟩
 rw [hx]
 have HX := hid hx
 unfold nestN at HX
 clear hx
 by_cases h1 : op = 123
 ·
  subst h1
  by_cases h2 : o = 6
  ·
   subst h2
   obtain rfl : ((0, 2) : Nat × Nat) = x := HX.out
   go_enter Tryz.func87, Tryz.ntmps87
   go_wp2
   refine bodyPost_ret (results_tmp2 rfl _ _ _) rfl ⟨rfl, rfl⟩
  ·
   have g2 : ((o : Int) == 6) = false := by simp; omega
   have gi : IntKind.i64.wrap ((o : Int) + 1) = (o : Int) + 1 := by rw [IntKind.wrap_i64]; omega
   obtain rfl : ((o + 1, 0) : Nat × Nat) = x := by have := HX.out; rw [if_pos rfl, if_neg h2] at this; exact this
   clear HX h2
   go_enter Tryz.func87, Tryz.ntmps87
   go_wp2
   refine bodyPost_ret (results_tmp2 rfl _ _ _) rfl ⟨rfl, rfl⟩
 ·
  have g1 : ((op : Int) == 123) = false := by simp; omega
  by_cases h3 : op = 125
  ·
   subst h3
   by_cases h2 : o = 0
   ·
    subst h2
    obtain rfl : ((0, 1) : Nat × Nat) = x := HX.out
    go_enter Tryz.func87, Tryz.ntmps87
    go_wp2
    refine bodyPost_ret (results_tmp2 rfl _ _ _) rfl ⟨rfl, rfl⟩
   ·
    have g2 : ((o : Int) == 0) = false := by simp; omega
    have gi : IntKind.i64.wrap ((o : Int) - 1) = ((o - 1 : Nat) : Int) := by rw [IntKind.wrap_i64]; omega
    obtain rfl : ((o - 1, 0) : Nat × Nat) = x := by have := HX.out; rw [if_neg (by decide), if_pos rfl, if_neg h2] at this; exact this
    clear HX h2
    go_enter Tryz.func87, Tryz.ntmps87
    go_wp2
    refine bodyPost_ret (results_tmp2 rfl _ _ _) rfl ⟨rfl, rfl⟩
  ·
   have g3 : ((op : Int) == 125) = false := by simp; omega
   obtain rfl : ((o, 0) : Nat × Nat) = x := by have := HX.out; rw [if_neg h1, if_neg h3] at this; exact this
   clear HX h1 h3
   go_enter Tryz.func87, Tryz.ntmps87
   go_wp2
   refine bodyPost_ret (results_tmp2 rfl _ _ _) rfl ⟨rfl, rfl⟩
end Go.Proofs.YtigdmebijbaofaaGreatDoor
