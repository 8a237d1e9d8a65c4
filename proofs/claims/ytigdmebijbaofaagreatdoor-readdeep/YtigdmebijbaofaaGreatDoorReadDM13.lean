/-
  Texts of this claim: Trip, Num, Int.
-/
import Derived.Test.YtigdmebijbaofaaGreatDoorReadDM4
import Derived.Test.YtigdmebijbaofaaGreatDoorReadDM12
import Derived.Test.YtigdmebijbaofaaGreatDoorReadDM6
import Derived.Deep.LoopGhost
/-! ### Trip -/
namespace Go.Proofs.YtigdmebijbaofaaGreatDoor.Trip
open Go Go.Proofs.YtigdmebijbaofaaGreatDoor
def sgQ (ere : Bool) : List UInt8 → Nat × Nat × Nat
 | [] => (0, 0, 0)
 | d :: _ => qs d.toNat ere
def sgL (ere : Bool) : List UInt8 → Nat × Nat × Nat
 | [] => (1, 0, 0)
 | c :: l => if c.toNat = 92 then sgQ ere l else (bare c.toNat ere, c.toNat, 1)
def Q (x y : Nat) : Prop := ¬(x = 91 ∧ y = 58) ∧ y ≠ 93 ∧ x ≠ 45
theorem mem_lst (p : Nat → Bool) (k : Nat) : k ∈ lst p 256 ↔ k < 256 ∧ p k = true := by
 unfold lst
 rw [List.mem_filter, List.mem_range]
theorem cnt_congr (p q : Nat → Bool) (h : ∀ k, k < 256 → p k = q k) : cnt p 256 = cnt q 256 := by
 unfold cnt
 exact sm_congr _ _ _ (fun j hj => by rw [h j hj])
/-! ### Intervals -/
theorem chk_inv {ere : Bool} {k mn mx n : Int} {s : W4} {kids : List Rx} {b e : Bool} {c c' : Ck} (h : chk ere (.mk k mn mx n s kids) b e c = some c') :
  c.n + 1 ≤ 40 ∧ leanB (.mk k mn mx n s kids) = true ∧ ((k = 1 ∧ 0 < cnt (W4.bit s) 256 ∧ c' = ⟨c.n + 1, c.g, c.d⟩) ∨ (k = 2 ∧ chkCat ere kids true ⟨c.n + 1, c.g, c.d⟩ = some c')
   ∨ (k = 3 ∧ ere = true ∧ chkAlt ere kids ⟨c.n + 1, c.g, c.d⟩ = some c') ∨ (k = 4 ∧ timesFit mn mx = true ∧ chkRep ere kids ⟨c.n + 1, c.g, c.d⟩ = some c')
   ∨ (k = 5 ∧ n = (c.g + 1 : Nat) ∧ c.g + 1 ≤ 3 ∧ c.d ≠ 6 ∧ chkGroup ere kids ⟨c.n + 1, c.g + 1, c.d + 1⟩ = some c') ∨ (k = 6 ∧ 1 ≤ n ∧ n ≤ (c.g : Int) ∧ c' = ⟨c.n + 1, c.g, c.d⟩)
   ∨ (k = 7 ∧ (ere || b) = true ∧ c' = ⟨c.n + 1, c.g, c.d⟩) ∨ (k = 8 ∧ (ere || e) = true ∧ c' = ⟨c.n + 1, c.g, c.d⟩)) := by
 rw [chk] at h
 split at h
 ·
  cases h
 rename_i h0
 have h1 : c.n + 1 ≤ 40 := by omega
 have h2 : leanB (.mk k mn mx n s kids) = true := by
  cases e : leanB (.mk k mn mx n s kids)
  ·
   exact absurd (Or.inr e) h0
  ·
   rfl
 refine ⟨h1, h2, ?_⟩
 split at h
 ·
  rename_i hk
  split at h
  ·
   rename_i hc; exact Or.inl ⟨hk, hc, (Option.some.inj h).symm⟩
  ·
   cases h
 split at h
 ·
  rename_i hk; exact Or.inr (Or.inl ⟨hk, h⟩)
 split at h
 ·
  rename_i hk
  split at h
  ·
   rename_i he; exact Or.inr (Or.inr (Or.inl ⟨hk, he, h⟩))
  ·
   cases h
 split at h
 ·
  rename_i hk
  split at h
  ·
   rename_i he; exact Or.inr (Or.inr (Or.inr (Or.inl ⟨hk, he, h⟩)))
  ·
   cases h
 split at h
 ·
  rename_i hk
  split at h
  ·
   cases h
  ·
   rename_i he; exact Or.inr (Or.inr (Or.inr (Or.inr (Or.inl ⟨hk, by omega, by omega, by omega, h⟩))))
 split at h
 ·
  rename_i hk
  split at h
  ·
   rename_i he; exact Or.inr (Or.inr (Or.inr (Or.inr (Or.inr (Or.inl ⟨hk, he.1, he.2, (Option.some.inj h).symm⟩)))))
  ·
   cases h
 split at h
 ·
  rename_i hk
  split at h
  ·
   rename_i he; exact Or.inr (Or.inr (Or.inr (Or.inr (Or.inr (Or.inr (Or.inl ⟨hk, he, (Option.some.inj h).symm⟩))))))
  ·
   cases h
 split at h
 ·
  rename_i hk
  split at h
  ·
   rename_i he; exact Or.inr (Or.inr (Or.inr (Or.inr (Or.inr (Or.inr (Or.inr ⟨hk, he, (Option.some.inj h).symm⟩))))))
  ·
   cases h
 ·
  cases h
theorem lean_inv {k mn mx n : Int} {s : W4} {kids : List Rx} (h : leanB (.mk k mn mx n s kids) = true) :
  (k ≠ 4 → mn = 0 ∧ mx = 0) ∧ (k ≠ 5 → k ≠ 6 → n = 0) ∧ (k ≠ 1 → s = W4.z) ∧ kidsFit k kids.length = true := by
 unfold leanB at h
 simp only [Bool.and_eq_true] at h
 obtain ⟨⟨⟨h1, h2⟩, h3⟩, h4⟩ := h
 refine ⟨fun hk => ?_, fun hk hk' => ?_, fun hk => ?_, h4⟩
 ·
  rw [if_neg hk] at h1
  simpa using h1
 ·
  rw [if_neg (by omega)] at h2
  simpa using h2
 ·
  rw [if_neg hk] at h3
  simpa using h3
theorem kids_one {k : Int} {kids : List Rx} (hk : k = 4 ∨ k = 5) (h : kidsFit k kids.length = true) : ∃ r, kids = [r] := by
 unfold kidsFit at h
 rw [if_neg (by omega), if_neg (by omega), if_pos hk] at h
 exact List.length_eq_one_iff.1 (by simpa using h)
theorem kids_none {k : Int} {kids : List Rx} (hk : k = 1 ∨ k = 6 ∨ k = 7 ∨ k = 8) (h : kidsFit k kids.length = true) : kids = [] := by
 unfold kidsFit at h
 rw [if_neg (by omega), if_neg (by omega), if_neg (by omega)] at h
 exact List.length_eq_zero_iff.1 (by simpa using h)
structure Cnt (r : Rx) : Prop where
 all : ∀ (ere b e : Bool) (c c' : Ck), chk ere r b e c = some c' → c'.n = c.n + nds r ∧ c'.n ≤ 40 ∧ c'.d = c.d ∧ (c.g ≤ 3 → c'.g ≤ 3)
theorem cat_cnt (ere : Bool) : ∀ (rs : List Rx) (_ : ∀ r ∈ rs, Cnt r) (f : Bool) (c c' : Ck), chkCat ere rs f c = some c' → c.n ≤ 40 → c'.n = c.n + ndss rs ∧ c'.n ≤ 40 ∧ c'.d = c.d ∧ (c.g ≤ 3 → c'.g ≤ 3)
 | [], _, f, c, c', h, h40 => by
  rw [chkCat] at h
  cases h
  exact ⟨by simp [ndss], h40, rfl, fun h => h⟩
 | r :: rs, H, f, c, c', h, h40 => by
  rw [chkCat] at h
  split at h
  ·
   cases h
  split at h
  ·
   cases h
  rename_i c1 h1
  obtain ⟨a1, a2, a3, a4⟩ := (H r (by simp)).all _ _ _ _ _ h1
  obtain ⟨b1, b2, b3, b4⟩ := cat_cnt ere rs (fun x hx => H x (by simp [hx])) false c1 c' h a2
  refine ⟨by rw [b1, a1, ndss]; omega, b2, b3.trans a3, fun h => b4 (a4 h)⟩
theorem alt_cnt (ere : Bool) : ∀ (rs : List Rx) (_ : ∀ r ∈ rs, Cnt r) (c c' : Ck), chkAlt ere rs c = some c' → c.n ≤ 40 → c'.n = c.n + ndss rs ∧ c'.n ≤ 40 ∧ c'.d = c.d ∧ (c.g ≤ 3 → c'.g ≤ 3)
 | [], _, c, c', h, h40 => by
  rw [chkAlt] at h
  cases h
  exact ⟨by simp [ndss], h40, rfl, fun h => h⟩
 | r :: rs, H, c, c', h, h40 => by
  rw [chkAlt] at h
  split at h
  ·
   cases h
  split at h
  ·
   cases h
  rename_i c1 h1
  obtain ⟨a1, a2, a3, a4⟩ := (H r (by simp)).all _ _ _ _ _ h1
  obtain ⟨b1, b2, b3, b4⟩ := alt_cnt ere rs (fun x hx => H x (by simp [hx])) c1 c' h a2
  refine ⟨by rw [b1, a1, ndss]; omega, b2, b3.trans a3, fun h => b4 (a4 h)⟩
theorem rep_inv {ere : Bool} {r : Rx} {c c' : Ck} (h : chkRep ere [r] c = some c') : mayRep r.k = true ∧ chk ere r false false c = some c' := by
 rw [chkRep] at h
 split at h
 ·
  rename_i hm; exact ⟨hm, h⟩
 ·
  cases h
theorem grp_inv {ere : Bool} {r : Rx} {c c' : Ck} (h : chkGroup ere [r] c = some c') : ∃ c1, chk ere r true true c = some c1 ∧ c' = ⟨c1.n, c1.g, c1.d - 1⟩ := by
 rw [chkGroup] at h
 split at h
 ·
  cases h
 ·
  rename_i c1 h1; exact ⟨c1, h1, (Option.some.inj h).symm⟩
theorem cnt_step (k mn mx n : Int) (s : W4) (kids : List Rx) (H : ∀ a, a ∈ kids → Cnt a) : Cnt (.mk k mn mx n s kids) := by
 refine ⟨fun ere b e c c' h => ?_⟩
 obtain ⟨h1, h2, h⟩ := chk_inv h
 obtain ⟨l1, l2, l3, l4⟩ := lean_inv h2
 have z : nds (.mk k mn mx n s kids) = 1 + ndss kids := by rw [nds]
 have nil : kids = [] → c' = ⟨c.n + 1, c.g, c.d⟩ → c'.n = c.n + nds (.mk k mn mx n s kids) ∧ c'.n ≤ 40 ∧ c'.d = c.d ∧ (c.g ≤ 3 → c'.g ≤ 3) := by
  rintro rfl rfl
  rw [z]
  exact ⟨by simp [ndss], h1, rfl, fun h => h⟩
 rcases h with ⟨hk, _, rfl⟩ | ⟨hk, h⟩ | ⟨hk, _, h⟩ | ⟨hk, _, h⟩ | ⟨hk, _, hg, _, h⟩ | ⟨hk, _, _, rfl⟩ | ⟨hk, _, rfl⟩ | ⟨hk, _, rfl⟩
 ·
  exact nil (kids_none (by omega) l4) rfl
 ·
  obtain ⟨b1, b2, b3, b4⟩ := cat_cnt ere kids H _ _ _ h h1
  rw [z]
  exact ⟨by rw [b1]; show c.n + 1 + _ = _; omega, b2, b3, b4⟩
 ·
  obtain ⟨b1, b2, b3, b4⟩ := alt_cnt ere kids H _ _ h h1
  rw [z]
  exact ⟨by rw [b1]; show c.n + 1 + _ = _; omega, b2, b3, b4⟩
 ·
  obtain ⟨r, rfl⟩ := kids_one (Or.inl hk) l4
  obtain ⟨_, h⟩ := rep_inv h
  obtain ⟨b1, b2, b3, b4⟩ := (H r (by simp)).all _ _ _ _ _ h
  rw [z]
  exact ⟨by rw [b1]; show c.n + 1 + _ = _; simp [ndss]; omega, b2, b3, b4⟩
 ·
  obtain ⟨r, rfl⟩ := kids_one (Or.inr hk) l4
  obtain ⟨c1, hx, rfl⟩ := grp_inv h
  obtain ⟨b1, b2, b3, b4⟩ := (H r (by simp)).all _ _ _ _ _ hx
  rw [z]
  exact ⟨by show c1.n = _; rw [b1]; show c.n + 1 + _ = _; simp [ndss]; omega, b2, by show c1.d - 1 = _; rw [b3]; rfl, fun _ => b4 hg⟩
 ·
  exact nil (kids_none (by omega) l4) rfl
 ·
  exact nil (kids_none (by omega) l4) rfl
 ·
  exact nil (kids_none (by omega) l4) rfl
theorem cnt_any : ∀ r, Cnt r
 | .mk k mn mx n s kids => cnt_step k mn mx n s kids (fun a _ => cnt_any a)
termination_by r => SizeOf.sizeOf r
decreasing_by
 have := List.sizeOf_lt_of_mem (by assumption)
 simp
 omega
def opens (k : Nat) : Prop := k = 2 ∨ k = 3 ∨ k = 4 ∨ k = 5 ∨ k = 6 ∨ k = 7 ∨ k = 14
structure Op (ere : Bool) (r : Rx) : Prop where
 all : ∀ (b e : Bool) (c c' : Ck), r.k ≠ 2 → r.k ≠ 3 → chk ere r b e c = some c' → c.g ≤ 3 → RxOk r → (∀ l, opens (sgL ere (txt ere r ++ l)).1) ∧ 0 < (txt ere r).length
theorem rxOk_kid {k mn mx n : Int} {s : W4} {kids : List Rx} (h : RxOk (.mk k mn mx n s kids)) : (s.a < 18446744073709551616 ∧ s.b < 18446744073709551616 ∧ s.c < 18446744073709551616 ∧ s.d < 18446744073709551616) ∧ ∀ a, a ∈ kids → RxOk a := by
 unfold RxOk at h
 exact h.2
theorem txt_mk (ere : Bool) (k mn mx n : Int) (s : W4) (kids : List Rx) : txt ere (.mk k mn mx n s kids) = (if k = 1 then setT (W4.bit s) ere
  else if k = 2 then Lib.join (txts ere kids) []
  else if k = 3 then Lib.join (txts ere kids) [124]
  else if k = 4 then (txts ere kids).headD [] ++ timesT mn.toNat mx ere
  else if k = 5 then framedT [40] ((txts ere kids).headD []) [41] ere
  else if k = 6 then [92] ++ dec n.toNat
  else if k = 7 then [94] else [36]) := by rw [txt]
theorem join_nil (xs : List (List UInt8)) : Lib.join xs [] = xs.flatten := by
 unfold Lib.join
 induction xs with
 | nil => rfl
 | cons x xs ih =>
  cases xs with
  | nil => simp [List.intercalate]
  | cons y ys =>
   simp [List.intercalate] at ih ⊢
   exact ih
def bars (ere : Bool) (rs : List Rx) : List UInt8 := (rs.map (fun r => 124 :: txt ere r)).flatten
theorem join_bar (ere : Bool) (r : Rx) (rs : List Rx) : Lib.join (txts ere (r :: rs)) [124] = txt ere r ++ bars ere rs := by
 unfold Lib.join bars
 induction rs generalizing r with
 | nil => simp [txts, List.intercalate]
 | cons y ys ih =>
  have e : [124].intercalate (txts ere (r :: y :: ys)) = txt ere r ++ (124 :: [124].intercalate (txts ere (y :: ys))) := by
   simp [txts, List.intercalate]
  rw [e, ih y]
  simp
end Go.Proofs.YtigdmebijbaofaaGreatDoor.Trip
/-! ### Num -/
namespace Go.Proofs.YtigdmebijbaofaaGreatDoor
set_option maxHeartbeats 2000000
set_option maxRecDepth 100000
open Go.RowKit
theorem rng_dig (b : Nat) : rng 48 57 b = true ↔ 48 ≤ b ∧ b ≤ 57 := by unfold rng; simp
theorem number_any (s : ByteArray) (ere : Bool) (i n g d P : Nat) (w : World) (h : Rd w P s ere i n g d) (hi : i ≤ s.size) (hs : s.size ≤ 1000000) :
  Calls Tryz.prog 250 #[.pointer (some ⟨P, 0, none⟩)] w fun e w' => e = .returned (.tuple #[.int .i64 ((pNum s i).1 : Nat), .bool (pNum s i).2.1]) ∧ Rd w' P s ere (pNum s i).2.2 n g d ∧ Ks P w w' := by
 have R : Hid (Rd w P s ere i n g d) := h
 have hP : P < w.heap.size := h.lt
 clear h
 go_enter Tryz.func250, Tryz.ntmps250
 go_wp2_with fail
 refine (range_any 48 57 _ (by omega) (by omega)).mono ?_
 rintro e w1 ⟨rfl, kq⟩
 have hs1 : w.heap.size ≤ w1.heap.size := kq.size
 have R1 : Hid (Rd w1 P s ere i n g d ∧ Ks P w w1) := ⟨R.out.kp kq, kq.ks (Nat.le_of_lt hP)⟩
 clear kq R
 go_wp2_with fail
 go_loopg [2, 3] (s.size + 1) (fun k v2 v3 wr => ∃ (m : Nat) (ok : Bool) (j : Nat), v2 = .int .i64 (m : Int) ∧ v3 = .bool ok ∧ m ≤ 21 ∧ j ≤ s.size ∧ s.size < k + j ∧ pNumL s k m ok j = pNum s i ∧ At wr w1.heap.size (rng 48 57) ∧ Rd wr P s ere j n g d ∧ Ks P w wr)
 case atStart => exact ⟨0, false, i, rfl, rfl, by omega, hi, by omega, rfl, At.new _ _, R1.out.1.kp kpt, R1.out.2.kpt kpt hP⟩
 case round =>
  obtain ⟨m, ok, j, rfl, rfl, hm, hj, hk, hp, hA, hR, hK⟩ := hrel
  obtain ⟨k, rfl⟩ : ∃ k, gk = k + 1 := ⟨gk - 1, by omega⟩
  have A : Hid (At wr w1.heap.size (rng 48 57)) := hA
  have R : Hid (Rd wr P s ere j n g d) := hR
  have K : Hid (Ks P w wr) := hK
  have HP := hid hp
  clear hA hR hK hp R1
  have hsr := K.out.size
  have hPr : P < wr.heap.size := by omega
  have gj : IntKind.i64.wrap ((j : Int) + 1) = (j : Int) + 1 := by rw [IntKind.wrap_i64]; omega
  by_cases hlt : j < s.size
  ·
   have hli : (j : Int) < (s.size : Int) := by omega
   have ec := run_ch s j hlt
   obtain ⟨b, hb⟩ : ∃ b, ch s j = b := ⟨_, rfl⟩
   have HB := hid hb
   have hb256 : b < 256 := by rw [← hb]; exact ch_lt _ _
   rw [hb] at ec
   clear hb
   by_cases hd : rng 48 57 b = true
   ·
    have HD : Hid (rng 48 57 b = true) := hd
    have hd' := (rng_dig b).1 hd
    clear hd
    have g1 : IntKind.i64.wrap (10 * (m : Int)) = 10 * (m : Int) := by rw [IntKind.wrap_i64]; omega
    have g2 : IntKind.u8.wrap ((b : Int) - 48) = (b : Int) - 48 := by rw [IntKind.wrap_u8']; omega
    have g3 : IntKind.i64.wrap ((b : Int) - 48) = (b : Int) - 48 := by rw [IntKind.wrap_i64]; omega
    have g4 : IntKind.i64.wrap (10 * (m : Int) + ((b : Int) - 48)) = 10 * (m : Int) + ((b : Int) - 48) := by rw [IntKind.wrap_i64]; omega
    have E : Hid (pNumL s k (min (10 * m + (b - 48)) 21) true (j + 1) = pNum s i) := by
     have := HP.out
     unfold pNumL at this
     rw [HB.out, HD.out, decide_eq_true hlt] at this
     exact this
    go_upto_region 2 with fail
    go_cut [28] (fun v wc => v = .bool true ∧ Kp wr wc)
    case first =>
     have Q0 : Kp wr wr.drew := (Kp.refl _).drew
     have MK : Hid (∀ W, Kp wr W → W.cell? ⟨P, 0, none⟩ = some (.string s) ∧ W.cell? ⟨P, 2, none⟩ = some (.int .i64 (j : Int)) ∧ W.cell? ⟨w1.heap.size, 0, none⟩ = some (.int .u64 (wd (rng 48 57) 0 : Nat)) ∧ W.cell? ⟨w1.heap.size, 1, none⟩ = some (.int .u64 (wd (rng 48 57) 1 : Nat)) ∧ W.cell? ⟨w1.heap.size, 2, none⟩ = some (.int .u64 (wd (rng 48 57) 2 : Nat)) ∧ W.cell? ⟨w1.heap.size, 3, none⟩ = some (.int .u64 (wd (rng 48 57) 3 : Nat)) ∧ Hid (Kp wr W)) := fun W k => ⟨(R.out.kp k).cells.1, (R.out.kp k).cells.2.2.1, (A.out.kp k).cells.1, (A.out.kp k).cells.2.1, (A.out.kp k).cells.2.2.1, (A.out.kp k).cells.2.2.2, k⟩
     refine wp_region_noPanic ?_
     refine hdrew MK Q0 (fun hH => ?_)
     have KQ := Q0
     refine tk 0 (some 6) (.move (.tmp 0)) 142 (v := ?v0a1) rfl ?h0a1 hH ?_
     case h0a1 => intro _ _; go_simp; try with_reducible rfl
     try simp only [ps]
     refine tk 1 (some 7) (.nilCheck (.tmp 6)) 0 (v := ?v1a2) rfl ?h1a2 hH ?_
     case h1a2 => intro _ _; go_simp; try with_reducible rfl
     try simp only [ps]
     refine tk 2 (some 8) (.fieldAddr 99 (.tmp 7) 2) 0 (v := ?v2a3) rfl ?h2a3 hH ?_
     case h2a3 => intro _ _; go_simp; try with_reducible rfl
     try simp only [ps]
     refine tk 3 (some 9) (.load 3 (.tmp 8)) 3 (v := ?v3a4) rfl ?h3a4 hH ?_
     case h3a4 => intro _ _; go_simp; try with_reducible rfl
     try simp only [ps]
     refine tk 4 (some 10) (.move (.tmp 0)) 142 (v := ?v4a5) rfl ?h4a5 hH ?_
     case h4a5 => intro _ _; go_simp; try with_reducible rfl
     try simp only [ps]
     refine tk 5 (some 11) (.nilCheck (.tmp 10)) 0 (v := ?v5a6) rfl ?h5a6 hH ?_
     case h5a6 => intro _ _; go_simp; try with_reducible rfl
     try simp only [ps]
     refine tk 6 (some 12) (.fieldAddr 99 (.tmp 11) 0) 0 (v := ?v6a7) rfl ?h6a7 hH ?_
     case h6a7 => intro _ _; go_simp; try with_reducible rfl
     try simp only [ps]
     refine tk 7 (some 13) (.load 9 (.tmp 12)) 9 (v := ?v7a8) rfl ?h7a8 hH ?_
     case h7a8 => intro _ _; go_simp; try with_reducible rfl
     try simp only [ps]
     refine tk 8 (some 14) (.call { callee := .builtin .len, args := #[.tmp 13], argTypes := #[9] }) 3 (v := ?v8a9) rfl ?h8a9 hH ?_
     case h8a9 => intro _ _; go_simp; try with_reducible rfl
     try simp only [ps]
     refine tk 9 (some 15) (.binOp .lss 3 (.tmp 9) (.tmp 14) 3) 4 (v := ?v9a10) rfl ?h9a10 hH ?_
     case h9a10 => intro _ _; go_simp; try with_reducible rfl
     try simp only [ps]
     refine tk 10 (some 16) (.move (.tmp 15)) 4 (v := ?v10a11) rfl ?h10a11 hH ?_
     case h10a11 => intro _ _; go_simp; try with_reducible rfl
     try simp only [ps]
     refine tk 11 (some 17) (.load 24 (.tmp 4)) 24 (v := ?v11a12) rfl ?h11a12 hH ?_
     case h11a12 => intro _ _; go_simp; try with_reducible rfl
     try simp only [ps]
     refine tk 12 (some 18) (.move (.tmp 0)) 142 (v := ?v12a13) rfl ?h12a13 hH ?_
     case h12a13 => intro _ _; go_simp; try with_reducible rfl
     try simp only [ps]
     refine tk 13 (some 19) (.nilCheck (.tmp 18)) 0 (v := ?v13a14) rfl ?h13a14 hH ?_
     case h13a14 => intro _ _; go_simp; try with_reducible rfl
     try simp only [ps]
     refine tk 14 (some 20) (.fieldAddr 99 (.tmp 19) 0) 0 (v := ?v14a15) rfl ?h14a15 hH ?_
     case h14a15 => intro _ _; go_simp; try with_reducible rfl
     try simp only [ps]
     refine tk 15 (some 21) (.load 9 (.tmp 20)) 9 (v := ?v15a16) rfl ?h15a16 hH ?_
     case h15a16 => intro _ _; go_simp; try with_reducible rfl
     try simp only [ps]
     refine tk 16 (some 22) (.move (.tmp 0)) 142 (v := ?v16a17) rfl ?h16a17 hH ?_
     case h16a17 => intro _ _; go_simp; try with_reducible rfl
     try simp only [ps]
     refine tk 17 (some 23) (.nilCheck (.tmp 22)) 0 (v := ?v17a18) rfl ?h17a18 hH ?_
     case h17a18 => intro _ _; go_simp; try with_reducible rfl
     try simp only [ps]
     refine tk 18 (some 24) (.fieldAddr 99 (.tmp 23) 2) 0 (v := ?v18a19) rfl ?h18a19 hH ?_
     case h18a19 => intro _ _; go_simp; try with_reducible rfl
     try simp only [ps]
     refine tk 19 (some 25) (.load 3 (.tmp 24)) 3 (v := ?v19a20) rfl ?h19a20 hH ?_
     case h19a20 => intro _ _; go_simp; try with_reducible rfl
     try simp only [ps]
     refine tk 20 (some 26) (.index 9 (.tmp 21) (.tmp 25)) 5 (v := ?v20a21) rfl ?h20a21 hH ?_
     case h20a21 => intro _ _; go_simp; try with_reducible rfl
     try simp only [ps]
     refine wpAnyH_ready (rs := [21]) (by kernel_rfl) (by simp) ?_
     refine AllReadyH.cons (o := { dst := some 27, op := .call { callee := .value (.func 191), args := #[.tmp 17, .tmp 26], argTypes := #[24, 5] }, type := 4, pos := "parse.go:221", after := _, guard := some (10, true) }) rfl (fun K hKq => ?_) AllReadyH.nil
     go_simp
     refine (has_any (rng 48 57) b _ hb256).mono ?_
     rintro e y1 ⟨rfl, kq⟩
     rw [HD.out]
     refine hKq.out _ _ (MK.out _ (KQ.trans kq)) (fun hN => ?_)
     clear kq
     clear hKq K hH KQ
     have hH := hN
     clear hN
     have KQ := hH.2.2.2.2.2.2.out
     try simp only [ps]
     refine tk 22 (some 28) (.pick (.tmp 16) (.tmp 27) (.const (.bool false))) 4 (v := ?v22a22) rfl ?h22a22 hH ?_
     case h22a22 => intro _ _; go_simp; try with_reducible rfl
     try simp only [ps]
     refine wpAnyH_done (by kernel_rfl) ?_ _
     refine NoPanic.normal ?_
     go_wp2_with fail
     go_meet
     case rel => exact ⟨rfl, KQ⟩
    case rest =>
     obtain ⟨rfl, k2⟩ := hcut
     rename World => W2
     have A2 : Hid (At W2 w1.heap.size (rng 48 57)) := A.out.kp k2
     have R2 : Hid (Rd W2 P s ere j n g d) := R.out.kp k2
     have K2 : Hid (Ks P w W2) := K.out.kpt k2 hP
     clear k2 A R K
     go_upto_region 3 with fail
     go_cut [2, 3] (fun v u wc => v = .int .i64 ((min (10 * m + (b - 48)) 21 : Nat) : Int) ∧ u = .bool true ∧ Kp W2 wc)
     case first =>
      have Q0 : Kp W2 W2.drew := (Kp.refl _).drew
      have MK : Hid (∀ W, Kp W2 W → W.cell? ⟨P, 0, none⟩ = some (.string s) ∧ W.cell? ⟨P, 2, none⟩ = some (.int .i64 (j : Int)) ∧ Hid (Kp W2 W)) := fun W k => ⟨(R2.out.kp k).cells.1, (R2.out.kp k).cells.2.2.1, k⟩
      refine wp_region_noPanic ?_
      refine hdrew MK Q0 (fun hH => ?_)
      have KQ := Q0
      refine tk 0 (some 29) (.move (.tmp 2)) 3 (v := ?v0b1) rfl ?h0b1 hH ?_
      case h0b1 => intro _ _; go_simp; try with_reducible rfl
      try simp only [ps]
      refine tk 1 (some 30) (.binOp .mul 3 (.const (.int .i64 10)) (.tmp 29) 3) 3 (v := ?v1b2) rfl ?h1b2 hH ?_
      case h1b2 => intro _ _; go_simp; try with_reducible rfl
      try simp only [ps]
      refine tk 2 (some 31) (.move (.tmp 0)) 142 (v := ?v2b3) rfl ?h2b3 hH ?_
      case h2b3 => intro _ _; go_simp; try with_reducible rfl
      try simp only [ps]
      refine tk 3 (some 32) (.nilCheck (.tmp 31)) 0 (v := ?v3b4) rfl ?h3b4 hH ?_
      case h3b4 => intro _ _; go_simp; try with_reducible rfl
      try simp only [ps]
      refine tk 4 (some 33) (.fieldAddr 99 (.tmp 32) 0) 0 (v := ?v4b5) rfl ?h4b5 hH ?_
      case h4b5 => intro _ _; go_simp; try with_reducible rfl
      try simp only [ps]
      refine tk 5 (some 34) (.load 9 (.tmp 33)) 9 (v := ?v5b6) rfl ?h5b6 hH ?_
      case h5b6 => intro _ _; go_simp; try with_reducible rfl
      try simp only [ps]
      refine tk 6 (some 35) (.move (.tmp 0)) 142 (v := ?v6b7) rfl ?h6b7 hH ?_
      case h6b7 => intro _ _; go_simp; try with_reducible rfl
      try simp only [ps]
      refine tk 7 (some 36) (.nilCheck (.tmp 35)) 0 (v := ?v7b8) rfl ?h7b8 hH ?_
      case h7b8 => intro _ _; go_simp; try with_reducible rfl
      try simp only [ps]
      refine tk 8 (some 37) (.fieldAddr 99 (.tmp 36) 2) 0 (v := ?v8b9) rfl ?h8b9 hH ?_
      case h8b9 => intro _ _; go_simp; try with_reducible rfl
      try simp only [ps]
      refine tk 9 (some 38) (.load 3 (.tmp 37)) 3 (v := ?v9b10) rfl ?h9b10 hH ?_
      case h9b10 => intro _ _; go_simp; try with_reducible rfl
      try simp only [ps]
      refine tk 10 (some 39) (.index 9 (.tmp 34) (.tmp 38)) 5 (v := ?v10b11) rfl ?h10b11 hH ?_
      case h10b11 => intro _ _; go_simp; try with_reducible rfl
      try simp only [ps]
      refine tk 11 (some 40) (.binOp .sub 5 (.tmp 39) (.const (.int .u8 48)) 5) 5 (v := ?v11b12) rfl ?h11b12 hH ?_
      case h11b12 => intro _ _; go_simp; try with_reducible rfl
      try simp only [ps]
      refine tk 12 (some 41) (.convert 5 3 (.tmp 40)) 3 (v := ?v12b13) rfl ?h12b13 hH ?_
      case h12b13 => intro _ _; go_simp; try with_reducible rfl
      try simp only [ps]
      refine tk 13 (some 42) (.binOp .add 3 (.tmp 30) (.tmp 41) 3) 3 (v := ?v13b14) rfl ?h13b14 hH ?_
      case h13b14 => intro _ _; go_simp; try with_reducible rfl
      try simp only [ps]
      refine tk 14 (some 43) (.call { callee := .builtin .min, args := #[.tmp 42, .const (.int .i64 21)], argTypes := #[3, 3] }) 3 (v := ?v14b15) rfl ?h14b15 hH ?_
      case h14b15 => intro _ _; go_simp; try with_reducible rfl
      try simp only [ps]
      refine tk 15 (some 2) (.assign (.tmp 43)) 3 (v := ?v15b16) rfl ?h15b16 hH ?_
      case h15b16 => intro _ _; go_simp; try with_reducible rfl
      try simp only [ps]
      refine tk 16 (some 3) (.assign (.const (.bool true))) 4 (v := ?v16b17) rfl ?h16b17 hH ?_
      case h16b17 => intro _ _; go_simp; try with_reducible rfl
      try simp only [ps]
      refine wpAnyH_done (by kernel_rfl) ?_ _
      refine NoPanic.normal ?_
      go_wp2_with fail
      go_meet
      case rel => exact ⟨by congr 1; omega, rfl, KQ⟩
     case rest =>
      obtain ⟨rfl, rfl, k3⟩ := hcut
      rename World => W3
      have A3 : Hid (At W3 w1.heap.size (rng 48 57)) := A2.out.kp k3
      have R3 : Hid (Rd W3 P s ere j n g d) := R2.out.kp k3
      have K3 : Hid (Ks P w W3) := K2.out.kpt k3 hP
      clear k3 A2 R2 K2
      have p2 := R3.out.cells.2.2.1
      have fp2 := bl_frozen R3.out.b 2
      go_wp2_with fail
      go_roundg k
      case measure => omega
      case rel => exact ⟨_, true, j + 1, rfl, rfl, by omega, by omega, by omega, E.out, bl_set A3.out (by omega) _, R3.out.at (j + 1), K3.out.set 2 _⟩
   ·
    have hd2 : rng 48 57 b = false := by simpa using hd
    have HD := hid hd2
    clear hd2
    clear hd
    have E : Hid (pNum s i = (m, ok, j)) := by
     have := HP.out
     unfold pNumL at this
     rw [HB.out, HD.out, decide_eq_true hlt] at this
     exact this.symm
    go_upto_region 2 with fail
    go_cut [28] (fun v wc => v = .bool false ∧ Kp wr wc)
    case first =>
     have Q0 : Kp wr wr.drew := (Kp.refl _).drew
     have MK : Hid (∀ W, Kp wr W → W.cell? ⟨P, 0, none⟩ = some (.string s) ∧ W.cell? ⟨P, 2, none⟩ = some (.int .i64 (j : Int)) ∧ W.cell? ⟨w1.heap.size, 0, none⟩ = some (.int .u64 (wd (rng 48 57) 0 : Nat)) ∧ W.cell? ⟨w1.heap.size, 1, none⟩ = some (.int .u64 (wd (rng 48 57) 1 : Nat)) ∧ W.cell? ⟨w1.heap.size, 2, none⟩ = some (.int .u64 (wd (rng 48 57) 2 : Nat)) ∧ W.cell? ⟨w1.heap.size, 3, none⟩ = some (.int .u64 (wd (rng 48 57) 3 : Nat)) ∧ Hid (Kp wr W)) := fun W k => ⟨(R.out.kp k).cells.1, (R.out.kp k).cells.2.2.1, (A.out.kp k).cells.1, (A.out.kp k).cells.2.1, (A.out.kp k).cells.2.2.1, (A.out.kp k).cells.2.2.2, k⟩
     refine wp_region_noPanic ?_
     refine hdrew MK Q0 (fun hH => ?_)
     have KQ := Q0
     refine tk 0 (some 6) (.move (.tmp 0)) 142 (v := ?v0c1) rfl ?h0c1 hH ?_
     case h0c1 => intro _ _; go_simp; try with_reducible rfl
     try simp only [ps]
     refine tk 1 (some 7) (.nilCheck (.tmp 6)) 0 (v := ?v1c2) rfl ?h1c2 hH ?_
     case h1c2 => intro _ _; go_simp; try with_reducible rfl
     try simp only [ps]
     refine tk 2 (some 8) (.fieldAddr 99 (.tmp 7) 2) 0 (v := ?v2c3) rfl ?h2c3 hH ?_
     case h2c3 => intro _ _; go_simp; try with_reducible rfl
     try simp only [ps]
     refine tk 3 (some 9) (.load 3 (.tmp 8)) 3 (v := ?v3c4) rfl ?h3c4 hH ?_
     case h3c4 => intro _ _; go_simp; try with_reducible rfl
     try simp only [ps]
     refine tk 4 (some 10) (.move (.tmp 0)) 142 (v := ?v4c5) rfl ?h4c5 hH ?_
     case h4c5 => intro _ _; go_simp; try with_reducible rfl
     try simp only [ps]
     refine tk 5 (some 11) (.nilCheck (.tmp 10)) 0 (v := ?v5c6) rfl ?h5c6 hH ?_
     case h5c6 => intro _ _; go_simp; try with_reducible rfl
     try simp only [ps]
     refine tk 6 (some 12) (.fieldAddr 99 (.tmp 11) 0) 0 (v := ?v6c7) rfl ?h6c7 hH ?_
     case h6c7 => intro _ _; go_simp; try with_reducible rfl
     try simp only [ps]
     refine tk 7 (some 13) (.load 9 (.tmp 12)) 9 (v := ?v7c8) rfl ?h7c8 hH ?_
     case h7c8 => intro _ _; go_simp; try with_reducible rfl
     try simp only [ps]
     refine tk 8 (some 14) (.call { callee := .builtin .len, args := #[.tmp 13], argTypes := #[9] }) 3 (v := ?v8c9) rfl ?h8c9 hH ?_
     case h8c9 => intro _ _; go_simp; try with_reducible rfl
     try simp only [ps]
     refine tk 9 (some 15) (.binOp .lss 3 (.tmp 9) (.tmp 14) 3) 4 (v := ?v9c10) rfl ?h9c10 hH ?_
     case h9c10 => intro _ _; go_simp; try with_reducible rfl
     try simp only [ps]
     refine tk 10 (some 16) (.move (.tmp 15)) 4 (v := ?v10c11) rfl ?h10c11 hH ?_
     case h10c11 => intro _ _; go_simp; try with_reducible rfl
     try simp only [ps]
     refine tk 11 (some 17) (.load 24 (.tmp 4)) 24 (v := ?v11c12) rfl ?h11c12 hH ?_
     case h11c12 => intro _ _; go_simp; try with_reducible rfl
     try simp only [ps]
     refine tk 12 (some 18) (.move (.tmp 0)) 142 (v := ?v12c13) rfl ?h12c13 hH ?_
     case h12c13 => intro _ _; go_simp; try with_reducible rfl
     try simp only [ps]
     refine tk 13 (some 19) (.nilCheck (.tmp 18)) 0 (v := ?v13c14) rfl ?h13c14 hH ?_
     case h13c14 => intro _ _; go_simp; try with_reducible rfl
     try simp only [ps]
     refine tk 14 (some 20) (.fieldAddr 99 (.tmp 19) 0) 0 (v := ?v14c15) rfl ?h14c15 hH ?_
     case h14c15 => intro _ _; go_simp; try with_reducible rfl
     try simp only [ps]
     refine tk 15 (some 21) (.load 9 (.tmp 20)) 9 (v := ?v15c16) rfl ?h15c16 hH ?_
     case h15c16 => intro _ _; go_simp; try with_reducible rfl
     try simp only [ps]
     refine tk 16 (some 22) (.move (.tmp 0)) 142 (v := ?v16c17) rfl ?h16c17 hH ?_
     case h16c17 => intro _ _; go_simp; try with_reducible rfl
     try simp only [ps]
     refine tk 17 (some 23) (.nilCheck (.tmp 22)) 0 (v := ?v17c18) rfl ?h17c18 hH ?_
     case h17c18 => intro _ _; go_simp; try with_reducible rfl
     try simp only [ps]
     refine tk 18 (some 24) (.fieldAddr 99 (.tmp 23) 2) 0 (v := ?v18c19) rfl ?h18c19 hH ?_
     case h18c19 => intro _ _; go_simp; try with_reducible rfl
     try simp only [ps]
     refine tk 19 (some 25) (.load 3 (.tmp 24)) 3 (v := ?v19c20) rfl ?h19c20 hH ?_
     case h19c20 => intro _ _; go_simp; try with_reducible rfl
     try simp only [ps]
     refine tk 20 (some 26) (.index 9 (.tmp 21) (.tmp 25)) 5 (v := ?v20c21) rfl ?h20c21 hH ?_
     case h20c21 => intro _ _; go_simp; try with_reducible rfl
     try simp only [ps]
     refine wpAnyH_ready (rs := [21]) (by kernel_rfl) (by simp) ?_
     refine AllReadyH.cons (o := { dst := some 27, op := .call { callee := .value (.func 191), args := #[.tmp 17, .tmp 26], argTypes := #[24, 5] }, type := 4, pos := "parse.go:221", after := _, guard := some (10, true) }) rfl (fun K hKq => ?_) AllReadyH.nil
     go_simp
     refine (has_any (rng 48 57) b _ hb256).mono ?_
     rintro e y1 ⟨rfl, kq⟩
     rw [HD.out]
     refine hKq.out _ _ (MK.out _ (KQ.trans kq)) (fun hN => ?_)
     clear kq
     clear hKq K hH KQ
     have hH := hN
     clear hN
     have KQ := hH.2.2.2.2.2.2.out
     try simp only [ps]
     refine tk 22 (some 28) (.pick (.tmp 16) (.tmp 27) (.const (.bool false))) 4 (v := ?v22c22) rfl ?h22c22 hH ?_
     case h22c22 => intro _ _; go_simp; try with_reducible rfl
     try simp only [ps]
     refine wpAnyH_done (by kernel_rfl) ?_ _
     refine NoPanic.normal ?_
     go_wp2_with fail
     go_meet
     case rel => exact ⟨rfl, KQ⟩
    case rest =>
     obtain ⟨rfl, k2⟩ := hcut
     rename World => W2
     have R2 : Hid (Rd W2 P s ere j n g d) := R.out.kp k2
     have K2 : Hid (Ks P w W2) := K.out.kpt k2 hP
     clear k2 A R K
     go_wp2_with fail
     go_ret2
     exact ⟨by rw [E.out]; rfl, by rw [E.out]; exact R2.out, K2.out⟩
  ·
   have hli : ¬ (j : Int) < (s.size : Int) := by omega
   have E : Hid (pNum s i = (m, ok, j)) := by
    have := HP.out
    unfold pNumL at this
    rw [decide_eq_false hlt] at this
    exact this.symm
   go_upto_region 2 with fail
   go_cut [28] (fun v wc => v = .bool false ∧ Kp wr wc)
   case first =>
    have Q0 : Kp wr wr.drew := (Kp.refl _).drew
    have MK : Hid (∀ W, Kp wr W → W.cell? ⟨P, 0, none⟩ = some (.string s) ∧ W.cell? ⟨P, 2, none⟩ = some (.int .i64 (j : Int)) ∧ W.cell? ⟨w1.heap.size, 0, none⟩ = some (.int .u64 (wd (rng 48 57) 0 : Nat)) ∧ W.cell? ⟨w1.heap.size, 1, none⟩ = some (.int .u64 (wd (rng 48 57) 1 : Nat)) ∧ W.cell? ⟨w1.heap.size, 2, none⟩ = some (.int .u64 (wd (rng 48 57) 2 : Nat)) ∧ W.cell? ⟨w1.heap.size, 3, none⟩ = some (.int .u64 (wd (rng 48 57) 3 : Nat)) ∧ Hid (Kp wr W)) := fun W k => ⟨(R.out.kp k).cells.1, (R.out.kp k).cells.2.2.1, (A.out.kp k).cells.1, (A.out.kp k).cells.2.1, (A.out.kp k).cells.2.2.1, (A.out.kp k).cells.2.2.2, k⟩
    refine wp_region_noPanic ?_
    refine hdrew MK Q0 (fun hH => ?_)
    have KQ := Q0
    refine tk 0 (some 6) (.move (.tmp 0)) 142 (v := ?v0d1) rfl ?h0d1 hH ?_
    case h0d1 => intro _ _; go_simp; try with_reducible rfl
    try simp only [ps]
    refine tk 1 (some 7) (.nilCheck (.tmp 6)) 0 (v := ?v1d2) rfl ?h1d2 hH ?_
    case h1d2 => intro _ _; go_simp; try with_reducible rfl
    try simp only [ps]
    refine tk 2 (some 8) (.fieldAddr 99 (.tmp 7) 2) 0 (v := ?v2d3) rfl ?h2d3 hH ?_
    case h2d3 => intro _ _; go_simp; try with_reducible rfl
    try simp only [ps]
    refine tk 3 (some 9) (.load 3 (.tmp 8)) 3 (v := ?v3d4) rfl ?h3d4 hH ?_
    case h3d4 => intro _ _; go_simp; try with_reducible rfl
    try simp only [ps]
    refine tk 4 (some 10) (.move (.tmp 0)) 142 (v := ?v4d5) rfl ?h4d5 hH ?_
    case h4d5 => intro _ _; go_simp; try with_reducible rfl
    try simp only [ps]
    refine tk 5 (some 11) (.nilCheck (.tmp 10)) 0 (v := ?v5d6) rfl ?h5d6 hH ?_
    case h5d6 => intro _ _; go_simp; try with_reducible rfl
    try simp only [ps]
    refine tk 6 (some 12) (.fieldAddr 99 (.tmp 11) 0) 0 (v := ?v6d7) rfl ?h6d7 hH ?_
    case h6d7 => intro _ _; go_simp; try with_reducible rfl
    try simp only [ps]
    refine tk 7 (some 13) (.load 9 (.tmp 12)) 9 (v := ?v7d8) rfl ?h7d8 hH ?_
    case h7d8 => intro _ _; go_simp; try with_reducible rfl
    try simp only [ps]
    refine tk 8 (some 14) (.call { callee := .builtin .len, args := #[.tmp 13], argTypes := #[9] }) 3 (v := ?v8d9) rfl ?h8d9 hH ?_
    case h8d9 => intro _ _; go_simp; try with_reducible rfl
    try simp only [ps]
    refine tk 9 (some 15) (.binOp .lss 3 (.tmp 9) (.tmp 14) 3) 4 (v := ?v9d10) rfl ?h9d10 hH ?_
    case h9d10 => intro _ _; go_simp; try with_reducible rfl
    try simp only [ps]
    refine tk 10 (some 16) (.move (.tmp 15)) 4 (v := ?v10d11) rfl ?h10d11 hH ?_
    case h10d11 => intro _ _; go_simp; try with_reducible rfl
    try simp only [ps]
    refine tn 11 (some 17) (.load 24 (.tmp 4)) 24 rfl hH ?_
    try simp only [ps]
    refine tn 12 (some 18) (.move (.tmp 0)) 142 rfl hH ?_
    try simp only [ps]
    refine tn 13 (some 19) (.nilCheck (.tmp 18)) 0 rfl hH ?_
    try simp only [ps]
    refine tn 14 (some 20) (.fieldAddr 99 (.tmp 19) 0) 0 rfl hH ?_
    try simp only [ps]
    refine tn 15 (some 21) (.load 9 (.tmp 20)) 9 rfl hH ?_
    try simp only [ps]
    refine tn 16 (some 22) (.move (.tmp 0)) 142 rfl hH ?_
    try simp only [ps]
    refine tn 17 (some 23) (.nilCheck (.tmp 22)) 0 rfl hH ?_
    try simp only [ps]
    refine tn 18 (some 24) (.fieldAddr 99 (.tmp 23) 2) 0 rfl hH ?_
    try simp only [ps]
    refine tn 19 (some 25) (.load 3 (.tmp 24)) 3 rfl hH ?_
    try simp only [ps]
    refine tn 20 (some 26) (.index 9 (.tmp 21) (.tmp 25)) 5 rfl hH ?_
    try simp only [ps]
    refine tn 21 (some 27) (.call { callee := .value (.func 191), args := #[.tmp 17, .tmp 26], argTypes := #[24, 5] }) 4 rfl hH ?_
    try simp only [ps]
    refine tk 22 (some 28) (.pick (.tmp 16) (.tmp 27) (.const (.bool false))) 4 (v := ?v22d23) rfl ?h22d23 hH ?_
    case h22d23 => intro _ _; go_simp; try with_reducible rfl
    try simp only [ps]
    refine wpAnyH_done (by kernel_rfl) ?_ _
    refine NoPanic.normal ?_
    go_wp2_with fail
    go_meet
    case rel => exact ⟨rfl, KQ⟩
   case rest =>
    obtain ⟨rfl, k2⟩ := hcut
    rename World => W2
    have R2 : Hid (Rd W2 P s ere j n g d) := R.out.kp k2
    have K2 : Hid (Ks P w W2) := K.out.kpt k2 hP
    clear k2 A R K
    go_wp2_with fail
    go_ret2
    exact ⟨by rw [E.out]; rfl, by rw [E.out]; exact R2.out, K2.out⟩
set_option maxHeartbeats 2000000
set_option maxRecDepth 100000
open Go.RowKit
theorem pNumL_le (s : ByteArray) : ∀ f m ok i, i ≤ s.size → m ≤ 21 → i ≤ (pNumL s f m ok i).2.2 ∧ (pNumL s f m ok i).2.2 ≤ s.size ∧ (pNumL s f m ok i).1 ≤ 21
 | 0, m, ok, i, h, hm => by unfold pNumL; exact ⟨Nat.le_refl _, h, hm⟩
 | f + 1, m, ok, i, h, hm => by
  unfold pNumL
  split
  ·
   rename_i hc
   have hlt : i < s.size := by simp at hc; exact hc.1
   have := pNumL_le s f (min (10 * m + (ch s i - 48)) 21) true (i + 1) (by omega) (by omega)
   exact ⟨by omega, this.2.1, this.2.2⟩
  ·
   exact ⟨Nat.le_refl _, h, hm⟩
theorem pNum_le (s : ByteArray) (i : Nat) (h : i ≤ s.size) : i ≤ (pNum s i).2.2 ∧ (pNum s i).2.2 ≤ s.size ∧ (pNum s i).1 ≤ 21 := pNumL_le s _ 0 false i h (by omega)
theorem pHigh_le (s : ByteArray) (lo i : Nat) (h : i ≤ s.size) (hl : lo ≤ 21) : i ≤ (pHigh s lo i).2 ∧ (pHigh s lo i).2 ≤ s.size ∧ -1 ≤ (pHigh s lo i).1 ∧ (pHigh s lo i).1 ≤ 21 := by
 unfold pHigh
 split
 ·
  rename_i hp
  have h1 : i + 1 ≤ s.size := pfx_le hp h
  have := pNum_le s (i + 1) h1
  refine ⟨by show i ≤ (pNum s (i + 1)).2.2; omega, this.2.1, ?_, ?_⟩
  ·
   show -1 ≤ (if _ then _ else _ : Int)
   split <;> omega
  ·
   show (if _ then _ else _ : Int) ≤ 21
   split <;> omega
 ·
  exact ⟨Nat.le_refl _, h, by show (-1 : Int) ≤ (lo : Int); omega, by show (lo : Int) ≤ 21; omega⟩
structure RetI (w0 : World) (P : Nat) (s : ByteArray) (ere : Bool) (o : Option (Int × Int) × Nat) (n g d : Nat) (a b : Int) (ok : Bool) (w' : World) : Prop where
 eq : o.1 = if ok = true then some (a, b) else none
 rd : Rd w' P s ere o.2 n g d
 ks : Ks P w0 w'
structure RetIE (w0 : World) (P : Nat) (s : ByteArray) (ere : Bool) (o : Option (Int × Int) × Nat) (n g d : Nat) (e : Ending) (w' : World) : Prop where
 ex : ∃ a b ok, e = .returned (.tuple #[.int .i64 a, .int .i64 b, .bool ok]) ∧ RetI w0 P s ere o n g d a b ok w'
theorem interval_any (x y z : Nat) (s : ByteArray) (ere : Bool) (i n g d P : Nat) (w : World) (h : Rd w P s ere i n g d) (hi : i + z ≤ s.size) (hs : s.size ≤ 1000000) :
  Calls Tryz.prog 234 #[.pointer (some ⟨P, 0, none⟩), .agg #[.int .i64 (x : Int), .int .u8 (y : Int), .int .i64 (z : Int)]] w fun e w' => RetIE w P s ere (pInt s ere i z) n g d e w' := by
 have R : Hid (Rd w P s ere i n g d) := h
 have hP : P < w.heap.size := h.lt
 clear h
 have gw : IntKind.i64.wrap ((i : Int) + (z : Int)) = (i : Int) + (z : Int) := by rw [IntKind.wrap_i64]; omega
 obtain ⟨a, oka, ia, ha⟩ : ∃ a oka ia, pNum s (i + z) = (a, oka, ia) := ⟨_, _, _, rfl⟩
 have hle := pNum_le s (i + z) hi
 rw [ha] at hle
 obtain ⟨hle1, hle2, hle3⟩ := hle
 simp only at hle1 hle2 hle3
 have HA := hid ha
 clear ha
 go_enter Tryz.func234, Tryz.ntmps234
 go_upto_region 1 with fail
 refine opq (fun W0 => Rd W0 P s ere i n g d ∧ W0.heap[w.heap.size]? = some (sgo x y z) ∧ Kp w W0) ⟨by exact R.out.kp kpt, by (first | exact last_at _ _ _ (by simp) | (refine bl_alloc ?_ _; first | exact last_at _ _ _ (by simp) | (refine bl_alloc ?_ _; first | exact last_at _ _ _ (by simp) | (refine bl_alloc ?_ _; exact last_at _ _ _ (by simp))))), by exact kpt⟩ ?_
 rintro W0 ⟨xR0, xG0, xK0⟩
 have R0 := hidT xR0
 have G0 := hidT xG0
 have K0 := hidT xK0
 clear xR0 xG0 xK0
 have p2 := R0.out.cells.2.2.1
 clear R
 go_upto_region 2 with fail
 clear p2
 have ks0 : Hid (Ks P w W0) := K0.out.ks (Nat.le_of_lt hP)
 clear K0
 go_cut [] (fun wc => Rd wc P s ere (i + z) n g d ∧ Ks P w wc)
 case first =>
  have Q0 : Kp W0 W0.drew := (Kp.refl _).drew
  have MK : Hid (∀ W, Kp W0 W → W.cell? ⟨P, 2, none⟩ = some (.int .i64 (i : Int)) ∧ W.cell? ⟨w.heap.size, 2, none⟩ = some (.int .i64 (z : Int)) ∧ Hid (Kp W0 W)) := fun W k => ⟨(R0.out.kp k).cells.2.2.1, bl_cell (bl_kp G0.out k) 2 _ rfl, k⟩
  refine wp_region_noPanic ?_
  refine hdrewZ 9 MK Q0 (fun hH => ?_)
  have KQ := Q0
  refine zk 9 0 [] (some 13) (.move (.tmp 0)) 142 (v := ?v0a1) rfl ?h0a1 hH ?_
  case h0a1 => intro _ _; go_simp; try with_reducible rfl
  try simp only [ps]
  refine zk 9 1 [] (some 14) (.nilCheck (.tmp 13)) 0 (v := ?v1a2) rfl ?h1a2 hH ?_
  case h1a2 => intro _ _; go_simp; try with_reducible rfl
  try simp only [ps]
  refine zk 9 2 [] (some 15) (.fieldAddr 99 (.tmp 14) 2) 0 (v := ?v2a3) rfl ?h2a3 hH ?_
  case h2a3 => intro _ _; go_simp; try with_reducible rfl
  try simp only [ps]
  refine zk 9 3 [] (some 16) (.load 3 (.tmp 15)) 3 (v := ?v3a4) rfl ?h3a4 hH ?_
  case h3a4 => intro _ _; go_simp; try with_reducible rfl
  try simp only [ps]
  refine zk 9 4 [] (some 17) (.fieldAddr 173 (.tmp 3) 2) 0 (v := ?v4a5) rfl ?h4a5 hH ?_
  case h4a5 => intro _ _; go_simp; try with_reducible rfl
  try simp only [ps]
  refine zk 9 5 [] (some 18) (.load 3 (.tmp 17)) 3 (v := ?v5a6) rfl ?h5a6 hH ?_
  case h5a6 => intro _ _; go_simp; try with_reducible rfl
  try simp only [ps]
  refine zk 9 6 [] (some 19) (.binOp .add 3 (.tmp 16) (.tmp 18) 3) 3 (v := ?v6a7) rfl ?h6a7 hH ?_
  case h6a7 => intro _ _; go_simp; try with_reducible rfl
  try simp only [ps]
  refine zk 9 7 [8] (some 20) (.nilCheck (.tmp 13)) 0 (v := ?v7a8) rfl ?h7a8 hH ?_
  case h7a8 => intro _ _; go_simp; try with_reducible rfl
  try simp only [ps]
  refine zk 9 8 [] (some 21) (.fieldAddr 99 (.tmp 20) 2) 0 (v := ?v8a9) rfl ?h8a9 hH ?_
  case h8a9 => intro _ _; go_simp; try with_reducible rfl
  try simp only [ps]
  refine anyZ_ready (rs := [9]) (by kernel_rfl) (by simp) ?_
  refine AllZ.last (o := { dst := none, op := Op.store 3 (Operand.tmp 21) (Operand.tmp 19), type := 0, pos := "parse.go:196", after := _, guard := none }) rfl (Or.inl rfl) (fun K hKq => ?_) AllZ.nil
  have fq2 := bl_frozen (R0.out.kp KQ).b 2
  have cq2 := (R0.out.kp KQ).cells.2.2.1
  go_simp
  refine hKq.out _ _ ?_
  clear fq2 cq2
  clear hKq K
  try simp only [ps]
  refine anyZ_done (by kernel_rfl) ?_ _
  refine NoPanic.normal ?_
  go_wp2_with fail
  go_meet
  case rel => exact ⟨(R0.out.kp KQ).at (i + z), (ks0.out.kpt KQ hP).set 2 _⟩
 case rest =>
  obtain ⟨r1, k1⟩ := hcut
  rename World => W1
  have R1 := hid r1
  have K1 := hid k1
  clear r1 k1 R0 G0 ks0
  go_wp2_with fail
  refine (number_any s ere (i + z) n g d P _ R1.out hi hs).mono ?_
  rintro e W2 ⟨rfl, r2, k2⟩
  rw [HA.out] at r2 ⊢
  have R2 : Hid (Rd W2 P s ere ia n g d) := r2
  have K2 : Hid (Ks P w W2) := K1.out.trans k2
  clear r2 k2 R1 K1
  dsimp only
  cases oka with
  | false =>
   have E : Hid (pInt s ere i z = (none, ia)) := by show _ = _; unfold pInt; rw [HA.out]; rfl
   have p1 := R2.out.cells.2.1
   have FIN : Hid (RetIE w P s ere (pInt s ere i z) n g d (.returned (.tuple #[.int .i64 0, .int .i64 0, .bool false])) W2) := ⟨0, 0, false, rfl, by rw [E.out]; rfl, by rw [E.out]; exact R2.out, K2.out⟩
   cases ere with
   | true =>
    go_wp2_with fail
    go_ret3
    exact FIN.out
   | false =>
    go_wp2_with fail
    go_ret3
    exact FIN.out
  | true =>
   obtain ⟨hg, ih, hh⟩ : ∃ hg ih, pHigh s a ia = (hg, ih) := ⟨_, _, rfl⟩
   have hle := pHigh_le s a ia hle2 hle3
   rw [hh] at hle
   obtain ⟨hle4, hle5, hle6, hle7⟩ := hle
   simp only at hle4 hle5 hle6 hle7
   have HH := hid hh
   clear hh
   obtain ⟨q, hq⟩ : ∃ q, pfx s ia [44] = q := ⟨_, rfl⟩
   have T1 : Hid (∀ w, Rd w P s ere ia n g d → Calls Tryz.prog 248 #[.pointer (some ⟨P, 0, none⟩), .string ⟨#[44]⟩] w fun e w' => e = .returned (.bool q) ∧ Rd w' P s ere (if q then ia + 1 else ia) n g d ∧ Ks P w w') := by
    intro w h
    have := takes_any ⟨#[44]⟩ s ere ia n g d P w h hle2 hs
    rw [show (⟨#[44]⟩ : ByteArray).data.toList = [44] from rfl, hq] at this
    exact this
   have HQ := hid hq
   have hq1 : q = true → ia + 1 ≤ s.size := fun h => by rw [h] at hq; exact pfx_le hq hle2
   have HQ1 := hid hq1
   clear hq hq1
   go_wp2_with fail
   refine (T1.out _ R2.out).mono ?_
   rintro e W3 ⟨rfl, r3, k3⟩
   have R3 := hid r3
   have K3 : Hid (Ks P w W3) := K2.out.trans k3
   clear r3 k3 R2 K2
   go_upto_if 32 with fail
   go_cut [5, 6] (fun h o wc => h = .int .i64 hg ∧ o = .bool true ∧ Rd wc P s ere ih n g d ∧ Ks P w wc)
   case first =>
    cases q with
    | false =>
     have E : Hid (hg = (a : Int) ∧ ih = ia) := by
      have := HH.out
      unfold pHigh at this
      rw [HQ.out] at this
      injection this with h1 h2
      exact ⟨h1.symm, h2.symm⟩
     go_wp2_with fail
     go_meet
     case rel => exact ⟨by rw [E.out.1], rfl, by rw [E.out.2]; exact R3.out, K3.out⟩
    | true =>
     obtain ⟨b, okb, ib, hb⟩ : ∃ b okb ib, pNum s (ia + 1) = (b, okb, ib) := ⟨_, _, _, rfl⟩
     have HB := hid hb
     clear hb
     have E : Hid (hg = (if okb then (b : Int) else -1) ∧ ih = ib) := by
      have := HH.out
      unfold pHigh at this
      rw [HQ.out, HB.out] at this
      injection this with h1 h2
      exact ⟨h1.symm, h2.symm⟩
     go_wp2_with fail
     refine (number_any s ere (ia + 1) n g d P _ R3.out (HQ1.out (by trivial)) hs).mono ?_
     rintro e W4 ⟨rfl, r4, k4⟩
     rw [HB.out] at r4 ⊢
     have R4 : Hid (Rd W4 P s ere ib n g d) := r4
     have K4 : Hid (Ks P w W4) := K3.out.trans k4
     clear r4 k4 R3 K3
     dsimp only
     cases okb with
     | false =>
      go_wp2_with fail
      go_meet
      case rel => exact ⟨by rw [E.out.1]; rfl, rfl, by rw [E.out.2]; exact R4.out, K4.out⟩
     | true =>
      go_wp2_with fail
      go_meet
      case rel => exact ⟨by rw [E.out.1]; rfl, rfl, by rw [E.out.2]; exact R4.out, K4.out⟩
   case rest =>
    obtain ⟨rfl, rfl, r5, k5⟩ := hcut
    rename World => W5
    have R5 := hid r5
    have K5 := hid k5
    clear r5 k5 R3 K3 T1 HQ HQ1
    have p1 := R5.out.cells.2.1
    obtain ⟨q2, hq2⟩ : ∃ q2, pfx s ih (closeB ere) = q2 := ⟨_, rfl⟩
    have HQ2 := hid hq2
    clear hq2
    obtain ⟨tf, htf⟩ : ∃ tf, timesFit (a : Int) hg = tf := ⟨_, rfl⟩
    have HT := hid htf
    clear htf
    have E : Hid (pInt s ere i z = if q2 then (if tf then (some ((a : Int), hg), ih + (closeB ere).length) else (none, i)) else (none, ih)) := by
     show _ = _
     unfold pInt
     rw [HA.out]
     simp only [HH.out, HQ2.out, HT.out, if_true]
    cases ere with
    | true =>
     go_wp2_with fail
     refine (takes_any ⟨#[125]⟩ s true ih n g d P _ R5.out hle5 hs).mono ?_
     rintro e W6 ⟨rfl, r6, k6⟩
     rw [show pfx s ih (⟨#[125]⟩ : ByteArray).data.toList = q2 from HQ2.out] at r6 ⊢
     have K6 : Hid (Ks P w W6) := K5.out.trans k6
     cases q2 with
     | false =>
      have R6 : Hid (Rd W6 P s true ih n g d) := r6
      clear r6 k6 p1 R5 K5
      go_wp2_with fail
      go_ret3
      exact ⟨0, 0, false, rfl, by rw [E.out]; rfl, by rw [E.out]; exact R6.out, K6.out⟩
     | true =>
      have R6 : Hid (Rd W6 P s true (ih + 1) n g d) := r6
      clear r6 k6 p1 R5 K5
      go_wp2_with fail
      refine (timesFit_any (a : Int) hg _).mono ?_
      rintro e W6 ⟨rfl, rfl⟩
      rw [HT.out]
      cases tf with
      | false =>
       have p2 := R6.out.cells.2.2.1
       have fp2 := bl_frozen R6.out.b 2
       go_wp2_with fail
       go_ret3
       exact ⟨0, 0, false, rfl, by rw [E.out]; rfl, by rw [E.out]; exact R6.out.at i, K6.out.set 2 _⟩
      | true =>
       go_wp2_with fail
       go_ret3
       exact ⟨_, _, true, rfl, by rw [E.out]; rfl, by rw [E.out]; exact R6.out, K6.out⟩
    | false =>
     go_wp2_with fail
     refine (takes_any ⟨#[92, 125]⟩ s false ih n g d P _ R5.out hle5 hs).mono ?_
     rintro e W6 ⟨rfl, r6, k6⟩
     rw [show pfx s ih (⟨#[92, 125]⟩ : ByteArray).data.toList = q2 from HQ2.out] at r6 ⊢
     have K6 : Hid (Ks P w W6) := K5.out.trans k6
     cases q2 with
     | false =>
      have R6 : Hid (Rd W6 P s false ih n g d) := r6
      clear r6 k6 p1 R5 K5
      go_wp2_with fail
      go_ret3
      exact ⟨0, 0, false, rfl, by rw [E.out]; rfl, by rw [E.out]; exact R6.out, K6.out⟩
     | true =>
      have R6 : Hid (Rd W6 P s false (ih + 2) n g d) := r6
      clear r6 k6 p1 R5 K5
      go_wp2_with fail
      refine (timesFit_any (a : Int) hg _).mono ?_
      rintro e W6 ⟨rfl, rfl⟩
      rw [HT.out]
      cases tf with
      | false =>
       have p2 := R6.out.cells.2.2.1
       have fp2 := bl_frozen R6.out.b 2
       go_wp2_with fail
       go_ret3
       exact ⟨0, 0, false, rfl, by rw [E.out]; rfl, by rw [E.out]; exact R6.out.at i, K6.out.set 2 _⟩
      | true =>
       go_wp2_with fail
       go_ret3
       exact ⟨_, _, true, rfl, by rw [E.out]; rfl, by rw [E.out]; exact R6.out, K6.out⟩
end Go.Proofs.YtigdmebijbaofaaGreatDoor
