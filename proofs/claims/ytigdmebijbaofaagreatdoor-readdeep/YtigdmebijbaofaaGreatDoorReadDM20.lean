/-
  Texts of this claim: Sound, KSame, SameEq, Talk, Cm0.
-/
import Derived.Test.YtigdmebijbaofaaGreatDoorReadDM4
import Derived.Test.YtigdmebijbaofaaGreatDoorReadDM19
import Derived.Test.YtigdmebijbaofaaGreatDoorReadDM16
import Derived.Test.YtigdmebijbaofaaGreatDoorReadDM9
import Derived.Test.YtigdmebijbaofaaGreatDoorReadDM12
import Derived.Test.YtigdmebijbaofaaGreatDoorReadDM6
/-! ### Sound -/
namespace Go.Proofs.YtigdmebijbaofaaGreatDoor.Sound
open Go Go.Proofs.YtigdmebijbaofaaGreatDoor
theorem sgn_b (s : ByteArray) (ere : Bool) (i : Nat) : (sgn s ere i).2.1 < 256 := by
 unfold sgn
 split
 ·
  decide
 split
 ·
  unfold quoted
  split
  ·
   decide
  ·
   have hb := ch_lt (s.extract (i + 1) s.size) 0
   unfold qs
   repeat' split
   all_goals (first | decide | exact hb)
 ·
  exact ch_lt s i
theorem sgn_six (s : ByteArray) (i : Nat) (h : (sgn s false i).1 = 6) : (sgn s false i).2.2 = 1 := by
 unfold sgn at h ⊢
 split at h
 ·
  exact absurd h (by decide)
 split at h
 ·
  exfalso
  unfold quoted at h
  split at h
  ·
   exact absurd h (by decide)
  ·
   unfold qs framing at h
   revert h
   repeat' split
   all_goals (intro h; dsimp only at h; first | omega | simp_all)
 ·
  rename_i h1 h2
  rw [if_neg h1, if_neg h2]
theorem sgn_nine (s : ByteArray) (ere : Bool) (i : Nat) (h : (sgn s ere i).1 = 9) : ere = true := by
 cases ere with
 | true => rfl
 | false =>
  exfalso
  unfold sgn at h
  split at h
  ·
   exact absurd h (by decide)
  split at h
  ·
   unfold quoted at h
   split at h
   ·
    exact absurd h (by decide)
   ·
    unfold qs framing at h
    revert h
    repeat' split
    all_goals (intro h; dsimp only at h; first | omega | simp_all)
  ·
   unfold bare at h
   revert h
   repeat' split
   all_goals (intro h; dsimp only at h; first | omega | simp_all)
structure CkP (ere : Bool) (d : Nat) (r : Rx) (g g' : Nat) : Prop where
 k2 : r.k ≠ 2
 k3 : r.k ≠ 3
 ok : RxOk r
 chk : ∀ b e, (ere = false → r.k = 7 → b = true) → (ere = false → r.k = 8 → e = true) → ∀ n, n + nds r ≤ 40 → chk ere r b e ⟨n, g, d⟩ = some ⟨n + nds r, g', d⟩
structure PS (ere : Bool) (t : St) (o : Out) : Prop where
 n : t.n ≤ o.st.n
 g : t.g ≤ o.st.g
 d : o.st.d = t.d
 ok : o.st.n ≤ 40 → o.st.g ≤ 3 → CkP ere t.d o.r t.g o.st.g ∧ o.st.n = t.n + nds o.r
structure CR (ere : Bool) (t : St) (o : Out) : Prop where
 n : t.n ≤ o.st.n
 g : t.g ≤ o.st.g
 d : o.st.d = t.d
 ok : o.st.n ≤ 40 → o.st.g ≤ 3 → RxOk o.r ∧ o.st.n = t.n + nds o.r ∧ ∀ n, n + nds o.r ≤ 40 → chk ere o.r true true ⟨n, t.g, t.d⟩ = some ⟨n + nds o.r, o.st.g, t.d⟩
structure CS (c : St → Out) (s : ByteArray) (ere : Bool) : Prop where
 all : ∀ t, Inv s t → (c t).e = 0 → CR ere t (c t)
theorem PS.take {ere : Bool} {t : St} (r : Rx) (sz : Nat) (h : t.g ≤ 3 → CkP ere t.d r t.g t.g) (hn : nds r = 1) : PS ere t (pTake sz r t) :=
 ⟨by show t.n ≤ t.n + 1; omega, Nat.le_refl _, rfl, fun _ hg => ⟨h hg, by show t.n + 1 = t.n + nds r; rw [hn]⟩⟩
theorem set_p (ere : Bool) (q : Nat → Bool) (d g : Nat) (hq : 0 < cnt q 256) (hg : g ≤ 3) : CkP ere d (rset q) g g := by
 have h := Trip.set_good ere q hq d g hg
 exact ⟨h.k2, h.k3, h.ok, fun b e _ _ n hn => h.chk b e n hn⟩
theorem leaf_p7 (ere : Bool) (d g : Nat) : CkP ere d (.mk 7 0 0 0 W4.z []) g g := by
 refine ⟨by show (7 : Int) ≠ 2; decide, by show (7 : Int) ≠ 3; decide, Trip.leaf_ok 7, fun b e hb _ n hn => ?_⟩
 rw [Trip.nds0] at hn ⊢
 rw [Go.Proofs.YtigdmebijbaofaaGreatDoor.chk]
 have hl : leanB (.mk 7 0 0 0 W4.z []) = true := rfl
 rw [if_neg (by rw [hl]; simp; omega), if_neg (by decide), if_neg (by decide), if_neg (by decide), if_neg (by decide), if_neg (by decide), if_neg (by decide), if_pos rfl, if_pos ?_]
 cases ere with
 | true => rfl
 | false => rw [hb rfl rfl]; rfl
theorem leaf_p8 (ere : Bool) (d g : Nat) : CkP ere d (.mk 8 0 0 0 W4.z []) g g := by
 refine ⟨by show (8 : Int) ≠ 2; decide, by show (8 : Int) ≠ 3; decide, Trip.leaf_ok 8, fun b e _ he n hn => ?_⟩
 rw [Trip.nds0] at hn ⊢
 rw [Go.Proofs.YtigdmebijbaofaaGreatDoor.chk]
 have hl : leanB (.mk 8 0 0 0 W4.z []) = true := rfl
 rw [if_neg (by rw [hl]; simp; omega), if_neg (by decide), if_neg (by decide), if_neg (by decide), if_neg (by decide), if_neg (by decide), if_neg (by decide), if_neg (by decide), if_pos rfl, if_pos ?_]
 cases ere with
 | true => rfl
 | false => rw [he rfl rfl]; rfl
theorem grp_p (ere : Bool) (R : Rx) (d g g' : Nat) (hd : d ≠ 6) (hg : g + 1 ≤ 3) (hk : RxOk R) (h : ∀ n, n + nds R ≤ 40 → chk ere R true true ⟨n, g + 1, d + 1⟩ = some ⟨n + nds R, g', d + 1⟩) : CkP ere d (.mk 5 0 0 ((g + 1 : Nat) : Int) W4.z [R]) g g' := by
 refine ⟨by show (5 : Int) ≠ 2; decide, by show (5 : Int) ≠ 3; decide, ?_, fun b e _ _ m hm => ?_⟩
 ·
  unfold RxOk
  exact ⟨by simp, Trip.z_lt, fun a ha => by
   obtain rfl : a = R := by simpa using ha
   exact hk⟩
 ·
  rw [Trip.nds1] at hm ⊢
  rw [Go.Proofs.YtigdmebijbaofaaGreatDoor.chk]
  have hl : leanB (.mk 5 0 0 ((g + 1 : Nat) : Int) W4.z [R]) = true := rfl
  rw [if_neg (by rw [hl]; simp; omega), if_neg (by decide), if_neg (by decide), if_neg (by decide), if_neg (by decide), if_pos rfl, if_neg (by simp; omega)]
  rw [chkGroup]
  have := h (m + 1) (by omega)
  rw [this]
  show some (Ck.mk (m + 1 + nds R) g' (d + 1 - 1)) = _
  rw [show m + 1 + nds R = m + (1 + nds R) by omega, show d + 1 - 1 = d by omega]
theorem rep_p (ere : Bool) (X : Rx) (lo hi : Int) (d g g' : Nat) (h : CkP ere d X g g') (hk : mayRep X.k = true) (ht : timesFit lo hi = true) : CkP ere d (rrep lo hi X) g g' := by
 unfold rrep
 refine ⟨by show (4 : Int) ≠ 2; decide, by show (4 : Int) ≠ 3; decide, ?_, fun b e _ _ m hm => ?_⟩
 ·
  unfold RxOk
  exact ⟨by simp, Trip.z_lt, fun a ha => by
   obtain rfl : a = X := by simpa using ha
   exact h.ok⟩
 ·
  have n7 : X.k ≠ 7 := by intro e; rw [e] at hk; exact absurd hk (by decide)
  have n8 : X.k ≠ 8 := by intro e; rw [e] at hk; exact absurd hk (by decide)
  rw [Trip.nds1] at hm ⊢
  rw [Go.Proofs.YtigdmebijbaofaaGreatDoor.chk]
  have hl : leanB (.mk 4 lo hi 0 W4.z [X]) = true := rfl
  rw [if_neg (by rw [hl]; simp; omega), if_neg (by decide), if_neg (by decide), if_neg (by decide), if_pos rfl, if_pos ht, chkRep, if_pos hk, h.chk false false (fun _ e => absurd e n7) (fun _ e => absurd e n8) (m + 1) (by omega)]
  rw [show m + 1 + nds X = m + (1 + nds X) by omega]
theorem one_byte (b : Nat) (hb : b < 256) : 0 < cnt (addB (fun _ => false) b) 256 := cnt_pos _ b hb (by unfold addB; simp)
structure One (ere : Bool) (k sz : Nat) (t : St) (o : Out) : Prop where
 ps : PS ere t o
 k7 : o.r.k = 7 → k = 5
 k8 : o.r.k = 8 → k = 6 ∧ o.st.i = t.i + sz
theorem pOne_s {c : St → Out} {s : ByteArray} {ere : Bool} {k b sz : Nat} {t : St} (hc : CS c s ere) (h : Inv s t) (hb : b < 256) (h1 : t.i + sz ≤ s.size) (h2 : k ≠ 1 → k ≠ 0 → 1 ≤ sz) (he : (pOne c s ere k b sz t).e = 0) : One ere k sz t (pOne c s ere k b sz t) := by
 have hn := h.n
 have hgi := h.g
 unfold pOne at he ⊢
 by_cases c2 : k = 2
 ·
  rw [if_pos c2] at he ⊢
  exact ⟨PS.take _ _ (fun hg => set_p ere _ t.d t.g (one_byte b hb) hg) (Trip.nds0 _ _ _ _ _), fun e => absurd e (by show ¬(1 : Int) = 7; decide), fun e => absurd e (by show ¬(1 : Int) = 8; decide)⟩
 rw [if_neg c2] at he ⊢
 by_cases c3 : k = 3
 ·
  rw [if_pos c3] at he ⊢
  exact ⟨PS.take _ _ (fun hg => set_p ere _ t.d t.g (cnt_pos _ 97 (by omega) rfl) hg) (Trip.nds0 _ _ _ _ _), fun e => absurd e (by show ¬(1 : Int) = 7; decide), fun e => absurd e (by show ¬(1 : Int) = 8; decide)⟩
 rw [if_neg c3] at he ⊢
 by_cases c5 : k = 5
 ·
  rw [if_pos c5] at he ⊢
  exact ⟨PS.take _ _ (fun _ => leaf_p7 ere t.d t.g) (Trip.nds0 _ _ _ _ _), fun _ => c5, fun e => absurd e (by show ¬(7 : Int) = 8; decide)⟩
 rw [if_neg c5] at he ⊢
 by_cases c6 : k = 6
 ·
  rw [if_pos c6] at he ⊢
  exact ⟨PS.take _ _ (fun _ => leaf_p8 ere t.d t.g) (Trip.nds0 _ _ _ _ _), fun e => absurd e (by show ¬(8 : Int) = 7; decide), fun _ => ⟨c6, rfl⟩⟩
 rw [if_neg c6] at he ⊢
 by_cases c14 : k = 14
 ·
  rw [if_pos c14] at he ⊢
  unfold pBack at he ⊢
  by_cases hx : b < 49 ∨ t.g + 48 < b
  ·
   rw [if_pos hx] at he; exact absurd he (by show ¬(1 : Nat) = 0; decide)
  rw [if_neg hx]
  refine ⟨PS.take _ _ (fun hg => ?_) (Trip.nds0 _ _ _ _ _), fun e => absurd e (by show ¬(6 : Int) = 7; decide), fun e => absurd e (by show ¬(6 : Int) = 8; decide)⟩
  have hg' := Trip.back_good ere (b - 48) t.d t.g hg (by omega) (by omega)
  rw [show (((b - 48 : Nat)) : Int) = (b : Int) - 48 by omega] at hg'
  exact ⟨hg'.k2, hg'.k3, hg'.ok, fun b e _ _ n hn => hg'.chk b e n hn⟩
 rw [if_neg c14] at he ⊢
 by_cases c4 : k = 4
 ·
  rw [if_pos c4] at he ⊢
  unfold pBracket at he ⊢
  split at he
  ·
   exact absurd he (by show ¬(1 : Nat) = 0; decide)
  ·
   rename_i p j hj
   dsimp only at he ⊢
   generalize (if bTurn s t.i then notB p else p) = q at he ⊢
   by_cases hq : cnt q 256 = 0
   ·
    rw [if_pos hq] at he; exact absurd he (by show ¬(1 : Nat) = 0; decide)
   ·
    rw [if_neg hq]
    refine ⟨⟨by show t.n ≤ t.n + 1; omega, Nat.le_refl _, rfl, fun _ hg => ⟨set_p ere q t.d t.g (by omega) hg, ?_⟩⟩, fun e => absurd e (by show ¬(1 : Int) = 7; decide), fun e => absurd e (by show ¬(1 : Int) = 8; decide)⟩
    show t.n + 1 = t.n + nds (rset q)
    unfold rset
    rw [Trip.nds0]
 rw [if_neg c4] at he ⊢
 by_cases c7 : k = 7
 ·
  rw [if_pos c7] at he ⊢
  have hsz := h2 (by omega) (by omega)
  unfold pGroup at he ⊢
  by_cases hd : t.d = 6
  ·
   rw [if_pos hd] at he; exact absurd he (by show ¬(2 : Nat) = 0; decide)
  rw [if_neg hd] at he ⊢
  dsimp only at he ⊢
  have hi : Inv s ⟨t.i + sz, t.n, t.g + 1, t.d + 1⟩ := ⟨h1, by show t.n ≤ 3 * (t.i + sz) + 1; omega, by show t.g + 1 ≤ t.i + sz; omega⟩
  have hs := hc.all _ hi
  obtain ⟨o, hoo⟩ : ∃ o, c ⟨t.i + sz, t.n, t.g + 1, t.d + 1⟩ = o := ⟨_, rfl⟩
  rw [hoo] at hs he ⊢
  by_cases hoe : o.e ≠ 0
  ·
   rw [if_pos hoe] at he; exact absurd he hoe
  rw [if_neg hoe] at he ⊢
  have hs := hs (by omega)
  by_cases h8 : (sgn s ere o.st.i).1 ≠ 8
  ·
   rw [if_pos h8] at he; exact absurd he (by show ¬(1 : Nat) = 0; decide)
  rw [if_neg h8] at he ⊢
  have hsn := hs.n
  have hsg := hs.g
  have hsd := hs.d
  simp only at hsn hsg hsd
  refine ⟨⟨by show t.n ≤ o.st.n + 1; omega, by show t.g ≤ o.st.g; omega, by show o.st.d - 1 = t.d; omega, fun hN hG => ?_⟩, fun e => absurd e (by show ¬(5 : Int) = 7; decide), fun e => absurd e (by show ¬(5 : Int) = 8; decide)⟩
  have hN' : o.st.n + 1 ≤ 40 := hN
  have hG' : o.st.g ≤ 3 := hG
  obtain ⟨i1, i2, i3⟩ := hs.ok (by omega) hG'
  refine ⟨grp_p ere o.r t.d t.g o.st.g hd (by omega) i1 i3, ?_⟩
  show o.st.n + 1 = t.n + nds (.mk 5 0 0 ((t.g + 1 : Nat) : Int) W4.z [o.r])
  rw [Trip.nds1]
  simp only at i2
  omega
 rw [if_neg c7] at he
 exact absurd he (by show ¬(1 : Nat) = 0; decide)
theorem PS.rep {ere : Bool} {t t1 t2 : St} {r : Rx} {lo hi : Int} (h : PS ere t ⟨r, 0, t1⟩) (hk : mayRep r.k = true) (ht : timesFit lo hi = true) (hn : t2.n = t1.n + 1) (hg : t2.g = t1.g) (hd : t2.d = t1.d) : PS ere t ⟨rrep lo hi r, 0, t2⟩ := by
 have h1 : t.n ≤ t1.n := h.n
 have h2 : t.g ≤ t1.g := h.g
 have h3 : t1.d = t.d := h.d
 refine ⟨by show t.n ≤ t2.n; omega, by show t.g ≤ t2.g; omega, by show t2.d = t.d; omega, fun hN hG => ?_⟩
 have hN' : t2.n ≤ 40 := hN
 have hG' : t2.g ≤ 3 := hG
 obtain ⟨i1, i2⟩ := h.ok (by show t1.n ≤ 40; omega) (by show t1.g ≤ 3; omega)
 have i1 : CkP ere t.d r t.g t1.g := i1
 have i2 : t1.n = t.n + nds r := i2
 show CkP ere t.d (rrep lo hi r) t.g t2.g ∧ t2.n = t.n + nds (rrep lo hi r)
 rw [hg]
 refine ⟨rep_p ere r lo hi t.d t.g t1.g i1 hk ht, ?_⟩
 unfold rrep
 rw [Trip.nds1]
 omega
theorem pInt_fit {s : ByteArray} {ere : Bool} {i z : Nat} {a b : Int} {j : Nat} (he : pInt s ere i z = (some (a, b), j)) : timesFit a b = true := by
 unfold pInt at he
 dsimp only at he
 split at he
 ·
  split at he
  ·
   split at he
   ·
    rename_i ht
    injection he with hx _
    injection hx with hx
    injection hx with h1 h2
    rw [← h1, ← h2]
    exact ht
   ·
    injection he with hx _; cases hx
  ·
   injection he with hx _; cases hx
 ·
  injection he with hx _; cases hx
theorem pRep_s {s : ByteArray} {ere : Bool} {r : Rx} {t t1 : St} (h : PS ere t ⟨r, 0, t1⟩) (hk : mayRep r.k = true) (he : (pRep s ere r t1).e = 0) : PS ere t (pRep s ere r t1) ∧ (pRep s ere r t1).r.k ≠ 7 ∧ (pRep s ere r t1).r.k ≠ 8 := by
 have n7 : r.k ≠ 7 := by intro e; rw [e] at hk; exact absurd hk (by decide)
 have n8 : r.k ≠ 8 := by intro e; rw [e] at hk; exact absurd hk (by decide)
 unfold pRep at he ⊢
 dsimp only at he ⊢
 by_cases c1 : (sgn s ere t1.i).1 = 10
 ·
  rw [if_pos c1]
  exact ⟨h.rep hk (by decide) rfl rfl rfl, by show (4 : Int) ≠ 7; decide, by show (4 : Int) ≠ 8; decide⟩
 rw [if_neg c1] at he ⊢
 by_cases c2 : (sgn s ere t1.i).1 = 11
 ·
  rw [if_pos c2]
  exact ⟨h.rep hk (by decide) rfl rfl rfl, by show (4 : Int) ≠ 7; decide, by show (4 : Int) ≠ 8; decide⟩
 rw [if_neg c2] at he ⊢
 by_cases c3 : (sgn s ere t1.i).1 = 12
 ·
  rw [if_pos c3]
  exact ⟨h.rep hk (by decide) rfl rfl rfl, by show (4 : Int) ≠ 7; decide, by show (4 : Int) ≠ 8; decide⟩
 rw [if_neg c3] at he ⊢
 by_cases c4 : (sgn s ere t1.i).1 = 13
 ·
  rw [if_pos c4] at he ⊢
  split at he
  ·
   exact absurd he (by show ¬(1 : Nat) = 0; decide)
  ·
   rename_i a b j hj
   exact ⟨h.rep hk (pInt_fit hj) rfl rfl rfl, by show (4 : Int) ≠ 7; decide, by show (4 : Int) ≠ 8; decide⟩
 rw [if_neg c4]
 exact ⟨h, n7, n8⟩
structure Part (s : ByteArray) (ere : Bool) (began : Nat) (t : St) (o : Out) : Prop where
 ps : PS ere t o
 k7 : ere = false → o.r.k = 7 → t.i = began
 k8 : ere = false → o.r.k = 8 → ends (sgn s ere o.st.i).1 = true
theorem sgnIn_b (s : ByteArray) (ere : Bool) (began i : Nat) : (sgnIn s ere began i).2.1 < 256 := by
 have := sgn_b s ere i
 unfold sgnIn
 dsimp only
 split
 ·
  exact this
 ·
  split <;> exact this
theorem pPart_s {c : St → Out} {s : ByteArray} {ere : Bool} {began : Nat} {t : St} (hc : CS c s ere) (h : Inv s t) (he : (pPart c s ere began t).e = 0) : Part s ere began t (pPart c s ere began t) := by
 have hz := sgnIn_sz s ere began t.i h.i
 have key : (pOne c s ere (sgnIn s ere began t.i).1 (sgnIn s ere began t.i).2.1 (sgnIn s ere began t.i).2.2 t).e = 0 → One ere (sgnIn s ere began t.i).1 (sgnIn s ere began t.i).2.2 t (pOne c s ere (sgnIn s ere began t.i).1 (sgnIn s ere began t.i).2.1 (sgnIn s ere began t.i).2.2 t) := pOne_s hc h (sgnIn_b s ere began t.i) hz.1 hz.2.2
 unfold pPart at he ⊢
 dsimp only at he ⊢
 obtain ⟨o, ho⟩ : ∃ o, pOne c s ere (sgnIn s ere began t.i).1 (sgnIn s ere began t.i).2.1 (sgnIn s ere began t.i).2.2 t = o := ⟨_, rfl⟩
 rw [ho] at key he ⊢
 by_cases hm : o.e ≠ 0 ∨ mayRep o.r.k = false
 ·
  rw [if_pos hm] at he ⊢
  have k := key he
  refine ⟨k.ps, fun hE h7 => ?_, fun hE h8 => ?_⟩
  ·
   have h5 := k.k7 h7
   subst hE
   unfold sgnIn at h5
   dsimp only at h5
   rw [if_neg (by decide)] at h5
   split at h5
   ·
    exact absurd h5 (by show ¬(2 : Nat) = 5; decide)
   ·
    rename_i hp
    rw [h5] at hp
    unfold plainIn at hp
    rw [if_neg (by decide), if_pos rfl] at hp
    simpa using hp
  ·
   obtain ⟨h6, hi⟩ := k.k8 h8
   subst hE
   rw [hi]
   unfold sgnIn at h6 ⊢
   dsimp only at h6 ⊢
   rw [if_neg (by decide)] at h6 ⊢
   split at h6
   ·
    exact absurd h6 (by show ¬(2 : Nat) = 6; decide)
   ·
    rename_i hp
    rw [if_neg hp]
    rw [h6] at hp
    unfold plainIn at hp
    rw [if_neg (by decide), if_neg (by decide), if_pos rfl] at hp
    dsimp only at hp
    rw [sgn_six s t.i h6]
    unfold ends
    by_cases e1 : (sgn s false (t.i + 1)).1 = 1
    ·
     rw [e1]; rfl
    ·
     by_cases e8 : (sgn s false (t.i + 1)).1 = 8
     ·
      rw [e8]; rfl
     ·
      exfalso; apply hp; simp [e1, e8]
 ·
  rw [if_neg hm] at he ⊢
  have he0 : o.e = 0 := by
   rcases Nat.eq_zero_or_pos o.e with h | h
   ·
    exact h
   ·
    exact absurd (Or.inl (by omega)) hm
  have hmr : mayRep o.r.k = true := by
   cases hk : mayRep o.r.k with
   | true => rfl
   | false => exact absurd (Or.inr hk) hm
  have k := (key he0).ps
  have k' : PS ere t ⟨o.r, 0, o.st⟩ := ⟨k.n, k.g, k.d, k.ok⟩
  obtain ⟨a1, a2, a3⟩ := pRep_s (s := s) k' hmr he
  exact ⟨a1, fun _ e => absurd e a2, fun _ e => absurd e a3⟩
inductive LS (ere : Bool) (d : Nat) : List Rx → Nat → Nat → Prop
 | nil (g : Nat) : LS ere d [] g g
 | cons {T : Rx} {ks : List Rx} {g g1 g' : Nat} (h : CkP ere d T g g1) (r : LS ere d ks g1 g') : LS ere d (T :: ks) g g'
theorem LS.snoc {ere : Bool} {d : Nat} {ks : List Rx} {g g1 : Nat} (h : LS ere d ks g g1) : ∀ {T : Rx} {g' : Nat}, CkP ere d T g1 g' → LS ere d (ks ++ [T]) g g' := by
 induction h with
 | nil g => intro T g' hT; exact .cons hT (.nil _)
 | cons h r ih => intro T g' hT; exact .cons h (ih hT)
theorem LS.ok {ere : Bool} {d : Nat} {ks : List Rx} {g g' : Nat} (h : LS ere d ks g g') : ∀ r ∈ ks, RxOk r := by
 induction h with
 | nil g => intro r hr; cases hr
 | cons h r ih =>
  intro x hx
  rcases List.mem_cons.1 hx with rfl | hx
  ·
   exact h.ok
  ·
   exact ih x hx
theorem LS.cat {ere : Bool} {d : Nat} {ks : List Rx} {g g' : Nat} (h : LS ere d ks g g') : ∀ (first : Bool) (n : Nat), (ere = false → first = false → ∀ r ∈ ks, r.k ≠ 7) → (ere = false → ∀ r ∈ ks.tail, r.k ≠ 7) → (ere = false → ∀ r ∈ ks.dropLast, r.k ≠ 8) → n + ndss ks ≤ 40 → chkCat ere ks first ⟨n, g, d⟩ = some ⟨n + ndss ks, g', d⟩ := by
 induction h with
 | nil g => intro first n _ _ _ _; rw [chkCat]; simp [ndss]
 | cons h r ih =>
  rename_i T ks g g1 g'
  intro first n h7 h7' h8 hn
  rw [ndss] at hn ⊢
  rw [chkCat, if_neg (by rintro (h' | h'); exact h.k2 h'; exact h.k3 h'), h.chk first ks.isEmpty ?_ ?_ n (by omega)]
  ·
   show chkCat ere ks false ⟨n + nds T, g1, d⟩ = _
   rw [ih false (n + nds T) (fun hE _ => h7' hE) (fun hE r hr => h7' hE r (List.mem_of_mem_tail hr)) ?_ (by omega), Nat.add_assoc]
   intro hE r hr
   refine h8 hE r ?_
   cases ks with
   | nil => cases hr
   | cons a l => exact List.mem_cons_of_mem _ hr
  ·
   intro hE hk
   cases first with
   | true => rfl
   | false => exact absurd hk (h7 hE rfl T List.mem_cons_self)
  ·
   intro hE hk
   cases ks with
   | nil => rfl
   | cons a l => exact absurd hk (h8 hE T List.mem_cons_self)
structure RS (ere : Bool) (t : St) (o : Out) : Prop where
 n : t.n ≤ o.st.n
 g : t.g ≤ o.st.g
 d : o.st.d = t.d
 ok : o.st.n ≤ 40 → o.st.g ≤ 3 → RxOk o.r ∧ o.st.n = t.n + nds o.r ∧ o.r.k ≠ 3 ∧ ∀ b e, (ere = false → b = true ∧ e = true) → ∀ n, n + nds o.r ≤ 40 → chk ere o.r b e ⟨n, t.g, t.d⟩ = some ⟨n + nds o.r, o.st.g, t.d⟩
structure RI (s : ByteArray) (ere : Bool) (t0 : St) (ks : List Rx) (t : St) : Prop where
 inv : Inv s t
 n : t0.n ≤ t.n
 g : t0.g ≤ t.g
 d : t.d = t0.d
 i : ks ≠ [] → t0.i < t.i
 i0 : t0.i ≤ t.i
 ok : t.n ≤ 40 → t.g ≤ 3 → LS ere t0.d ks t0.g t.g ∧ t.n = t0.n + ndss ks ∧ (ere = false → ∀ r ∈ ks.tail, r.k ≠ 7) ∧ (ere = false → (∀ r ∈ ks, r.k ≠ 8) ∨ (ends (sgn s ere t.i).1 = true ∧ ∀ r ∈ ks.dropLast, r.k ≠ 8))
theorem row_out {s : ByteArray} {ere : Bool} {t0 t : St} {ks : List Rx} (h : RI s ere t0 ks t) : RS ere t0 (rowOut ks t) := by
 have h1 := h.n
 have h2 := h.g
 have h3 := h.d
 have big : (∀ r, ks ≠ [r]) → RS ere t0 ⟨.mk 2 0 0 0 W4.z ks, 0, ⟨t.i, t.n + 1, t.g, t.d⟩⟩ := fun hne => by
  refine ⟨by show t0.n ≤ t.n + 1; omega, h2, h3, fun hN hG => ?_⟩
  have hN' : t.n + 1 ≤ 40 := hN
  obtain ⟨i1, i2, i3, i4⟩ := h.ok (by omega) hG
  have z : nds (.mk 2 0 0 0 W4.z ks) = 1 + ndss ks := by rw [nds]
  have hl := Trip.len_ndss ks
  refine ⟨?_, by show t.n + 1 = t0.n + nds (.mk 2 0 0 0 W4.z ks); rw [z]; omega, by show (2 : Int) ≠ 3; decide, fun b e _ n hn => ?_⟩
  ·
   show RxOk (.mk 2 0 0 0 W4.z ks)
   unfold RxOk
   exact ⟨by omega, Trip.z_lt, i1.ok⟩
  ·
   show chk ere (.mk 2 0 0 0 W4.z ks) b e ⟨n, t0.g, t0.d⟩ = some ⟨n + nds (.mk 2 0 0 0 W4.z ks), t.g, t0.d⟩
   have hn' : n + nds (.mk 2 0 0 0 W4.z ks) ≤ 40 := hn
   rw [z] at hn' ⊢
   rw [Go.Proofs.YtigdmebijbaofaaGreatDoor.chk]
   have hL : leanB (.mk 2 0 0 0 W4.z ks) = true := by
    unfold leanB kidsFit
    simp
    intro hl1
    match ks, hl1 with
    | [r], _ => exact hne r rfl
   rw [if_neg (by rw [hL]; simp; omega), if_neg (by decide), if_pos rfl]
   rw [i1.cat true (n + 1) (fun _ hf => by cases hf) i3 (fun hE => ?_) (by omega), show n + 1 + ndss ks = n + (1 + ndss ks) by omega]
   rcases i4 hE with a | a
   ·
    exact fun r hr => a r (List.dropLast_subset _ hr)
   ·
    exact a.2
 match ks, h, big with
 | [], h, big => exact big (fun r e => by cases e)
 | [r], h, _ =>
  show RS ere t0 ⟨r, 0, t⟩
  refine ⟨h1, h2, h3, fun hN hG => ?_⟩
  obtain ⟨i1, i2, i3, i4⟩ := h.ok hN hG
  have hz : ndss [r] = nds r := by simp [ndss]
  cases i1 with
  | cons hp hr =>
   cases hr
   refine ⟨hp.ok, by show t.n = t0.n + nds r; omega, hp.k3, fun b e hbe n hn => hp.chk b e (fun hE _ => (hbe hE).1) (fun hE _ => (hbe hE).2) n hn⟩
 | a :: b :: l, h, big => exact big (fun r e => by cases e)
theorem rowL_s {c : St → Out} {s : ByteArray} {ere : Bool} (hc : CS c s ere) (hcg : CGood c s) (t0 : St) : ∀ f ks t, RI s ere t0 ks t → (pRowL c s ere t0.i f ks t).e = 0 → RS ere t0 (pRowL c s ere t0.i f ks t)
 | 0, _, _, _, he => absurd he (by show ¬(1 : Nat) = 0; decide)
 | f + 1, ks, t, h, he => by
  unfold pRowL at he ⊢
  by_cases hE : ends (sgn s ere t.i).1 = true
  ·
   rw [if_pos hE]
   exact row_out h
  rw [if_neg hE] at he ⊢
  dsimp only at he ⊢
  have hp := fun x => pPart_s (began := t0.i) hc h.inv x
  have hg := pPart_good (ere := ere) (began := t0.i) hcg h.inv
  obtain ⟨o, ho⟩ : ∃ o, pPart c s ere t0.i t = o := ⟨_, rfl⟩
  rw [ho] at hp hg he ⊢
  by_cases hoe : o.e ≠ 0
  ·
   rw [if_pos hoe] at he; exact absurd he hoe
  rw [if_neg hoe] at he ⊢
  have hp := hp (by omega)
  obtain ⟨g1, g2, g3⟩ := hg.ok (by omega)
  have p1 := hp.ps.n
  have p2 := hp.ps.g
  have p3 := hp.ps.d
  have q1 := h.n
  have q2 := h.g
  have q3 := h.d
  have q4 := h.i0
  refine rowL_s hc hcg t0 f _ _ ⟨g2, by omega, by omega, by omega, fun _ => by omega, by omega, fun hN hG => ?_⟩ he
  obtain ⟨i1, i2, i3, i4⟩ := h.ok (by omega) (by omega)
  obtain ⟨j1, j2⟩ := hp.ps.ok hN hG
  have hk : keepL o.st.n ks o.r = ks ++ [o.r] := by unfold keepL; rw [if_neg (by omega)]
  rw [hk]
  rw [q3] at j1
  refine ⟨i1.snoc j1, by rw [ndss_app]; simp [ndss]; omega, fun hF r hr => ?_, fun hF => ?_⟩
  ·
   match ks, h, i3, hr with
   | [], h, i3, hr => cases hr
   | a :: l, h, i3, hr =>
    have hr' : r ∈ l ++ [o.r] := hr
    rcases List.mem_append.1 hr' with hx | hx
    ·
     exact i3 hF r hx
    ·
     obtain rfl : r = o.r := by simpa using hx
     intro h7
     have := hp.k7 hF h7
     have := h.i (by simp)
     omega
  ·
   have all8 : ∀ r ∈ ks, r.k ≠ 8 := by
    rcases i4 hF with a | a
    ·
     exact a
    ·
     exact absurd a.1 hE
   by_cases h8 : o.r.k = 8
   ·
    right
    rw [List.dropLast_concat]
    exact ⟨hp.k8 hF h8, all8⟩
   ·
    left
    intro r hr
    rcases List.mem_append.1 hr with hx | hx
    ·
     exact all8 r hx
    ·
     obtain rfl : r = o.r := by simpa using hx
     exact h8
theorem row_s {c : St → Out} {s : ByteArray} {ere : Bool} (hc : CS c s ere) (hcg : CGood c s) (t : St) (h : Inv s t) (he : (pRow c s ere t).e = 0) : RS ere t (pRow c s ere t) :=
 rowL_s hc hcg t _ _ _ ⟨h, Nat.le_refl _, Nat.le_refl _, rfl, fun h => absurd rfl h, Nat.le_refl _, fun _ _ => ⟨.nil _, by simp [ndss], fun _ r hr => (by cases hr), fun _ => Or.inl (fun r hr => by cases hr)⟩⟩ he
inductive LA (d : Nat) : List Rx → Nat → Nat → Prop
 | nil (g : Nat) : LA d [] g g
 | cons {T : Rx} {ks : List Rx} {g g1 g' : Nat} (k3 : T.k ≠ 3) (ok : RxOk T) (h : ∀ n, n + nds T ≤ 40 → chk true T false false ⟨n, g, d⟩ = some ⟨n + nds T, g1, d⟩) (r : LA d ks g1 g') : LA d (T :: ks) g g'
theorem LA.snoc {d : Nat} {ks : List Rx} {g g1 : Nat} (h : LA d ks g g1) : ∀ {T : Rx} {g' : Nat}, T.k ≠ 3 → RxOk T → (∀ n, n + nds T ≤ 40 → chk true T false false ⟨n, g1, d⟩ = some ⟨n + nds T, g', d⟩) → LA d (ks ++ [T]) g g' := by
 induction h with
 | nil g => intro T g' h1 h2 h3; exact .cons h1 h2 h3 (.nil _)
 | cons k3 ok h r ih => intro T g' h1 h2 h3; exact .cons k3 ok h (ih h1 h2 h3)
theorem LA.ok {d : Nat} {ks : List Rx} {g g' : Nat} (h : LA d ks g g') : ∀ r ∈ ks, RxOk r := by
 induction h with
 | nil g => intro r hr; cases hr
 | cons k3 ok h r ih =>
  intro x hx
  rcases List.mem_cons.1 hx with rfl | hx
  ·
   exact ok
  ·
   exact ih x hx
theorem LA.alt {d : Nat} {ks : List Rx} {g g' : Nat} (h : LA d ks g g') : ∀ n, n + ndss ks ≤ 40 → chkAlt true ks ⟨n, g, d⟩ = some ⟨n + ndss ks, g', d⟩ := by
 induction h with
 | nil g => intro n _; rw [chkAlt]; simp [ndss]
 | cons k3 ok h r ih =>
  rename_i T ks g g1 g'
  intro n hn
  rw [ndss] at hn ⊢
  rw [chkAlt, if_neg k3, h n (by omega)]
  show chkAlt true ks ⟨n + nds T, g1, d⟩ = _
  rw [ih (n + nds T) (by omega), Nat.add_assoc]
structure CI (s : ByteArray) (t0 : St) (ks : List Rx) (t : St) : Prop where
 i : t.i ≤ s.size
 ni : t.n ≤ 3 * t.i + 2
 gi : t.g ≤ t.i
 n : t0.n ≤ t.n
 g : t0.g ≤ t.g
 d : t.d = t0.d
 l : t.n ≤ 40 → 2 ≤ ks.length ∨ (1 ≤ ks.length ∧ (sgn s true t.i).1 = 9)
 ok : t.n ≤ 40 → t.g ≤ 3 → LA t0.d ks t0.g t.g ∧ t.n = t0.n + ndss ks
theorem chL_s {c : St → Out} {s : ByteArray} (hc : CS c s true) (hcg : CGood c s) (t0 : St) : ∀ f ks t, CI s t0 ks t → (pChL c s true f ks t).e = 0 → CR true t0 (pChL c s true f ks t)
 | 0, _, _, _, he => absurd he (by show ¬(1 : Nat) = 0; decide)
 | f + 1, ks, t, h, he => by
  have h1 := h.n
  have h2 := h.g
  have h3 := h.d
  have h4 := h.i
  have h5 := h.ni
  have h6 := h.gi
  unfold pChL at he ⊢
  by_cases h9 : (sgn s true t.i).1 = 9
  ·
   rw [if_pos h9] at he ⊢
   dsimp only at he ⊢
   have hz := (sgn_sz s true t.i h4)
   have hlt : t.i < s.size := by have := hz.2.2 (by omega) (by omega); omega
   have hi : Inv s ⟨t.i + 1, t.n, t.g, t.d⟩ := ⟨hlt, by show t.n ≤ 3 * (t.i + 1) + 1; omega, by show t.g ≤ t.i + 1; omega⟩
   have hr := fun x => row_s hc hcg _ hi x
   have hg := pRow_good (ere := true) hcg hi
   obtain ⟨o, ho⟩ : ∃ o, pRow c s true ⟨t.i + 1, t.n, t.g, t.d⟩ = o := ⟨_, rfl⟩
   rw [ho] at hr hg he ⊢
   by_cases hoe : o.e ≠ 0
   ·
    rw [if_pos hoe] at he; exact absurd he hoe
   rw [if_neg hoe] at he ⊢
   have hr := hr (by omega)
   obtain ⟨g1, g2, g3, g4⟩ := hg.ok (by omega)
   have r1 : t.n ≤ o.st.n := hr.n
   have r2 : t.g ≤ o.st.g := hr.g
   have r3 : o.st.d = t.d := hr.d
   refine chL_s hc hcg t0 f _ _ ⟨hg.le, g2, g3, by omega, by omega, by omega, fun hN => ?_, fun hN hG => ?_⟩ he
   ·
    left
    have : keepL o.st.n ks o.r = ks ++ [o.r] := by unfold keepL; rw [if_neg (by omega)]
    rw [this]
    rcases h.l (by omega) with a | a
    ·
     simp; omega
    ·
     simp; omega
   ·
    have hk : keepL o.st.n ks o.r = ks ++ [o.r] := by unfold keepL; rw [if_neg (by omega)]
    rw [hk]
    obtain ⟨i1, i2⟩ := h.ok (by omega) (by omega)
    obtain ⟨j1, j2, j3, j4⟩ := hr.ok hN hG
    have j2 : o.st.n = t.n + nds o.r := j2
    have j4 := j4 false false (fun e => by cases e)
    refine ⟨i1.snoc j3 j1 (fun n hn => ?_), by rw [ndss_app]; simp [ndss]; omega⟩
    have := j4 n hn
    rw [show t0.d = t.d by omega]
    exact this
  ·
   rw [if_neg h9] at he ⊢
   refine ⟨by show t0.n ≤ t.n + 1; omega, h2, h3, fun hN hG => ?_⟩
   have hN' : t.n + 1 ≤ 40 := hN
   obtain ⟨i1, i2⟩ := h.ok (by omega) hG
   have hl := Trip.len_ndss ks
   have hlen : 2 ≤ ks.length := by
    rcases h.l (by omega) with a | a
    ·
     exact a
    ·
     exact absurd a.2 h9
   have z : nds (.mk 3 0 0 0 W4.z ks) = 1 + ndss ks := by rw [nds]
   refine ⟨?_, by show t.n + 1 = t0.n + nds (.mk 3 0 0 0 W4.z ks); rw [z]; omega, fun n hn => ?_⟩
   ·
    show RxOk (.mk 3 0 0 0 W4.z ks)
    unfold RxOk
    exact ⟨by omega, Trip.z_lt, i1.ok⟩
   ·
    show chk true (.mk 3 0 0 0 W4.z ks) true true ⟨n, t0.g, t0.d⟩ = some ⟨n + nds (.mk 3 0 0 0 W4.z ks), t.g, t0.d⟩
    have hn' : n + nds (.mk 3 0 0 0 W4.z ks) ≤ 40 := hn
    rw [z] at hn' ⊢
    rw [Go.Proofs.YtigdmebijbaofaaGreatDoor.chk]
    have hL : leanB (.mk 3 0 0 0 W4.z ks) = true := by
     unfold leanB kidsFit
     simp
     omega
    rw [if_neg (by rw [hL]; simp; omega), if_neg (by decide), if_neg (by decide), if_pos rfl, if_pos rfl, i1.alt (n + 1) (by omega), show n + 1 + ndss ks = n + (1 + ndss ks) by omega]
theorem RS.cr {ere : Bool} {t : St} {o : Out} (h : RS ere t o) : CR ere t o := ⟨h.n, h.g, h.d, fun hN hG => by
 obtain ⟨i1, i2, _, i4⟩ := h.ok hN hG
 exact ⟨i1, i2, i4 true true (fun _ => ⟨rfl, rfl⟩)⟩⟩
theorem ch1_s {c : St → Out} {s : ByteArray} {ere : Bool} (hc : CS c s ere) (hcg : CGood c s) (t : St) (h : Inv s t) (he : (pCh1 c s ere t).e = 0) : CR ere t (pCh1 c s ere t) := by
 have hr := fun x => row_s hc hcg _ h x
 have hg := pRow_good (ere := ere) hcg h
 unfold pCh1 at he ⊢
 dsimp only at he ⊢
 obtain ⟨o, ho⟩ : ∃ o, pRow c s ere t = o := ⟨_, rfl⟩
 rw [ho] at hr hg he ⊢
 by_cases hm : o.e ≠ 0 ∨ (sgn s ere o.st.i).1 ≠ 9
 ·
  rw [if_pos hm] at he ⊢
  exact (hr he).cr
 rw [if_neg hm] at he ⊢
 have h9 : (sgn s ere o.st.i).1 = 9 := by
  rcases Nat.decEq (sgn s ere o.st.i).1 9 with h | h
  ·
   exact absurd (Or.inr h) hm
  ·
   exact h
 have h0 : o.e = 0 := by
  rcases Nat.decEq o.e 0 with h | h
  ·
   exact absurd (Or.inl h) hm
  ·
   exact h
 obtain rfl := sgn_nine s ere o.st.i h9
 have hr := hr h0
 obtain ⟨g1, g2, g3, g4⟩ := hg.ok h0
 refine chL_s hc hcg t _ _ _ ⟨hg.le, g2, g3, hr.n, hr.g, hr.d, fun _ => Or.inr ⟨by simp, h9⟩, fun hN hG => ?_⟩ he
 obtain ⟨j1, j2, j3, j4⟩ := hr.ok hN hG
 exact ⟨.cons j3 j1 (j4 false false (fun e => by cases e)) (.nil _), by simp [ndss]; omega⟩
theorem ch_s (s : ByteArray) (ere : Bool) : ∀ D, CS (pCh s ere D) s ere
 | 0 => ⟨fun _ _ he => absurd he (by show ¬(1 : Nat) = 0; decide)⟩
 | D + 1 => ⟨fun t h he => ch1_s (ch_s s ere D) (pCh_good s ere D) t h he⟩
def E12 (e : Nat) : Prop := e = 0 ∨ e = 1 ∨ e = 2
structure CE (c : St → Out) : Prop where
 all : ∀ t, E12 (c t).e
theorem one_e {c : St → Out} (hc : CE c) (s : ByteArray) (ere : Bool) (k b sz : Nat) (t : St) : E12 (pOne c s ere k b sz t).e := by
 unfold pOne
 split
 ·
  exact Or.inl rfl
 split
 ·
  exact Or.inl rfl
 split
 ·
  exact Or.inl rfl
 split
 ·
  exact Or.inl rfl
 split
 ·
  unfold pBack; split
  ·
   exact Or.inr (Or.inl rfl)
  ·
   exact Or.inl rfl
 split
 ·
  unfold pBracket; split
  ·
   exact Or.inr (Or.inl rfl)
  ·
   dsimp only; generalize (if bTurn s t.i then _ else _) = q; split
   ·
    exact Or.inr (Or.inl rfl)
   ·
    exact Or.inl rfl
 split
 ·
  unfold pGroup; split
  ·
   exact Or.inr (Or.inr rfl)
  ·
   dsimp only
   have := hc.all ⟨t.i + sz, t.n, t.g + 1, t.d + 1⟩
   generalize c ⟨t.i + sz, t.n, t.g + 1, t.d + 1⟩ = o at this ⊢
   split
   ·
    exact this
   ·
    split
    ·
     exact Or.inr (Or.inl rfl)
    ·
     exact Or.inl rfl
 ·
  exact Or.inr (Or.inl rfl)
theorem rep_e (s : ByteArray) (ere : Bool) (r : Rx) (t : St) : E12 (pRep s ere r t).e := by
 unfold pRep
 dsimp only
 split
 ·
  exact Or.inl rfl
 split
 ·
  exact Or.inl rfl
 split
 ·
  exact Or.inl rfl
 split
 ·
  split
  ·
   exact Or.inr (Or.inl rfl)
  ·
   exact Or.inl rfl
 ·
  exact Or.inl rfl
theorem part_e {c : St → Out} (hc : CE c) (s : ByteArray) (ere : Bool) (began : Nat) (t : St) : E12 (pPart c s ere began t).e := by
 unfold pPart
 dsimp only
 split
 ·
  exact one_e hc _ _ _ _ _ _
 ·
  exact rep_e _ _ _ _
theorem rowL_e {c : St → Out} (hc : CE c) (s : ByteArray) (ere : Bool) (began : Nat) : ∀ f ks t, E12 (pRowL c s ere began f ks t).e
 | 0, _, _ => Or.inr (Or.inl rfl)
 | f + 1, ks, t => by
  unfold pRowL
  split
  ·
   unfold rowOut; split <;> exact Or.inl rfl
  ·
   dsimp only
   have := part_e hc s ere began t
   generalize pPart c s ere began t = o at this ⊢
   split
   ·
    exact this
   ·
    exact rowL_e hc s ere began f _ _
theorem chL_e {c : St → Out} (hc : CE c) (s : ByteArray) (ere : Bool) : ∀ f ks t, E12 (pChL c s ere f ks t).e
 | 0, _, _ => Or.inr (Or.inl rfl)
 | f + 1, ks, t => by
  unfold pChL
  split
  ·
   dsimp only
   have : E12 (pRow c s ere ⟨t.i + 1, t.n, t.g, t.d⟩).e := rowL_e hc s ere _ _ _ _
   generalize pRow c s ere ⟨t.i + 1, t.n, t.g, t.d⟩ = o at this ⊢
   split
   ·
    exact this
   ·
    exact chL_e hc s ere f _ _
  ·
   exact Or.inl rfl
theorem ch_e (s : ByteArray) (ere : Bool) : ∀ D, CE (pCh s ere D)
 | 0 => ⟨fun _ => Or.inr (Or.inl rfl)⟩
 | D + 1 => ⟨fun t => by
  unfold pCh pCh1
  dsimp only
  have : E12 (pRow (pCh s ere D) s ere t).e := rowL_e (ch_e s ere D) s ere _ _ _ _
  split
  ·
   exact this
  ·
   exact chL_e (ch_e s ere D) s ere _ _ _⟩
theorem parse_sound (s : ByteArray) (ere : Bool) : ((pParse s ere).2.2 = 0 → (pParse s ere).2.1 = 0 ∧ right ere (pParse s ere).1 = true ∧ RxOk (pParse s ere).1) ∧
  ((pParse s ere).2.2 ≠ 0 → ((pParse s ere).2.2 = 1 ∨ (pParse s ere).2.2 = 2 ∨ (pParse s ere).2.2 = 4) ∧ (pParse s ere).2.1 ≤ s.size ∧ (pParse s ere).1 = rx0) := by
 have hi : Inv s ⟨0, 0, 0, 0⟩ := ⟨Nat.zero_le _, Nat.zero_le _, Nat.zero_le _⟩
 have hs := (ch_s s ere 7).all _ hi
 have hg := (pCh_good s ere 7).all _ hi
 have he := (ch_e s ere 7).all ⟨0, 0, 0, 0⟩
 unfold pParse pWhole
 dsimp only
 obtain ⟨o, ho⟩ : ∃ o, pCh s ere 7 ⟨0, 0, 0, 0⟩ = o := ⟨_, rfl⟩
 rw [ho] at hs hg he ⊢
 by_cases h0 : o.e ≠ 0
 ·
  rw [if_pos h0]
  rw [if_pos (show (⟨rx0, o.e, o.st⟩ : Out).e ≠ 0 from h0)]
  refine ⟨fun h => absurd h h0, fun _ => ⟨?_, hg.1, rfl⟩⟩
  rcases he with h | h | h
  ·
   exact absurd h h0
  ·
   exact Or.inl h
  ·
   exact Or.inr (Or.inl h)
 rw [if_neg h0]
 by_cases h1 : o.st.i < s.size
 ·
  rw [if_pos h1, if_pos (show (⟨rx0, 1, o.st⟩ : Out).e ≠ 0 by show (1 : Nat) ≠ 0; decide)]
  exact ⟨fun h => absurd h (by show ¬(1 : Nat) = 0; decide), fun _ => ⟨Or.inl rfl, hg.1, rfl⟩⟩
 rw [if_neg h1]
 by_cases h2 : o.st.n > 40 ∨ o.st.g > 3
 ·
  rw [if_pos h2, if_pos (show (⟨rx0, 4, o.st⟩ : Out).e ≠ 0 by show (4 : Nat) ≠ 0; decide)]
  exact ⟨fun h => absurd h (by show ¬(4 : Nat) = 0; decide), fun _ => ⟨Or.inr (Or.inr rfl), hg.1, rfl⟩⟩
 rw [if_neg h2, if_neg h0]
 refine ⟨fun _ => ?_, fun h => absurd rfl h⟩
 obtain ⟨i1, i2, i3⟩ := (hs (by omega)).ok (by omega) (by omega)
 refine ⟨rfl, ?_, i1⟩
 unfold right
 have i2 : o.st.n = 0 + nds o.r := i2
 show (chk ere o.r true true ⟨0, 0, 0⟩).isSome = true
 have := i3 0 (by omega)
 have this : chk ere o.r true true ⟨0, 0, 0⟩ = some ⟨0 + nds o.r, o.st.g, 0⟩ := this
 rw [this]
 rfl
end Go.Proofs.YtigdmebijbaofaaGreatDoor.Sound
/-! ### KSame -/
namespace Go.Proofs.YtigdmebijbaofaaGreatDoor
open Go.RowKit
open Go.RowKit
open Go.RowKit
theorem fit_of_ok : ∀ r, RxOk r → RxFit r
 | .mk k mn mx n s kids, h => by
  unfold RxOk at h
  unfold RxFit
  exact ⟨h.1, fun a ha => fit_of_ok a (h.2.2 a ha)⟩
termination_by r => SizeOf.sizeOf r
decreasing_by
 have := List.sizeOf_lt_of_mem ha
 simp
 omega
theorem slim_of_ok : ∀ r, RxOk r → Slim r
 | .mk k mn mx n s kids, h => by
  unfold RxOk at h
  unfold Slim
  exact ⟨h.1, fun a ha => slim_of_ok a (h.2.2 a ha)⟩
termination_by r => SizeOf.sizeOf r
decreasing_by
 have := List.sizeOf_lt_of_mem ha
 simp
 omega
theorem print_size (ere : Bool) (T : Rx) (hO : RxOk T) : (bs (printT ere T)).size ≤ 1000000 := by
 rw [bs_size]
 unfold printT
 split
 ·
  rename_i h
  have := (Trip.right_fit ere T hO h).2
  omega
 ·
  simp
theorem nds_right (ere : Bool) (T : Rx) (h : right ere T = true) : nds T ≤ 40 := by
 unfold right at h
 obtain ⟨c, hc⟩ := Option.isSome_iff_exists.1 h
 have := (Trip.cnt_any T).all ere true true ⟨0, 0, 0⟩ c hc
 simp at this
 omega
theorem talk_print (T : Rx) (ere : Bool) (hO : RxOk T) (S : ByteArray) (hS : bs (printT ere T) = S) (w : World) {k mn mx m : Int} {t : W4} {ad : Option Addr} {l c : Nat} (h : Pd w T k mn mx m t ad l c) :
  Calls Tryz.prog 37 #[rxv k mn mx m t (.slice ad l c), .bool ere] w fun e w' => e = .returned (.string S) ∧ Kp w w' := by
 subst hS
 exact print_any T ere _ k mn mx m t ad l c w hO (fun hr => (Trip.right_fit ere T hO hr).1) h.is
theorem talk_same (T U : Rx) (b : Bool) (hO : RxOk T) (hb : sameR T U = b) (w : World) {k mn mx m : Int} {t : W4} {ad : Option Addr} {l c : Nat} {k' mn' mx' m' : Int} {t' : W4} {ad' : Option Addr} {l' c' : Nat} (h : Pd w T k mn mx m t ad l c) (h' : Pd w U k' mn' mx' m' t' ad' l' c') :
  Calls Tryz.prog 58 #[rxv k mn mx m t (.slice ad l c), rxv k' mn' mx' m' t' (.slice ad' l' c')] w fun e w' => e = .returned (.bool b) ∧ Kp w w' := by
 subst hb
 exact same_any T U _ _ w _ _ (fit_of_ok T hO) h.is h'.is
open Go.RowKit
structure Rv where
 k : Int
 mn : Int
 mx : Int
 m : Int
 t : W4
 ad : Option Addr
 l : Nat
 c : Nat
abbrev Rv.v (r : Rv) : Value := rxv r.k r.mn r.mx r.m r.t (.slice r.ad r.l r.c)
abbrev Rv.z : Rv := ⟨0, 0, 0, 0, ⟨0, 0, 0, 0⟩, none, 0, 0⟩
abbrev Rv.is (r : Rv) (w : World) (T : Rx) : Prop := Pd w T r.k r.mn r.mx r.m r.t r.ad r.l r.c
def zR : Rx := .mk 0 0 0 0 ⟨0, 0, 0, 0⟩ []
theorem zR_is (w : World) : Rv.z.is w zR := ⟨Is.leaf w _ 0 0 0 0 ⟨0, 0, 0, 0⟩⟩
theorem zR_ok : RxOk zR := rxOk_of zR (by decide)
structure Av where
 k : Int
 ln : Int
 r : Rv
abbrev Av.v (a : Av) : Value := .agg #[.int .i64 a.k, .int .i64 a.ln, .int .i64 a.r.k, .int .i64 a.r.mn, .int .i64 a.r.mx, .int .i64 a.r.m, .int .u64 (a.r.t.a : Int), .int .u64 (a.r.t.b : Int), .int .u64 (a.r.t.c : Int), .int .u64 (a.r.t.d : Int), .slice a.r.ad a.r.l a.r.c]
abbrev Av.z : Av := ⟨0, 0, Rv.z⟩
structure Cv where
 a : Av
 b : Av
 nt : Bool
 op : Nat
 tx : ByteArray
 r : Rv
 pa : Option Addr
 pl : Nat
 pc : Nat
 g : Bool
 s : Bool
 nth : Int
 y : ByteArray
 z : ByteArray
abbrev Cv.cs (c : Cv) : Array Value := #[.int .i64 c.a.k, .int .i64 c.a.ln, .int .i64 c.a.r.k, .int .i64 c.a.r.mn, .int .i64 c.a.r.mx, .int .i64 c.a.r.m, .int .u64 (c.a.r.t.a : Int), .int .u64 (c.a.r.t.b : Int), .int .u64 (c.a.r.t.c : Int), .int .u64 (c.a.r.t.d : Int), .slice c.a.r.ad c.a.r.l c.a.r.c,
 .int .i64 c.b.k, .int .i64 c.b.ln, .int .i64 c.b.r.k, .int .i64 c.b.r.mn, .int .i64 c.b.r.mx, .int .i64 c.b.r.m, .int .u64 (c.b.r.t.a : Int), .int .u64 (c.b.r.t.b : Int), .int .u64 (c.b.r.t.c : Int), .int .u64 (c.b.r.t.d : Int), .slice c.b.r.ad c.b.r.l c.b.r.c,
 .bool c.nt, .int .u8 (c.op : Int), .string c.tx,
 .int .i64 c.r.k, .int .i64 c.r.mn, .int .i64 c.r.mx, .int .i64 c.r.m, .int .u64 (c.r.t.a : Int), .int .u64 (c.r.t.b : Int), .int .u64 (c.r.t.c : Int), .int .u64 (c.r.t.d : Int), .slice c.r.ad c.r.l c.r.c,
 .slice c.pa c.pl c.pc, .bool c.g, .bool c.s, .int .i64 c.nth, .string c.y, .string c.z]
abbrev Cv.v (c : Cv) : Value := .agg c.cs
structure CIs (w : World) (c : Cv) (A B R : Rx) (P : List Pc) : Prop where
 a : c.a.r.is w A
 b : c.b.r.is w B
 r : c.r.is w R
 p : PcAt w P c.pa c.pl c.pc
theorem CIs.kp {w w' : World} {c : Cv} {A B R : Rx} {P : List Pc} (h : CIs w c A B R P) (k : Kp w w') : CIs w' c A B R P := ⟨h.a.kp k, h.b.kp k, h.r.kp k, h.p.kp k⟩
structure COk (c : Cv) (A B R : Rx) (P : List Pc) : Prop where
 a : RxOk A
 b : RxOk B
 r : RxOk R
 p : P.length ≤ 1000000
 op : c.op < 256
 tx : c.tx.size ≤ 1000000
 y : c.y.size ≤ 1000000
 z : c.z.size ≤ 1000000
def noR (T : Rx) : Bool := sameR T zR
def wrtR (ere : Bool) (T : Rx) : Bool := decide (printT ere T ≠ [])
def adR (k ln : Int) (T : Rx) (ere : Bool) : Bool :=
 if k = 0 ∨ k = 2 then decide (ln = 0) && noR T
 else if k = 1 then decide (1 ≤ ln) && decide (ln ≤ 9999) && noR T
 else if k = 3 then decide (ln = 0) && wrtR ere T
 else false
def adT (k ln : Int) (T : Rx) (ere : Bool) : List UInt8 :=
 if adR k ln T ere then
  if k = 1 then dec ln.toNat else if k = 2 then [36] else if k = 3 then [47] ++ printT ere T ++ [47] else []
 else []
def placedR (c : Cv) (A B : Rx) (ere : Bool) : Bool :=
 adR c.a.k c.a.ln A ere && adR c.b.k c.b.ln B ere &&
  (if addrsN c.op = 0 then decide (c.a.k = 0) && decide (c.b.k = 0) && !c.nt else if addrsN c.op = 1 then decide (c.b.k = 0) else !decide (c.a.k = 0) || decide (c.b.k = 0))
def substR (c : Cv) (R : Rx) (P : List Pc) (ere : Bool) : Bool := wrtR ere R && tplR P (grp R) && decide (0 ≤ c.nth) && decide (c.nth ≤ 99) && labO c.tx
def askedR (c : Cv) (R : Rx) (P : List Pc) (ere : Bool) : Bool :=
 match kindN c.op with
 | 1 => true
 | 2 => decide (c.tx.size ≤ 400)
 | 3 => labO c.tx
 | 4 => labB c.tx
 | 5 => substR c R P ere
 | 6 => tabR c.y c.z
 | _ => false
def leanR (c : Cv) (R : Rx) (P : List Pc) : Bool :=
 match kindN c.op with
 | 2 | 3 | 4 => decide (c.y.size = 0) && decide (c.z.size = 0) && !c.g && !c.s && decide (c.nth = 0) && noR R && P.isEmpty
 | 5 => decide (c.y.size = 0) && decide (c.z.size = 0)
 | 6 => decide (c.tx.size = 0) && !c.g && !c.s && decide (c.nth = 0) && noR R && P.isEmpty
 | _ => decide (c.tx.size = 0) && decide (c.y.size = 0) && decide (c.z.size = 0) && !c.g && !c.s && decide (c.nth = 0) && noR R && P.isEmpty
def rightC (c : Cv) (A B R : Rx) (P : List Pc) (ere : Bool) : Bool := placedR c A B ere && leanR c R P && askedR c R P ere
def flagsT (c : Cv) : List UInt8 := (if c.g then [103] else []) ++ (if c.s then [112] else []) ++ (if c.nth = 0 then [] else dec c.nth.toNat) ++ (if c.tx.data.toList = [] then [] else [119] ++ nameT c.tx.data.toList)
def restT (c : Cv) (R : Rx) (P : List Pc) (ere : Bool) : List UInt8 :=
 match kindN c.op with
 | 2 => [92, 10] ++ linesT c.tx.data.toList
 | 3 | 4 => nameT c.tx.data.toList
 | 5 => [47] ++ printT ere R ++ [47] ++ tplT P ++ [47] ++ flagsT c
 | 6 => [47] ++ tableT c.y.data.toList ++ [47] ++ tableT c.z.data.toList ++ [47]
 | _ => []
def placeT (c : Cv) (A B : Rx) (ere : Bool) : List UInt8 := adT c.a.k c.a.ln A ere ++ (if c.b.k = 0 then [] else [44] ++ adT c.b.k c.b.ln B ere) ++ (if c.nt then [33] else [])
def cmdT (c : Cv) (A B R : Rx) (P : List Pc) (ere : Bool) : List UInt8 :=
 if rightC c A B R P ere then placeT c A B ere ++ [UInt8.ofNat c.op] ++ restT c R P ere else []
def adEq (a b : Av) (A B : Rx) : Bool := decide (a.k = b.k) && decide (a.ln = b.ln) && sameR A B
def sameC (c d : Cv) (A B R A' B' R' : Rx) (P P' : List Pc) : Bool :=
 decide (c.op = d.op) && (c.nt == d.nt) && (c.tx.data.toList == d.tx.data.toList) && (c.y.data.toList == d.y.data.toList) && (c.z.data.toList == d.z.data.toList) && (c.g == d.g) && (c.s == d.s) && decide (c.nth = d.nth) &&
  adEq c.a d.a A A' && adEq c.b d.b B B' && sameR R R' && pcsEq P P'
end Go.Proofs.YtigdmebijbaofaaGreatDoor
