/-
  Texts of this claim: Over, Spts, Stt0, Stt, Gro.
-/
import Derived.Test.YtnajcnhgeggngaaGreatM31
import Derived.Test.YtnajcnhgeggngaaGreatM14
import Derived.Lib.AppendZeros

/-! ### Over -/

namespace Go.Proofs.YtnajcnhgeggngaaGreat.Way
set_option maxHeartbeats 2000000
set_option maxRecDepth 100000
open Go.RowKit Go.Proofs.YtnajcnhgeggngaaGreat

theorem times_lt {mn mx : Int} (h : timesFit mn mx = true) : 0 ≤ mn ∧ mn ≤ 20 := by
 unfold timesFit at h
 split at h
 ·
  cases h
 ·
  omega
mutual
theorem rxw_chk : ∀ (r : Rx) (b e : Bool) (c c' : Ck), RxOk r → c.g ≤ 3 → chk true r b e c = some c' → RxW r ∧ c'.g ≤ 3
 | .mk k mn mx n s kids, b, e, c, c', ho, hg, h => by
  unfold RxOk at ho
  rw [chk] at h
  by_cases h0 : c.n + 1 > 40 ∨ leanB (.mk k mn mx n s kids) = false
  ·
   rw [if_pos h0] at h; cases h
  rw [if_neg h0] at h
  have hlean : leanB (.mk k mn mx n s kids) = true := by
   cases hb : leanB (.mk k mn mx n s kids) with
   | true => rfl
   | false => exact absurd (Or.inr hb) h0
  unfold leanB at hlean
  have hfit : kidsFit k kids.length = true := (Bool.and_eq_true_iff.1 hlean).2
  have nil_of : k ≠ 2 → k ≠ 3 → k ≠ 4 → k ≠ 5 → kids = [] := fun a1 a2 a3 a4 => by
   unfold kidsFit at hfit
   rw [if_neg a1, if_neg a2, if_neg (by omega)] at hfit
   exact List.length_eq_zero_iff.1 (by simpa using hfit)
  have one_of : k = 4 ∨ k = 5 → ∃ r, kids = [r] := fun a => by
   unfold kidsFit at hfit
   rw [if_neg (by omega), if_neg (by omega), if_pos a] at hfit
   exact List.length_eq_one_iff.1 (by simpa using hfit)
  unfold RxW
  by_cases k1 : k = 1
  ·
   subst k1
   rw [if_pos rfl] at h
   obtain rfl := nil_of (by decide) (by decide) (by decide) (by decide)
   split at h
   ·
    cases h
    exact ⟨⟨fun _ => ⟨Or.inl rfl, ho.2.1⟩, (fun e => by cases e), (fun e => by cases e), (fun e => by rcases e with e | e <;> cases e), Nat.zero_le _, by unfold RxsW; trivial⟩, hg⟩
   ·
    cases h
  rw [if_neg k1] at h
  by_cases k2 : k = 2
  ·
   subst k2
   rw [if_pos rfl] at h
   obtain ⟨a1, a2⟩ := rxw_cat kids true ⟨c.n + 1, c.g, c.d⟩ c' ho.2.2 hg h
   exact ⟨⟨(fun e => by cases e), (fun e => by cases e), (fun e => by cases e), (fun e => by rcases e with e | e <;> cases e), ho.1, a1⟩, a2⟩
  rw [if_neg k2] at h
  by_cases k3 : k = 3
  ·
   subst k3
   rw [if_pos rfl, if_pos rfl] at h
   obtain ⟨a1, a2⟩ := rxw_alt kids ⟨c.n + 1, c.g, c.d⟩ c' ho.2.2 hg h
   exact ⟨⟨(fun e => by cases e), (fun e => by cases e), (fun e => by cases e), (fun e => by rcases e with e | e <;> cases e), ho.1, a1⟩, a2⟩
  rw [if_neg k3] at h
  by_cases k4 : k = 4
  ·
   subst k4
   rw [if_pos rfl] at h
   split at h
   ·
    rename_i ht
    obtain ⟨r, rfl⟩ := one_of (Or.inl rfl)
    rw [chkRep] at h
    split at h
    ·
     obtain ⟨a1, a2⟩ := rxw_chk r false false ⟨c.n + 1, c.g, c.d⟩ c' (ho.2.2 r (List.mem_cons_self ..)) hg h
     exact ⟨⟨(fun e => by cases e), (fun e => by cases e), (fun _ => times_lt ht), (fun _ => rfl), ho.1, by unfold RxsW; exact ⟨a1, by unfold RxsW; trivial⟩⟩, a2⟩
    ·
     cases h
   ·
    cases h
  rw [if_neg k4] at h
  by_cases k5 : k = 5
  ·
   subst k5
   rw [if_pos rfl] at h
   by_cases hc : n ≠ (c.g + 1 : Nat) ∨ c.g + 1 > 3 ∨ c.d = 6
   ·
    rw [if_pos hc] at h; cases h
   rw [if_neg hc] at h
   obtain ⟨r, rfl⟩ := one_of (Or.inr rfl)
   rw [chkGroup] at h
   split at h
   ·
    cases h
   ·
    rename_i c2 hc2
    cases h
    obtain ⟨a1, a2⟩ := rxw_chk r true true _ c2 (ho.2.2 r (List.mem_cons_self ..)) (by show c.g + 1 ≤ 3; omega) hc2
    exact ⟨⟨(fun e => by cases e), (fun _ => by omega), (fun e => by cases e), (fun _ => rfl), ho.1, by unfold RxsW; exact ⟨a1, by unfold RxsW; trivial⟩⟩, a2⟩
  rw [if_neg k5] at h
  obtain rfl := nil_of k2 k3 k4 k5
  have rest : (leafK k = true → LeafOk k n s) → c'.g ≤ 3 → ((leafK k = true → LeafOk k n s) ∧ (k = 5 → n = 1 ∨ n = 2 ∨ n = 3) ∧ (k = 4 → 0 ≤ mn ∧ mn ≤ 20) ∧ (k = 5 ∨ k = 4 → ([] : List Rx).length = 1) ∧ ([] : List Rx).length ≤ 1000000 ∧ RxsW []) ∧ c'.g ≤ 3 := fun a1 a2 => ⟨⟨a1, (fun e => absurd e k5), (fun e => absurd e k4), (fun e => e.elim (fun e => absurd e k5) (fun e => absurd e k4)), Nat.zero_le _, by unfold RxsW; trivial⟩, a2⟩
  by_cases k6 : k = 6
  ·
   subst k6
   rw [if_pos rfl] at h
   by_cases hc : 1 ≤ n ∧ n ≤ (c.g : Int)
   ·
    rw [if_pos hc] at h
    cases h
    exact rest (fun _ => ⟨Or.inr (Or.inr (Or.inr ⟨rfl, by omega⟩)), ho.2.1⟩) hg
   ·
    rw [if_neg hc] at h; cases h
  rw [if_neg k6] at h
  by_cases k7 : k = 7
  ·
   subst k7
   rw [if_pos rfl] at h
   split at h
   ·
    cases h; exact rest (fun _ => ⟨Or.inr (Or.inl rfl), ho.2.1⟩) hg
   ·
    cases h
  rw [if_neg k7] at h
  by_cases k8 : k = 8
  ·
   subst k8
   rw [if_pos rfl] at h
   split at h
   ·
    cases h; exact rest (fun _ => ⟨Or.inr (Or.inr (Or.inl rfl)), ho.2.1⟩) hg
   ·
    cases h
  rw [if_neg k8] at h
  cases h
theorem rxw_cat : ∀ (ks : List Rx) (first : Bool) (c c' : Ck), (∀ a, a ∈ ks → RxOk a) → c.g ≤ 3 → chkCat true ks first c = some c' → RxsW ks ∧ c'.g ≤ 3
 | [], first, c, c', _, hg, h => by
  rw [chkCat] at h
  cases h
  exact ⟨by unfold RxsW; trivial, hg⟩
 | r :: rs, first, c, c', ho, hg, h => by
  rw [chkCat] at h
  split at h
  ·
   cases h
  ·
   split at h
   ·
    cases h
   ·
    rename_i c2 hc2
    obtain ⟨a1, a2⟩ := rxw_chk r _ _ c c2 (ho r (List.mem_cons_self ..)) hg hc2
    obtain ⟨b1, b2⟩ := rxw_cat rs _ c2 c' (fun a ha => ho a (List.mem_cons_of_mem _ ha)) a2 h
    exact ⟨by unfold RxsW; exact ⟨a1, b1⟩, b2⟩
theorem rxw_alt : ∀ (ks : List Rx) (c c' : Ck), (∀ a, a ∈ ks → RxOk a) → c.g ≤ 3 → chkAlt true ks c = some c' → RxsW ks ∧ c'.g ≤ 3
 | [], c, c', _, hg, h => by
  rw [chkAlt] at h
  cases h
  exact ⟨by unfold RxsW; trivial, hg⟩
 | r :: rs, c, c', ho, hg, h => by
  rw [chkAlt] at h
  split at h
  ·
   cases h
  ·
   split at h
   ·
    cases h
   ·
    rename_i c2 hc2
    obtain ⟨a1, a2⟩ := rxw_chk r _ _ c c2 (ho r (List.mem_cons_self ..)) hg hc2
    obtain ⟨b1, b2⟩ := rxw_alt rs c2 c' (fun a ha => ho a (List.mem_cons_of_mem _ ha)) a2 h
    exact ⟨by unfold RxsW; exact ⟨a1, b1⟩, b2⟩
end
theorem rxw_right {r : Rx} (ho : RxOk r) (h : right true r = true) : RxW r := by
 unfold right at h
 obtain ⟨c, hc⟩ := Option.isSome_iff_exists.1 h
 exact (rxw_chk r true true ⟨0, 0, 0⟩ c ho (by decide) hc).1
abbrev wlv (s : ByteArray) (bol : Bool) (v : Value) : Value := .agg #[.string s, .bool bol, v]
theorem wl_ret {fn : Func} {p : Tmp} (h : fn.results = #[.cell p 73]) (tmps : Array Value) (w : World) (S : Nat) (cs : Array Value) (hp : tmps.getD p undef = .pointer (some ⟨S, 0, none⟩)) (hA : w.heap[S]? = some (.cells cs 73)) (hc : cs.size = 3) : (results fn tmps).run Tryz.prog w = .ok (.agg cs) w :=
 results_cell_row h tmps w S 73 _ (0, 0) _ hp hA Tryz.underlying73 rfl (by rw [hc]; kernel_rfl)
theorem new_keys {L : List UInt8} {bol : Bool} {p : Pt} {n b : Nat} (hb : findM (memos L bol p) b ≠ none) (h : ∀ c, c ∈ mapsOf p → n ≤ c) : n ≤ b := by
 cases hm : findM (memos L bol p) b with
 | none => exact absurd hm hb
 | some m =>
  refine h b ?_
  rw [← memos_keys L bol p]
  exact List.mem_map.2 ⟨_, findM_mem hm, rfl⟩
structure OverD (r : Rx) (s : ByteArray) (bol : Bool) (g : Nat) (w : World) (e : Ending) (w' : World) : Prop where
 yes : s.size ≤ 60 → right true r = true → ∃ p M, e = .returned (wlv s bol (ptv p.P)) ∧ er p = heed g (bldE r) ∧ ReadyP s.data.toList bol p M w' ∧ ∀ b, M b ≠ none → w.heap.size ≤ b
 no : ¬ (s.size ≤ 60 ∧ right true r = true) → e = .returned (wlv ⟨#[]⟩ false (.pointer none))
 kp : Kp w w'
theorem OverD.not {r : Rx} {s : ByteArray} {bol : Bool} {g : Nat} {w w' : World} (h : ¬ (s.size ≤ 60 ∧ right true r = true)) (k : Kp w w') : OverD r s bol g w (.returned (wlv ⟨#[]⟩ false (.pointer none))) w' := ⟨fun a b => absurd ⟨a, b⟩ h, fun _ => rfl, k⟩
theorem over_any (r : Rx) (s : ByteArray) (bol : Bool) (g : Nat) (hg : g < 8) (ok : Nat → Prop) (k mn mx m : Int) (t : W4) (ad : Option Addr) (l c : Nat) (w : World) (hR : RxOk r) (hI : Is w ok r (rxv k mn mx m t (.slice ad l c))) :
  Calls Tryz.prog 22 #[rxv k mn mx m t (.slice ad l c), .string s, .bool bol, .int .u8 (g : Int)] w fun e w' => OverD r s bol g w e w' := by
 have HR := hid hR
 have HI := hid hI
 have HG := hid hg
 clear hR hI hg
 go_enter Tryz.func22, Tryz.ntmps22
 go_upto_region 1 with fail
 refine opq (fun W0 => W0.heap[w.heap.size]? = some (rxo k mn mx m t (.slice ad l c)) ∧ W0.heap[(w.heap.size + 1)]? = some (.cells #[.string ⟨#[]⟩, .bool false, .pointer none] 73) ∧ Kp w W0) ⟨by exact bl_alloc (last_of _ _) _, by exact last_at _ _ _ (by simp), by exact kpt⟩ ?_
 rintro W0 ⟨xA0, xZ0, xK0⟩
 have A0 := hid xA0
 have Z0 := hid xZ0
 have K0 := hid xK0
 clear xA0 xZ0 xK0
 by_cases h60 : s.size ≤ 60
 ·
  have g60 : ¬ (60 : Int) < (s.size : Int) := by omega
  have H60 := hid h60
  obtain ⟨a0, a1, a2, a3, a4, a5, a6, a7, a8⟩ := cells9 (A0.out)
  go_wp2_with fail
  clear a0 a1 a2 a3 a4 a5 a6 a7 a8
  refine (Right_any r true ok k mn mx m t ad l c _ HR.out (HI.out.kp K0.out)).mono ?_
  rintro e w1 ⟨rfl, hk⟩
  have A1 := hid (bl_kp A0.out hk)
  have Z1 := hid (bl_kp Z0.out hk)
  have K1 := hid (K0.out.trans hk)
  clear hk A0 Z0 K0
  cases hr : right true r with
  | false =>
   have HNO := hid (show ¬ (s.size ≤ 60 ∧ right true r = true) from fun e => by rw [hr] at e; cases e.2)
   clear hr
   obtain ⟨z0, fz0, z1, fz1, z2, fz2⟩ := cellf3 (Z1.out)
   go_wp2_with fail
   exact bodyPost_ret (v := .agg _) (wl_ret rfl _ _ _ _ rfl (bl_put (bl_put (bl_put Z1.out _) _) _) rfl) rfl (OverD.not HNO.out (Ks.up (P := w.heap.size + 1) ((((Ks.refl _ _).set _ _).set _ _).set _ _) K1.out (by omega)))
  | true =>
   have HRT := hid hr
   have BS := hid (build_any r (rxw_right HR.out hr))
   have HRW := hid (rxw_right HR.out hr)
   clear hr
   obtain ⟨a0, a1, a2, a3, a4, a5, a6, a7, a8⟩ := cells9 (A1.out)
   go_wp2_with fail
   clear a0 a1 a2 a3 a4 a5 a6 a7 a8
   refine (BS.out.all ok _ w1 (HI.out.kp K1.out)).mono ?_
   rintro e w2 ⟨p, rfl, hd0⟩
   have BD := hid hd0
   have HPF := hid (ptf_of r p hd0.er HRW.out)
   have HC := hid ((heed_any p (PtF.h p HPF.out)).all g w2 HG.out (PtAt.keep (Nat.le_refl _) (fun b _ _ => ⟨trivial, rfl⟩) p hd0.at_) hd0.nd)
   clear hd0
   go_wp2_with fail
   refine (HC.out).mono ?_
   rintro e w3 hd0
   obtain ⟨rfl, hp3, hk3⟩ := hd0.ex
   have K3 := hid (show Kp w w3 from Kx.kp (Kx.past2 (S := fun _ => False) (Kp.kx (K1.out.trans BD.out.kp)) hk3 (fun b hb e => by have := (BD.out.rng b (pblks_sub p b e)).1; have := K1.out.size; omega)))
   have Z3 := hid (bl_kx (bl_kp Z1.out BD.out.kp) hk3 (fun e => by have := (BD.out.rng _ (pblks_sub p _ e)).1; have := bl_lt Z1.out; omega))
   have HP3 := hid hp3
   have HM3 := hid (show ∀ b ∈ mapsOf p, w3.heap[b]? = some (.map #[] 0) from fun b hb => (hk3.block b (BD.out.rng b (maps_sub p b hb)).2 (fun e => by
    obtain ⟨K, n, e2⟩ := (PtAt.num p (PtAt.keep (ok' := TT) (Nat.le_refl _) (fun b _ _ => ⟨trivial, rfl⟩) p BD.out.at_) b e).1
    rw [map_cell (BD.out.maps b hb)] at e2
    cases e2)).trans (BD.out.maps b hb))
   clear hd0 hp3 hk3 HC Z1
   have Z1 := Z3
   obtain ⟨z0, fz0, z1, fz1, z2, fz2⟩ := cellf3 (Z1.out)
   go_wp2_with fail
   have KF := hid (show Ks (w.heap.size + 1) w3 _ from (((Ks.refl (w.heap.size + 1) w3).set 0 (.string s)).set 1 (.bool bol)).set 2 (ptv p.P))
   refine bodyPost_ret (v := .agg _) (wl_ret rfl _ _ _ _ rfl (bl_put (bl_put (bl_put Z1.out _) _) _) rfl) rfl ⟨fun _ _ => ⟨heed g p, _, by rw [(heed_P g p).1]; rfl, by rw [er_heed, BD.out.er], ReadyP.of (PtAt.keep KF.out.size (fun b hb hl => ⟨trivial, KF.out.block b hl hb⟩) _ (ptat_ok (ok := fun b => b ≠ w.heap.size + 1) (fun b hb e => ?_) _ HP3.out)) (by rw [(blks_heed g p).1]; exact BD.out.nd) (fun b hb => ?_) (ptn_heed g p BD.out.n_) (ptf_heed g p HG.out HPF.out), fun b hb => new_keys hb (fun c hc => by rw [maps_heed] at hc; have := (BD.out.rng c (maps_sub p c hc)).1; have := K1.out.size; omega)⟩, fun h => absurd ⟨H60.out, HRT.out⟩ h, KF.out.up K3.out (by omega)⟩
   ·
    rw [e] at hb
    have hz := bl_cell Z3.out 0 _ rfl
    rcases hb with ⟨K, n, e2⟩ | ⟨q, e2⟩ <;> (rw [hz] at e2; cases e2)
   ·
    rw [maps_heed] at hb
    have hm := HM3.out b hb
    exact (KF.out.block b (Array.getElem?_eq_some_iff.1 hm).1 (fun e => by rw [e, Z3.out] at hm; cases hm)).trans hm
 ·
  have g60 : (60 : Int) < (s.size : Int) := by omega
  have HNO := hid (show ¬ (s.size ≤ 60 ∧ right true r = true) from fun e => h60 e.1)
  have Z1 := Z0
  have K1 := K0
  obtain ⟨z0, fz0, z1, fz1, z2, fz2⟩ := cellf3 (Z1.out)
  go_wp2_with fail
  exact bodyPost_ret (v := .agg _) (wl_ret rfl _ _ _ _ rfl (bl_put (bl_put (bl_put Z1.out _) _) _) rfl) rfl (OverD.not HNO.out (Ks.up (P := w.heap.size + 1) ((((Ks.refl _ _).set _ _).set _ _).set _ _) K1.out (by omega)))
end Go.Proofs.YtnajcnhgeggngaaGreat.Way

/-! ### Spts -/

namespace Go.Proofs.YtnajcnhgeggngaaGreat.Way
set_option maxHeartbeats 2000000
set_option maxRecDepth 100000
open Go.RowKit Go.Proofs.YtnajcnhgeggngaaGreat

theorem at_ok {a N : Nat} (h : a ≤ N) (hN : N ≤ 60) : (Sp.at_ (a : Int)).Ok ∧ (Sp.at_ (a : Int)).In N := by
 unfold Sp.at_
 exact ⟨⟨by simp only; omega, by simp only; omega, Or.inl ⟨rfl, rfl⟩, Or.inl ⟨rfl, rfl⟩, Or.inl ⟨rfl, rfl⟩⟩, ⟨by simp only; omega, by simp only; omega, by simp only; omega, by simp only; omega⟩⟩
theorem spots_nil (s : ByteArray) (bol : Bool) (at_ : Int) (w : World) :
  Calls Tryz.prog 23 #[wlv s bol (.pointer none), .int .i64 at_] w fun e w' => e = .returned (.slice none 0 0) ∧ Kp w w' := by
 go_enter Tryz.func23, Tryz.ntmps23
 go_upto_region 1 with fail
 refine opq (fun W0 => W0.heap[w.heap.size]? = some (.cells #[.string s, .bool bol, .pointer none] 73) ∧ Kp w W0) ⟨by exact last_of _ _, by exact kpt⟩ ?_
 rintro W0 ⟨xA0, xK0⟩
 have A0 := hid xA0
 have K0 := hid xK0
 clear xA0 xK0
 obtain ⟨a0, a1, a2⟩ := cells3 (A0.out)
 go_wp2_with fail
 go_ret
 exact ⟨rfl, K0.out⟩
theorem spots_low (s : ByteArray) (bol : Bool) (P : Nat) (at_ : Int) (h : at_ < 0) (w : World) :
  Calls Tryz.prog 23 #[wlv s bol (ptv P), .int .i64 at_] w fun e w' => e = .returned (.slice none 0 0) ∧ Kp w w' := by
 go_enter Tryz.func23, Tryz.ntmps23
 go_upto_region 1 with fail
 refine opq (fun W0 => W0.heap[w.heap.size]? = some (.cells #[.string s, .bool bol, ptv P] 73) ∧ Kp w W0) ⟨by exact last_of _ _, by exact kpt⟩ ?_
 rintro W0 ⟨xA0, xK0⟩
 have A0 := hid xA0
 have K0 := hid xK0
 clear xA0 xK0
 obtain ⟨a0, a1, a2⟩ := cells3 (A0.out)
 go_wp2_with fail
 go_ret
 exact ⟨rfl, K0.out⟩
theorem spots_high (s : ByteArray) (bol : Bool) (P : Nat) (at_ : Int) (h0 : ¬ at_ < 0) (h : (s.size : Int) < at_) (w : World) :
  Calls Tryz.prog 23 #[wlv s bol (ptv P), .int .i64 at_] w fun e w' => e = .returned (.slice none 0 0) ∧ Kp w w' := by
 go_enter Tryz.func23, Tryz.ntmps23
 go_upto_region 1 with fail
 refine opq (fun W0 => W0.heap[w.heap.size]? = some (.cells #[.string s, .bool bol, ptv P] 73) ∧ Kp w W0) ⟨by exact last_of _ _, by exact kpt⟩ ?_
 rintro W0 ⟨xA0, xK0⟩
 have A0 := hid xA0
 have K0 := hid xK0
 clear xA0 xK0
 obtain ⟨a0, a1, a2⟩ := cells3 (A0.out)
 go_wp2_with fail
 go_ret
 exact ⟨rfl, K0.out⟩
theorem spots_any (s : ByteArray) (bol : Bool) (h60 : s.size ≤ 60) (p : Pt) (M : Nat → Option Memo) (a : Nat) (ha : a ≤ s.size) (w : World) (hR : ReadyP s.data.toList bol p M w) :
  Calls Tryz.prog 23 #[wlv s bol (ptv p.P), .int .i64 (a : Int)] w fun e w' => WaysD (ways s.data.toList bol p (Sp.at_ (a : Int))) (okB M (fun _ => False)) (Km M w) e w' := by
 have WS := hid (wsaid h60 p hR.w_)
 have HR := hid hR
 have g0 : ¬ (a : Int) < 0 := by omega
 have g1 : ¬ (s.size : Int) < (a : Int) := by omega
 have SA := hid (start_any a (by omega))
 have HX := hid (at_ok ha h60)
 clear hR h60 ha
 obtain ⟨P, hP⟩ : ∃ P, p.P = P := ⟨_, rfl⟩
 have CA : Hid (∀ W, Kp w W → Calls Tryz.prog 34 #[wkv s bol, ptv P, spv (Sp.at_ (a : Int))] W fun e w' => WaysD (ways s.data.toList bol p (Sp.at_ (a : Int))) (okB M (fun _ => False)) (fun w' => Km M W w' ∧ MemOk M (fun _ => False) w') e w') := fun W k => by
  rw [← hP]
  exact WS.out.all (fun _ => False) _ W HX.out.1 HX.out.2 (fun _ h => h.elim) (PtAt.keep k.size (fun b hb hl => ⟨hb, k.block b hl⟩) p HR.out.at_) ⟨fun b m hm => (HR.out.mem.at_ b m hm).keep (k.block b (HR.out.mem.at_ b m hm).lt) k.size (fun b hb hl => ⟨hb, k.block b hl⟩), HR.out.mem.own⟩
 rw [hP]
 clear hP WS HR HX
 go_enter Tryz.func23, Tryz.ntmps23
 go_upto_region 1 with fail
 refine opq (fun W0 => W0.heap[w.heap.size]? = some (.cells #[.string s, .bool bol, ptv P] 73) ∧ Kp w W0) ⟨by exact last_of _ _, by exact kpt⟩ ?_
 rintro W0 ⟨xA0, xK0⟩
 have A0 := hid xA0
 have K0 := hid xK0
 clear xA0 xK0
 obtain ⟨a0, a1, a2⟩ := cells3 (A0.out)
 go_upto_region 3 with fail
 clear a0 a1 a2
 have Q0 : Kp W0 W0.drew := (Kp.refl _).drew
 have MK : Hid (∀ W, Kp W0 W → W.cell? ⟨w.heap.size, 0, none⟩ = some (.string s) ∧ W.cell? ⟨w.heap.size, 1, none⟩ = some (.bool bol) ∧ W.cell? ⟨w.heap.size, 2, none⟩ = some (ptv P) ∧ Hid (Kp W0 W)) := fun W k => ⟨bl_cell (bl_kp A0.out k) 0 _ rfl, bl_cell (bl_kp A0.out k) 1 _ rfl, bl_cell (bl_kp A0.out k) 2 _ rfl, k⟩
 refine wp_region_noPanic ?_
 refine hdrewZ 6 MK Q0 (fun hH => ?_)
 have KQ := Q0
 refine zk 6 0 [1] (some 20) (Op.fieldAddr 73 (Operand.tmp 2) 0) 0 (v := ?v0z31) rfl ?h0z31 hH ?_
 case h0z31 => intro _ _; go_simp; try with_reducible rfl
 try simp only [ps]
 refine zk 6 1 [] (some 21) (Op.load 70 (Operand.tmp 20)) 70 (v := ?v1z32) rfl ?h1z32 hH ?_
 case h1z32 => intro _ _; go_simp; try with_reducible rfl
 try simp only [ps]
 refine zk 6 2 [3] (some 22) (Op.fieldAddr 73 (Operand.tmp 2) 1) 0 (v := ?v2z33) rfl ?h2z33 hH ?_
 case h2z33 => intro _ _; go_simp; try with_reducible rfl
 try simp only [ps]
 refine zk 6 3 [] (some 23) (Op.load 71 (Operand.tmp 22)) 71 (v := ?v3z34) rfl ?h3z34 hH ?_
 case h3z34 => intro _ _; go_simp; try with_reducible rfl
 try simp only [ps]
 refine zk 6 4 [5] (some 24) (Op.move (Operand.tmp 1)) 3 (v := ?v4z35) rfl ?h4z35 hH ?_
 case h4z35 => intro _ _; go_simp; try with_reducible rfl
 try simp only [ps]
 refine anyZ_ready (rs := [5]) (by kernel_rfl) (by simp) ?_
 refine AllZ.cons (o := { dst := some 25, op := Op.call { callee := Callee.value (Operand.func 35), args := #[Operand.tmp 24], argTypes := #[3] }, type := 83, pos := "way.go:84", after := #[{ on := 4, ground := Ground.data }], guard := none }) rfl (fun K hKq => ?_) AllZ.nil
 go_simp
 refine (SA.out _).mono ?_
 rintro e y1 ⟨rfl, kq⟩
 refine hKq.out _ _ (MK.out _ (KQ.trans kq)) (fun hN => ?_)
 clear kq
 clear hKq K hH KQ
 have hH := hN
 clear hN
 have KQ := hH.2.2.2.out
 try simp only [ps]
 refine anyZ_ready (rs := [6]) (by kernel_rfl) (by simp) ?_
 refine AllZ.last (o := { dst := some 26, op := Op.call { callee := Callee.value (Operand.func 34), args := #[Operand.tmp 21, Operand.tmp 23, Operand.tmp 25], argTypes := #[70, 71, 83] }, type := 68, pos := "way.go:84", after := #[{ on := 1, ground := Ground.data }, { on := 3, ground := Ground.data }, { on := 5, ground := Ground.data }, { on := 5, ground := Ground.chain }], guard := none }) rfl (Or.inl rfl) (fun K hKq => ?_) AllZ.nil
 go_simp
 refine (CA.out _ (K0.out.trans KQ)).mono ?_
 rintro e y2 hd0
 obtain ⟨v, rfl, hv, hk, hm⟩ := hd0.ex
 have HV := hid hv
 have HK := hid hk
 clear hd0 hv hk hm
 refine hKq.out _ _ ?_
 clear hKq K
 try simp only [ps]
 refine anyZ_ready (rs := [7]) (by kernel_rfl) (by simp) ?_
 refine AllZ.last (o := { dst := some 4, op := Op.assign (Operand.tmp 26), type := 68, pos := "way.go:84", after := #[{ on := 6, ground := Ground.data }, { on := 6, ground := Ground.chain }, { on := 0, ground := Ground.phase }, { on := 1, ground := Ground.phase }, { on := 2, ground := Ground.phase }, { on := 3, ground := Ground.phase }, { on := 4, ground := Ground.phase }, { on := 5, ground := Ground.phase }, { on := 6, ground := Ground.phase }], guard := none }) rfl (Or.inr (by kernel_rfl)) (fun K hKq => ?_) AllZ.nil
 go_simp
 refine hKq.out _ _ ?_
 clear hKq K
 try simp only [ps]
 refine anyZ_done (by kernel_rfl) ?_ _
 refine NoPanic.normal ?_
 have KF := hid (K0.out.trans KQ)
 go_wp2_with fail
 go_ret
 exact ⟨_, rfl, HV.out, (Kp.kx KF.out).trans HK.out⟩
end Go.Proofs.YtnajcnhgeggngaaGreat.Way

/-! ### Stt0 -/

namespace Go.Proofs.YtnajcnhgeggngaaGreat.Way
set_option maxHeartbeats 2000000
set_option maxRecDepth 100000
open Go.RowKit Go.Proofs.YtnajcnhgeggngaaGreat

abbrev none8 : Value := .agg #[.int .i64 (-1), .int .i64 (-1), .int .i64 (-1), .int .i64 (-1), .int .i64 (-1), .int .i64 (-1), .int .i64 (-1), .int .i64 (-1)]
def non8 : Nat → Obj
 | 0 => (.cells #[.int .i64 0, .int .i64 0, .int .i64 0, .int .i64 0, .int .i64 0, .int .i64 0, .int .i64 0, .int .i64 0] 36)
 | 1 => (.cells #[.int .i64 (-1), .int .i64 (-1), .int .i64 0, .int .i64 0, .int .i64 0, .int .i64 0, .int .i64 0, .int .i64 0] 36)
 | 2 => (.cells #[.int .i64 (-1), .int .i64 (-1), .int .i64 (-1), .int .i64 (-1), .int .i64 0, .int .i64 0, .int .i64 0, .int .i64 0] 36)
 | 3 => (.cells #[.int .i64 (-1), .int .i64 (-1), .int .i64 (-1), .int .i64 (-1), .int .i64 (-1), .int .i64 (-1), .int .i64 0, .int .i64 0] 36)
 | _ => (.cells #[.int .i64 (-1), .int .i64 (-1), .int .i64 (-1), .int .i64 (-1), .int .i64 (-1), .int .i64 (-1), .int .i64 (-1), .int .i64 (-1)] 36)
theorem non_ret {fn : Func} {p : Tmp} (h : fn.results = #[.cell p 36]) (tmps : Array Value) (w : World) (S : Nat) (cs : Array Value) (hp : tmps.getD p undef = .pointer (some ⟨S, 0, none⟩)) (hA : w.heap[S]? = some (.cells cs 36)) (hc : cs.size = 8) : (results fn tmps).run Tryz.prog w = .ok (.agg cs) w :=
 results_cell_row h tmps w S 36 _ (0, 0) _ hp hA Tryz.underlying36 rfl (by rw [hc]; kernel_rfl)
theorem nones_any (w : World) : Calls Tryz.prog 17 #[] w fun e w' => e = .returned none8 ∧ Kp w w' := by
 go_enter Tryz.func17, Tryz.ntmps17
 go_upto_region 2 with fail
 refine opq (fun W0 => W0.heap[w.heap.size]? = some (.cells #[.int .i64 0, .int .i64 0, .int .i64 0, .int .i64 0, .int .i64 0, .int .i64 0, .int .i64 0, .int .i64 0] 36) ∧ W0.heap[(w.heap.size + 1)]? = some (.cells #[.int .i64 0, .int .i64 0, .int .i64 0, .int .i64 0, .int .i64 0, .int .i64 0, .int .i64 0, .int .i64 0] 36) ∧ Kp w W0) ⟨by exact bl_alloc (last_of _ _) _, by exact last_at _ _ _ (by simp), by exact kpt⟩ ?_
 rintro W0 ⟨xZ0, xA0, xK0⟩
 have Z0 := hid xZ0
 have A0 := hid xA0
 have K0 := hid xK0
 clear xZ0 xA0 xK0
 go_wp2_with fail
 go_loopg [3] 4 (fun gg i wr => ∃ q : Nat, q + gg = 4 ∧ i = .int .i64 (q : Int) ∧ wr.heap[(w.heap.size + 1)]? = some (non8 q) ∧ Ks (w.heap.size + 1) W0 wr)
 case atStart => exact ⟨0, by omega, rfl, A0.out, Ks.refl _ _⟩
 case round =>
  obtain ⟨q, hq, rfl, hA, hK⟩ := hrel
  have K := hid hK
  have Z := hid (bl_ks Z0.out (by omega) hK)
  clear hK
  match q, hq with
  | 0, hq =>
   have A : Hid (wr.heap[(w.heap.size + 1)]? = some (.cells #[.int .i64 0, .int .i64 0, .int .i64 0, .int .i64 0, .int .i64 0, .int .i64 0, .int .i64 0, .int .i64 0] 36)) := hA
   clear hA
   have a0 := bl_cell (A.out) 0 _ rfl
   have a1 := bl_cell (A.out) 1 _ rfl
   have fa0 := bl_frozen (A.out) 0
   have fa1 := bl_frozen (A.out) 1
   go_wp2_with fail
   go_roundg (gk - 1)
   case measure => omega
   case rel => exact ⟨1, by omega, rfl, bl_put (bl_put A.out _) _, (K.out.set _ _).set _ _⟩
  | 1, hq =>
   have A : Hid (wr.heap[(w.heap.size + 1)]? = some (.cells #[.int .i64 (-1), .int .i64 (-1), .int .i64 0, .int .i64 0, .int .i64 0, .int .i64 0, .int .i64 0, .int .i64 0] 36)) := hA
   clear hA
   have a0 := bl_cell (A.out) 2 _ rfl
   have a1 := bl_cell (A.out) 3 _ rfl
   have fa0 := bl_frozen (A.out) 2
   have fa1 := bl_frozen (A.out) 3
   go_wp2_with fail
   go_roundg (gk - 1)
   case measure => omega
   case rel => exact ⟨2, by omega, rfl, bl_put (bl_put A.out _) _, (K.out.set _ _).set _ _⟩
  | 2, hq =>
   have A : Hid (wr.heap[(w.heap.size + 1)]? = some (.cells #[.int .i64 (-1), .int .i64 (-1), .int .i64 (-1), .int .i64 (-1), .int .i64 0, .int .i64 0, .int .i64 0, .int .i64 0] 36)) := hA
   clear hA
   have a0 := bl_cell (A.out) 4 _ rfl
   have a1 := bl_cell (A.out) 5 _ rfl
   have fa0 := bl_frozen (A.out) 4
   have fa1 := bl_frozen (A.out) 5
   go_wp2_with fail
   go_roundg (gk - 1)
   case measure => omega
   case rel => exact ⟨3, by omega, rfl, bl_put (bl_put A.out _) _, (K.out.set _ _).set _ _⟩
  | 3, hq =>
   have A : Hid (wr.heap[(w.heap.size + 1)]? = some (.cells #[.int .i64 (-1), .int .i64 (-1), .int .i64 (-1), .int .i64 (-1), .int .i64 (-1), .int .i64 (-1), .int .i64 0, .int .i64 0] 36)) := hA
   clear hA
   have a0 := bl_cell (A.out) 6 _ rfl
   have a1 := bl_cell (A.out) 7 _ rfl
   have fa0 := bl_frozen (A.out) 6
   have fa1 := bl_frozen (A.out) 7
   go_wp2_with fail
   go_roundg (gk - 1)
   case measure => omega
   case rel => exact ⟨4, by omega, rfl, bl_put (bl_put A.out _) _, (K.out.set _ _).set _ _⟩
  | 4, hq =>
   obtain rfl : gk = 0 := by omega
   have A : Hid (wr.heap[(w.heap.size + 1)]? = some (.cells #[.int .i64 (-1), .int .i64 (-1), .int .i64 (-1), .int .i64 (-1), .int .i64 (-1), .int .i64 (-1), .int .i64 (-1), .int .i64 (-1)] 36)) := hA
   clear hA
   obtain ⟨a0, a1, a2, a3, a4, a5, a6, a7⟩ := cells8 (A.out)
   have fz0 := bl_frozen (Z.out) 0
   have fz1 := bl_frozen (Z.out) 1
   have fz2 := bl_frozen (Z.out) 2
   have fz3 := bl_frozen (Z.out) 3
   have fz4 := bl_frozen (Z.out) 4
   have fz5 := bl_frozen (Z.out) 5
   have fz6 := bl_frozen (Z.out) 6
   have fz7 := bl_frozen (Z.out) 7
   obtain ⟨z0, z1, z2, z3, z4, z5, z6, z7⟩ := cells8 (Z.out)
   go_wp2_with fail
   exact bodyPost_ret (v := none8) (non_ret rfl _ _ _ _ rfl (bl_set8 Z.out _ _ _ _ _ _ _ _) rfl) rfl ⟨rfl, Ks.up (P := w.heap.size) (ks_set8 _ _ _ _ _ _ _ _) (K.out.up K0.out (by omega)) (Nat.le_refl _)⟩
  | q + 5, hq => omega
end Go.Proofs.YtnajcnhgeggngaaGreat.Way

/-! ### Stt -/

namespace Go.Proofs.YtnajcnhgeggngaaGreat.Way
set_option maxHeartbeats 2000000
set_option maxRecDepth 100000
open Go.RowKit Go.Proofs.YtnajcnhgeggngaaGreat

def stc (x : Sp) : List Value := [.int .i64 x.a, .int .i64 (-1), .int .i64 (-1), .int .i64 x.f0, .int .i64 x.t0, .int .i64 x.f1, .int .i64 x.t1, .int .i64 x.f2, .int .i64 x.t2]
abbrev stv (x : Sp) : Value := .agg #[.int .i64 x.a, .int .i64 (-1), .int .i64 (-1), .int .i64 x.f0, .int .i64 x.t0, .int .i64 x.f1, .int .i64 x.t1, .int .i64 x.f2, .int .i64 x.t2]
abbrev sto (x : Sp) : Obj := .cells #[.int .i64 x.a, .int .i64 (-1), .int .i64 (-1), .int .i64 x.f0, .int .i64 x.t0, .int .i64 x.f1, .int .i64 x.t1, .int .i64 x.f2, .int .i64 x.t2] 38
theorem bl_set9s {w : World} {B : Nat} {a0 a1 a2 a3 a4 a5 a6 a7 a8 : Value} {t : TypeId} (h : w.heap[B]? = some (.cells #[a0, a1, a2, a3, a4, a5, a6, a7, a8] t)) (x0 x1 x2 x3 x4 x5 x6 x7 x8 : Value) :
  (((((((((w.setCell ⟨B, 0, none⟩ x0).setCell ⟨B, 1, none⟩ x1).setCell ⟨B, 2, none⟩ x2).setCell ⟨B, 3, none⟩ x3).setCell ⟨B, 4, none⟩ x4).setCell ⟨B, 5, none⟩ x5).setCell ⟨B, 6, none⟩ x6).setCell ⟨B, 7, none⟩ x7).setCell ⟨B, 8, none⟩ x8).heap[B]? = some (.cells #[x0, x1, x2, x3, x4, x5, x6, x7, x8] t) := by
 have h0_ : (w.setCell ⟨B, 0, none⟩ x0).heap[B]? = some (.cells #[x0, a1, a2, a3, a4, a5, a6, a7, a8] t) := bl_put h x0
 have h1 : ((w.setCell ⟨B, 0, none⟩ x0).setCell ⟨B, 1, none⟩ x1).heap[B]? = some (.cells #[x0, x1, a2, a3, a4, a5, a6, a7, a8] t) := bl_put h0_ x1
 have h2 : (((w.setCell ⟨B, 0, none⟩ x0).setCell ⟨B, 1, none⟩ x1).setCell ⟨B, 2, none⟩ x2).heap[B]? = some (.cells #[x0, x1, x2, a3, a4, a5, a6, a7, a8] t) := bl_put h1 x2
 have h3 : ((((w.setCell ⟨B, 0, none⟩ x0).setCell ⟨B, 1, none⟩ x1).setCell ⟨B, 2, none⟩ x2).setCell ⟨B, 3, none⟩ x3).heap[B]? = some (.cells #[x0, x1, x2, x3, a4, a5, a6, a7, a8] t) := bl_put h2 x3
 have h4 : (((((w.setCell ⟨B, 0, none⟩ x0).setCell ⟨B, 1, none⟩ x1).setCell ⟨B, 2, none⟩ x2).setCell ⟨B, 3, none⟩ x3).setCell ⟨B, 4, none⟩ x4).heap[B]? = some (.cells #[x0, x1, x2, x3, x4, a5, a6, a7, a8] t) := bl_put h3 x4
 have h5 : ((((((w.setCell ⟨B, 0, none⟩ x0).setCell ⟨B, 1, none⟩ x1).setCell ⟨B, 2, none⟩ x2).setCell ⟨B, 3, none⟩ x3).setCell ⟨B, 4, none⟩ x4).setCell ⟨B, 5, none⟩ x5).heap[B]? = some (.cells #[x0, x1, x2, x3, x4, x5, a6, a7, a8] t) := bl_put h4 x5
 have h6 : (((((((w.setCell ⟨B, 0, none⟩ x0).setCell ⟨B, 1, none⟩ x1).setCell ⟨B, 2, none⟩ x2).setCell ⟨B, 3, none⟩ x3).setCell ⟨B, 4, none⟩ x4).setCell ⟨B, 5, none⟩ x5).setCell ⟨B, 6, none⟩ x6).heap[B]? = some (.cells #[x0, x1, x2, x3, x4, x5, x6, a7, a8] t) := bl_put h5 x6
 have h7 : ((((((((w.setCell ⟨B, 0, none⟩ x0).setCell ⟨B, 1, none⟩ x1).setCell ⟨B, 2, none⟩ x2).setCell ⟨B, 3, none⟩ x3).setCell ⟨B, 4, none⟩ x4).setCell ⟨B, 5, none⟩ x5).setCell ⟨B, 6, none⟩ x6).setCell ⟨B, 7, none⟩ x7).heap[B]? = some (.cells #[x0, x1, x2, x3, x4, x5, x6, x7, a8] t) := bl_put h6 x7
 have h8 : (((((((((w.setCell ⟨B, 0, none⟩ x0).setCell ⟨B, 1, none⟩ x1).setCell ⟨B, 2, none⟩ x2).setCell ⟨B, 3, none⟩ x3).setCell ⟨B, 4, none⟩ x4).setCell ⟨B, 5, none⟩ x5).setCell ⟨B, 6, none⟩ x6).setCell ⟨B, 7, none⟩ x7).setCell ⟨B, 8, none⟩ x8).heap[B]? = some (.cells #[x0, x1, x2, x3, x4, x5, x6, x7, x8] t) := bl_put h7 x8
 exact h8
theorem ks_set9s {w : World} {B : Nat} (x0 x1 x2 x3 x4 x5 x6 x7 x8 : Value) : Ks B w (((((((((w.setCell ⟨B, 0, none⟩ x0).setCell ⟨B, 1, none⟩ x1).setCell ⟨B, 2, none⟩ x2).setCell ⟨B, 3, none⟩ x3).setCell ⟨B, 4, none⟩ x4).setCell ⟨B, 5, none⟩ x5).setCell ⟨B, 6, none⟩ x6).setCell ⟨B, 7, none⟩ x7).setCell ⟨B, 8, none⟩ x8) :=
 (ks_set8 x0 x1 x2 x3 x4 x5 x6 x7).set 8 x8
def spn8 (x : Sp) : Nat → Obj
 | 0 => .cells #[.int .i64 (-1), .int .i64 (-1), .int .i64 (-1), .int .i64 (-1), .int .i64 (-1), .int .i64 (-1), .int .i64 (-1), .int .i64 (-1)] 36
 | 1 => .cells #[.int .i64 (-1), .int .i64 (-1), .int .i64 x.f0, .int .i64 x.t0, .int .i64 (-1), .int .i64 (-1), .int .i64 (-1), .int .i64 (-1)] 36
 | 2 => .cells #[.int .i64 (-1), .int .i64 (-1), .int .i64 x.f0, .int .i64 x.t0, .int .i64 x.f1, .int .i64 x.t1, .int .i64 (-1), .int .i64 (-1)] 36
 | _ => .cells #[.int .i64 (-1), .int .i64 (-1), .int .i64 x.f0, .int .i64 x.t0, .int .i64 x.f1, .int .i64 x.t1, .int .i64 x.f2, .int .i64 x.t2] 36
theorem st_ret {fn : Func} {p : Tmp} (h : fn.results = #[.cell p 38]) (tmps : Array Value) (w : World) (S : Nat) (cs : Array Value) (hp : tmps.getD p undef = .pointer (some ⟨S, 0, none⟩)) (hA : w.heap[S]? = some (.cells cs 38)) (hc : cs.size = 9) : (results fn tmps).run Tryz.prog w = .ok (.agg cs) w :=
 results_cell_row h tmps w S 38 _ (0, 0) _ hp hA Tryz.underlying38 rfl (by rw [hc]; kernel_rfl)
theorem spn_i64 {f t : Int} (h : Spn f t) : IntKind.i64.wrap f = f ∧ IntKind.i64.wrap t = t := by
 rcases h with ⟨rfl, rfl⟩ | ⟨h0, h1, h2⟩
 ·
  exact ⟨rfl, rfl⟩
 ·
  rw [IntKind.wrap_i64, IntKind.wrap_i64]; omega
theorem state_any (x : Sp) (hx : x.Ok) (w : World) : Calls Tryz.prog 25 #[spv x] w fun e w' => e = .returned (stv x) ∧ Kp w w' := by
 obtain ⟨cf0, ct0⟩ := spn_i64 hx.s0
 obtain ⟨cf1, ct1⟩ := spn_i64 hx.s1
 obtain ⟨cf2, ct2⟩ := spn_i64 hx.s2
 have ca : IntKind.i64.wrap x.a = x.a := by have := hx.a0; have := hx.a1; rw [IntKind.wrap_i64]; omega
 clear hx
 have i0 : ∀ w : World, (Instr.index 81 (.agg #[.int .i8 x.f0, .int .i8 x.t0, .int .i8 x.f1, .int .i8 x.t1, .int .i8 x.f2, .int .i8 x.t2]) (.int .i64 0)).run Tryz.prog w = .ok (.agg #[.int .i8 x.f0, .int .i8 x.t0]) w := fun w => by kernel_rfl
 have i1 : ∀ w : World, (Instr.index 81 (.agg #[.int .i8 x.f0, .int .i8 x.t0, .int .i8 x.f1, .int .i8 x.t1, .int .i8 x.f2, .int .i8 x.t2]) (.int .i64 1)).run Tryz.prog w = .ok (.agg #[.int .i8 x.f1, .int .i8 x.t1]) w := fun w => by kernel_rfl
 have i2 : ∀ w : World, (Instr.index 81 (.agg #[.int .i8 x.f0, .int .i8 x.t0, .int .i8 x.f1, .int .i8 x.t1, .int .i8 x.f2, .int .i8 x.t2]) (.int .i64 2)).run Tryz.prog w = .ok (.agg #[.int .i8 x.f2, .int .i8 x.t2]) w := fun w => by kernel_rfl
 go_enter Tryz.func25, Tryz.ntmps25
 go_upto_region 1 with fail
 refine opq (fun W0 => W0.heap[w.heap.size]? = some (spo x) ∧ W0.heap[(w.heap.size + 1)]? = some (.cells #[.int .i64 0, .int .i64 0, .int .i64 0, .int .i64 0, .int .i64 0, .int .i64 0, .int .i64 0, .int .i64 0, .int .i64 0] 38) ∧ Kp w W0) ⟨by exact bl_alloc (last_of _ _) _, by exact last_at _ _ _ (by simp), by exact kpt⟩ ?_
 rintro W0 ⟨xX0, xZ0, xK0⟩
 have X0 := hid xX0
 have Z0 := hid xZ0
 have K0 := hid xK0
 clear xX0 xZ0 xK0
 go_wp2_with fail
 refine (nones_any _).mono ?_
 rintro e w1 ⟨rfl, hk⟩
 have X1 := hid (bl_kp X0.out hk)
 have Z1 := hid (bl_kp Z0.out hk)
 have K1 := hid (K0.out.trans hk)
 clear hk X0 Z0 K0
 go_upto_region 2 with fail
 refine opq (fun W2 => W2.heap[w1.heap.size]? = some (.cells #[.int .i64 (-1), .int .i64 (-1), .int .i64 (-1), .int .i64 (-1), .int .i64 (-1), .int .i64 (-1), .int .i64 (-1), .int .i64 (-1)] 36) ∧ Kp w1 W2) ⟨by exact last_of _ _, by exact kpt⟩ ?_
 rintro W2 ⟨xA2, xK2⟩
 have A2 := hid xA2
 have K2 := hid xK2
 clear xA2 xK2
 have X2 := hid (bl_kp X1.out K2.out)
 have Z2 := hid (bl_kp Z1.out K2.out)
 have KW := hid (K1.out.trans K2.out)
 have HX1 := hid (bl_lt X1.out)
 have HZ1 := hid (bl_lt Z1.out)
 clear X1 Z1
 obtain ⟨x0, x1, x2, x3, x4, x5, x6⟩ := cells7 (X2.out)
 go_wp2_with fail
 clear x0 x1 x2 x3 x4 x5 x6
 go_loopg [9] 3 (fun gg i wr => ∃ q : Nat, q + gg = 3 ∧ i = .int .i64 (q : Int) ∧ wr.heap[w1.heap.size]? = some (spn8 x q) ∧ Ks w1.heap.size W2 wr)
 case atStart => exact ⟨0, by omega, rfl, A2.out, Ks.refl _ _⟩
 case round =>
  obtain ⟨q, hq, rfl, hA, hK⟩ := hrel
  have K := hid hK
  have X := hid (bl_ks X2.out (by have := HX1.out; omega) hK)
  have Z := hid (bl_ks Z2.out (by have := HZ1.out; omega) hK)
  clear hK
  match q, hq with
  | 0, hq =>
   have A : Hid (wr.heap[w1.heap.size]? = some (.cells #[.int .i64 (-1), .int .i64 (-1), .int .i64 (-1), .int .i64 (-1), .int .i64 (-1), .int .i64 (-1), .int .i64 (-1), .int .i64 (-1)] 36)) := hA
   clear hA
   go_upto_region 5 with fail
   refine opq (fun W5 => W5.heap[wr.heap.size]? = some (.cells #[.int .i8 x.f0, .int .i8 x.t0] 80) ∧ Kp wr W5) ⟨by exact last_of _ _, by exact kpt⟩ ?_
   rintro W5 ⟨xU5, xK5⟩
   have U5 := hid xU5
   have K5 := hid xK5
   clear xU5 xK5
   have A5 := hid (bl_kp A.out K5.out)
   have u0 := bl_cell (U5.out) 0 _ rfl
   have u1 := bl_cell (U5.out) 1 _ rfl
   have a0 := bl_cell (A5.out) 2 _ rfl
   have a1 := bl_cell (A5.out) 3 _ rfl
   have fa0 := bl_frozen (A5.out) 2
   have fa1 := bl_frozen (A5.out) 3
   go_wp2_with fail
   go_roundg (gk - 1)
   case measure => omega
   case rel => exact ⟨1, by omega, rfl, bl_put (bl_put A5.out _) _, ((K.out.kp K5.out (Nat.le_of_lt (bl_lt A.out))).set _ _).set _ _⟩
  | 1, hq =>
   have A : Hid (wr.heap[w1.heap.size]? = some (.cells #[.int .i64 (-1), .int .i64 (-1), .int .i64 x.f0, .int .i64 x.t0, .int .i64 (-1), .int .i64 (-1), .int .i64 (-1), .int .i64 (-1)] 36)) := hA
   clear hA
   go_upto_region 5 with fail
   refine opq (fun W5 => W5.heap[wr.heap.size]? = some (.cells #[.int .i8 x.f1, .int .i8 x.t1] 80) ∧ Kp wr W5) ⟨by exact last_of _ _, by exact kpt⟩ ?_
   rintro W5 ⟨xU5, xK5⟩
   have U5 := hid xU5
   have K5 := hid xK5
   clear xU5 xK5
   have A5 := hid (bl_kp A.out K5.out)
   have u0 := bl_cell (U5.out) 0 _ rfl
   have u1 := bl_cell (U5.out) 1 _ rfl
   have a0 := bl_cell (A5.out) 4 _ rfl
   have a1 := bl_cell (A5.out) 5 _ rfl
   have fa0 := bl_frozen (A5.out) 4
   have fa1 := bl_frozen (A5.out) 5
   go_wp2_with fail
   go_roundg (gk - 1)
   case measure => omega
   case rel => exact ⟨2, by omega, rfl, bl_put (bl_put A5.out _) _, ((K.out.kp K5.out (Nat.le_of_lt (bl_lt A.out))).set _ _).set _ _⟩
  | 2, hq =>
   have A : Hid (wr.heap[w1.heap.size]? = some (.cells #[.int .i64 (-1), .int .i64 (-1), .int .i64 x.f0, .int .i64 x.t0, .int .i64 x.f1, .int .i64 x.t1, .int .i64 (-1), .int .i64 (-1)] 36)) := hA
   clear hA
   go_upto_region 5 with fail
   refine opq (fun W5 => W5.heap[wr.heap.size]? = some (.cells #[.int .i8 x.f2, .int .i8 x.t2] 80) ∧ Kp wr W5) ⟨by exact last_of _ _, by exact kpt⟩ ?_
   rintro W5 ⟨xU5, xK5⟩
   have U5 := hid xU5
   have K5 := hid xK5
   clear xU5 xK5
   have A5 := hid (bl_kp A.out K5.out)
   have u0 := bl_cell (U5.out) 0 _ rfl
   have u1 := bl_cell (U5.out) 1 _ rfl
   have a0 := bl_cell (A5.out) 6 _ rfl
   have a1 := bl_cell (A5.out) 7 _ rfl
   have fa0 := bl_frozen (A5.out) 6
   have fa1 := bl_frozen (A5.out) 7
   go_wp2_with fail
   go_roundg (gk - 1)
   case measure => omega
   case rel => exact ⟨3, by omega, rfl, bl_put (bl_put A5.out _) _, ((K.out.kp K5.out (Nat.le_of_lt (bl_lt A.out))).set _ _).set _ _⟩
  | 3, hq =>
   obtain rfl : gk = 0 := by omega
   have A : Hid (wr.heap[w1.heap.size]? = some (.cells #[.int .i64 (-1), .int .i64 (-1), .int .i64 x.f0, .int .i64 x.t0, .int .i64 x.f1, .int .i64 x.t1, .int .i64 x.f2, .int .i64 x.t2] 36)) := hA
   clear hA
   obtain ⟨a0, a1, a2, a3, a4, a5, a6, a7⟩ := cells8 (A.out)
   have x0 := bl_cell (X.out) 0 _ rfl
   have fz0 := bl_frozen (Z.out) 0
   have fz1 := bl_frozen (Z.out) 1
   have fz2 := bl_frozen (Z.out) 2
   have fz3 := bl_frozen (Z.out) 3
   have fz4 := bl_frozen (Z.out) 4
   have fz5 := bl_frozen (Z.out) 5
   have fz6 := bl_frozen (Z.out) 6
   have fz7 := bl_frozen (Z.out) 7
   have fz8 := bl_frozen (Z.out) 8
   obtain ⟨z0, z1, z2, z3, z4, z5, z6, z7, z8⟩ := cells9 (Z.out)
   go_wp2_with fail
   exact bodyPost_ret (v := stv x) (st_ret rfl _ _ _ _ rfl (bl_set9s Z.out _ _ _ _ _ _ _ _ _) rfl) rfl ⟨rfl, Ks.up (P := w.heap.size + 1) (ks_set9s _ _ _ _ _ _ _ _ _) (K.out.up KW.out (by have := HZ1.out; have := K1.out.size; omega)) (by omega)⟩
  | q + 4, hq => omega
end Go.Proofs.YtnajcnhgeggngaaGreat.Way

/-! ### Gro -/

namespace Go.Proofs.YtnajcnhgeggngaaGreat.Way
set_option maxHeartbeats 2000000
set_option maxRecDepth 100000
open Go.RowKit Go.Proofs.YtnajcnhgeggngaaGreat

def stcs : List Sp → List Value
 | [] => []
 | x :: xs => stc x ++ stcs xs
theorem stcs_append (a b : List Sp) : stcs (a ++ b) = stcs a ++ stcs b := by
 induction a with
 | nil => rfl
 | cons x xs ih => rw [List.cons_append, stcs, stcs, ih, List.append_assoc]
theorem stcs_one (x : Sp) : stcs [x] = stc x := by rw [stcs, stcs, List.append_nil]
theorem stcs_length (a : List Sp) : (stcs a).length = a.length * 9 := by
 induction a with
 | nil => rfl
 | cons x xs ih => rw [stcs, List.length_append, ih, List.length_cons]; show 9 + xs.length * 9 = _; omega
theorem stcs_get (a : List Sp) : ∀ (j : Nat) x, a[j]? = some x → ∀ (i : Nat) u, (stc x)[i]? = some u → (stcs a)[j * 9 + i]? = some u := by
 induction a with
 | nil => intro j x hj; simp at hj
 | cons y ys ih =>
  intro j x hj i u hi
  have hi9 : i < 9 := (List.getElem?_eq_some_iff.1 hi).1
  match j, hj with
  | 0, hj =>
   obtain rfl : y = x := by simpa using hj
   rw [stcs, Nat.zero_mul, Nat.zero_add, List.getElem?_append_left (by show i < 9; exact hi9)]
   exact hi
  | j + 1, hj =>
   rw [stcs, List.getElem?_append_right (by show 9 ≤ _; omega), show (j + 1) * 9 + i - (stc y).length = j * 9 + i by show (j + 1) * 9 + i - 9 = _; omega]
   exact ih j x (by simpa using hj) i u hi
theorem stc_one (x : Sp) : ∀ u ∈ stc x, u.oneCell' = true := by
 intro u hu
 simp [stc] at hu
 rcases hu with rfl | rfl | rfl | rfl | rfl | rfl | rfl | rfl <;> rfl
abbrev stz : Value := .agg #[.int .i64 0, .int .i64 0, .int .i64 0, .int .i64 0, .int .i64 0, .int .i64 0, .int .i64 0, .int .i64 0, .int .i64 0]
theorem info38 : ∃ i, Tryz.prog.info? 38 = some i ∧ i.zero = some stz ∧ i.size = 9 ∧ i.bytes = 72 := by
 obtain ⟨i, hi, h0, h1, h2⟩ := info_parts (P := Tryz.prog) (e := 38) (z := stz) (size := 9) (bytes := 72) (by kernel_rfl)
 exact ⟨i, hi, h0, h1, h2⟩
structure StR (base : Nat) (w : World) (v : Value) (xs : List Sp) : Prop where
 own : w.ownsRow base 38 9 v xs.length (stcs xs)
theorem StR.nil (base : Nat) (w : World) : StR base w (.slice none 0 0) [] := ⟨World.ownsRow_nil _ _ _ _⟩
theorem StR.block {base : Nat} {w : World} {v : Value} {xs : List Sp} (h : StR base w v xs) : ∀ b, v.ownBlock = some b → base ≤ b ∧ b < w.heap.size := h.own.lt
theorem StR.turn {base : Nat} {w w' : World} {v : Value} {xs : List Sp} (h : StR base w v xs) (hk : ∀ b, v.ownBlock = some b → b < w.heap.size → w'.heap[b]? = w.heap[b]?) : StR base w' v xs := ⟨owns_same h.own hk⟩
theorem StR.kp {base : Nat} {w w' : World} {v : Value} {xs : List Sp} (h : StR base w v xs) (k : Kp w w') : StR base w' v xs := h.turn (fun b _ hl => k.block b hl)
theorem StR.form {base : Nat} {w : World} {v : Value} {xs : List Sp} (h : StR base w v xs) : ∃ ad c, v = .slice ad xs.length c ∧ xs.length ≤ c := by
 rcases h.own.2 with ⟨rfl, h0⟩ | ⟨g, cap, cur, hv, _, _, hc, _⟩
 ·
  exact ⟨none, 0, by rw [h0], by omega⟩
 ·
  exact ⟨_, cap, hv, hc⟩
structure StL (w : World) (ok : Nat → Prop) (v : Value) (xs : List Sp) : Prop where
 ex : ∃ ad c, v = .slice ad xs.length c ∧ xs.length ≤ c ∧ (0 < xs.length → ∃ b, ad = some ⟨b, 0, none⟩ ∧ ok b ∧ b < w.heap.size ∧ ∀ (j : Nat) x, xs[j]? = some x → ∀ i u, (stc x)[i]? = some u → w.cell? ⟨b, j * 9 + i, none⟩ = some u)
theorem StL.keep {w w' : World} {ok ok' : Nat → Prop} {v : Value} {xs : List Sp} (h : StL w ok v xs) (hs : w.heap.size ≤ w'.heap.size) (hk : ∀ b, ok b → b < w.heap.size → ok' b ∧ w'.heap[b]? = w.heap[b]?) : StL w' ok' v xs := by
 obtain ⟨ad, c, h1, h2, h3⟩ := h.ex
 refine ⟨ad, c, h1, h2, fun hl => ?_⟩
 obtain ⟨b, e, hb, hlt, hc⟩ := h3 hl
 exact ⟨b, e, (hk b hb hlt).1, by omega, fun j x hj i u hi => (cell_same (hk b hb hlt).2 _).trans (hc j x hj i u hi)⟩
theorem StR.stl {base : Nat} {w : World} {v : Value} {xs : List Sp} (h : StR base w v xs) {ok : Nat → Prop} (hok : ∀ b, v.ownBlock = some b → ok b) : StL w ok v xs := by
 have hown := h.own
 rcases h.own.2 with ⟨rfl, h0⟩ | ⟨g, cap, cur, rfl, hb, hg, hc, _⟩
 ·
  exact ⟨none, 0, by rw [h0], by omega, fun hl => absurd hl (by omega)⟩
 ·
  refine ⟨_, cap, rfl, hc, fun _ => ⟨g, rfl, hok g rfl, bl_lt hg, fun j x hj i u hi => ?_⟩⟩
  have hj' : j < xs.length := (List.getElem?_eq_some_iff.1 hj).1
  have hi9 : i < 9 := (List.getElem?_eq_some_iff.1 hi).1
  rw [World.ownsRow.cellAt hown (j * 9 + i) (by omega)]
  exact stcs_get xs j x hj i u hi
structure MoreS (base : Nat) (w : World) (v : Value) (xs : List Sp) (x : Sp) (v' : Value) (w' : World) : Prop where
 row : StR base w' v' (xs ++ [x])
 grown : w.grownBy w' v.ownBlock
 block : v'.ownBlock = v.ownBlock ∨ v'.ownBlock = some w.heap.size
theorem run_append_st (w : World) (base : Nat) (v : Value) (xs : List Sp) (x : Sp) (ty : TypeId) (hG : StR base w v xs) (B : Nat) (hB : w.heap[B]? = some (sto x)) (hn : xs.length ≤ 1000000000000) (hb : base ≤ w.heap.size) :
  ∃ v' w', (Builtin.append_ #[31, 31] ty #[v, .slice (some ⟨B, 0, none⟩) 1 1]).run Tryz.prog w = .ok v' w' ∧ MoreS base w v xs x v' w' := by
 obtain ⟨i, hi, hz, hsz, hby⟩ := info38
 obtain ⟨v', w', hr, h2, h3, _, h5⟩ := run_append_own_at (P := Tryz.prog) w base 31 ty 38 i stz 9 72 Tryz.underlying31 hi hz hsz hby rfl (by omega) v xs.length (stcs xs) hG.own ⟨B, 0, none⟩ 1 1 (stc x) rfl (fun j u hj => by
  rw [Go.WideShapes.add_plain, Nat.zero_add]
  refine bl_cell hB j u ?_
  rw [← Array.getElem?_toList]
  exact hj) (stc_one x) (by unfold maxLen; omega) (by omega) hb
 refine ⟨v', w', hr, ⟨⟨?_⟩, h3, h5⟩⟩
 rw [List.length_append, stcs_append, stcs_one]
 exact h2
theorem wpList_append_st {ops : Array Oper} {rest : List Oper} {o : Oper} {a : Act} {Q : Exit → Act → World → Prop} (w : World) (hgd : o.guard = none) (s y : Operand)
  (ho : o.op = .call { callee := .builtin .append, args := #[s, y], argTypes := #[31, 31] })
  (base : Nat) (v : Value) (xs : List Sp) (x : Sp) (hs : a.eval s = v) (B : Nat) (hy : a.eval y = .slice (some ⟨B, 0, none⟩) 1 1) (hG : Hid (StR base w v xs)) (hB : w.heap[B]? = some (sto x)) (hn : xs.length ≤ 1000000000000) (hb : base ≤ w.heap.size)
  (h : ∀ v' w', MoreS base w v xs x v' w' → wpList Tryz.prog ops Q rest (a.put o.dst v') w') :
  wpList Tryz.prog ops Q (o :: rest) a w := by
 refine wpList_plain hgd fun K hK => ?_
 obtain ⟨v', w', hr, hg⟩ := run_append_st w base v xs x o.type hG.out B hB hn hb
 unfold Oper.wp execOp
 simp only [ho, resolve, invoke, builtin, Sem.run_bind, Sem.run_pure, Result.andThen_ok, List.map_toArray, List.map_cons, List.map_nil, hs, hy, hr]
 exact hK _ _ (h v' w' hg)
structure FreshR (n sz c : Nat) (w w' : World) : Prop where
 cap : n ≤ c ∧ c ≤ maxLen
 blk : ∃ cur, w'.heap[sz]? = some (.cells cur 38) ∧ cur.size = c * 9
 kp : Kp w w'
theorem wpList_grow {ops : Array Oper} {rest : List Oper} {o : Oper} {a : Act} {Q : Exit → Act → World → Prop} (w : World) (hgd : o.guard = none) (s y : Operand)
  (ho : o.op = .call { callee := .builtin .append, args := #[s, y], argTypes := #[31, 3] })
  (n : Nat) (hs : a.eval s = .slice none 0 0) (hy : a.eval y = .int .i64 (n : Int)) (h0 : 0 < n) (hn : n ≤ 1000000000000)
  (h : ∀ c w', FreshR n w.heap.size c w w' → wpList Tryz.prog ops Q rest (a.put o.dst (.slice (some ⟨w.heap.size, 0, none⟩) n c)) w') :
  wpList Tryz.prog ops Q (o :: rest) a w := by
 refine wpList_plain hgd fun K hK => ?_
 obtain ⟨i, hi, hz, hsz, hby⟩ := info38
 have hr := Go.Lib.run_append_nil_zeros (P := Tryz.prog) w 31 3 o.type 38 i stz .i64 .i64 Tryz.underlying31 Tryz.underlying3 hi hz n h0 (by omega) (by omega) (by rw [hby]; omega)
 unfold Oper.wp execOp
 simp only [ho, resolve, invoke, builtin, Sem.run_bind, Sem.run_pure, Result.andThen_ok, List.map_toArray, List.map_cons, List.map_nil, hs, hy, hr]
 have hge := grownCap_ge w n 0 38
 refine hK _ _ (h _ _ ⟨⟨hge, grownCap_le_maxLen w n 0 38 (by unfold maxLen; omega)⟩, ⟨_, last_of _ _, ?_⟩, ((Kp.refl w).drew).alloc _⟩)
 rw [Array.size_append, size_zeroCells, size_zeroCells, show stz.cells.size = 9 from rfl, ← Nat.add_mul, Nat.add_sub_cancel' hge]
theorem FreshR.row {n c sz : Nat} {w w' : World} (h : FreshR n sz c w w') (base : Nat) (hb : base ≤ sz) : StR base w' (.slice (some ⟨sz, 0, none⟩) 0 c) [] := by
 obtain ⟨cur, h1, h2⟩ := h.blk
 exact ⟨⟨rfl, .inr ⟨sz, c, cur, rfl, hb, h1, Nat.zero_le _, h.cap.2, h2, rfl⟩⟩⟩
theorem grow_any (n : Nat) (hn : n ≤ 1000000000000) (w : World) :
  Calls Tryz.prog 24 #[.slice none 0 0, .int .i64 (n : Int)] w fun e w' => ∃ v, e = .returned v ∧ StR w.heap.size w' v [] ∧ Kp w w' := by
 have gn : ¬ (n : Int) < 0 := by omega
 have gw : wrap64 (n : Int) = (n : Int) := by unfold wrap64; omega
 have HN := hid hn
 clear hn
 by_cases h0 : n = 0
 ·
  subst h0
  go_enter Tryz.func24, Tryz.ntmps24
  go_wp2_with fail
  go_ret
  exact ⟨_, rfl, StR.nil _ _, kpt⟩
 ·
  have hp : 0 < (n : Int) := by omega
  have H0 := hid (show 0 < n by omega)
  clear h0
  go_enter Tryz.func24, Tryz.ntmps24
  go_wp2_with (at_builtin; go_must (refine wpList_grow _ (by rfl) _ _ (by rfl) n (by rfl) (by show Value.int IntKind.i64 (wrap64 (n : Int)) = _; rw [gw]) H0.out ?hn ?_))
  case hn => exact HN.out
  intro c w' fr
  have FR := hid fr
  clear fr
  go_wp2_with fail
  go_ret
  exact ⟨_, rfl, FR.out.row _ (Nat.le_refl _), FR.out.kp⟩
end Go.Proofs.YtnajcnhgeggngaaGreat.Way
