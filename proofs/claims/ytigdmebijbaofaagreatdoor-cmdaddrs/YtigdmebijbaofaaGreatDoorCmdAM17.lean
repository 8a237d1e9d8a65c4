/-
  Texts of this claim: Runs, KSame, SameEq, Count2.
-/
import Derived.Test.YtigdmebijbaofaaGreatDoorCmdAM4
import Derived.Test.YtigdmebijbaofaaGreatDoorCmdAM12
import Derived.Test.YtigdmebijbaofaaGreatDoorCmdAM16
import Derived.Test.YtigdmebijbaofaaGreatDoorCmdAM13

/-! ### Runs -/

namespace Go.Proofs.YtigdmebijbaofaaGreatDoor
open Go.RowKit

def Rx.kn : Rx → Nat | .mk _ _ _ _ _ kids => kids.length
def Rx.set : Rx → W4 | .mk _ _ _ _ s _ => s
mutual
def rxOkB : Rx → Bool
 | .mk _ _ _ _ s kids => decide (kids.length ≤ 1000000) && decide (s.a < 18446744073709551616) && decide (s.b < 18446744073709551616) && decide (s.c < 18446744073709551616) && decide (s.d < 18446744073709551616) && rxOkL kids
def rxOkL : List Rx → Bool
 | [] => true
 | r :: rs => rxOkB r && rxOkL rs
end
theorem rxOkL_mem : ∀ (rs : List Rx), rxOkL rs = true → ∀ r ∈ rs, rxOkB r = true
 | [], _, r, h => by simp at h
 | x :: rs, h, r, hr => by
  unfold rxOkL at h
  rw [Bool.and_eq_true] at h
  rcases List.mem_cons.1 hr with rfl | hr
  ·
   exact h.1
  ·
   exact rxOkL_mem rs h.2 r hr
theorem rxOk_of : ∀ r, rxOkB r = true → RxOk r
 | .mk k mn mx n s kids, h => by
  unfold rxOkB at h
  simp only [Bool.and_eq_true, decide_eq_true_eq] at h
  obtain ⟨⟨⟨⟨⟨h1, h2⟩, h3⟩, h4⟩, h5⟩, h6⟩ := h
  unfold RxOk
  exact ⟨h1, ⟨h2, h3, h4, h5⟩, fun a ha => rxOk_of a (rxOkL_mem kids h6 a ha)⟩
termination_by r => SizeOf.sizeOf r
decreasing_by
 have := List.sizeOf_lt_of_mem ha
 simp
 omega
structure Pd (w : World) (T : Rx) (k mn mx m : Int) (t : W4) (ad : Option Addr) (l c : Nat) : Prop where
 is : Is w (fun _ => True) T (rxv k mn mx m t (.slice ad l c))
theorem Pd.kp {w w' : World} {T : Rx} {k mn mx m : Int} {t : W4} {ad : Option Addr} {l c : Nat} (h : Pd w T k mn mx m t ad l c) (q : Kp w w') : Pd w' T k mn mx m t ad l c := ⟨h.is.kp q⟩
theorem Pd.all {w : World} {T : Rx} {k mn mx m : Int} {t : W4} {ad : Option Addr} {l c : Nat} (h : Pd w T k mn mx m t ad l c) : l = T.kn ∧ k = T.k ∧ t = T.set := by
 cases T with
 | mk k' mn' mx' n' s' kids =>
  obtain ⟨ad', l', c', he, hr⟩ := h.is.row
  injection he with he
  injection he with he
  simp at he
  obtain ⟨rfl, _, _, _, h1, h2, h3, h4, _, rfl, _⟩ := he
  refine ⟨hr.ln, rfl, ?_⟩
  show t = s'
  obtain ⟨t1, t2, t3, t4⟩ := t
  obtain ⟨q1, q2, q3, q4⟩ := s'
  have e1 : t1 = q1 := Int.ofNat.inj h1
  have e2 : t2 = q2 := Int.ofNat.inj h2
  have e3 : t3 = q3 := Int.ofNat.inj h3
  have e4 : t4 = q4 := Int.ofNat.inj h4
  subst e1; subst e2; subst e3; subst e4
  rfl

theorem parse_at (s : ByteArray) (ere : Bool) (T : Rx) (n e : Nat) (hs : s.size ≤ 1000000) (hp : pParse s ere = (T, n, e)) (w : World) (h0 : ∃ m, w.cell? ⟨1, 0, none⟩ = some (.int .i64 m)) :
  Calls Tryz.prog 21 #[.string s, .bool ere] w fun en w' => ∃ k mn mx m t ad l c, en = .returned (.tuple #[rxv k mn mx m t (.slice ad l c), .int .i64 (n : Int), .int .i64 (e : Int)]) ∧ Pd w' T k mn mx m t ad l c ∧ Kp w w' := by
 refine (parse_any s ere w h0 hs).mono ?_
 intro en w' hx
 obtain ⟨v, rfl, hI, hk⟩ := hx.ex
 rw [hp] at hI ⊢
 obtain ⟨k, mn, mx, m, t, ad, l, c, rfl⟩ := hI.form
 exact ⟨k, mn, mx, m, t, ad, l, c, rfl, ⟨hI.weak (fun _ _ _ => trivial)⟩, hk⟩
theorem cell0 {w w' : World} (h : ∃ m, w.cell? ⟨1, 0, none⟩ = some (.int .i64 m)) (k : Kp w w') : ∃ m, w'.cell? ⟨1, 0, none⟩ = some (.int .i64 m) := by
 obtain ⟨m, hm⟩ := h
 exact ⟨m, (k.cell (World.block_lt_of_cell? w _ hm)).trans hm⟩

end Go.Proofs.YtigdmebijbaofaaGreatDoor

/-! ### KSame -/

namespace Go.Proofs.YtigdmebijbaofaaGreatDoor
open Go.RowKit

end Go.Proofs.YtigdmebijbaofaaGreatDoor

/-! ### SameEq -/

namespace Go.Proofs.YtigdmebijbaofaaGreatDoor
open Go.RowKit

mutual
theorem sameR_refl : ∀ a : Rx, sameR a a = true
 | .mk k mn mx n s ks => by simp [sameR, sameL_refl ks]
theorem sameL_refl : ∀ a : List Rx, sameL a a = true
 | [] => by simp [sameL]
 | a :: l => by simp [sameL, sameR_refl a, sameL_refl l]
end
mutual
theorem sameR_eq : ∀ a b : Rx, sameR a b = true → a = b
 | .mk k mn mx n s ks, .mk k' mn' mx' n' s' ks', h => by
  simp only [sameR, Bool.and_eq_true, beq_iff_eq] at h
  obtain ⟨⟨⟨⟨⟨h1, h2⟩, h3⟩, h4⟩, h5⟩, h6⟩ := h
  rw [h1, h2, h3, h4, h5, sameL_eq ks ks' h6]
theorem sameL_eq : ∀ a b : List Rx, sameL a b = true → a = b
 | [], [], _ => rfl
 | a :: l, b :: m, h => by
  simp only [sameL, Bool.and_eq_true] at h
  rw [sameR_eq a b h.1, sameL_eq l m h.2]
 | [], _ :: _, h => by simp [sameL] at h
 | _ :: _, [], h => by simp [sameL] at h
end
end Go.Proofs.YtigdmebijbaofaaGreatDoor

/-! ### Count2 -/

namespace Go.Proofs.YtigdmebijbaofaaGreatDoor
set_option maxHeartbeats 2000000
set_option maxRecDepth 100000
open Go.RowKit

def Slim : Rx → Prop
 | .mk _ _ _ _ _ kids => kids.length ≤ 1000000 ∧ ∀ a, a ∈ kids → Slim a
termination_by r => SizeOf.sizeOf r
decreasing_by
 have := List.sizeOf_lt_of_mem (by assumption)
 simp
 omega

/-! ### Groups -/
mutual
def grp : Rx → Nat
 | .mk k _ _ _ _ kids => (if k = 5 then 1 else 0) + grps kids
def grps : List Rx → Nat
 | [] => 0
 | r :: rs => grp r + grps rs
end
theorem grps_app (a b : List Rx) : grps (a ++ b) = grps a + grps b := by
 induction a with
 | nil => simp [grps]
 | cons x a ih => simp only [List.cons_append, grps, ih]; omega
theorem grps_take (a : List Rx) (q : Nat) : grps (a.take q) ≤ grps a := by
 have := grps_app (a.take q) (a.drop q)
 rw [List.take_append_drop] at this
 omega
theorem grps_mem (a : List Rx) (r : Rx) (h : r ∈ a) : grp r ≤ grps a := by
 induction a with
 | nil => cases h
 | cons x a ih =>
  simp only [grps]
  rcases List.mem_cons.1 h with rfl | h
  ·
   omega
  ·
   have := ih h; omega
structure GroupsSaid (r : Rx) : Prop where
 all : ∀ (ok : Nat → Prop) (v : Value) (w : World), Is w ok r v → Calls Tryz.prog 140 #[v] w fun e w' => e = .returned (.int .i64 ((grp r : Nat) : Int)) ∧ Kp w w'

theorem Groups_step (k mn mx m : Int) (t : W4) (kids : List Rx) (H : ∀ r, r ∈ kids → GroupsSaid r) (hB : grp (.mk k mn mx m t kids) ≤ 1000000) (hS : kids.length ≤ 1000000) : GroupsSaid (.mk k mn mx m t kids) := by
 refine ⟨fun ok v w hI => ?_⟩
 obtain ⟨ad, l, c, rfl, hr⟩ := hI.row
 have hle := hr.ln
 have hlc := hr.cp
 subst hle
 obtain ⟨L, hL⟩ : ∃ L, kids.length = L := ⟨_, rfl⟩
 rw [hL] at hr hlc hS ⊢
 have HL := hid hL
 have RR := hid hr
 have HH := hid H
 have hG : grp (.mk k mn mx m t kids) = (if k = 5 then 1 else 0) + grps kids := by unfold grp; rfl
 rw [hG] at hB ⊢
 clear hI hr H hG hL
 by_cases k5 : k = 5
 ·
  subst k5
  rw [if_pos rfl] at hB ⊢
  obtain ⟨M, hM⟩ : ∃ M, grps kids = M := ⟨_, rfl⟩
  rw [hM] at hB ⊢
  have HM := hid hM
  clear hM
  obtain ⟨T, hT⟩ : ∃ T, 1 + M = T := ⟨_, rfl⟩
  rw [hT]
  have HT := hid hT
  clear hT
  go_enter Tryz.func140, Tryz.ntmps140
  go_upto_region 1 with fail
  refine opq (fun W0 => W0.heap[w.heap.size]? = some (rxo 5 mn mx m t (.slice ad L c)) ∧ Kp w W0 ∧ RowAt W0 ok kids ad L c) ⟨by (first | exact last_at _ _ _ (by simp) | (refine bl_alloc ?_ _; first | exact last_at _ _ _ (by simp) | (refine bl_alloc ?_ _; first | exact last_at _ _ _ (by simp) | (refine bl_alloc ?_ _; exact last_at _ _ _ (by simp))))), by exact kpt, by exact RR.out.kp kpt⟩ ?_
  rintro W0 ⟨xA0, xK0, xR0⟩
  have A0 := hidT xA0
  have K0 := hidT xK0
  have R0 := hidT xR0
  clear xA0 xK0 xR0
  obtain ⟨a0, a1, a2, a3, a4, a5, a6, a7, a8⟩ := cells9 (A0.out)
  go_wp2_with fail
  clear a0 a1 a2 a3 a4 a5 a6 a7 a8
  go_loopg [3, 12] L (fun gg v i wr => ∃ q A : Nat, q + gg = L ∧ i = .int .i64 (q : Int) ∧ v = .int .i64 (A : Int) ∧ 1 + grps (kids.take q) = A ∧ Kp W0 wr)
  case atStart => exact ⟨0, 1, by omega, rfl, rfl, by rw [List.take_zero, grps], Kp.refl _⟩
  case round =>
   obtain ⟨q, A, hq, rfl, rfl, hA, hK⟩ := hrel
   have hle := grps_take kids q
   rw [HM.out] at hle
   have hAb : A ≤ 1000001 := by omega
   have HA := hid hA
   have K := hid hK
   clear hA hK hle
   by_cases hlt : q < L
   ·
    have gkw : IntKind.i64.wrap ((q : Int) + 1) = (q : Int) + 1 := by rw [IntKind.wrap_i64]; omega
    have ga : (q : Int) < (L : Int) := by omega
    have g0 : (0 : Int) ≤ (q : Int) := by omega
    obtain ⟨r, hr⟩ : ∃ r, kids[q]? = some r := ⟨_, List.getElem?_eq_getElem (by rw [HL.out]; exact hlt)⟩
    have htk : grps (kids.take (q + 1)) = grps (kids.take q) + grp r := by
     rw [List.take_succ_eq_append_getElem (by rw [HL.out]; exact hlt), grps_app, (List.getElem?_eq_some_iff.1 hr).2]
     simp [grps]
    have hle : grp r ≤ grps kids := grps_mem kids r (List.mem_of_getElem? hr)
    rw [HM.out] at hle
    obtain ⟨bb, oo, kk, mn', mx', mm, tt, ad', ll, cc, e1, hbb, i1, ce1⟩ := (R0.out.kp K.out).at q r hr
    subst e1
    have TS := hid (HH.out r (List.mem_of_getElem? hr)).all
    obtain ⟨G, hG⟩ : ∃ G, grp r = G := ⟨_, rfl⟩
    rw [hG] at TS htk hle
    have HTK := hid htk
    have hw : IntKind.i64.wrap ((A : Int) + (G : Int)) = (A : Int) + (G : Int) := by rw [IntKind.wrap_i64]; omega
    have I1 := hid i1
    have CE1 := hid ce1
    clear hr htk i1 ce1 hG
    obtain ⟨x0, x1, x2, x3, x4, x5, x6, x7, x8⟩ := cells_of_is CE1.out
    go_upto_region 7 with fail
    clear x0 x1 x2 x3 x4 x5 x6 x7 x8
    refine opq (fun W => W.heap[wr.heap.size]? = some (rxo kk mn' mx' mm tt (.slice ad' ll cc)) ∧ Kp wr W) ⟨by exact last_at _ _ _ (by simp), by exact (Kp.refl _).alloc _⟩ ?_
    rintro W1 ⟨y1, y2⟩
    have A1 := hid y1
    have K1 := hid y2
    clear y1 y2
    obtain ⟨a0, a1, a2, a3, a4, a5, a6, a7, a8⟩ := cells9 (A1.out)
    go_wp2_with fail
    clear a0 a1 a2 a3 a4 a5 a6 a7 a8
    refine (TS.out ok _ _ (I1.out.kp K1.out)).mono ?_
    rintro e W2 ⟨rfl, k2⟩
    have K2 := hid (K.out.trans (K1.out.trans k2))
    clear k2
    go_wp2_with fail
    go_roundg (gk - 1)
    case measure => omega
    case rel => exact ⟨q + 1, A + G, by omega, by go_num, by go_num, by rw [HTK.out, ← Nat.add_assoc, HA.out], K2.out⟩
   ·
    have ga : ¬ (q : Int) < (L : Int) := by omega
    have E : Hid (A = T) := by
     show _ = _
     rw [← HT.out, ← HA.out, List.take_of_length_le (by rw [HL.out]; omega), HM.out]
    go_wp2_with fail
    go_ret
    exact ⟨by rw [E.out]; rfl, K0.out.trans K.out⟩
 ·
  have g5 : (k == 5) = false := by simp [k5]
  rw [if_neg k5] at hB ⊢
  obtain ⟨M, hM⟩ : ∃ M, grps kids = M := ⟨_, rfl⟩
  rw [hM] at hB ⊢
  have HM := hid hM
  clear hM
  obtain ⟨T, hT⟩ : ∃ T, 0 + M = T := ⟨_, rfl⟩
  rw [hT]
  have HT := hid hT
  clear hT
  go_enter Tryz.func140, Tryz.ntmps140
  go_upto_region 1 with fail
  refine opq (fun W0 => W0.heap[w.heap.size]? = some (rxo k mn mx m t (.slice ad L c)) ∧ Kp w W0 ∧ RowAt W0 ok kids ad L c) ⟨by (first | exact last_at _ _ _ (by simp) | (refine bl_alloc ?_ _; first | exact last_at _ _ _ (by simp) | (refine bl_alloc ?_ _; first | exact last_at _ _ _ (by simp) | (refine bl_alloc ?_ _; exact last_at _ _ _ (by simp))))), by exact kpt, by exact RR.out.kp kpt⟩ ?_
  rintro W0 ⟨xA0, xK0, xR0⟩
  have A0 := hidT xA0
  have K0 := hidT xK0
  have R0 := hidT xR0
  clear xA0 xK0 xR0
  obtain ⟨a0, a1, a2, a3, a4, a5, a6, a7, a8⟩ := cells9 (A0.out)
  go_wp2_with fail
  clear a0 a1 a2 a3 a4 a5 a6 a7 a8
  go_loopg [3, 12] L (fun gg v i wr => ∃ q A : Nat, q + gg = L ∧ i = .int .i64 (q : Int) ∧ v = .int .i64 (A : Int) ∧ 0 + grps (kids.take q) = A ∧ Kp W0 wr)
  case atStart => exact ⟨0, 0, by omega, rfl, rfl, by rw [List.take_zero, grps], Kp.refl _⟩
  case round =>
   obtain ⟨q, A, hq, rfl, rfl, hA, hK⟩ := hrel
   have hle := grps_take kids q
   rw [HM.out] at hle
   have hAb : A ≤ 1000001 := by omega
   have HA := hid hA
   have K := hid hK
   clear hA hK hle
   by_cases hlt : q < L
   ·
    have gkw : IntKind.i64.wrap ((q : Int) + 1) = (q : Int) + 1 := by rw [IntKind.wrap_i64]; omega
    have ga : (q : Int) < (L : Int) := by omega
    have g0 : (0 : Int) ≤ (q : Int) := by omega
    obtain ⟨r, hr⟩ : ∃ r, kids[q]? = some r := ⟨_, List.getElem?_eq_getElem (by rw [HL.out]; exact hlt)⟩
    have htk : grps (kids.take (q + 1)) = grps (kids.take q) + grp r := by
     rw [List.take_succ_eq_append_getElem (by rw [HL.out]; exact hlt), grps_app, (List.getElem?_eq_some_iff.1 hr).2]
     simp [grps]
    have hle : grp r ≤ grps kids := grps_mem kids r (List.mem_of_getElem? hr)
    rw [HM.out] at hle
    obtain ⟨bb, oo, kk, mn', mx', mm, tt, ad', ll, cc, e1, hbb, i1, ce1⟩ := (R0.out.kp K.out).at q r hr
    subst e1
    have TS := hid (HH.out r (List.mem_of_getElem? hr)).all
    obtain ⟨G, hG⟩ : ∃ G, grp r = G := ⟨_, rfl⟩
    rw [hG] at TS htk hle
    have HTK := hid htk
    have hw : IntKind.i64.wrap ((A : Int) + (G : Int)) = (A : Int) + (G : Int) := by rw [IntKind.wrap_i64]; omega
    have I1 := hid i1
    have CE1 := hid ce1
    clear hr htk i1 ce1 hG
    obtain ⟨x0, x1, x2, x3, x4, x5, x6, x7, x8⟩ := cells_of_is CE1.out
    go_upto_region 7 with fail
    clear x0 x1 x2 x3 x4 x5 x6 x7 x8
    refine opq (fun W => W.heap[wr.heap.size]? = some (rxo kk mn' mx' mm tt (.slice ad' ll cc)) ∧ Kp wr W) ⟨by exact last_at _ _ _ (by simp), by exact (Kp.refl _).alloc _⟩ ?_
    rintro W1 ⟨y1, y2⟩
    have A1 := hid y1
    have K1 := hid y2
    clear y1 y2
    obtain ⟨a0, a1, a2, a3, a4, a5, a6, a7, a8⟩ := cells9 (A1.out)
    go_wp2_with fail
    clear a0 a1 a2 a3 a4 a5 a6 a7 a8
    refine (TS.out ok _ _ (I1.out.kp K1.out)).mono ?_
    rintro e W2 ⟨rfl, k2⟩
    have K2 := hid (K.out.trans (K1.out.trans k2))
    clear k2
    go_wp2_with fail
    go_roundg (gk - 1)
    case measure => omega
    case rel => exact ⟨q + 1, A + G, by omega, by go_num, by go_num, by rw [HTK.out, ← Nat.add_assoc, HA.out], K2.out⟩
   ·
    have ga : ¬ (q : Int) < (L : Int) := by omega
    have E : Hid (A = T) := by
     show _ = _
     rw [← HT.out, ← HA.out, List.take_of_length_le (by rw [HL.out]; omega), HM.out]
    go_wp2_with fail
    go_ret
    exact ⟨by rw [E.out]; rfl, K0.out.trans K.out⟩

theorem Groups_any : ∀ a, grp a ≤ 1000000 → Slim a → GroupsSaid a
 | .mk k mn mx n s kids, h, hs => by
  unfold Slim at hs
  exact Groups_step k mn mx n s kids (fun a ha => Groups_any a (by unfold grp at h; have := grps_mem kids a ha; omega) (hs.2 a ha)) h hs.1
termination_by a => SizeOf.sizeOf a
decreasing_by
 have := List.sizeOf_lt_of_mem ha
 simp
 omega

/-! ### Nodes -/
mutual
def nds : Rx → Nat
 | .mk _ _ _ _ _ kids => 1 + ndss kids
def ndss : List Rx → Nat
 | [] => 0
 | r :: rs => nds r + ndss rs
end
theorem ndss_app (a b : List Rx) : ndss (a ++ b) = ndss a + ndss b := by
 induction a with
 | nil => simp [ndss]
 | cons x a ih => simp only [List.cons_append, ndss, ih]; omega
theorem ndss_mem (a : List Rx) (r : Rx) (h : r ∈ a) : nds r ≤ ndss a := by
 induction a with
 | nil => cases h
 | cons x a ih =>
  simp only [ndss]
  rcases List.mem_cons.1 h with rfl | h
  ·
   omega
  ·
   have := ih h; omega
end Go.Proofs.YtigdmebijbaofaaGreatDoor
