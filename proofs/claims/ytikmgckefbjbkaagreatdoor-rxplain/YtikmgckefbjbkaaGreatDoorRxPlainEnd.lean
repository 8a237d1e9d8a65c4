/-
  Proved: the law RxPlain of glosslaw4 returns true for every slice of ints, every byte and either way of writing, and leaves them as they were (P4.2, P4.3). The tied card, no condition.
-/
import Derived.Test.YtikmgckefbjbkaaGreatDoorM5
import Derived.Deep.LoopGhost
import Derived.Test.YtikmgckefbjbkaaGreatDoorRows
import Derived.Test.YtikmgckefbjbkaaGreatDoorChecked
import Derived.HandedShaped
import Derived.Shelf.Vars
import Derived.LaidMore
import Derived.LaidHandle
import Derived.LaidLaws
import Derived.Stop.Joined
import Derived.ProofKit
import Derived.Test.YtikmgckefbjbkaaGreatDoorTie
import Derived.Test.YtikmgckefbjbkaaGreatDoorCards
import Derived.Below
import Derived.WalkKit
import Derived.OpenShut
import Derived.ShutString
import Derived.ChangeOld
import Derived.SevenTiedAt

/-! ### PlainW -/

namespace Go.Proofs.YtikmgckefbjbkaaGreatDoor
open Go.RowKit

theorem small_push {s : ByteArray} (h : Small s) (b : Nat) (hb : 97 ≤ b ∧ b ≤ 122) : Small (s ++ bs [UInt8.ofNat b]) ∧ (s ++ bs [UInt8.ofNat b]).size = s.size + 1 := by
  have hz : (s ++ bs [UInt8.ofNat b]).size = s.size + 1 := by rw [ByteArray.size_append, bs_size]; rfl
  refine ⟨fun i hi => ?_, hz⟩
  rw [hz] at hi
  unfold ch
  rw [ByteArray.data_append]
  by_cases h1 : i < s.size
  · rw [Array.getElem?_append_left h1]
    exact h i h1
  · rw [Array.getElem?_append_right (by show s.size ≤ i; omega)]
    have : i - s.data.size = 0 := by show i - s.size = 0; omega
    rw [this]
    show 97 ≤ (UInt8.ofNat b).toNat ∧ _
    have e : (UInt8.ofNat b).toNat = b := by rw [UInt8.toNat_ofNat']; omega
    show 97 ≤ (UInt8.ofNat b).toNat ∧ (UInt8.ofNat b).toNat ≤ 122
    rw [e]
    exact hb
def L8 : List Nat := [46, 91, 93, 42, 94, 36, 92, 47]
def L7 : List Nat := [43, 63, 123, 125, 124, 40, 41]
def inTo (l : List Nat) (j c : Nat) : Bool := (l.take j).contains c
theorem inTo_step (l : List Nat) (j c b : Nat) (h : l[j]? = some b) : inTo l (j + 1) c = (inTo l j c || (b == c)) := by
  unfold inTo
  rw [List.take_add_one, h, Bool.eq_iff_iff]
  simp
  rw [eq_comm]
abbrev cb8 : Array Value := #[.int .u8 46, .int .u8 91, .int .u8 93, .int .u8 42, .int .u8 94, .int .u8 36, .int .u8 92, .int .u8 47]
theorem at8 {w : World} {B : Nat} (h : w.heap[B]? = some (.cells cb8 5 (cb8.size, cb8.size + 1))) (j : Nat) (hj : j < 8) : ∃ b, L8[j]? = some b ∧ b < 256 ∧ w.cell? ⟨B, j, none⟩ = some (.int .u8 (b : Int)) := by
  match j, hj with
  | 0, _ => exact ⟨46, rfl, by decide, bl_cellf h 0 _ rfl⟩
  | 1, _ => exact ⟨91, rfl, by decide, bl_cellf h 1 _ rfl⟩
  | 2, _ => exact ⟨93, rfl, by decide, bl_cellf h 2 _ rfl⟩
  | 3, _ => exact ⟨42, rfl, by decide, bl_cellf h 3 _ rfl⟩
  | 4, _ => exact ⟨94, rfl, by decide, bl_cellf h 4 _ rfl⟩
  | 5, _ => exact ⟨36, rfl, by decide, bl_cellf h 5 _ rfl⟩
  | 6, _ => exact ⟨92, rfl, by decide, bl_cellf h 6 _ rfl⟩
  | 7, _ => exact ⟨47, rfl, by decide, bl_cellf h 7 _ rfl⟩
abbrev cb7 : Array Value := #[.int .u8 43, .int .u8 63, .int .u8 123, .int .u8 125, .int .u8 124, .int .u8 40, .int .u8 41]
theorem at7 {w : World} {B : Nat} (h : w.heap[B]? = some (.cells cb7 5 (cb7.size, cb7.size + 1))) (j : Nat) (hj : j < 7) : ∃ b, L7[j]? = some b ∧ b < 256 ∧ w.cell? ⟨B, j, none⟩ = some (.int .u8 (b : Int)) := by
  match j, hj with
  | 0, _ => exact ⟨43, rfl, by decide, bl_cellf h 0 _ rfl⟩
  | 1, _ => exact ⟨63, rfl, by decide, bl_cellf h 1 _ rfl⟩
  | 2, _ => exact ⟨123, rfl, by decide, bl_cellf h 2 _ rfl⟩
  | 3, _ => exact ⟨125, rfl, by decide, bl_cellf h 3 _ rfl⟩
  | 4, _ => exact ⟨124, rfl, by decide, bl_cellf h 4 _ rfl⟩
  | 5, _ => exact ⟨40, rfl, by decide, bl_cellf h 5 _ rfl⟩
  | 6, _ => exact ⟨41, rfl, by decide, bl_cellf h 6 _ rfl⟩
/-- What x, a backslash and a byte come to. -/
structure Esc (ere : Bool) (c : Nat) (sp : Bool) (T : Rx) (e : Nat) : Prop where
  yes : sp = true → e = 0 ∧ T.kn = 2 ∧ kidSet T = W4.of (addB (fun _ => false) c)
  nl : sp = false → c = 110 → e = 0 ∧ T.kn = 2 ∧ kidSet T = W4.of (addB (fun _ => false) 10)
  no : sp = false → c ≠ 110 → e ≠ 0 ∨ (ere = false ∧ (c = 40 ∨ c = 123))
theorem addB_eq (c : Nat) : (fun k => k == c) = addB (fun _ => false) c := by
  funext k
  unfold addB
  rw [Bool.false_or]
theorem esc_of (ere : Bool) (c : Nat) (hc : c < 256) (T : Rx) (n e : Nat) (hp : pParse ⟨#[120, 92, UInt8.ofNat c]⟩ ere = (T, n, e)) : Esc ere c (spec8 c ere) T e := by
  have h := esc_at ere c hc
  unfold escB at h
  rw [hp, addB_eq, addB_eq] at h
  refine ⟨fun hs => ?_, fun hs hn => ?_, fun hs hn => ?_⟩
  · rw [hs] at h
    simpa [and_assoc] using h
  · rw [hs, hn] at h
    simpa [and_assoc] using h
  · rw [hs] at h
    simp [hn] at h
    rcases h with h | h
    · exact Or.inl h
    · exact Or.inr h
/-- The second kid's set lies there. -/
theorem Pd.kid {w : World} {T : Rx} {k mn mx m : Int} {t : W4} {ad : Option Addr} {l c : Nat} (h : Pd w T k mn mx m t ad l c) (hkn : T.kn = 2) (q : Nat → Bool) (hks : kidSet T = W4.of q) :
    l = 2 ∧ ∃ b o, ad = some ⟨b, o, none⟩ ∧ b < w.heap.size ∧ w.cell? ⟨b, o + 9 + 4, none⟩ = some (.int .u64 (wd q 0 : Nat)) ∧ w.cell? ⟨b, o + 9 + 5, none⟩ = some (.int .u64 (wd q 1 : Nat)) ∧ w.cell? ⟨b, o + 9 + 6, none⟩ = some (.int .u64 (wd q 2 : Nat)) ∧ w.cell? ⟨b, o + 9 + 7, none⟩ = some (.int .u64 (wd q 3 : Nat)) := by
  refine ⟨h.all.1.trans hkn, ?_⟩
  cases T with
  | mk k0 mn0 mx0 n0 s0 kids =>
    obtain ⟨x, y, rfl⟩ : ∃ x y, kids = [x, y] := by
      match kids, hkn with
      | [x, y], _ => exact ⟨x, y, rfl⟩
    obtain ⟨ad', l', c', he, hr⟩ := h.is.row
    injection he with he
    injection he with he
    simp at he
    obtain ⟨_, _, _, _, _, _, _, _, rfl, _, _⟩ := he
    obtain ⟨b, o, k1, mn1, mx1, m1, s1, ad1, l1, c1, rfl, hb, hi, hc⟩ := hr.at 1 y rfl
    have hy : s1 = W4.of q := by
      cases y with
      | mk k2 mn2 mx2 n2 s2 kids2 =>
        have e : s2 = W4.of q := hks
        have := (Pd.mk (hi.weak (fun _ _ _ => trivial))).all.2.2
        rw [this]
        exact e
    subst hy
    refine ⟨b, o, rfl, hb, ?_, ?_, ?_, ?_⟩
    · exact hc 4 _ rfl
    · exact hc 5 _ rfl
    · exact hc 6 _ rfl
    · exact hc 7 _ rfl
theorem beq_cast (b c : Nat) : ((b : Int) == (c : Int)) = (b == c) := by
  rw [Bool.eq_iff_iff]
  simp
  omega
set_option maxHeartbeats 2000000 in
set_option maxRecDepth 100000 in
theorem plain_any (a0 : Option Addr) (b0 o0 len cap : Nat) (z : List Int) (c : Nat) (ere : Bool) (w : World) (hl : len ≤ z.length)
    (hz : ∀ i, i < z.length → w.cell? ⟨b0, o0 + i, none⟩ = some (.int .i64 (z.getD i 0))) (ha : 0 < len → a0 = some ⟨b0, o0, none⟩ ∧ b0 < w.heap.size) (hc : c < 256) (h0 : ∃ m, w.cell? ⟨0, 0, none⟩ = some (.int .i64 m)) :
    Calls Tryz.prog 8 #[.slice a0 len cap, .int .u8 (c : Int), .bool ere] w fun e w' => e = .returned (.bool true) ∧ Kp w w' := by
  have Z0 := hid h0
  have HZ := hid hz
  have HA := hid ha
  clear h0 hz ha
  go_enter Tryz.func8, Tryz.ntmps8
  go_wp2_with fail
  go_loopg [7, 8] 13 (fun gk v7 v8 wr => ∃ (s : ByteArray) (k : Nat), v7 = .string s ∧ v8 = .int .i64 (k : Int) ∧ k ≤ 12 ∧ s.size = k ∧ k ≤ len ∧ 12 < gk + k ∧ Small s ∧ Kp w wr)
  case atStart => exact ⟨⟨#[]⟩, 0, rfl, rfl, by omega, rfl, by omega, by omega, fun i hi => absurd hi (by simp [ByteArray.size]), by repeat (first | exact Kp.refl _ | refine Kp.alloc ?_ _)⟩
  case round =>
    obtain ⟨s, k, rfl, rfl, hk, hs, hkl, hgk, hsm, hkp⟩ := hrel
    have HS := hid hsm
    have K := hid hkp
    clear hsm hkp
    by_cases hgo : k < len ∧ k < 12
    · have hli : (k : Int) < (len : Int) := by omega
      have h12i : (k : Int) < 12 := by omega
      obtain ⟨hae, hb0⟩ := HA.out (by omega)
      subst hae
      have q0 : wr.cell? ⟨b0, o0 + k, none⟩ = some (.int .i64 (z.getD k 0)) := (K.out.cell (World.block_lt_of_cell? w _ (HZ.out k (by omega)))).trans (HZ.out k (by omega))
      obtain ⟨x, hx⟩ : ∃ x, z.getD k 0 = x := ⟨_, rfl⟩
      rw [hx] at q0
      clear hx
      go_wp2_with fail
      refine (within_any x 0 25 _ (by omega) (by omega) (by omega)).mono ?_
      rintro e wr ⟨rfl, rfl⟩
      obtain ⟨y, hy, hy25⟩ : ∃ y : Nat, wit x 0 25 = (y : Int) ∧ y ≤ 25 := ⟨(wit x 0 25).toNat, by have := wit_le x 0 25 (by omega); omega, by have := wit_le x 0 25 (by omega); omega⟩
      rw [hy]
      clear hy
      have g1 : IntKind.i64.wrap (97 + (y : Int)) = ((97 + y : Nat) : Int) := by rw [IntKind.wrap_i64]; omega
      have g2 : IntKind.u8.wrap (97 + (y : Int)) = ((97 + y : Nat) : Int) := by rw [IntKind.wrap_u8']; omega
      have g3 : IntKind.u8.wrap (((97 + y : Nat) : Int)) = ((97 + y : Nat) : Int) := by rw [IntKind.wrap_u8']; omega
      have sp := small_push HS.out (97 + y) (by omega)
      have cv := conv_one wr (97 + y) (by omega)
      have hT0 : (bs [UInt8.ofNat (97 + y)]).size = 1 := bs_size _
      obtain ⟨T, hT⟩ : ∃ T, bs [UInt8.ofNat (97 + y)] = T := ⟨_, rfl⟩
      rw [hT] at sp cv hT0
      have SP := hid sp
      clear hT sp
      obtain ⟨bb, hbb⟩ : ∃ bb, 97 + y = bb := ⟨_, rfl⟩
      rw [hbb] at cv g1 g2 g3
      clear hbb
      have hsz : s.size ≤ 12 := by omega
      have gk1 : IntKind.i64.wrap ((k : Int) + 1) = (k : Int) + 1 := by rw [IntKind.wrap_i64]; omega
      go_wp2_with fail
      go_roundg (gk - 1)
      case measure => omega
      case rel => exact ⟨_, k + 1, rfl, by go_num, by omega, by rw [SP.out.2]; omega, by omega, by omega, SP.out.1, K.out.alloc _⟩
    · go_upto_region 3 with fail
      go_cut [28] (fun v wc => v = .bool false ∧ Kp w wc)
      case first =>
        by_cases hlt : k < len
        · have hli : (k : Int) < (len : Int) := by omega
          have h12i : ¬ (k : Int) < 12 := by omega
          go_wp2_with fail
          go_meet
          case rel => exact ⟨rfl, K.out⟩
        · have hli : ¬ (k : Int) < (len : Int) := by omega
          go_wp2_with fail
          go_meet
          case rel => exact ⟨rfl, K.out⟩
      case rest =>
        obtain ⟨rfl, k2⟩ := hcut
        rename World => W1
        subst hs
        have hs12 : s.size ≤ 12 := by omega
        have PA := hid (parse_at s ere (smallT s) 0 0 (by omega) (parse_small HS.out hs12 ere))
        have SH := hid (small_shape s)
        have SPR := hid (small_print HS.out hs12 ere)
        have SOK := hid (small_ok HS.out hs12)
        have STX := hid (small_tx HS.out hs12 ere)
        have K1 := hid k2
        have Z1 := hid (cell0 Z0.out k2)
        clear k2 K hgo HZ HA hgk
        obtain ⟨T, hT⟩ : ∃ T, smallT s = T := ⟨_, rfl⟩
        have SG : Hid (grp T = 0) := by show _ = _; rw [← hT]; exact small_grp s
        rw [hT] at PA SH SPR SOK STX
        clear hT
        go_wp2_with fail
        refine (PA.out _ Z1.out).mono ?_
        rintro en V1 ⟨k1, mn1, mx1, m1, s1, ad1, l1, c1, rfl, pd1, kv1⟩
        have KV1 := hid kv1
        have PD1 := hid pd1
        have hsv1 := kv1.size
        clear kv1 pd1
        go_upto_region 7 with fail
        refine opq (fun U1 => U1.heap[V1.heap.size]? = some (rxo k1 mn1 mx1 m1 s1 (.slice ad1 l1 c1)) ∧ Pd U1 T k1 mn1 mx1 m1 s1 ad1 l1 c1 ∧ Kp w U1 ∧ ∃ mz, U1.cell? ⟨0, 0, none⟩ = some (.int .i64 mz)) ⟨by (first | exact last_at _ _ _ (by simp) | (refine bl_alloc ?_ _; first | exact last_at _ _ _ (by simp) | (refine bl_alloc ?_ _; first | exact last_at _ _ _ (by simp) | (refine bl_alloc ?_ _; exact last_at _ _ _ (by simp))))), by exact PD1.out.kp (by repeat (first | exact Kp.refl _ | refine Kp.alloc ?_ _ | refine Kp.drew ?_ | refine Kp.drewN _ ?_)), by exact K1.out.trans (KV1.out.trans (by repeat (first | exact Kp.refl _ | refine Kp.alloc ?_ _ | refine Kp.drew ?_ | refine Kp.drewN _ ?_))), by exact cell0 Z1.out (KV1.out.trans (by repeat (first | exact Kp.refl _ | refine Kp.alloc ?_ _ | refine Kp.drew ?_ | refine Kp.drewN _ ?_)))⟩ ?_
        rintro U1 ⟨xA1, xPD1x, xK2, xZ2⟩
        have A1 : Hid (U1.heap[V1.heap.size]? = some (rxo k1 mn1 mx1 m1 s1 (.slice ad1 l1 c1))) := xA1
        have PD1x : Hid (Pd U1 T k1 mn1 mx1 m1 s1 ad1 l1 c1) := xPD1x
        have K2 : Hid (Kp w U1) := xK2
        have Z2 : Hid (∃ mz, U1.cell? ⟨0, 0, none⟩ = some (.int .i64 mz)) := xZ2
        clear xA1 xPD1x xK2 xZ2
        clear PD1 KV1 K1 Z1
        obtain ⟨q1, q2, q3⟩ := PD1x.out.all
        have P1 := hid (fun w' (q : Kp U1 w') => print_any T ere _ k1 mn1 mx1 m1 s1 ad1 l1 c1 w' SOK.out (fun _ => STX.out) (PD1x.out.is.kp q))
        have G1 := hid (fun w' (q : Kp U1 w') => (Groups_any T (by rw [SG.out]; omega) (slim_of_ok _ SOK.out)).all _ _ w' (PD1x.out.is.kp q))
        go_cut [80] (fun v wc => v = .bool false ∧ Kp U1 wc)
        case first =>
          have TL : Hid (s.size < 2 ∨ (k1 = 2 ∧ l1 = s.size)) := by
            rcases SH.out with ⟨h1, _⟩ | ⟨_, h1⟩
            · exact Or.inl (by omega)
            · refine Or.inr ?_
              rw [q1, q2, h1]
              exact ⟨rfl, lets_len s s.size 0⟩
          clear q1 q2 q3 SH
          by_cases h2 : s.size < 2
          · have g2 : ¬ (2 : Int) ≤ (s.size : Int) := by omega
            clear TL
            have p0 := bl_cell (A1.out) 0 _ rfl
            have p1 := bl_cell (A1.out) 1 _ rfl
            have p2 := bl_cell (A1.out) 2 _ rfl
            have p3 := bl_cell (A1.out) 3 _ rfl
            have p4 := bl_cell (A1.out) 4 _ rfl
            have p5 := bl_cell (A1.out) 5 _ rfl
            have p6 := bl_cell (A1.out) 6 _ rfl
            have p7 := bl_cell (A1.out) 7 _ rfl
            have p8 := bl_cell (A1.out) 8 _ rfl
            go_wp2_with fail
            refine (P1.out _ (Kp.refl _)).mono ?_
            rintro e Y1 ⟨rfl, y1⟩
            rw [SPR.out]
            have KY := hid y1
            clear y1 p0 p1 p2 p3 p4 p5 p6 p7 p8
            have AY := hid (bl_kp A1.out KY.out)
            have p0 := bl_cell (AY.out) 0 _ rfl
            have p1 := bl_cell (AY.out) 1 _ rfl
            have p2 := bl_cell (AY.out) 2 _ rfl
            have p3 := bl_cell (AY.out) 3 _ rfl
            have p4 := bl_cell (AY.out) 4 _ rfl
            have p5 := bl_cell (AY.out) 5 _ rfl
            have p6 := bl_cell (AY.out) 6 _ rfl
            have p7 := bl_cell (AY.out) 7 _ rfl
            have p8 := bl_cell (AY.out) 8 _ rfl
            go_wp2_with fail
            refine (G1.out _ KY.out).mono ?_
            rintro e Y2 ⟨rfl, y2⟩
            rw [SG.out]
            have KY2 := hid (KY.out.trans y2)
            clear y2 p0 p1 p2 p3 p4 p5 p6 p7 p8
            go_wp2_with fail
            go_meet
            case rel => exact ⟨rfl, KY2.out⟩
          · have hkl : k1 = 2 ∧ l1 = s.size := by rcases TL.out with h | h; exact absurd h h2; exact h
            have gk2 : (k1 != 2) = false := by rw [hkl.1]; rfl
            have gl2 : ((l1 : Int) != (s.size : Int)) = false := by rw [hkl.2]; simp
            clear hkl
            have g2 : (2 : Int) ≤ (s.size : Int) := by omega
            clear TL
            have p0 := bl_cell (A1.out) 0 _ rfl
            have p1 := bl_cell (A1.out) 1 _ rfl
            have p2 := bl_cell (A1.out) 2 _ rfl
            have p3 := bl_cell (A1.out) 3 _ rfl
            have p4 := bl_cell (A1.out) 4 _ rfl
            have p5 := bl_cell (A1.out) 5 _ rfl
            have p6 := bl_cell (A1.out) 6 _ rfl
            have p7 := bl_cell (A1.out) 7 _ rfl
            have p8 := bl_cell (A1.out) 8 _ rfl
            go_wp2_with fail
            refine (P1.out _ (Kp.refl _)).mono ?_
            rintro e Y1 ⟨rfl, y1⟩
            rw [SPR.out]
            have KY := hid y1
            clear y1 p0 p1 p2 p3 p4 p5 p6 p7 p8
            have AY := hid (bl_kp A1.out KY.out)
            have p0 := bl_cell (AY.out) 0 _ rfl
            have p1 := bl_cell (AY.out) 1 _ rfl
            have p2 := bl_cell (AY.out) 2 _ rfl
            have p3 := bl_cell (AY.out) 3 _ rfl
            have p4 := bl_cell (AY.out) 4 _ rfl
            have p5 := bl_cell (AY.out) 5 _ rfl
            have p6 := bl_cell (AY.out) 6 _ rfl
            have p7 := bl_cell (AY.out) 7 _ rfl
            have p8 := bl_cell (AY.out) 8 _ rfl
            go_wp2_with fail
            refine (G1.out _ KY.out).mono ?_
            rintro e Y2 ⟨rfl, y2⟩
            rw [SG.out]
            have KY2 := hid (KY.out.trans y2)
            clear y2 p0 p1 p2 p3 p4 p5 p6 p7 p8
            go_wp2_with fail
            go_meet
            case rel => exact ⟨rfl, KY2.out⟩
        case rest =>
          obtain ⟨rfl, k3⟩ := hcut
          rename World => W3
          have K3 := hid (K2.out.trans k3)
          have Z3 := hid (cell0 Z2.out k3)
          clear k3 K2 Z2 P1 G1 A1 PD1x SH SPR SOK STX SG PA q1 q2 q3 hsv1 Z0
          have cv := conv_one W3 c hc
          have hz2 : (bs [UInt8.ofNat c]).size ≤ 10 := by rw [bs_size]; simp
          obtain ⟨T2, hT2⟩ : ∃ T, bs [UInt8.ofNat c] = T := ⟨_, rfl⟩
          rw [hT2] at cv hz2
          have HT2 := hid hT2
          clear hT2
          go_upto_region 11 with fail
          refine opq (fun V4 => Kp w V4 ∧ ∃ mz, V4.cell? ⟨0, 0, none⟩ = some (.int .i64 mz)) ⟨by exact K3.out.trans (by repeat (first | exact Kp.refl _ | refine Kp.alloc ?_ _ | refine Kp.drew ?_ | refine Kp.drewN _ ?_)), by exact cell0 Z3.out (by repeat (first | exact Kp.refl _ | refine Kp.alloc ?_ _ | refine Kp.drew ?_ | refine Kp.drewN _ ?_))⟩ ?_
          rintro V4 ⟨xK4, xZ4⟩
          have K4 : Hid (Kp w V4) := xK4
          have Z4 : Hid (∃ mz, V4.cell? ⟨0, 0, none⟩ = some (.int .i64 mz)) := xZ4
          clear xK4 xZ4
          clear K3 Z3 cv
          obtain ⟨W5, hcv, hB5, ks5⟩ := conv_any (V4.alloc (.cells cb8 5)) V4.heap.size cb8 8 8 (last_of _ _)
          have B5 := hid hB5
          have K5 : Hid (Kp V4 W5) := ks5.up ((Kp.refl _).alloc _) (Nat.le_refl _)
          clear hB5 ks5
          go_wp2_with fail
          clear hcv
          go_loopg [13, 88] 9 (fun gk v13 v88 wr => ∃ j : Nat, v88 = .int .i64 (j : Int) ∧ v13 = .bool (inTo L8 j c) ∧ j ≤ 8 ∧ 8 < gk + j ∧ wr = W5)
          case atStart => exact ⟨0, rfl, rfl, by omega, by omega, rfl⟩
          case round =>
            obtain ⟨j, rfl, rfl, hj, hgj, rfl⟩ := hrel
            by_cases hlt : j < 8
            · have hli : (j : Int) < 8 := by omega
              obtain ⟨b, hb1, hb2, hb3⟩ := at8 B5.out j hlt
              have ST := hid (inTo_step L8 j c b hb1)
              have gj : IntKind.i64.wrap ((j : Int) + 1) = (j : Int) + 1 := by rw [IntKind.wrap_i64]; omega
              obtain ⟨q, hq⟩ : ∃ q, ((b : Int) == (c : Int)) = q := ⟨_, rfl⟩
              have HQ : Hid (q = (b == c)) := by show _ = _; rw [← hq, beq_cast]
              clear hb1
              obtain ⟨p, hp⟩ : ∃ p, inTo L8 j c = p := ⟨_, rfl⟩
              rw [hp] at ST ⊢
              clear hp
              cases p with
              | true =>
                go_wp2_with fail
                go_roundg (gk - 1)
                case measure => omega
                case rel => exact ⟨j + 1, by go_num, by rw [ST.out]; rfl, by omega, by omega, rfl⟩
              | false =>
                go_wp2_with fail
                go_roundg (gk - 1)
                case measure => omega
                case rel => exact ⟨j + 1, by go_num, by rw [ST.out, ← HQ.out]; rfl, by omega, by omega, rfl⟩
            · have hj8 : j = 8 := by omega
              subst hj8
              obtain ⟨p1, hp1⟩ : ∃ p, inTo L8 8 c = p := ⟨_, rfl⟩
              have HP1 := hid hp1
              rw [hp1]
              clear hp1 hlt
              go_upto_region 16 with fail
              refine opq (fun W6 => Kp w W6 ∧ ∃ mz, W6.cell? ⟨0, 0, none⟩ = some (.int .i64 mz)) ⟨by exact (K4.out.trans K5.out).trans (by repeat (first | exact Kp.refl _ | refine Kp.alloc ?_ _ | refine Kp.drew ?_ | refine Kp.drewN _ ?_)), by exact cell0 Z4.out (K5.out.trans (by repeat (first | exact Kp.refl _ | refine Kp.alloc ?_ _ | refine Kp.drew ?_ | refine Kp.drewN _ ?_)))⟩ ?_
              rintro W6 ⟨xK6, xZ6⟩
              have K6 : Hid (Kp w W6) := xK6
              have Z6 : Hid (∃ mz, W6.cell? ⟨0, 0, none⟩ = some (.int .i64 mz)) := xZ6
              clear xK6 xZ6
              clear K4 K5 Z4 B5
              obtain ⟨W7, hcv, hB7, ks7⟩ := conv_any (W6.alloc (.cells cb7 5)) W6.heap.size cb7 7 7 (last_of _ _)
              have B7 := hid hB7
              have K7 : Hid (Kp W6 W7) := ks7.up ((Kp.refl _).alloc _) (Nat.le_refl _)
              clear hB7 ks7
              go_wp2_with fail
              clear hcv
              go_loopg [13, 102] 8 (fun gk v13 v88 wr => ∃ j : Nat, v88 = .int .i64 (j : Int) ∧ v13 = .bool (p1 || (ere && inTo L7 j c)) ∧ j ≤ 7 ∧ 7 < gk + j ∧ wr = W7)
              case atStart => exact ⟨0, rfl, by simp [inTo], by omega, by omega, rfl⟩
              case round =>
                obtain ⟨j, rfl, rfl, hj, hgj, rfl⟩ := hrel
                by_cases hlt : j < 7
                · have hli : (j : Int) < 7 := by omega
                  obtain ⟨b, hb1, hb2, hb3⟩ := at7 B7.out j hlt
                  have ST := hid (inTo_step L7 j c b hb1)
                  have gj : IntKind.i64.wrap ((j : Int) + 1) = (j : Int) + 1 := by rw [IntKind.wrap_i64]; omega
                  obtain ⟨q, hq⟩ : ∃ q, ((b : Int) == (c : Int)) = q := ⟨_, rfl⟩
                  have HQ : Hid (q = (b == c)) := by show _ = _; rw [← hq, beq_cast]
                  clear hb1
                  obtain ⟨p2, hp2⟩ : ∃ p, inTo L7 j c = p := ⟨_, rfl⟩
                  rw [hp2] at ST ⊢
                  clear hp2
                  obtain ⟨p, hp⟩ : ∃ p, (p1 || (ere && p2)) = p := ⟨_, rfl⟩
                  have NX : Hid ((p1 || (ere && inTo L7 (j + 1) c)) = (p || (ere && q))) := by
                    show _ = _
                    rw [ST.out, ← hp, HQ.out]
                    cases p1 <;> cases ere <;> rfl
                  rw [hp]
                  clear hp ST HQ
                  cases p with
                  | true =>
                    go_wp2_with fail
                    go_roundg (gk - 1)
                    case measure => omega
                    case rel => exact ⟨j + 1, by go_num, by rw [NX.out]; rfl, by omega, by omega, rfl⟩
                  | false =>
                    cases ere with
                    | true =>
                      go_wp2_with fail
                      go_roundg (gk - 1)
                      case measure => omega
                      case rel => exact ⟨j + 1, by go_num, by rw [NX.out]; rfl, by omega, by omega, rfl⟩
                    | false =>
                      go_wp2_with fail
                      go_roundg (gk - 1)
                      case measure => omega
                      case rel => exact ⟨j + 1, by go_num, by rw [NX.out]; rfl, by omega, by omega, rfl⟩
                · have hj7 : j = 7 := by omega
                  subst hj7
                  obtain ⟨sp, hsp⟩ : ∃ p, (p1 || (ere && inTo L7 7 c)) = p := ⟨_, rfl⟩
                  rw [hsp]
                  have HSP : Hid (spec8 c ere = sp) := by show _ = _; rw [← hsp, ← HP1.out]; rfl
                  clear hsp hlt B7 HP1
                  have tx : (⟨#[120, 92]⟩ : ByteArray) ++ T2 = ⟨#[120, 92, UInt8.ofNat c]⟩ := by rw [← HT2.out]; exact bs_app [120, 92] [UInt8.ofNat c]
                  have TX := hid tx
                  clear tx
                  have hTT : (⟨#[120, 92, UInt8.ofNat c]⟩ : ByteArray).size ≤ 1000000 := by show 3 ≤ _; omega
                  obtain ⟨T3, n3, e3, hp3⟩ : ∃ T n e, pParse ⟨#[120, 92, UInt8.ofNat c]⟩ ere = (T, n, e) := ⟨_, _, _, rfl⟩
                  have ES := hid (esc_of ere c hc T3 n3 e3 hp3)
                  rw [HSP.out] at ES
                  have PA3 := hid (parse_at _ ere T3 n3 e3 hTT hp3)
                  clear hTT HSP
                  have K8 : Hid (Kp w wr) := K6.out.trans K7.out
                  have Z8 := hid (cell0 Z6.out K7.out)
                  clear hp3 K6 K7 Z6
                  go_wp2_with fail
                  rw [TX.out]
                  refine (PA3.out _ Z8.out).mono ?_
                  rintro en V3 ⟨k3, mn3, mx3, m3, s3, ad3, l3, c3, rfl, pd3, kv3⟩
                  have KV3 := hid kv3
                  have PD3 := hid pd3
                  have hsv3 := kv3.size
                  clear kv3 pd3
                  go_upto_region 22 with fail
                  refine opq (fun U3 => U3.heap[V3.heap.size]? = some (rxo k3 mn3 mx3 m3 s3 (.slice ad3 l3 c3)) ∧ Pd U3 T3 k3 mn3 mx3 m3 s3 ad3 l3 c3 ∧ Kp w U3 ∧ ∃ mz, U3.cell? ⟨0, 0, none⟩ = some (.int .i64 mz)) ⟨by (first | exact last_at _ _ _ (by simp) | (refine bl_alloc ?_ _; first | exact last_at _ _ _ (by simp) | (refine bl_alloc ?_ _; first | exact last_at _ _ _ (by simp) | (refine bl_alloc ?_ _; exact last_at _ _ _ (by simp))))), by exact PD3.out.kp (by repeat (first | exact Kp.refl _ | refine Kp.alloc ?_ _ | refine Kp.drew ?_ | refine Kp.drewN _ ?_)), by exact K8.out.trans (KV3.out.trans (by repeat (first | exact Kp.refl _ | refine Kp.alloc ?_ _ | refine Kp.drew ?_ | refine Kp.drewN _ ?_))), by exact cell0 Z8.out (KV3.out.trans (by repeat (first | exact Kp.refl _ | refine Kp.alloc ?_ _ | refine Kp.drew ?_ | refine Kp.drewN _ ?_)))⟩ ?_
                  rintro U3 ⟨xA3, xPD3x, xK9, xZ9⟩
                  have A3 : Hid (U3.heap[V3.heap.size]? = some (rxo k3 mn3 mx3 m3 s3 (.slice ad3 l3 c3))) := xA3
                  have PD3x : Hid (Pd U3 T3 k3 mn3 mx3 m3 s3 ad3 l3 c3) := xPD3x
                  have K9 : Hid (Kp w U3) := xK9
                  have Z9 : Hid (∃ mz, U3.cell? ⟨0, 0, none⟩ = some (.int .i64 mz)) := xZ9
                  clear xA3 xPD3x xK9 xZ9
                  clear PD3 KV3 K8 Z8
                  have RU := hid (fun w' (q : Kp U3 w') => runs_any w' (cell0 Z9.out q))
                  cases sp with
                  | true =>
                    obtain ⟨he3, hkn, hks⟩ := ES.out.yes rfl
                    subst he3
                    obtain ⟨hl3, kb, ko, hae, hkb, d0, d1, d2, d3⟩ := PD3x.out.kid hkn _ hks
                    subst hl3
                    subst hae
                    have KC : Hid (∀ W, Kp U3 W → W.cell? ⟨kb, ko + 9 + 4, none⟩ = some (.int .u64 (wd (addB (fun _ => false) c) 0 : Nat)) ∧ W.cell? ⟨kb, ko + 9 + 5, none⟩ = some (.int .u64 (wd (addB (fun _ => false) c) 1 : Nat)) ∧ W.cell? ⟨kb, ko + 9 + 6, none⟩ = some (.int .u64 (wd (addB (fun _ => false) c) 2 : Nat)) ∧ W.cell? ⟨kb, ko + 9 + 7, none⟩ = some (.int .u64 (wd (addB (fun _ => false) c) 3 : Nat))) := fun W k => ⟨(k.cell hkb).trans d0, (k.cell hkb).trans d1, (k.cell hkb).trans d2, (k.cell hkb).trans d3⟩
                    clear d0 d1 d2 d3 hkn hks PD3x ES
                    have es : ∀ W, (Op.equalIn 10000 24 (sv (addB (fun _ => false) c)) (sv (addB (fun _ => false) c))).run Tryz.prog W = .ok true W := fun W => by rw [eq_vv]; simp
                    go_upto_region 23 with fail
                    have Q0 : Kp U3 U3.drew := (Kp.refl _).drew
                    have MK : Hid (∀ W, Kp U3 W → W.cell? ⟨V3.heap.size, 8, none⟩ = some (.slice (some ⟨kb, ko, none⟩) 2 c3) ∧ W.cell? ⟨kb, (ko + 9 + 4), none⟩ = some (Value.int .u64 (wd (addB (fun _ => false) c) 0 : Nat)) ∧ W.cell? ⟨kb, (ko + 9 + 5), none⟩ = some (Value.int .u64 (wd (addB (fun _ => false) c) 1 : Nat)) ∧ W.cell? ⟨kb, (ko + 9 + 6), none⟩ = some (Value.int .u64 (wd (addB (fun _ => false) c) 2 : Nat)) ∧ W.cell? ⟨kb, (ko + 9 + 7), none⟩ = some (Value.int .u64 (wd (addB (fun _ => false) c) 3 : Nat)) ∧ Hid (Kp U3 W)) := fun W k => ⟨bl_cell (bl_kp A3.out k) 8 _ rfl, (KC.out _ k).1, (KC.out _ k).2.1, (KC.out _ k).2.2.1, (KC.out _ k).2.2.2, k⟩
                    refine wp_region_noPanic ?_
                    refine wp_region_held_drew (S := (fun W => W.cell? ⟨V3.heap.size, 8, none⟩ = some (.slice (some ⟨kb, ko, none⟩) 2 c3) ∧ W.cell? ⟨kb, (ko + 9 + 4), none⟩ = some (Value.int .u64 (wd (addB (fun _ => false) c) 0 : Nat)) ∧ W.cell? ⟨kb, (ko + 9 + 5), none⟩ = some (Value.int .u64 (wd (addB (fun _ => false) c) 1 : Nat)) ∧ W.cell? ⟨kb, (ko + 9 + 6), none⟩ = some (Value.int .u64 (wd (addB (fun _ => false) c) 2 : Nat)) ∧ W.cell? ⟨kb, (ko + 9 + 7), none⟩ = some (Value.int .u64 (wd (addB (fun _ => false) c) 3 : Nat)) ∧ Hid (Kp U3 W))) (by kernel_rfl) ?_ (fun hH => ?_)
                    · exact MK.out _ Q0
                    have KQ := Q0
                    refine wpAnyH_take (i := 0) (oi := { dst := some 124, op := Op.move (Operand.tmp 20), type := 28, pos := "law.go:132", after := #[], guard := none }) (v := ?v0r231) rfl (by kernel_rfl) (by kernel_rfl) (by kernel_rfl) (fun _ _ _ h => h) (Or.inl ⟨by rfl, ?hy0r231⟩) hH ?r0r231
                    case hy0r231 => (intro W hSw; (try dsimp only at hSw); go_simp; try (with_reducible rfl))
                    try simp only [Act.put, List.setIfInBounds_toArray, List.set_cons_zero, List.set_cons_succ]
                    refine wpAnyH_take (i := 1) (oi := { dst := some 125, op := Op.binOp BinOp.eql 28 (Operand.tmp 124) (Operand.const (Value.int IntKind.i64 0)) 28, type := 4, pos := "law.go:132", after := #[{ on := 0, ground := Ground.data }], guard := none }) (v := ?v1r232) rfl (by kernel_rfl) (by kernel_rfl) (by kernel_rfl) (fun _ _ _ h => h) (Or.inl ⟨by rfl, ?hy1r232⟩) hH ?r1r232
                    case hy1r232 => (intro W hSw; (try dsimp only at hSw); go_simp; try (with_reducible rfl))
                    try simp only [Act.put, List.setIfInBounds_toArray, List.set_cons_zero, List.set_cons_succ]
                    refine wpAnyH_take (i := 2) (oi := { dst := some 126, op := Op.move (Operand.tmp 125), type := 4, pos := "law.go:132", after := #[{ on := 1, ground := Ground.data }], guard := none }) (v := ?v2r233) rfl (by kernel_rfl) (by kernel_rfl) (by kernel_rfl) (fun _ _ _ h => h) (Or.inl ⟨by rfl, ?hy2r233⟩) hH ?r2r233
                    case hy2r233 => (intro W hSw; (try dsimp only at hSw); go_simp; try (with_reducible rfl))
                    try simp only [Act.put, List.setIfInBounds_toArray, List.set_cons_zero, List.set_cons_succ]
                    refine wpAnyH_take (i := 3) (oi := { dst := some 127, op := Op.fieldAddr 27 (Operand.tmp 18) 5, type := 0, pos := "law.go:132", after := #[{ on := 2, ground := Ground.guard }], guard := some (2, true) }) (v := ?v3r234) rfl (by kernel_rfl) (by kernel_rfl) (by kernel_rfl) (fun _ _ _ h => h) (Or.inl ⟨by rfl, ?hy3r234⟩) hH ?r3r234
                    case hy3r234 => (intro W hSw; (try dsimp only at hSw); go_simp; try (with_reducible rfl))
                    try simp only [Act.put, List.setIfInBounds_toArray, List.set_cons_zero, List.set_cons_succ]
                    refine wpAnyH_take (i := 4) (oi := { dst := some 128, op := Op.load 25 (Operand.tmp 127), type := 25, pos := "law.go:132", after := #[{ on := 3, ground := Ground.data }, { on := 2, ground := Ground.guard }], guard := some (2, true) }) (v := ?v4r235) rfl (by kernel_rfl) (by kernel_rfl) (by kernel_rfl) (fun _ _ _ h => h) (Or.inl ⟨by rfl, ?hy4r235⟩) hH ?r4r235
                    case hy4r235 => (intro W hSw; (try dsimp only at hSw); go_simp; try (with_reducible rfl))
                    try simp only [Act.put, List.setIfInBounds_toArray, List.set_cons_zero, List.set_cons_succ]
                    refine wpAnyH_take (i := 5) (oi := { dst := some 129, op := Op.call { callee := Callee.builtin Builtin.len, args := #[Operand.tmp 128], argTypes := #[25] }, type := 3, pos := "law.go:132", after := #[{ on := 4, ground := Ground.data }, { on := 2, ground := Ground.guard }], guard := some (2, true) }) (v := ?v5r236) rfl (by kernel_rfl) (by kernel_rfl) (by kernel_rfl) (fun _ _ _ h => h) (Or.inl ⟨by rfl, ?hy5r236⟩) hH ?r5r236
                    case hy5r236 => (intro W hSw; (try dsimp only at hSw); go_simp; try (with_reducible rfl))
                    try simp only [Act.put, List.setIfInBounds_toArray, List.set_cons_zero, List.set_cons_succ]
                    refine wpAnyH_take (i := 6) (oi := { dst := some 130, op := Op.binOp BinOp.eql 3 (Operand.tmp 129) (Operand.const (Value.int IntKind.i64 2)) 3, type := 4, pos := "law.go:132", after := #[{ on := 5, ground := Ground.data }, { on := 2, ground := Ground.guard }], guard := some (2, true) }) (v := ?v6r237) rfl (by kernel_rfl) (by kernel_rfl) (by kernel_rfl) (fun _ _ _ h => h) (Or.inl ⟨by rfl, ?hy6r237⟩) hH ?r6r237
                    case hy6r237 => (intro W hSw; (try dsimp only at hSw); go_simp; try (with_reducible rfl))
                    try simp only [Act.put, List.setIfInBounds_toArray, List.set_cons_zero, List.set_cons_succ]
                    refine wpAnyH_take (i := 7) (oi := { dst := some 131, op := Op.pick (Operand.tmp 126) (Operand.tmp 130) (Operand.const (Value.bool false)), type := 4, pos := "law.go:132", after := #[{ on := 2, ground := Ground.data }, { on := 6, ground := Ground.data }], guard := none }) (v := ?v7r238) rfl (by kernel_rfl) (by kernel_rfl) (by kernel_rfl) (fun _ _ _ h => h) (Or.inl ⟨by rfl, ?hy7r238⟩) hH ?r7r238
                    case hy7r238 => (intro W hSw; (try dsimp only at hSw); go_simp; try (with_reducible rfl))
                    try simp only [Act.put, List.setIfInBounds_toArray, List.set_cons_zero, List.set_cons_succ]
                    refine wpAnyH_take (i := 8) (oi := { dst := some 132, op := Op.move (Operand.tmp 131), type := 4, pos := "law.go:132", after := #[{ on := 7, ground := Ground.data }, { on := 2, ground := Ground.chain }], guard := none }) (v := ?v8r239) rfl (by kernel_rfl) (by kernel_rfl) (by kernel_rfl) (fun _ _ _ h => h) (Or.inl ⟨by rfl, ?hy8r239⟩) hH ?r8r239
                    case hy8r239 => (intro W hSw; (try dsimp only at hSw); go_simp; try (with_reducible rfl))
                    try simp only [Act.put, List.setIfInBounds_toArray, List.set_cons_zero, List.set_cons_succ]
                    refine wpAnyH_take (i := 9) (oi := { dst := some 133, op := Op.fieldAddr 27 (Operand.tmp 18) 5, type := 0, pos := "law.go:132", after := #[{ on := 8, ground := Ground.guard }], guard := some (8, true) }) (v := ?v9r2310) rfl (by kernel_rfl) (by kernel_rfl) (by kernel_rfl) (fun _ _ _ h => h) (Or.inl ⟨by rfl, ?hy9r2310⟩) hH ?r9r2310
                    case hy9r2310 => (intro W hSw; (try dsimp only at hSw); go_simp; try (with_reducible rfl))
                    try simp only [Act.put, List.setIfInBounds_toArray, List.set_cons_zero, List.set_cons_succ]
                    refine wpAnyH_take (i := 10) (oi := { dst := some 134, op := Op.load 25 (Operand.tmp 133), type := 25, pos := "law.go:132", after := #[{ on := 9, ground := Ground.data }, { on := 8, ground := Ground.guard }], guard := some (8, true) }) (v := ?v10r2311) rfl (by kernel_rfl) (by kernel_rfl) (by kernel_rfl) (fun _ _ _ h => h) (Or.inl ⟨by rfl, ?hy10r2311⟩) hH ?r10r2311
                    case hy10r2311 => (intro W hSw; (try dsimp only at hSw); go_simp; try (with_reducible rfl))
                    try simp only [Act.put, List.setIfInBounds_toArray, List.set_cons_zero, List.set_cons_succ]
                    refine wpAnyH_take (i := 11) (oi := { dst := some 135, op := Op.indexAddr 25 (Operand.tmp 134) (Operand.const (Value.int IntKind.i64 1)), type := 0, pos := "law.go:132", after := #[{ on := 10, ground := Ground.data }, { on := 8, ground := Ground.guard }], guard := some (8, true) }) (v := ?v11r2312) rfl (by kernel_rfl) (by kernel_rfl) (by kernel_rfl) (fun _ _ _ h => h) (Or.inl ⟨by rfl, ?hy11r2312⟩) hH ?r11r2312
                    case hy11r2312 => (intro W hSw; (try dsimp only at hSw); go_simp; try (with_reducible rfl))
                    try simp only [Act.put, List.setIfInBounds_toArray, List.set_cons_zero, List.set_cons_succ]
                    refine wpAnyH_take (i := 12) (oi := { dst := some 136, op := Op.fieldAddr 27 (Operand.tmp 135) 4, type := 0, pos := "law.go:132", after := #[{ on := 11, ground := Ground.data }, { on := 8, ground := Ground.guard }], guard := some (8, true) }) (v := ?v12r2313) rfl (by kernel_rfl) (by kernel_rfl) (by kernel_rfl) (fun _ _ _ h => h) (Or.inl ⟨by rfl, ?hy12r2313⟩) hH ?r12r2313
                    case hy12r2313 => (intro W hSw; (try dsimp only at hSw); go_simp; try (with_reducible rfl))
                    try simp only [Act.put, List.setIfInBounds_toArray, List.set_cons_zero, List.set_cons_succ]
                    refine wpAnyH_take (i := 13) (oi := { dst := some 137, op := Op.load 24 (Operand.tmp 136), type := 24, pos := "law.go:132", after := #[{ on := 12, ground := Ground.data }, { on := 8, ground := Ground.guard }], guard := some (8, true) }) (v := ?v13r2314) rfl (by kernel_rfl) (by kernel_rfl) (by kernel_rfl) (fun _ _ _ h => h) (Or.inl ⟨by rfl, ?hy13r2314⟩) hH ?r13r2314
                    case hy13r2314 => (intro W hSw; (try dsimp only at hSw); go_simp; try (with_reducible rfl))
                    try simp only [Act.put, List.setIfInBounds_toArray, List.set_cons_zero, List.set_cons_succ]
                    refine wpAnyH_take (i := 14) (oi := { dst := some 138, op := Op.move (Operand.tmp 1), type := 5, pos := "law.go:132", after := #[{ on := 8, ground := Ground.guard }], guard := some (8, true) }) (v := ?v14r2315) rfl (by kernel_rfl) (by kernel_rfl) (by kernel_rfl) (fun _ _ _ h => h) (Or.inl ⟨by rfl, ?hy14r2315⟩) hH ?r14r2315
                    case hy14r2315 => (intro W hSw; (try dsimp only at hSw); go_simp; try (with_reducible rfl))
                    try simp only [Act.put, List.setIfInBounds_toArray, List.set_cons_zero, List.set_cons_succ]
                    refine wpAnyH_ready (rs := [15]) (by kernel_rfl) (by simp) ?_
                    refine AllReadyH.cons (o := { dst := some 139, op := Op.buildSlice 47 1 #[(0, Operand.tmp 138)], type := 47, pos := "law.go:132", after := #[{ on := 14, ground := Ground.data }, { on := 8, ground := Ground.guard }], guard := some (8, true) }) rfl (fun K hKq => ?_) AllReadyH.nil
                    go_simp
                    refine hKq.out _ _ (MK.out _ (by first | exact KQ.alloc _ | exact (KQ0.alloc _).drew)) (fun hN => ?_)
                    clear hKq K hH KQ
                    have hH := hN
                    clear hN
                    have KQ := hH.2.2.2.2.2.out
                    try simp only [Act.put, List.setIfInBounds_toArray, List.set_cons_zero, List.set_cons_succ]
                    refine wpAnyH_ready (rs := [16]) (by kernel_rfl) (by simp) ?_
                    refine AllReadyH.cons (o := { dst := some 140, op := Op.call { callee := Callee.value (Operand.func 24), args := #[Operand.tmp 139], argTypes := #[47] }, type := 24, pos := "law.go:132", after := #[{ on := 15, ground := Ground.data }, { on := 8, ground := Ground.chain }, { on := 8, ground := Ground.guard }], guard := some (8, true) }) rfl (fun K hKq => ?_) AllReadyH.nil
                    go_simp
                    refine (of1 c _ U3.heap.size (by simp [World.drew]) (bl_cell (last_drew _ _) 0 _ rfl) hc).mono ?_
                    rintro e ya ⟨rfl, kq⟩
                    refine hKq.out _ _ (MK.out _ (KQ.trans kq)) (fun hN => ?_)
                    clear kq
                    clear hKq K hH KQ
                    have hH := hN
                    clear hN
                    have KQ := hH.2.2.2.2.2.out
                    try simp only [Act.put, List.setIfInBounds_toArray, List.set_cons_zero, List.set_cons_succ]
                    refine wpAnyH_take (i := 17) (oi := { dst := some 141, op := Op.binOp BinOp.eql 24 (Operand.tmp 137) (Operand.tmp 140) 24, type := 4, pos := "law.go:132", after := #[{ on := 13, ground := Ground.data }, { on := 16, ground := Ground.data }, { on := 8, ground := Ground.guard }], guard := some (8, true) }) (v := ?v17r2316) rfl (by kernel_rfl) (by kernel_rfl) (by kernel_rfl) (fun _ _ _ h => h) (Or.inl ⟨by rfl, ?hy17r2316⟩) hH ?r17r2316
                    case hy17r2316 => (intro W hSw; (try dsimp only at hSw); go_simp; try (with_reducible rfl))
                    try simp only [Act.put, List.setIfInBounds_toArray, List.set_cons_zero, List.set_cons_succ]
                    refine wpAnyH_take (i := 18) (oi := { dst := some 142, op := Op.pick (Operand.tmp 132) (Operand.tmp 141) (Operand.const (Value.bool false)), type := 4, pos := "law.go:132", after := #[{ on := 8, ground := Ground.data }, { on := 17, ground := Ground.data }], guard := none }) (v := ?v18r2317) rfl (by kernel_rfl) (by kernel_rfl) (by kernel_rfl) (fun _ _ _ h => h) (Or.inl ⟨by rfl, ?hy18r2317⟩) hH ?r18r2317
                    case hy18r2317 => (intro W hSw; (try dsimp only at hSw); go_simp; try (with_reducible rfl))
                    try simp only [Act.put, List.setIfInBounds_toArray, List.set_cons_zero, List.set_cons_succ]
                    refine wpAnyH_take (i := 19) (oi := { dst := some 143, op := Op.move (Operand.tmp 142), type := 4, pos := "law.go:132", after := #[{ on := 18, ground := Ground.data }, { on := 16, ground := Ground.chain }], guard := none }) (v := ?v19r2318) rfl (by kernel_rfl) (by kernel_rfl) (by kernel_rfl) (fun _ _ _ h => h) (Or.inl ⟨by rfl, ?hy19r2318⟩) hH ?r19r2318
                    case hy19r2318 => (intro W hSw; (try dsimp only at hSw); go_simp; try (with_reducible rfl))
                    try simp only [Act.put, List.setIfInBounds_toArray, List.set_cons_zero, List.set_cons_succ]
                    refine wpAnyH_ready (rs := [20]) (by kernel_rfl) (by simp) ?_
                    refine AllReadyH.cons (o := { dst := some 144, op := Op.call { callee := Callee.value (Operand.func 3), args := #[], argTypes := #[] }, type := 4, pos := "law.go:132", after := #[{ on := 19, ground := Ground.chain }, { on := 19, ground := Ground.guard }], guard := some (19, true) }) rfl (fun K hKq => ?_) AllReadyH.nil
                    go_simp
                    refine (RU.out _ KQ).mono ?_
                    rintro e y3 ⟨rfl, kq⟩
                    refine hKq.out _ _ (MK.out _ (KQ.trans kq)) (fun hN => ?_)
                    clear kq
                    clear hKq K hH KQ
                    have hH := hN
                    clear hN
                    have KQ := hH.2.2.2.2.2.out
                    try simp only [Act.put, List.setIfInBounds_toArray, List.set_cons_zero, List.set_cons_succ]
                    refine wpAnyH_take (i := 21) (oi := { dst := some 145, op := Op.pick (Operand.tmp 143) (Operand.tmp 144) (Operand.const (Value.bool false)), type := 4, pos := "law.go:132", after := #[{ on := 19, ground := Ground.data }, { on := 20, ground := Ground.data }], guard := none }) (v := ?v21r2319) rfl (by kernel_rfl) (by kernel_rfl) (by kernel_rfl) (fun _ _ _ h => h) (Or.inl ⟨by rfl, ?hy21r2319⟩) hH ?r21r2319
                    case hy21r2319 => (intro W hSw; (try dsimp only at hSw); go_simp; try (with_reducible rfl))
                    try simp only [Act.put, List.setIfInBounds_toArray, List.set_cons_zero, List.set_cons_succ]
                    refine wpAnyH_take (i := 22) (oi := { dst := some 6, op := Op.assign (Operand.tmp 145), type := 4, pos := "law.go:132", after := #[{ on := 21, ground := Ground.data }, { on := 20, ground := Ground.chain }, { on := 0, ground := Ground.phase }, { on := 1, ground := Ground.phase }, { on := 2, ground := Ground.phase }, { on := 3, ground := Ground.phase }, { on := 4, ground := Ground.phase }, { on := 5, ground := Ground.phase }, { on := 6, ground := Ground.phase }, { on := 7, ground := Ground.phase }, { on := 8, ground := Ground.phase }, { on := 9, ground := Ground.phase }, { on := 10, ground := Ground.phase }, { on := 11, ground := Ground.phase }, { on := 12, ground := Ground.phase }, { on := 13, ground := Ground.phase }, { on := 14, ground := Ground.phase }, { on := 15, ground := Ground.phase }, { on := 16, ground := Ground.phase }, { on := 17, ground := Ground.phase }, { on := 18, ground := Ground.phase }, { on := 19, ground := Ground.phase }, { on := 20, ground := Ground.phase }, { on := 21, ground := Ground.phase }], guard := none }) (v := ?v22r2320) rfl (by kernel_rfl) (by kernel_rfl) (by kernel_rfl) (fun _ _ _ h => h) (Or.inl ⟨by rfl, ?hy22r2320⟩) hH ?r22r2320
                    case hy22r2320 => (intro W hSw; (try dsimp only at hSw); go_simp; try (with_reducible rfl))
                    try simp only [Act.put, List.setIfInBounds_toArray, List.set_cons_zero, List.set_cons_succ]
                    refine wpAnyH_done (by kernel_rfl) ?_ _
                    refine NoPanic.normal ?_
                    go_wp2_with fail
                    go_ret
                    exact ⟨rfl, K9.out.trans KQ⟩
                  | false =>
                    by_cases h110 : c = 110
                    · obtain ⟨he3, hkn, hks⟩ := ES.out.nl rfl h110
                      subst he3
                      subst h110
                      obtain ⟨hl3, kb, ko, hae, hkb, d0, d1, d2, d3⟩ := PD3x.out.kid hkn _ hks
                      subst hl3
                      subst hae
                      have KC : Hid (∀ W, Kp U3 W → W.cell? ⟨kb, ko + 9 + 4, none⟩ = some (.int .u64 (wd (addB (fun _ => false) 10) 0 : Nat)) ∧ W.cell? ⟨kb, ko + 9 + 5, none⟩ = some (.int .u64 (wd (addB (fun _ => false) 10) 1 : Nat)) ∧ W.cell? ⟨kb, ko + 9 + 6, none⟩ = some (.int .u64 (wd (addB (fun _ => false) 10) 2 : Nat)) ∧ W.cell? ⟨kb, ko + 9 + 7, none⟩ = some (.int .u64 (wd (addB (fun _ => false) 10) 3 : Nat))) := fun W k => ⟨(k.cell hkb).trans d0, (k.cell hkb).trans d1, (k.cell hkb).trans d2, (k.cell hkb).trans d3⟩
                      clear d0 d1 d2 d3 hkn hks PD3x ES
                      have es : ∀ W, (Op.equalIn 10000 24 (sv (addB (fun _ => false) 10)) (sv (addB (fun _ => false) 10))).run Tryz.prog W = .ok true W := fun W => by rw [eq_vv]; simp
                      go_upto_region 25 with fail
                      have Q0 : Kp U3 U3.drew := (Kp.refl _).drew
                      have MK : Hid (∀ W, Kp U3 W → W.cell? ⟨V3.heap.size, 8, none⟩ = some (.slice (some ⟨kb, ko, none⟩) 2 c3) ∧ W.cell? ⟨kb, (ko + 9 + 4), none⟩ = some (Value.int .u64 (wd (addB (fun _ => false) 10) 0 : Nat)) ∧ W.cell? ⟨kb, (ko + 9 + 5), none⟩ = some (Value.int .u64 (wd (addB (fun _ => false) 10) 1 : Nat)) ∧ W.cell? ⟨kb, (ko + 9 + 6), none⟩ = some (Value.int .u64 (wd (addB (fun _ => false) 10) 2 : Nat)) ∧ W.cell? ⟨kb, (ko + 9 + 7), none⟩ = some (Value.int .u64 (wd (addB (fun _ => false) 10) 3 : Nat)) ∧ Hid (Kp U3 W)) := fun W k => ⟨bl_cell (bl_kp A3.out k) 8 _ rfl, (KC.out _ k).1, (KC.out _ k).2.1, (KC.out _ k).2.2.1, (KC.out _ k).2.2.2, k⟩
                      refine wp_region_noPanic ?_
                      refine wp_region_held_drew (S := (fun W => W.cell? ⟨V3.heap.size, 8, none⟩ = some (.slice (some ⟨kb, ko, none⟩) 2 c3) ∧ W.cell? ⟨kb, (ko + 9 + 4), none⟩ = some (Value.int .u64 (wd (addB (fun _ => false) 10) 0 : Nat)) ∧ W.cell? ⟨kb, (ko + 9 + 5), none⟩ = some (Value.int .u64 (wd (addB (fun _ => false) 10) 1 : Nat)) ∧ W.cell? ⟨kb, (ko + 9 + 6), none⟩ = some (Value.int .u64 (wd (addB (fun _ => false) 10) 2 : Nat)) ∧ W.cell? ⟨kb, (ko + 9 + 7), none⟩ = some (Value.int .u64 (wd (addB (fun _ => false) 10) 3 : Nat)) ∧ Hid (Kp U3 W))) (by kernel_rfl) ?_ (fun hH => ?_)
                      · exact MK.out _ Q0
                      have KQ := Q0
                      refine wpAnyH_take (i := 0) (oi := { dst := some 148, op := Op.move (Operand.tmp 20), type := 28, pos := "law.go:135", after := #[], guard := none }) (v := ?v0r251) rfl (by kernel_rfl) (by kernel_rfl) (by kernel_rfl) (fun _ _ _ h => h) (Or.inl ⟨by rfl, ?hy0r251⟩) hH ?r0r251
                      case hy0r251 => (intro W hSw; (try dsimp only at hSw); go_simp; try (with_reducible rfl))
                      try simp only [Act.put, List.setIfInBounds_toArray, List.set_cons_zero, List.set_cons_succ]
                      refine wpAnyH_take (i := 1) (oi := { dst := some 149, op := Op.binOp BinOp.eql 28 (Operand.tmp 148) (Operand.const (Value.int IntKind.i64 0)) 28, type := 4, pos := "law.go:135", after := #[{ on := 0, ground := Ground.data }], guard := none }) (v := ?v1r252) rfl (by kernel_rfl) (by kernel_rfl) (by kernel_rfl) (fun _ _ _ h => h) (Or.inl ⟨by rfl, ?hy1r252⟩) hH ?r1r252
                      case hy1r252 => (intro W hSw; (try dsimp only at hSw); go_simp; try (with_reducible rfl))
                      try simp only [Act.put, List.setIfInBounds_toArray, List.set_cons_zero, List.set_cons_succ]
                      refine wpAnyH_take (i := 2) (oi := { dst := some 150, op := Op.move (Operand.tmp 149), type := 4, pos := "law.go:135", after := #[{ on := 1, ground := Ground.data }], guard := none }) (v := ?v2r253) rfl (by kernel_rfl) (by kernel_rfl) (by kernel_rfl) (fun _ _ _ h => h) (Or.inl ⟨by rfl, ?hy2r253⟩) hH ?r2r253
                      case hy2r253 => (intro W hSw; (try dsimp only at hSw); go_simp; try (with_reducible rfl))
                      try simp only [Act.put, List.setIfInBounds_toArray, List.set_cons_zero, List.set_cons_succ]
                      refine wpAnyH_take (i := 3) (oi := { dst := some 151, op := Op.fieldAddr 27 (Operand.tmp 18) 5, type := 0, pos := "law.go:135", after := #[{ on := 2, ground := Ground.guard }], guard := some (2, true) }) (v := ?v3r254) rfl (by kernel_rfl) (by kernel_rfl) (by kernel_rfl) (fun _ _ _ h => h) (Or.inl ⟨by rfl, ?hy3r254⟩) hH ?r3r254
                      case hy3r254 => (intro W hSw; (try dsimp only at hSw); go_simp; try (with_reducible rfl))
                      try simp only [Act.put, List.setIfInBounds_toArray, List.set_cons_zero, List.set_cons_succ]
                      refine wpAnyH_take (i := 4) (oi := { dst := some 152, op := Op.load 25 (Operand.tmp 151), type := 25, pos := "law.go:135", after := #[{ on := 3, ground := Ground.data }, { on := 2, ground := Ground.guard }], guard := some (2, true) }) (v := ?v4r255) rfl (by kernel_rfl) (by kernel_rfl) (by kernel_rfl) (fun _ _ _ h => h) (Or.inl ⟨by rfl, ?hy4r255⟩) hH ?r4r255
                      case hy4r255 => (intro W hSw; (try dsimp only at hSw); go_simp; try (with_reducible rfl))
                      try simp only [Act.put, List.setIfInBounds_toArray, List.set_cons_zero, List.set_cons_succ]
                      refine wpAnyH_take (i := 5) (oi := { dst := some 153, op := Op.call { callee := Callee.builtin Builtin.len, args := #[Operand.tmp 152], argTypes := #[25] }, type := 3, pos := "law.go:135", after := #[{ on := 4, ground := Ground.data }, { on := 2, ground := Ground.guard }], guard := some (2, true) }) (v := ?v5r256) rfl (by kernel_rfl) (by kernel_rfl) (by kernel_rfl) (fun _ _ _ h => h) (Or.inl ⟨by rfl, ?hy5r256⟩) hH ?r5r256
                      case hy5r256 => (intro W hSw; (try dsimp only at hSw); go_simp; try (with_reducible rfl))
                      try simp only [Act.put, List.setIfInBounds_toArray, List.set_cons_zero, List.set_cons_succ]
                      refine wpAnyH_take (i := 6) (oi := { dst := some 154, op := Op.binOp BinOp.eql 3 (Operand.tmp 153) (Operand.const (Value.int IntKind.i64 2)) 3, type := 4, pos := "law.go:135", after := #[{ on := 5, ground := Ground.data }, { on := 2, ground := Ground.guard }], guard := some (2, true) }) (v := ?v6r257) rfl (by kernel_rfl) (by kernel_rfl) (by kernel_rfl) (fun _ _ _ h => h) (Or.inl ⟨by rfl, ?hy6r257⟩) hH ?r6r257
                      case hy6r257 => (intro W hSw; (try dsimp only at hSw); go_simp; try (with_reducible rfl))
                      try simp only [Act.put, List.setIfInBounds_toArray, List.set_cons_zero, List.set_cons_succ]
                      refine wpAnyH_take (i := 7) (oi := { dst := some 155, op := Op.pick (Operand.tmp 150) (Operand.tmp 154) (Operand.const (Value.bool false)), type := 4, pos := "law.go:135", after := #[{ on := 2, ground := Ground.data }, { on := 6, ground := Ground.data }], guard := none }) (v := ?v7r258) rfl (by kernel_rfl) (by kernel_rfl) (by kernel_rfl) (fun _ _ _ h => h) (Or.inl ⟨by rfl, ?hy7r258⟩) hH ?r7r258
                      case hy7r258 => (intro W hSw; (try dsimp only at hSw); go_simp; try (with_reducible rfl))
                      try simp only [Act.put, List.setIfInBounds_toArray, List.set_cons_zero, List.set_cons_succ]
                      refine wpAnyH_take (i := 8) (oi := { dst := some 156, op := Op.move (Operand.tmp 155), type := 4, pos := "law.go:135", after := #[{ on := 7, ground := Ground.data }, { on := 2, ground := Ground.chain }], guard := none }) (v := ?v8r259) rfl (by kernel_rfl) (by kernel_rfl) (by kernel_rfl) (fun _ _ _ h => h) (Or.inl ⟨by rfl, ?hy8r259⟩) hH ?r8r259
                      case hy8r259 => (intro W hSw; (try dsimp only at hSw); go_simp; try (with_reducible rfl))
                      try simp only [Act.put, List.setIfInBounds_toArray, List.set_cons_zero, List.set_cons_succ]
                      refine wpAnyH_take (i := 9) (oi := { dst := some 157, op := Op.fieldAddr 27 (Operand.tmp 18) 5, type := 0, pos := "law.go:135", after := #[{ on := 8, ground := Ground.guard }], guard := some (8, true) }) (v := ?v9r2510) rfl (by kernel_rfl) (by kernel_rfl) (by kernel_rfl) (fun _ _ _ h => h) (Or.inl ⟨by rfl, ?hy9r2510⟩) hH ?r9r2510
                      case hy9r2510 => (intro W hSw; (try dsimp only at hSw); go_simp; try (with_reducible rfl))
                      try simp only [Act.put, List.setIfInBounds_toArray, List.set_cons_zero, List.set_cons_succ]
                      refine wpAnyH_take (i := 10) (oi := { dst := some 158, op := Op.load 25 (Operand.tmp 157), type := 25, pos := "law.go:135", after := #[{ on := 9, ground := Ground.data }, { on := 8, ground := Ground.guard }], guard := some (8, true) }) (v := ?v10r2511) rfl (by kernel_rfl) (by kernel_rfl) (by kernel_rfl) (fun _ _ _ h => h) (Or.inl ⟨by rfl, ?hy10r2511⟩) hH ?r10r2511
                      case hy10r2511 => (intro W hSw; (try dsimp only at hSw); go_simp; try (with_reducible rfl))
                      try simp only [Act.put, List.setIfInBounds_toArray, List.set_cons_zero, List.set_cons_succ]
                      refine wpAnyH_take (i := 11) (oi := { dst := some 159, op := Op.indexAddr 25 (Operand.tmp 158) (Operand.const (Value.int IntKind.i64 1)), type := 0, pos := "law.go:135", after := #[{ on := 10, ground := Ground.data }, { on := 8, ground := Ground.guard }], guard := some (8, true) }) (v := ?v11r2512) rfl (by kernel_rfl) (by kernel_rfl) (by kernel_rfl) (fun _ _ _ h => h) (Or.inl ⟨by rfl, ?hy11r2512⟩) hH ?r11r2512
                      case hy11r2512 => (intro W hSw; (try dsimp only at hSw); go_simp; try (with_reducible rfl))
                      try simp only [Act.put, List.setIfInBounds_toArray, List.set_cons_zero, List.set_cons_succ]
                      refine wpAnyH_take (i := 12) (oi := { dst := some 160, op := Op.fieldAddr 27 (Operand.tmp 159) 4, type := 0, pos := "law.go:135", after := #[{ on := 11, ground := Ground.data }, { on := 8, ground := Ground.guard }], guard := some (8, true) }) (v := ?v12r2513) rfl (by kernel_rfl) (by kernel_rfl) (by kernel_rfl) (fun _ _ _ h => h) (Or.inl ⟨by rfl, ?hy12r2513⟩) hH ?r12r2513
                      case hy12r2513 => (intro W hSw; (try dsimp only at hSw); go_simp; try (with_reducible rfl))
                      try simp only [Act.put, List.setIfInBounds_toArray, List.set_cons_zero, List.set_cons_succ]
                      refine wpAnyH_take (i := 13) (oi := { dst := some 161, op := Op.load 24 (Operand.tmp 160), type := 24, pos := "law.go:135", after := #[{ on := 12, ground := Ground.data }, { on := 8, ground := Ground.guard }], guard := some (8, true) }) (v := ?v13r2514) rfl (by kernel_rfl) (by kernel_rfl) (by kernel_rfl) (fun _ _ _ h => h) (Or.inl ⟨by rfl, ?hy13r2514⟩) hH ?r13r2514
                      case hy13r2514 => (intro W hSw; (try dsimp only at hSw); go_simp; try (with_reducible rfl))
                      try simp only [Act.put, List.setIfInBounds_toArray, List.set_cons_zero, List.set_cons_succ]
                      refine wpAnyH_ready (rs := [14]) (by kernel_rfl) (by simp) ?_
                      refine AllReadyH.cons (o := { dst := some 162, op := Op.buildSlice 47 1 #[(0, Operand.const (Value.int IntKind.u8 10))], type := 47, pos := "law.go:135", after := #[{ on := 8, ground := Ground.guard }], guard := some (8, true) }) rfl (fun K hKq => ?_) AllReadyH.nil
                      go_simp
                      refine hKq.out _ _ (MK.out _ (by first | exact KQ.alloc _ | exact (KQ0.alloc _).drew)) (fun hN => ?_)
                      clear hKq K hH KQ
                      have hH := hN
                      clear hN
                      have KQ := hH.2.2.2.2.2.out
                      try simp only [Act.put, List.setIfInBounds_toArray, List.set_cons_zero, List.set_cons_succ]
                      refine wpAnyH_ready (rs := [15]) (by kernel_rfl) (by simp) ?_
                      refine AllReadyH.cons (o := { dst := some 163, op := Op.call { callee := Callee.value (Operand.func 24), args := #[Operand.tmp 162], argTypes := #[47] }, type := 24, pos := "law.go:135", after := #[{ on := 14, ground := Ground.data }, { on := 8, ground := Ground.chain }, { on := 8, ground := Ground.guard }], guard := some (8, true) }) rfl (fun K hKq => ?_) AllReadyH.nil
                      go_simp
                      refine (of1 10 _ U3.heap.size (by simp [World.drew]) (bl_cell (last_drew _ _) 0 _ rfl) (by omega)).mono ?_
                      rintro e ya ⟨rfl, kq⟩
                      refine hKq.out _ _ (MK.out _ (KQ.trans kq)) (fun hN => ?_)
                      clear kq
                      clear hKq K hH KQ
                      have hH := hN
                      clear hN
                      have KQ := hH.2.2.2.2.2.out
                      try simp only [Act.put, List.setIfInBounds_toArray, List.set_cons_zero, List.set_cons_succ]
                      refine wpAnyH_take (i := 16) (oi := { dst := some 164, op := Op.binOp BinOp.eql 24 (Operand.tmp 161) (Operand.tmp 163) 24, type := 4, pos := "law.go:135", after := #[{ on := 13, ground := Ground.data }, { on := 15, ground := Ground.data }, { on := 8, ground := Ground.guard }], guard := some (8, true) }) (v := ?v16r2515) rfl (by kernel_rfl) (by kernel_rfl) (by kernel_rfl) (fun _ _ _ h => h) (Or.inl ⟨by rfl, ?hy16r2515⟩) hH ?r16r2515
                      case hy16r2515 => (intro W hSw; (try dsimp only at hSw); go_simp; try (with_reducible rfl))
                      try simp only [Act.put, List.setIfInBounds_toArray, List.set_cons_zero, List.set_cons_succ]
                      refine wpAnyH_take (i := 17) (oi := { dst := some 165, op := Op.pick (Operand.tmp 156) (Operand.tmp 164) (Operand.const (Value.bool false)), type := 4, pos := "law.go:135", after := #[{ on := 8, ground := Ground.data }, { on := 16, ground := Ground.data }], guard := none }) (v := ?v17r2516) rfl (by kernel_rfl) (by kernel_rfl) (by kernel_rfl) (fun _ _ _ h => h) (Or.inl ⟨by rfl, ?hy17r2516⟩) hH ?r17r2516
                      case hy17r2516 => (intro W hSw; (try dsimp only at hSw); go_simp; try (with_reducible rfl))
                      try simp only [Act.put, List.setIfInBounds_toArray, List.set_cons_zero, List.set_cons_succ]
                      refine wpAnyH_take (i := 18) (oi := { dst := some 166, op := Op.move (Operand.tmp 165), type := 4, pos := "law.go:135", after := #[{ on := 17, ground := Ground.data }, { on := 15, ground := Ground.chain }], guard := none }) (v := ?v18r2517) rfl (by kernel_rfl) (by kernel_rfl) (by kernel_rfl) (fun _ _ _ h => h) (Or.inl ⟨by rfl, ?hy18r2517⟩) hH ?r18r2517
                      case hy18r2517 => (intro W hSw; (try dsimp only at hSw); go_simp; try (with_reducible rfl))
                      try simp only [Act.put, List.setIfInBounds_toArray, List.set_cons_zero, List.set_cons_succ]
                      refine wpAnyH_ready (rs := [19]) (by kernel_rfl) (by simp) ?_
                      refine AllReadyH.cons (o := { dst := some 167, op := Op.call { callee := Callee.value (Operand.func 3), args := #[], argTypes := #[] }, type := 4, pos := "law.go:135", after := #[{ on := 18, ground := Ground.chain }, { on := 18, ground := Ground.guard }], guard := some (18, true) }) rfl (fun K hKq => ?_) AllReadyH.nil
                      go_simp
                      refine (RU.out _ KQ).mono ?_
                      rintro e y3 ⟨rfl, kq⟩
                      refine hKq.out _ _ (MK.out _ (KQ.trans kq)) (fun hN => ?_)
                      clear kq
                      clear hKq K hH KQ
                      have hH := hN
                      clear hN
                      have KQ := hH.2.2.2.2.2.out
                      try simp only [Act.put, List.setIfInBounds_toArray, List.set_cons_zero, List.set_cons_succ]
                      refine wpAnyH_take (i := 20) (oi := { dst := some 168, op := Op.pick (Operand.tmp 166) (Operand.tmp 167) (Operand.const (Value.bool false)), type := 4, pos := "law.go:135", after := #[{ on := 18, ground := Ground.data }, { on := 19, ground := Ground.data }], guard := none }) (v := ?v20r2518) rfl (by kernel_rfl) (by kernel_rfl) (by kernel_rfl) (fun _ _ _ h => h) (Or.inl ⟨by rfl, ?hy20r2518⟩) hH ?r20r2518
                      case hy20r2518 => (intro W hSw; (try dsimp only at hSw); go_simp; try (with_reducible rfl))
                      try simp only [Act.put, List.setIfInBounds_toArray, List.set_cons_zero, List.set_cons_succ]
                      refine wpAnyH_take (i := 21) (oi := { dst := some 6, op := Op.assign (Operand.tmp 168), type := 4, pos := "law.go:135", after := #[{ on := 20, ground := Ground.data }, { on := 19, ground := Ground.chain }, { on := 0, ground := Ground.phase }, { on := 1, ground := Ground.phase }, { on := 2, ground := Ground.phase }, { on := 3, ground := Ground.phase }, { on := 4, ground := Ground.phase }, { on := 5, ground := Ground.phase }, { on := 6, ground := Ground.phase }, { on := 7, ground := Ground.phase }, { on := 8, ground := Ground.phase }, { on := 9, ground := Ground.phase }, { on := 10, ground := Ground.phase }, { on := 11, ground := Ground.phase }, { on := 12, ground := Ground.phase }, { on := 13, ground := Ground.phase }, { on := 14, ground := Ground.phase }, { on := 15, ground := Ground.phase }, { on := 16, ground := Ground.phase }, { on := 17, ground := Ground.phase }, { on := 18, ground := Ground.phase }, { on := 19, ground := Ground.phase }, { on := 20, ground := Ground.phase }], guard := none }) (v := ?v21r2519) rfl (by kernel_rfl) (by kernel_rfl) (by kernel_rfl) (fun _ _ _ h => h) (Or.inl ⟨by rfl, ?hy21r2519⟩) hH ?r21r2519
                      case hy21r2519 => (intro W hSw; (try dsimp only at hSw); go_simp; try (with_reducible rfl))
                      try simp only [Act.put, List.setIfInBounds_toArray, List.set_cons_zero, List.set_cons_succ]
                      refine wpAnyH_done (by kernel_rfl) ?_ _
                      refine NoPanic.normal ?_
                      go_wp2_with fail
                      go_ret
                      exact ⟨rfl, K9.out.trans KQ⟩
                    · have NO := hid (ES.out.no rfl h110)
                      have g110 : ((c : Int) == 110) = false := by simp; omega
                      clear h110 A3 PD3x ES
                      by_cases he3 : e3 = 0
                      · have hcc : ere = false ∧ (c = 40 ∨ c = 123) := by
                          rcases NO.out with h | h
                          · exact absurd he3 h
                          · exact h
                        obtain ⟨rfl, hcc⟩ := hcc
                        subst he3
                        clear NO g110
                        rcases hcc with rfl | rfl
                        · go_wp2_with fail
                          refine (RU.out _ (by repeat (first | exact Kp.refl _ | refine Kp.alloc ?_ _ | refine Kp.drew ?_))).mono ?_
                          rintro e Y ⟨rfl, y⟩
                          have KY := hid (K9.out.trans y)
                          clear y
                          go_wp2_with fail
                          go_ret
                          exact ⟨rfl, KY.out⟩
                        · go_wp2_with fail
                          refine (RU.out _ (by repeat (first | exact Kp.refl _ | refine Kp.alloc ?_ _ | refine Kp.drew ?_))).mono ?_
                          rintro e Y ⟨rfl, y⟩
                          have KY := hid (K9.out.trans y)
                          clear y
                          go_wp2_with fail
                          go_ret
                          exact ⟨rfl, KY.out⟩
                      · have g3 : ((e3 : Int) != 0) = true := by simp; omega
                        have g3' : ¬ (e3 : Int) = 0 := by omega
                        clear NO he3
                        go_wp2_with fail
                        refine (RU.out _ (by repeat (first | exact Kp.refl _ | refine Kp.alloc ?_ _ | refine Kp.drew ?_))).mono ?_
                        rintro e Y ⟨rfl, y⟩
                        have KY := hid (K9.out.trans y)
                        clear y
                        go_wp2_with fail
                        go_ret
                        exact ⟨rfl, KY.out⟩
end Go.Proofs.YtikmgckefbjbkaaGreatDoor

/-! ### Wrap -/

namespace Go.Proofs.YtikmgckefbjbkaaGreatDoor
open Go.ChangeShapes Go.WideShapes Go.ChangeAt Go.RowKit

theorem and_shaped {H : Type} {enc : TypeId × Value → H} {a : Assume} {C : Checked} {os : Go.Os} {f : FuncId} {fn : Func} {s : ChangeSpec} {conds : List PathCond} {apart fresh handsOn again : Bool} {X : World → Array Value → Prop}
    (hX : ∀ (w w' : World) (args : Array Value), w.heap = w'.heap → X w args → X w' args)
    (own : ownKnob C.prog.godebug = none) (started : os.Started) (noInit : C.prog.inits.idxOf? f = none) (hfn : C.prog.funcs[f]? = some fn)
    (witness : ∃ (w : World) (tape : Tape) (i : Input), w.os = os ∧ (w.forCall tape i).Shaped C.prog ∧ i.vars = [] ∧ Input.okWide C.prog (w.forCall tape i) .any w.heap.size f i ∧
      ((s.pre enc C.prog fn conds apart (w.forCall tape i).memory i.args ∧ X (w.forCall tape i).memory i.args) ∧ sizedMet enc C.prog fn (OpenSpec.ofChange s) apart (w.forCall tape i).memory i.args) ∧ a.holds C.prog (lone (Frame.enter C.prog f i.args .normal) [] (w.forCall tape i)))
    (contract : ∀ (W : World) (base : Nat) (args : Array Value) (ds gs : List (DataW H)) (before : List MemPlace),
      (∀ (j : Nat) t v, fn.params[j]? = some t → args[j]? = some v → Value.okWide C.prog W .any base t v) →
      DataW.Whole enc C.prog fn.params.toList s.vars apart W args.toList ds gs before →
      conds.all (PathCond.test C.prog ⟨fn.params.toList, ds, s.plain.varTypes C.prog, gs⟩) = true →
      (DataW.weightsEach C.prog (fn.params.toList ++ s.plain.varTypes C.prog) (ds ++ gs)).all (· ≤ reachBytes) = true → X W args → W.ShapedOpen C.prog →
      Calls C.prog f args W fun e W' => ∃ v, e = .returned v ∧ s.post enc C.prog fn apart fresh handsOn again W args v W') :
    ReturnsInHanded a C os f .any (fun w args => (s.pre enc C.prog fn conds apart w args ∧ X w args) ∧ sizedMet enc C.prog fn (OpenSpec.ofChange s) apart w args) (s.post enc C.prog fn apart fresh handsOn again) := by
  refine returnsInHanded_of_calls own started noInit witness ?_
  intro w tape i _ hsh _ hok hpre hholds
  obtain ⟨_, _, _, fn', hfn', _, _, _, _, hval⟩ := hok
  have e : fn' = fn := Option.some.inj (hfn'.symm.trans hfn)
  subst e
  obtain ⟨⟨⟨ds, gs, before, hw, hc⟩, hx⟩, hz⟩ := hpre
  have hw' := DataW.Whole.of_heap (w' := w.forCall tape i) (by rfl) hw
  refine (contract (w.forCall tape i) w.heap.size i.args ds gs before hval hw' hc (hz.weights hw) (hX _ _ _ (by rfl) hx) hsh).mono fun e W' ⟨v, he, hp⟩ => ?_
  subst he
  exact ChangeSpec.post_blind hp

theorem own : ownKnob Tryz.prog.godebug = none := by kernel_rfl

/-- What every row of this seat lists. -/
abbrev laid3 : List (String × DataW Unit) := [("math/bits.deBruijn32tab", Rows.laid_math_bits_deBruijn32tab), ("math/bits.deBruijn64tab", Rows.laid_math_bits_deBruijn64tab), ("internal/strconv.uint64pow10", Rows.laid_internal_strconv_uint64pow10)]

/-- The door's own heap meets the condition. -/
theorem door_met (os : Go.Os) (args : Array Value) : laidMetH Tryz.prog laid3 ((World.doorLaid Tryz.prog 24 os).forCall (fun _ _ => 0) ⟨#[], args, []⟩).memory :=
  laidMetH_of_parts3 (fuel := 8) (laidMet_of_run' 8 (by kernel_rfl) (by kernel_rfl)) (by kernel_rfl) (by kernel_rfl)

/-- MaxLen holds a number. -/
theorem maxLen {W : World} (h : W.ShapedOpen Tryz.prog) : ∃ m, W.cell? ⟨0, 0, none⟩ = some (.int .i64 m) :=
  cell_of_shapedOpen_int (P := Tryz.prog) (g := 0) (t := 3) (zero := #[.int .i64 0]) h (of_decide_eq_true (by kernel_rfl)) (by kernel_rfl) rfl (by kernel_rfl) (by kernel_rfl) Tryz.underlying3
end Go.Proofs.YtikmgckefbjbkaaGreatDoor

/-! ### RxPlainProof -/

namespace Go.Proofs.YtikmgckefbjbkaaGreatDoor.rxPlain
open Go.ChangeShapes Go.WideShapes Go.ChangeAt Go.RowKit
open Go.ChangeMaps (open_string shut_string)
set_option linter.unusedVariables false

theorem part {w : World} {a : Option Addr} {len cap : Nat} {z : List Int} (h : (a = none ∧ len = 0 ∧ cap = 0 ∧ z = []) ∨ ∃ x, a = some x ∧ len ≤ cap ∧ cap ≤ Go.maxLen ∧ z.length = cap ∧ (∀ i, i < z.length → w.cell? (x.add i) = some (.int .i64 (z.getD i 0))) ∧ ∀ n ∈ z, (Lit.int .i64 n).wf = true) :
    ∃ b o, len ≤ z.length ∧ (∀ i, i < z.length → w.cell? ⟨b, o + i, none⟩ = some (.int .i64 (z.getD i 0))) ∧ (0 < len → a = some ⟨b, o, none⟩ ∧ b < w.heap.size) := by
  rcases h with ⟨rfl, rfl, rfl, rfl⟩ | ⟨x, rfl, h1, _, h3, h5, _⟩
  · exact ⟨0, 0, by simp, by simp, by omega⟩
  · by_cases h0 : z.length = 0
    · exact ⟨0, 0, by omega, fun i hi => by omega, by omega⟩
    · obtain ⟨b, off, rfl, hc⟩ := ints_at h5 (by omega)
      exact ⟨b, off, by omega, hc, fun _ => ⟨rfl, World.block_lt_of_cell? w _ (hc 0 (by omega))⟩⟩

theorem laidOut : laidOutB Tryz.prog = true := by kernel_rfl
set_option maxRecDepth 100000 in
theorem lifted (os : Go.Os) (started : os.Started) (H : Type) (enc : TypeId × Value → H) :
    ReturnsInHanded {} Tryz.checked os 8 .any (fun w args => (Rows.rxPlainSpec.pre enc Tryz.prog Tryz.f8 [] false w args ∧ laidMetH Tryz.prog laid3 w) ∧ sizedMet enc Tryz.prog Tryz.f8 (OpenSpec.ofChange Rows.rxPlainSpec) false w args)
      (Rows.rxPlainSpec.post enc Tryz.prog Tryz.f8 false true false false) := by
  refine and_shaped (C := Tryz.checked) (X := fun w _ => laidMetH Tryz.prog laid3 w) (fun _ _ _ hh h => h.of_heap hh) own started (by kernel_rfl) Tryz.func8
    (ChangeSpec.witness_shaped (enc := enc) (C := Tryz.checked) (os := os) (X := fun w _ => laidMetH Tryz.prog laid3 w) false (World.doorLaid Tryz.prog 24 os) #[.slice none 0 0, .int .u8 0, .bool false] 8 rfl (World.shaped_of_RefB (by kernel_rfl) (by kernel_rfl)) (by kernel_rfl) (by kernel_rfl) (by kernel_rfl) (door_met os _)) ?_
  intro W base args ds gs before hval0 hW _ _ hL hsh
  have hval : ∀ (j : Nat) t v, Tryz.f8.params[j]? = some t → args[j]? = some v → Value.okWide Tryz.prog W .any base t v := hval0
  have hW' := hW
  obtain ⟨p, q, hA0, hV, rfl, hfz, hnd⟩ := hW
  have hA : DataW.TrodAll enc Tryz.prog W 0 (fun _ => true) true Tryz.f8.params.toList args.toList ds p := hA0
  rw [Tryz.params8] at hA hval
  obtain ⟨v0, vs0, d0, ds0, p0, q0, hargs, rfl, rfl, h0, r0⟩ := trodAll_cons hA
  obtain ⟨v1, vs1, d1, ds1, p1, q1, rfl, rfl, rfl, h1, r1⟩ := trodAll_cons r0
  obtain ⟨v2, vs2, d2, ds2, p2, q2, rfl, rfl, rfl, h2, r2⟩ := trodAll_cons r1
  obtain ⟨rfl, rfl, rfl⟩ := trodAll_nil r2
  obtain rfl : args = #[v0, v1, v2] := by cases args; simp_all
  obtain ⟨rfl, rfl⟩ := trodVars_none hV
  obtain ⟨a0, len0, cap0, rfl⟩ := okWide_slice Tryz.underlying34 (hval 0 34 v0 rfl rfl)
  have k0 := h0
  have lt0 : ∀ x ∈ p0, x.block < W.heap.size := by obtain ⟨m, hm⟩ := k0; exact DataW.trod_lt m _ _ _ hm
  obtain ⟨z0, w0⟩ : ∃ z : List Int, (a0 = none ∧ len0 = 0 ∧ cap0 = 0 ∧ z = []) ∨ ∃ x, a0 = some x ∧ len0 ≤ cap0 ∧ cap0 ≤ Go.maxLen ∧ z.length = cap0 ∧ (∀ j, j < z.length → W.cell? (x.add j) = some (.int .i64 (z.getD j 0))) ∧ ∀ n ∈ z, (Lit.int .i64 n).wf = true := by
    obtain ⟨fuel, hf⟩ := h0
    rcases open_ints Tryz.underlying34 Tryz.underlying3 (by kernel_rfl) hf with ⟨hcs, _⟩ | ⟨x, l, c, zs, hcs, _, hl, hm, hz, _, hcell, hwz⟩
    · simp [Value.cells] at hcs
      obtain ⟨rfl, rfl, rfl⟩ := hcs
      exact ⟨[], .inl ⟨rfl, rfl, rfl, rfl⟩⟩
    · simp [Value.cells] at hcs
      obtain ⟨rfl, rfl, rfl⟩ := hcs
      exact ⟨zs, .inr ⟨_, rfl, hl, hm, by simpa using hz, hcell, hwz⟩⟩
  obtain ⟨b0, o0, l0, c0, e0⟩ := part w0
  obtain ⟨a1, rfl, rfl, rfl, w1⟩ := open_int Tryz.underlying5 (hval 1 5 v1 rfl rfl) h1
  obtain ⟨x1, hx1, hxx1⟩ : ∃ x : Nat, a1 = (x : Int) ∧ x < 256 := by
    obtain ⟨h1, h2⟩ := bounds_u8 w1
    exact ⟨a1.toNat, by omega, by omega⟩
  subst hx1
  obtain ⟨a2, rfl, rfl, rfl⟩ := open_bool Tryz.underlying4 (hval 2 4 v2 rfl rfl) h2
  clear hA0 hval0
  refine (plain_any a0 b0 o0 len0 cap0 z0 x1 a2 W l0 c0 e0 hxx1 (maxLen hsh)).mono fun e W' ⟨he, bel⟩ => ?_
  subst he
  exact ⟨_, rfl, _, _, _, [], _, [], hW', trodAll_mk1 (shut_bool Tryz.underlying4 _), (trodAll_cons_mk (Below.trod laidOut (by kernel_rfl) (of_decide_eq_true (by kernel_rfl)) k0 bel lt0) (trodAll_cons_mk (shut_int Tryz.underlying5 w1) (trodAll_cons_mk (shut_bool Tryz.underlying4 a2) trodAll_mk0))), rfl, Below.frame bel _, fun h => by cases h⟩

theorem over : Rows.rxPlainRow.holds Tryz.pinned (OpenSpec.ofChange Rows.rxPlainSpec) :=
  OpenClaim.holds_of_wide 8 Tryz.f8 rfl rfl rfl rfl rfl rfl rfl ⟨rfl, rfl, rfl, rfl, rfl⟩ rfl rfl rfl rfl rfl (by kernel_rfl) Tryz.func8 (by kernel_rfl)
    (of_decide_eq_true (by kernel_rfl)) (by unfold Func.isWrapper; first | (rw [if_pos (by decide +kernel)]; kernel_rfl) | (rw [if_neg (by decide +kernel)]; exact ⟨rfl, rfl⟩))
    (fun os started H enc _ => lifted os started H enc)

theorem carded : Rows.RxPlainCardSaid :=
  Claim7.holds_tied_plain_at .later [] [.data, .data, .data] true (true, "b0fe336dcdce6718dfc6eec349fd5cdbe898f712e022f33c787b29cefe3acb2a") false
    over (fun _ h => by cases h) (by kernel_rfl) (fun _ h => by cases h) rxPlain_row_tie rfl ⟨rfl, rfl⟩ (by kernel_rfl) rfl
    (fun f fn hf hfn => by
      obtain rfl : f = 8 := Option.some.inj ((show Tryz.prog.funcNamed "gloss/glosslaw4.RxPlain" = some 8 by kernel_rfl).symm.trans hf) |>.symm
      obtain rfl : fn = Tryz.f8 := (Option.some.inj (Tryz.func8.symm.trans hfn)).symm
      exact ⟨by kernel_rfl, fun j t ht => by
        rw [Tryz.params8] at ht
        have hm : t ∈ [34, 5, 4] := by simpa using Array.mem_of_getElem? ht
        have hall : ([34, 5, 4].all fun u => !Tryz.prog.wantsStandIn u) = true := by kernel_rfl
        exact (show Tryz.prog.wantsStandIn t = false by simpa using List.all_eq_true.1 hall t hm)⟩)
    (by kernel_rfl)

end Go.Proofs.YtikmgckefbjbkaaGreatDoor.rxPlain
namespace Go.Proofs.YtikmgckefbjbkaaGreatDoor

theorem rxPlain_holds : Rows.RxPlainCardSaid := rxPlain.carded

end Go.Proofs.YtikmgckefbjbkaaGreatDoor
