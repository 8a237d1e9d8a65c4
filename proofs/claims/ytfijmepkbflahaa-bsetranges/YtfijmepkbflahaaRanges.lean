/-
  The law BsetRanges.
-/
import Derived.Test.YtfijmepkbflahaaSets
import Derived.Deep.DeepCutAuto
import Derived.Deep.RegionHeld3
namespace Go.Proofs.Ytfijmepkbflahaa
open Go.RowKit

/-- From W on nothing has turned; block B holds the set p. -/
def Hold (W : World) (B : Nat) (p : Nat → Bool) (W' : World) : Prop := At W' B p ∧ Kp W W'

theorem Hold.kp {W W1 W2 : World} {B : Nat} {p : Nat → Bool} (h : Hold W B p W1) (k : Kp W1 W2) : Hold W B p W2 := ⟨k.at h.1, h.2.trans k⟩
theorem Hold.alloc {W W1 : World} {B : Nat} {p : Nat → Bool} (h : Hold W B p W1) (o : Obj) : Hold W B p (W1.alloc o) := ⟨h.1.alloc o, h.2.alloc o⟩
theorem hold_mk {W W' : World} {B : Nat} {p : Nat → Bool} (h : Hold W B p W') :
    W'.cell? ⟨B, 0, none⟩ = some (.int .u64 (wd p 0 : Nat)) ∧ W'.cell? ⟨B, 1, none⟩ = some (.int .u64 (wd p 1 : Nat)) ∧ W'.cell? ⟨B, 2, none⟩ = some (.int .u64 (wd p 2 : Nat)) ∧ W'.cell? ⟨B, 3, none⟩ = some (.int .u64 (wd p 3 : Nat)) ∧ Hid (Hold W B p W') :=
  ⟨h.1.cells.1, h.1.cells.2.1, h.1.cells.2.2.1, h.1.cells.2.2.2, h⟩

/-- .. block B holds p, block C holds q. -/
def Hold2 (W : World) (B : Nat) (p : Nat → Bool) (C : Nat) (q : Nat → Bool) (W' : World) : Prop := At W' B p ∧ At W' C q ∧ Kp W W'

theorem Hold2.kp {W W1 W2 : World} {B C : Nat} {p q : Nat → Bool} (h : Hold2 W B p C q W1) (k : Kp W1 W2) : Hold2 W B p C q W2 := ⟨k.at h.1, k.at h.2.1, h.2.2.trans k⟩
theorem Hold2.alloc {W W1 : World} {B C : Nat} {p q : Nat → Bool} (h : Hold2 W B p C q W1) (o : Obj) : Hold2 W B p C q (W1.alloc o) := ⟨h.1.alloc o, h.2.1.alloc o, h.2.2.alloc o⟩
theorem hold_mk2 {W W' : World} {B C : Nat} {p q : Nat → Bool} (h : Hold2 W B p C q W') :
    W'.cell? ⟨B, 0, none⟩ = some (.int .u64 (wd p 0 : Nat)) ∧ W'.cell? ⟨B, 1, none⟩ = some (.int .u64 (wd p 1 : Nat)) ∧ W'.cell? ⟨B, 2, none⟩ = some (.int .u64 (wd p 2 : Nat)) ∧ W'.cell? ⟨B, 3, none⟩ = some (.int .u64 (wd p 3 : Nat)) ∧
    W'.cell? ⟨C, 0, none⟩ = some (.int .u64 (wd q 0 : Nat)) ∧ W'.cell? ⟨C, 1, none⟩ = some (.int .u64 (wd q 1 : Nat)) ∧ W'.cell? ⟨C, 2, none⟩ = some (.int .u64 (wd q 2 : Nat)) ∧ W'.cell? ⟨C, 3, none⟩ = some (.int .u64 (wd q 3 : Nat)) ∧ Hid (Hold2 W B p C q W') :=
  ⟨h.1.cells.1, h.1.cells.2.1, h.1.cells.2.2.1, h.1.cells.2.2.2, h.2.1.cells.1, h.2.1.cells.2.1, h.2.1.cells.2.2.1, h.2.1.cells.2.2.2, h⟩

set_option maxRecDepth 100000 in
set_option maxHeartbeats 2000000 in
theorem ranges_any (a b c : Nat) (w : World) (ha : a < 256) (hb : b < 256) (hc : c < 256) :
    Calls Try.prog 7 #[.int .u8 (a : Nat), .int .u8 (b : Nat), .int .u8 (c : Nat)] w fun e w' => e = .returned (.bool true) ∧ Kp w w' := by
  go_enter Try.func7, Try.ntmps7
  go_upto_region 1 with fail
  go_cut [7, 8] (fun x y wc => ∃ lo hi : Nat, lo ≤ hi ∧ hi < 256 ∧ x = .int .u8 lo ∧ y = .int .u8 hi ∧ w = wc)
  case first =>
    by_cases hab : a ≤ b
    · by_cases hba : b ≤ a
      · obtain rfl : a = b := by omega
        go_wp2_with fail
        go_meet
        case rel => exact ⟨a, a, Nat.le_refl _, ha, rfl, rfl, rfl⟩
      · go_wp2_with fail
        go_meet
        case rel => exact ⟨a, b, hab, hb, rfl, rfl, rfl⟩
    · go_wp2_with fail
      go_meet
      case rel => exact ⟨b, a, by omega, ha, rfl, rfl, rfl⟩
  case rest =>
    obtain ⟨lo, hi, h1, h2, rfl, rfl, rfl⟩ := hcut
    have hcn : ((cnt (rng lo hi) 256 : Nat) : Int) = (hi : Int) - lo + 1 := by rw [cnt_rng]; omega
    have r1 : rng lo hi lo = true := by unfold rng; simp [h1]
    have r2 : rng lo hi hi = true := by unfold rng; simp [h1]
    go_wp2_with fail
    refine (range_any lo hi _ (by omega) (by omega)).mono ?_
    rintro e w1 ⟨rfl, k⟩
    have K1 : Hid (Kp w w1) := k
    clear k
    go_wp2_with fail
    refine (count_any (rng lo hi) _).mono ?_
    rintro e w2 ⟨rfl, k⟩
    have A2 : Hid (At w2 w1.heap.size (rng lo hi)) := k.at (At.new _ _)
    have K2 : Hid (Kp w w2) := (K1.out.alloc _).trans k
    clear k
    obtain ⟨d0, d1, d2, d3⟩ := A2.out.cells
    go_wp2_with fail
    refine (has_any (rng lo hi) lo _ (by omega)).mono ?_
    rintro e w3 ⟨rfl, k⟩
    have A3 : Hid (At w3 w1.heap.size (rng lo hi)) := k.at A2.out
    have K3 : Hid (Kp w w3) := K2.out.trans k
    clear k d0 d1 d2 d3 A2
    obtain ⟨d0, d1, d2, d3⟩ := A3.out.cells
    go_wp2_with fail
    refine (has_any (rng lo hi) hi _ (by omega)).mono ?_
    rintro e w4 ⟨rfl, k⟩
    have A4 : Hid (At w4 w1.heap.size (rng lo hi)) := k.at A3.out
    have K4 : Hid (Kp w w4) := K3.out.trans k
    clear k d0 d1 d2 d3 A3 K3 K2
    rw [r2]
    go_upto_region 5 with fail
    clear hcn r1 r2
    go_cut [55] (fun b wc => b = .bool false ∧ Kp w4 wc)
    case first =>
      by_cases hlt : lo < hi
      · have hl' : (lo : Int) < hi := by omega
        have hc0 : cnt (rng hi lo) 256 = 0 := by rw [cnt_rng]; omega
        go_wp2_with fail
        refine (range_any hi lo _ (by omega) (by omega)).mono ?_
        rintro e w5 ⟨rfl, k5⟩
        go_wp2_with fail
        refine (count_any (rng hi lo) _).mono ?_
        rintro e w6 ⟨rfl, k6⟩
        rw [hc0]
        go_wp2_with fail
        go_meet
        case rel => exact ⟨rfl, k5.trans k6⟩
      · have hl' : decide ((lo : Int) < hi) = false := by simp; omega
        go_wp2_with fail
        go_meet
        case rel => exact ⟨rfl, Kp.refl _⟩
    case rest =>
      obtain ⟨rfl, k⟩ := hcut
      rename World => w7
      have A7 : Hid (At w7 w1.heap.size (rng lo hi)) := k.at A4.out
      have K7 : Hid (Kp w w7) := K4.out.trans k
      clear k A4 K4
      obtain ⟨m, hm1, hm2, hm⟩ : ∃ m : Nat, lo ≤ m ∧ m ≤ hi ∧ ((lo : Int) + (c : Int) % ((hi : Int) - lo + 1) % 256) % 256 = (m : Int) := by
        have hr := Nat.mod_lt c (show 0 < hi - lo + 1 by omega)
        refine ⟨lo + c % (hi - lo + 1), by omega, by omega, ?_⟩
        rw [show (hi : Int) - lo + 1 = ((hi - lo + 1 : Nat) : Int) by omega, ← Int.natCast_emod]
        omega
      have HM : Hid (((lo : Int) + (c : Int) % ((hi : Int) - lo + 1) % 256) % 256 = (m : Int)) := hm
      clear hm
      go_upto_region 8 with fail
      rw [HM.out]
      clear HM
      have EQ := eq_self (rng lo hi)
      obtain ⟨c0, c1, c2, c3⟩ := A7.out.cells
      have hlt7 : w1.heap.size < w7.heap.size := A7.out.lt
      have Q0 : Hold w7 w1.heap.size (rng lo hi) w7.drew := ⟨A7.out.drew, (Kp.refl _).drew⟩
      go_cut [77] (fun b wc => b = .bool false ∧ Kp w7 wc)
      case first =>
        go_region_held3 (fun W => W.cell? ⟨w1.heap.size, 0, none⟩ = some (.int .u64 (wd (rng lo hi) 0 : Nat)) ∧ W.cell? ⟨w1.heap.size, 1, none⟩ = some (.int .u64 (wd (rng lo hi) 1 : Nat)) ∧ W.cell? ⟨w1.heap.size, 2, none⟩ = some (.int .u64 (wd (rng lo hi) 2 : Nat)) ∧ W.cell? ⟨w1.heap.size, 3, none⟩ = some (.int .u64 (wd (rng lo hi) 3 : Nat)) ∧ Hid (Hold w7 w1.heap.size (rng lo hi) W))
          (first | exact hold_mk Q10 | exact hold_mk (Q9.alloc _) | exact hold_mk Q9 | exact hold_mk Q8 | exact hold_mk Q0)
          (first
            | (go_at_call_of 11 (Value.int IntKind.u8 (lo : Nat)); refine (range_any lo m _ (by omega) (by omega)).mono ?_; rintro e w8 ⟨rfl, k⟩; have Q8 := Q0.kp k; clear k)
            | (go_at_call_of 11 (Value.int IntKind.u8 (m : Nat)); refine (range_any m hi _ (by omega) (by omega)).mono ?_; rintro e w9 ⟨rfl, k⟩; have Q9 := Q8.kp k; clear k)
            | (go_at_call 10; refine (join2 (rng lo m) (rng m hi) _ _ ?hs ?hX).mono ?_; (case hs => simp); (case hX => exact last_of _ _); rintro e w10 ⟨rfl, k⟩; rw [orB_rng lo m hi hm1 hm2]; have Q10 := (Q9.alloc _).kp k; clear k))
        go_wp2_with fail
        go_meet
        case rel => exact ⟨rfl, Q10.2⟩
      case rest =>
        obtain ⟨rfl, k⟩ := hcut
        rename World => w11
        have A11 : Hid (At w11 w1.heap.size (rng lo hi)) := k.at A7.out
        have K11 : Hid (Kp w w11) := K7.out.trans k
        clear k A7 K7 c0 c1 c2 c3 hlt7 Q0
        go_upto_if 79 with fail
        obtain ⟨W, hW⟩ : ∃ W, w11.alloc (.cells #[.int .u64 0, .int .u64 0, .int .u64 0, .int .u64 0] 24) = W := ⟨_, rfl⟩
        have AW : Hid (At W w11.heap.size (fun _ => false)) := by subst hW; exact At.zero w11
        have KW : Hid (Kp w11 W) := by subst hW; exact (Kp.refl _).alloc _
        rw [hW]
        clear hW
        go_cut [] (fun wc => At wc w11.heap.size (lowB lo) ∧ Kp w11 wc)
        case first =>
          by_cases h0 : 0 < lo
          · obtain ⟨l1, hl1⟩ : ∃ l1, lo = l1 + 1 := ⟨lo - 1, by omega⟩
            have e1 : (lo : Int) - 1 = (l1 : Int) := by omega
            have h0' : (0 : Int) < lo := by omega
            have hl8 : l1 < 256 := by omega
            have hw8 : IntKind.u8.wrap (l1 : Int) = (l1 : Int) := by rw [IntKind.wrap_u8']; omega
            have HL : Hid (orB (fun _ => false) (rng 0 l1) = lowB lo) := by
              subst hl1; exact orB_low (l1 + 1) (by omega)
            clear hl1
            obtain ⟨c0, c1, c2, c3⟩ := AW.out.cells
            have hlt : w11.heap.size < W.heap.size := AW.out.lt
            go_wp2_with fail
            go_region_with (first
              | (go_at_call 11; refine (range_any 0 l1 _ (by omega) hl8).mono ?_; rintro e w12 ⟨rfl, k⟩; have S1 : Hid (Kp W w12) := (by refine Kp.trans ?_ k; first | exact (Kp.refl _).drew | exact (Kp.refl _).drewN _); clear k; obtain ⟨d0, d1, d2, d3⟩ := (S1.out.at AW.out).cells; have hlt2 : w11.heap.size < w12.heap.size := (S1.out.at AW.out).lt)
              | (go_at_call 10; refine (join2 (fun _ => false) (rng 0 l1) _ _ ?hs ?hX).mono ?_; (case hs => simp); (case hX => exact last_of _ _); rintro e w13 ⟨rfl, k⟩; have S2 : Hid (Kp W w13) := (by refine Kp.trans ?_ k; first | exact S1.out.alloc _ | exact (S1.out.alloc _).drew | exact (S1.out.alloc _).drewN _); clear k; obtain ⟨e0, e1, e2, e3⟩ := (S2.out.at AW.out).cells; have f0 := (S2.out.at AW.out).frozen 0; have f1 := (S2.out.at AW.out).frozen 1; have f2 := (S2.out.at AW.out).frozen 2; have f3 := (S2.out.at AW.out).frozen 3))
            all_goals
              go_wp2_with fail
              go_meet
              case rel => exact ⟨HL.out ▸ (S2.out.at AW.out).set4 _, set4_kp (Nat.le_refl _) (KW.out.trans S2.out) _ _ _ _⟩
          · have h0' : decide ((0 : Int) < lo) = false := by simp; omega
            obtain rfl : lo = 0 := by omega
            go_wp2_with fail
            go_meet
            case rel => exact ⟨low_zero ▸ AW.out, KW.out⟩
        case rest =>
          obtain ⟨hA, hk⟩ := hcut
          rename World => w14
          have B14 : Hid (At w14 w11.heap.size (lowB lo)) := hA
          have H14 : Hid (Kp w11 w14) := hk
          clear hA hk AW KW
          go_upto_if 87 with fail
          go_cut [] (fun wc => At wc w11.heap.size (outB lo hi) ∧ Kp w11 wc)
          case first =>
            by_cases h0 : hi < 255
            · obtain ⟨n1, hn1⟩ : ∃ n1, hi + 1 = n1 := ⟨_, rfl⟩
              have e1 : (hi : Int) + 1 = (n1 : Int) := by omega
              have h0' : (hi : Int) < 255 := by omega
              have hn8 : n1 < 256 := by omega
              have hw8 : IntKind.u8.wrap (n1 : Int) = (n1 : Int) := by rw [IntKind.wrap_u8']; omega
              have HL : Hid (∀ i, i < 256 → orB (lowB lo) (rng n1 255) i = outB lo hi i) := by
                subst hn1; exact orB_out lo hi
              clear hn1
              obtain ⟨c0, c1, c2, c3⟩ := B14.out.cells
              have hlt : w11.heap.size < w14.heap.size := B14.out.lt
              go_wp2_with fail
              go_region_with (first
                | (go_at_call 11; refine (range_any n1 255 _ hn8 (by omega)).mono ?_; rintro e w12 ⟨rfl, k⟩; have S1 : Hid (Kp w14 w12) := (by refine Kp.trans ?_ k; first | exact (Kp.refl _).drew | exact (Kp.refl _).drewN _); clear k; obtain ⟨d0, d1, d2, d3⟩ := (S1.out.at B14.out).cells; have hlt2 : w11.heap.size < w12.heap.size := (S1.out.at B14.out).lt)
                | (go_at_call 10; refine (join2 (lowB lo) (rng n1 255) _ _ ?hs ?hX).mono ?_; (case hs => simp); (case hX => exact last_of _ _); rintro e w13 ⟨rfl, k⟩; have S2 : Hid (Kp w14 w13) := (by refine Kp.trans ?_ k; first | exact S1.out.alloc _ | exact (S1.out.alloc _).drew | exact (S1.out.alloc _).drewN _); clear k; obtain ⟨e0, e1, e2, e3⟩ := (S2.out.at B14.out).cells; have f0 := (S2.out.at B14.out).frozen 0; have f1 := (S2.out.at B14.out).frozen 1; have f2 := (S2.out.at B14.out).frozen 2; have f3 := (S2.out.at B14.out).frozen 3))
              all_goals
                go_wp2_with fail
                go_meet
                case rel => exact ⟨((S2.out.at B14.out).set4 _).same HL.out, set4_kp (Nat.le_refl _) (H14.out.trans S2.out) _ _ _ _⟩
            · have h0' : decide ((hi : Int) < 255) = false := by simp; omega
              have he : hi = 255 := by omega
              have HL : Hid (∀ i, i < 256 → lowB lo i = outB lo hi i) := low_out lo hi he
              clear he
              go_wp2_with fail
              go_meet
              case rel => exact ⟨B14.out.same HL.out, H14.out⟩
          case rest =>
            obtain ⟨hA, hk⟩ := hcut
            rename World => w15
            have B15 : Hid (At w15 w11.heap.size (outB lo hi)) := hA
            have A15 : Hid (At w15 w1.heap.size (rng lo hi)) := hk.at A11.out
            have K15 : Hid (Kp w w15) := K11.out.trans hk
            clear hA hk A11 K11 B14 H14 EQ hm1 hm2 K1
            go_wp2_with fail
            refine (of_one c _ _ (by simp) hc).mono ?_
            rintro e w16 ⟨rfl, k16⟩
            have K16 : Hid (Kp w15 w16) := k16
            clear k16
            go_wp2_with fail
            refine (only_yes _ c (lst_one c 256 hc) _).mono ?_
            rintro e w17 ⟨rfl, k17⟩
            have K17 : Hid (Kp w15 w17) := K16.out.trans k17
            clear k17 K16
            obtain ⟨a2, ha2, hne, he⟩ : ∃ a2 : Nat, a2 < 256 ∧ a2 ≠ a ∧ ((a : Int) + 1) % 256 = (a2 : Int) := ⟨(a + 1) % 256, by omega, by omega, by omega⟩
            have HE : Hid (((a : Int) + 1) % 256 = (a2 : Int)) := he
            have HC2 : Hid (cnt (addB (addB (fun _ => false) a) a2) 256 ≠ 1) := by
              show _ ≠ _
              rw [cnt_addB _ _ _ (by unfold addB; simp; exact hne), cnt_addB _ _ _ rfl, cnt_none, if_pos ha, if_pos ha2]; omega
            clear he hne
            go_wp2_with fail
            rw [HE.out]
            clear HE
            refine (of_two a a2 _ _ (by simp) ha ha2).mono ?_
            rintro e w18 ⟨rfl, k18⟩
            have K18 : Hid (Kp w15 w18) := K17.out.trans k18
            clear k18 K17
            go_wp2_with fail
            refine (only_no _ HC2.out _).mono ?_
            rintro e w19 ⟨rfl, k19⟩
            have Q0 : Hold2 w15 w1.heap.size (rng lo hi) w11.heap.size (outB lo hi) w19.drew := ⟨(K18.out.trans k19).at A15.out, (K18.out.trans k19).at B15.out, (K18.out.trans k19).drew⟩
            clear k19 K18
            have EQ := eq_self (outB lo hi)
            have hcc : ((c : Int) == c) = true := by simp
            go_wp2_with fail
            go_region_held3 (fun W => W.cell? ⟨w1.heap.size, 0, none⟩ = some (.int .u64 (wd (rng lo hi) 0 : Nat)) ∧ W.cell? ⟨w1.heap.size, 1, none⟩ = some (.int .u64 (wd (rng lo hi) 1 : Nat)) ∧ W.cell? ⟨w1.heap.size, 2, none⟩ = some (.int .u64 (wd (rng lo hi) 2 : Nat)) ∧ W.cell? ⟨w1.heap.size, 3, none⟩ = some (.int .u64 (wd (rng lo hi) 3 : Nat)) ∧ W.cell? ⟨w11.heap.size, 0, none⟩ = some (.int .u64 (wd (outB lo hi) 0 : Nat)) ∧ W.cell? ⟨w11.heap.size, 1, none⟩ = some (.int .u64 (wd (outB lo hi) 1 : Nat)) ∧ W.cell? ⟨w11.heap.size, 2, none⟩ = some (.int .u64 (wd (outB lo hi) 2 : Nat)) ∧ W.cell? ⟨w11.heap.size, 3, none⟩ = some (.int .u64 (wd (outB lo hi) 3 : Nat)) ∧ Hid (Hold2 w15 w1.heap.size (rng lo hi) w11.heap.size (outB lo hi) W))
              (first | exact hold_mk2 Q2 | exact hold_mk2 Q1 | exact hold_mk2 Q0)
              (first
                | (go_at_call 13; refine (not_any (rng lo hi) _).mono ?_; rintro e w20 ⟨rfl, k⟩; rw [not_rng]; have Q1 := Q0.kp k; clear k)
                | (go_at_call 3; refine (runs_any _).mono ?_; rintro e w21 ⟨rfl, k⟩; have Q2 := Q1.kp k; clear k))
            go_wp2
            go_ret
            exact ⟨rfl, K15.out.trans Q2.2.2⟩
end Go.Proofs.Ytfijmepkbflahaa
