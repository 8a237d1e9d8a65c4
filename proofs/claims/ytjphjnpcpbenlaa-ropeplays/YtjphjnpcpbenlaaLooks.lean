/-
  What looks does: a rope and the list of its items look alike.
-/
import Derived.Test.YtjphjnpcpbenlaaRuns
import Derived.Test.YtjphjnpcpbenlaaSpec
namespace Go.Proofs.Ytjphjnpcpbenlaa
open Go.RowKit
attribute [local go_sem] run_store_complex

theorem sum2 (a b c d : Nat) (w : World) (B : Nat) (ha : a + c ≤ 1000000000) (hb : b + d ≤ 1000000000)
    (h : w.heap[B]? = some (.cells #[cx (a : Nat) (b : Nat), cx (c : Nat) (d : Nat)] 26)) :
    Calls Try.prog 19 #[.slice (some ⟨B, 0, none⟩) 2 2] w fun e w' => e = .returned (cx ((a + c : Nat) : Int) ((b + d : Nat) : Int)) ∧ w' = w := by
  have e1 : psum (at4 a c) 2 = ((a + c : Nat) : Int) := by simp [psum, at4]
  have e2 : psum (at4 b d) 2 = ((b + d : Nat) : Int) := by simp [psum, at4]
  have := sum_any (at4 a c) (at4 b d) B 0 2 2 w (by omega)
    (by intro j hj
        have : j = 0 ∨ j = 1 := by omega
        rcases this with rfl | rfl <;> simp [World.cell?, h, at4])
    (by intro j hj; rcases lt4 (by omega : j < 4) with rfl | rfl | rfl | rfl <;> (simp only [at4]; exact small (by simp; try omega) (by simp; try omega)))
    (by intro j hj; rcases lt4 (by omega : j < 4) with rfl | rfl | rfl | rfl <;> (simp only [at4]; exact small (by simp; try omega) (by simp; try omega)))
    (by intro j hj; rcases le4 (by omega : j ≤ 4) with rfl | rfl | rfl | rfl | rfl <;> (simp only [psum, at4]; exact small (by simp; try omega) (by simp; try omega)))
    (by intro j hj; rcases le4 (by omega : j ≤ 4) with rfl | rfl | rfl | rfl | rfl <;> (simp only [psum, at4]; exact small (by simp; try omega) (by simp; try omega)))
  rw [e1, e2] at this
  exact this

/-- Lines and bytes of the first k. -/
def tl (xs : List It) (k : Nat) : Nat := lsum It.l (xs.take k)
def tb (xs : List It) (k : Nat) : Nat := lsum It.y (xs.take k)
theorem tl_le (xs : List It) (hs : Sm xs) (k : Nat) : tl xs k ≤ 100 * xs.length ∧ tb xs k ≤ 100 * xs.length := by
  have s : Sm (xs.take k) := hs.sub (fun x hx => List.mem_of_mem_take hx)
  have a := s.lines; have b := s.bytes
  have d : (xs.take k).length ≤ xs.length := by rw [List.length_take]; omega
  have := Nat.mul_le_mul_left 100 d
  exact ⟨Nat.le_trans a this, Nat.le_trans b this⟩
theorem tl_succ (xs : List It) (k : Nat) (x : It) (h : xs[k]? = some x) : tl xs (k + 1) = tl xs k + x.l ∧ tb xs (k + 1) = tb xs k + x.y := ⟨lsum_take_succ _ xs k x h, lsum_take_succ _ xs k x h⟩

theorem su_eq {xs : List It} {k A D xl xy : Nat} {x : It} (E1 : x.l = xl) (E2 : x.y = xy) (E3 : tl xs k = A) (E4 : tb xs k = D) (T1 : tl xs (k + 1) = tl xs k + x.l) (T2 : tb xs (k + 1) = tb xs k + x.y) :
    cx ((A + xl : Nat) : Int) ((D + xy : Nat) : Int) = cx (tl xs (k + 1) : Nat) (tb xs (k + 1) : Nat) := by rw [T1, T2, E1, E2, E3, E4]
theorem mk_take (xs : List It) (k : Nat) : mk (xs.take k) = cx (tl xs k : Nat) (tb xs k : Nat) := rfl

/-- A slice of items, nil or not, written with its length. -/
def Sv (w : World) (a : Option Addr) (n : Nat) (xs : List It) : Prop := xs.length = n ∧ ((∃ B o, a = some ⟨B, o, none⟩ ∧ Row w B o xs) ∨ n = 0)

set_option maxRecDepth 100000 in
set_option maxHeartbeats 4000000 in
theorem looks_walk (r : Option T) (xs : List It) (a : Option Addr) (n c : Nat) (q : Int) (w : World) (inn : Bool) (ak : Int) (f1 f2 : Nat) (hr : Ok w r xs) (hv : Sl w (.slice a n c) xs) (ha : Sv w a n xs) (hs : Sm xs) (hn : n ≤ 5000)
    (hin : inn = (decide (0 ≤ wit q (-2) (n + 1)) && decide (wit q (-2) (n + 1) < n)))
    (AT : Hid (∀ w1, Kp w w1 → Calls Try.prog 21 #[rv r, .int .i64 (wit q (-2) (n + 1))] w1 fun e w' => e = .returned (.tuple #[.agg #[.int .i64 ak, .complex .f64 f1 f2], .bool inn]) ∧ Kp w1 w'))
    (EY : Hid (if inn = true then ∃ j x, wit q (-2) (n + 1) = ((j : Nat) : Int) ∧ xs[j]? = some x ∧ ak = x.key ∧ f1 = F (x.l : Nat) ∧ f2 = F (x.y : Nat) else ak = 0 ∧ f1 = 0 ∧ f2 = 0)) :
    Calls Try.prog 17 #[rv r, .slice a n c, .int .i64 q] w fun e w' => e = .returned (.bool true) ∧ Kp w w' := by
  obtain ⟨K, eK⟩ : ∃ K, wit q (-1) 40 = K := ⟨_, rfl⟩
  have kb := wit_le q (-1) 40 (by omega)
  obtain ⟨I, eI⟩ : ∃ I, wit q (-2) (n + 1) = I := ⟨_, rfl⟩
  have ib := wit_le q (-2) (n + 1) (by omega)
  rw [eK] at kb
  rw [eI] at ib hin
  rw [eI] at AT EY
  have HE : Hid (wit q (-1) 40 = K ∧ wit q (-2) (n + 1) = I ∧ xs.length = n) := ⟨eK, eI, ha.1⟩
  have H : Hid (Ok w r xs ∧ Sl w (.slice a n c) xs ∧ Sm xs ∧ ((∃ B o, a = some ⟨B, o, none⟩ ∧ Row w B o xs) ∨ n = 0)) := ⟨hr, hv, hs, ha.2⟩
  obtain ⟨W0, hW⟩ : ∃ W, w.alloc (.cells #[.pointer (pO r)] 24) = W := ⟨_, rfl⟩
  have HW : Hid (w.alloc (.cells #[.pointer (pO r)] 24) = W0) := hW
  have V0 : Hid (Vr W0 w.heap.size r ∧ Kp w W0) := by subst hW; exact ⟨last_of _ _, (Kp.refl _).alloc _⟩
  have HIN : Hid (inn = (decide (0 ≤ I) && decide (I < n))) := hin
  have NX : Hid (∀ k, k < n → ∃ x B o, xs[k]? = some x ∧ a = some ⟨B, o, none⟩ ∧ w.cell? ⟨B, o + k * 2, none⟩ = some (.int .i64 x.key) ∧ w.cell? ⟨B, o + k * 2 + 1, none⟩ = some (cx (x.l : Nat) (x.y : Nat))) := by
    intro k hk
    have hx : xs[k]? = some (xs[k]'(by rw [ha.1]; exact hk)) := List.getElem?_eq_getElem _
    rcases ha.2 with ⟨B, o, e, hrow⟩ | h0
    · exact ⟨_, B, o, hx, e, hrow k _ hx⟩
    · omega
  clear hr hv ha hs hW hin eK eI
  go_enter Try.func17, Try.ntmps17
  go_wp2_with fail
  rw [HW.out]
  clear HW
  refine (within_any q (-1) 40 _ (by omega) (by omega) (by omega)).mono ?_
  rintro e W0 ⟨rfl, rfl⟩
  rw [HE.out.1]
  go_wp2_with fail
  go_loopw [7, 8, 9, 27] (fun su pl ah i wr => ∃ k : Nat, k ≤ n ∧ i = .int .i64 (k : Int) ∧ su = cx (tl xs k : Nat) (tb xs k : Nat) ∧ pl = .int .i64 (seen K xs k : Nat) ∧ ah = mk (ahead K xs k) ∧ Kp W0 wr) (fun _ _ _ i _ => n - (intOf i).toNat)
  case atStart =>
    refine ⟨0, Nat.zero_le _, rfl, ?_, ?_, ?_, Kp.refl _⟩
    · rw [cx_zero]; rfl
    · rw [seen_zero, HE.out.2.2]
    · rw [ahead_zero, cx_zero]; rfl
  case round =>
    obtain ⟨k, hk, rfl, rfl, rfl, rfl, kr⟩ := hrel
    rename World => wr
    obtain ⟨tb1, tb2⟩ := tl_le xs H.out.2.2.1 k
    rw [HE.out.2.2] at tb1 tb2
    by_cases hlt : k < n
    · obtain ⟨x, B, o, hx, rfl, c0, c1⟩ := NX.out k hlt
      have sx := H.out.2.2.1 x (List.mem_of_getElem? hx)
      have kw : Kp w wr := V0.out.2.trans kr
      have d0 : wr.cell? ⟨B, o + k * 2, none⟩ = some (.int .i64 x.key) := (kw.cell (block_lt_of_cell c0)).trans c0
      have d1 : wr.cell? ⟨B, o + k * 2 + 1, none⟩ = some (cx (x.l : Nat) (x.y : Nat)) := (kw.cell (block_lt_of_cell c1)).trans c1
      have i0 : (0 : Int) ≤ (k : Int) := by omega
      have i1 : (k : Int) < (n : Int) := by omega
      have TS : Hid (tl xs (k + 1) = tl xs k + x.l ∧ tb xs (k + 1) = tb xs k + x.y) := tl_succ xs k x hx
      have KR : Hid (Kp W0 wr) := kr
      have HK : Hid (k < xs.length) := by rw [HE.out.2.2]; exact hlt
      obtain ⟨xl, eXl⟩ : ∃ y, x.l = y := ⟨_, rfl⟩
      obtain ⟨xy, eXy⟩ : ∃ y, x.y = y := ⟨_, rfl⟩
      obtain ⟨A, eA⟩ : ∃ y, tl xs k = y := ⟨_, rfl⟩
      obtain ⟨D, eD⟩ : ∃ y, tb xs k = y := ⟨_, rfl⟩
      obtain ⟨P, eP⟩ : ∃ y, seen K xs k = y := ⟨_, rfl⟩
      have EE : Hid (x.l = xl ∧ x.y = xy ∧ tl xs k = A ∧ tb xs k = D ∧ seen K xs k = P) := ⟨eXl, eXy, eA, eD, eP⟩
      rw [eXl, eXy] at d1
      rw [eXl, eXy] at sx
      rw [eA] at tb1
      rw [eD] at tb2
      rw [eA, eD, eP]
      have hP : P ≤ 5000 := by
        rw [← eP]; unfold seen; have := place_le xs K; rw [HE.out.2.2] at *; split <;> omega
      clear hx kr kw c0 c1 eXl eXy eA eD eP
      obtain ⟨W1, hW1⟩ : ∃ W, wr.alloc (.cells #[.int .i64 x.key, cx (xl : Nat) (xy : Nat)] 29) = W := ⟨_, rfl⟩
      have HW1 : Hid (wr.alloc (.cells #[.int .i64 x.key, cx (xl : Nat) (xy : Nat)] 29) = W1) := hW1
      have K1 : Hid (Kp W0 W1) := by subst hW1; exact KR.out.alloc _
      have x1 : W1.cell? ⟨wr.heap.size, 1, none⟩ = some (cx (xl : Nat) (xy : Nat)) := by subst hW1; exact bl_cell (last_of _ _) 1 _ rfl
      clear hW1
      by_cases hp : P = n
      · have hq : ((P : Int) == (n : Int)) = true := by rw [hp]; simp
        by_cases hgt : K < ((A + xl : Nat) : Int)
        · have hg : decide (K < (A : Int) + (xl : Int)) = true := by simp; omega
          go_wp2_with fail
          rw [HW1.out]
          clear HW1
          go_quiet ((go_at_call 22; exact Calls.quiet_of_same (lines_any _ _ _ (small (by omega) (by omega)))))
          go_wp2_with fail
          refine (sum2 A D xl xy _ _ (by omega) (by omega) (last_at _ _ _ rfl)).mono ?_
          rintro e w9 ⟨rfl, rfl⟩
          go_wp2_with fail
          go_roundw
          case measure => simp [intOf]; omega
          case rel =>
            have E := EE.out; have TT := TS.out; have hk := HK.out; have hN := HE.out.2.2
            refine ⟨k + 1, hlt, by go_num, su_eq E.1 E.2.1 E.2.2.1 E.2.2.2.1 TT.1 TT.2, ?_, ?_, (K1.out.drewN _).alloc _⟩
            · rw [(seen_here hk (by rw [E.2.2.2.2, hp, hN]) (by show K < ((tl xs (k + 1) : Nat) : Int); rw [TT.1, E.1, E.2.2.1]; exact hgt)).1]
            · rw [(seen_here hk (by rw [E.2.2.2.2, hp, hN]) (by show K < ((tl xs (k + 1) : Nat) : Int); rw [TT.1, E.1, E.2.2.1]; exact hgt)).2, mk_take, E.2.2.1, E.2.2.2.1]
        · have hg : decide (K < (A : Int) + (xl : Int)) = false := by simp; omega
          go_wp2_with fail
          rw [HW1.out]
          clear HW1
          go_quiet ((go_at_call 22; exact Calls.quiet_of_same (lines_any _ _ _ (small (by omega) (by omega)))))
          go_wp2_with fail
          refine (sum2 A D xl xy _ _ (by omega) (by omega) (last_at _ _ _ rfl)).mono ?_
          rintro e w9 ⟨rfl, rfl⟩
          go_wp2_with fail
          go_roundw
          case measure => simp [intOf]; omega
          case rel =>
            have E := EE.out; have TT := TS.out; have hk := HK.out; have hN := HE.out.2.2
            refine ⟨k + 1, hlt, by go_num, su_eq E.1 E.2.1 E.2.2.1 E.2.2.2.1 TT.1 TT.2, ?_, ?_, (K1.out.drewN _).alloc _⟩
            · rw [(seen_not hk (by rw [E.2.2.2.2, hp, hN]) (by show ¬ K < ((tl xs (k + 1) : Nat) : Int); rw [TT.1, E.1, E.2.2.1]; omega)).1, hN]
            · rw [(seen_not hk (by rw [E.2.2.2.2, hp, hN]) (by show ¬ K < ((tl xs (k + 1) : Nat) : Int); rw [TT.1, E.1, E.2.2.1]; omega)).2.1, (seen_not hk (by rw [E.2.2.2.2, hp, hN]) (by show ¬ K < ((tl xs (k + 1) : Nat) : Int); rw [TT.1, E.1, E.2.2.1]; omega)).2.2]
      · have hq : ((P : Int) == (n : Int)) = false := by simp; omega
        go_wp2_with fail
        rw [HW1.out]
        clear HW1
        go_quiet (fail)
        go_wp2_with fail
        refine (sum2 A D xl xy _ _ (by omega) (by omega) (last_at _ _ _ rfl)).mono ?_
        rintro e w9 ⟨rfl, rfl⟩
        go_wp2_with fail
        go_roundw
        case measure => simp [intOf]; omega
        case rel =>
          have E := EE.out; have TT := TS.out; have hk := HK.out; have hN := HE.out.2.2
          refine ⟨k + 1, hlt, by go_num, su_eq E.1 E.2.1 E.2.2.1 E.2.2.2.1 TT.1 TT.2, ?_, ?_, (K1.out.drewN _).alloc _⟩
          · rw [(seen_found (by rw [E.2.2.2.2, hN]; exact hp)).1, E.2.2.2.2]
          · rw [(seen_found (by rw [E.2.2.2.2, hN]; exact hp)).2]
    · obtain rfl : k = n := by omega
      obtain ⟨P, eP⟩ : ∃ y, place K xs = y := ⟨_, rfl⟩
      have hP : P ≤ 5000 := by rw [← eP]; have := place_le xs K; rw [HE.out.2.2] at this; omega
      have SE := seen_end K xs
      rw [HE.out.2.2, eP] at SE
      rw [SE.1]
      obtain ⟨A, eA⟩ : ∃ y, tl xs k = y := ⟨_, rfl⟩
      obtain ⟨D, eD⟩ : ∃ y, tb xs k = y := ⟨_, rfl⟩
      rw [eA] at tb1
      rw [eD] at tb2
      rw [eA, eD]
      have MX : Hid (mk xs = cx (A : Nat) (D : Nat)) := by
        have h : xs.take k = xs := List.take_of_length_le (by rw [HE.out.2.2]; omega)
        rw [← eA, ← eD, ← mk_take, h]; rfl
      have AH : Hid ((P = k → mk (xs.take P) = cx (A : Nat) (D : Nat)) ∧ (¬ P = k → ahead K xs k = xs.take P)) := by
        refine ⟨fun h => ?_, SE.2⟩
        rw [h, mk_take, eA, eD]
      have HP : Hid (place K xs = P) := eP
      have KR : Hid (Kp W0 wr) := kr
      clear SE eP eA eD kr
      go_upto_if 57 with fail
      go_cut [9] (fun ah wc => ah = mk (xs.take P) ∧ Kp W0 wc)
      case first =>
        by_cases hp : P = k
        · have hq : ((P : Int) == (k : Int)) = true := by rw [hp]; simp
          go_wp2_with fail
          go_meet
          case rel => exact ⟨(AH.out.1 hp).symm, KR.out⟩
        · have hq : ((P : Int) == (k : Int)) = false := by simp; omega
          go_wp2_with fail
          go_meet
          case rel => exact ⟨by rw [AH.out.2 hp], KR.out⟩
      case rest =>
        obtain ⟨rfl, k2⟩ := hcut
        rename World => w2
        have K2 : Hid (Kp W0 w2) := k2
        clear KR k2 AH
        go_wp2_with fail
        go_loop [13, 14] (fun b m => ∃ j m' : Nat, b = .int .i64 (j : Int) ∧ m = .int .i64 (m' : Int) ∧ Half k j m') (fun _ m => (intOf m).toNat)
        case atStart => exact ⟨0, k, rfl, rfl, Half.start k⟩
        case round =>
          obtain ⟨j, m', rfl, rfl, hh⟩ := hrel
          have hc := hh.c
          by_cases hm : 0 < m'
          · have HH : Hid (Half k (j + 1) (m' / 2)) := hh.step hm
            have hm' : (0 : Int) < (m' : Int) := by omega
            clear hh
            go_wp2_with fail
            go_round
            case rel => exact ⟨j + 1, m' / 2, by go_num, by go_num, HH.out⟩
            case measure => simp [intOf]; omega
          · obtain rfl : m' = 0 := by omega
            have HB : Hid (k < 2 ^ j ∧ (0 < j → 0 < k)) := ⟨hh.done, hh.b⟩
            clear hh
            have c3 := (V0.out.1.kp K2.out).cell
            go_wp2_with fail
            refine (line_ok r xs K _ (H.out.1.kp (V0.out.2.trans K2.out)) (by rw [HE.out.2.2]; omega) H.out.2.2.1).mono ?_
            rintro e w3 ⟨rfl, k3⟩
            rw [HP.out]
            have K3 : Hid (Kp W0 w3) := K2.out.trans k3
            clear k3 K2 c3
            go_wp2_with fail
            refine (within_any q (-2) ((k : Int) + 1) _ (by omega) (by omega) (by omega)).mono ?_
            rintro e w3 ⟨rfl, rfl⟩
            rw [HE.out.2.1]
            have c3 := (V0.out.1.kp K3.out).cell
            go_wp2_with fail
            refine (AT.out _ (V0.out.2.trans K3.out)).mono ?_
            rintro e w4 ⟨rfl, k4⟩
            obtain ⟨W5, hW5⟩ : ∃ W, w4.alloc (.cells #[.int .i64 ak, .complex .f64 f1 f2] 29) = W := ⟨_, rfl⟩
            have HW5 : Hid (w4.alloc (.cells #[.int .i64 ak, .complex .f64 f1 f2] 29) = W5) := hW5
            have M5 : Hid (W5.heap[w4.heap.size]? = some (.cells #[.int .i64 ak, .complex .f64 f1 f2] 29)) := by subst hW5; exact last_of _ _
            have K5 : Hid (Kp W0 W5) := by subst hW5; exact (K3.out.trans k4).alloc _
            clear k4 K3 c3 hW5
            go_upto_region 21 with fail
            rw [HW5.out]
            clear HW5
            go_cut [20] (fun b wc => b = .bool inn ∧ wc = W5)
            case first =>
              by_cases h0 : 0 ≤ I
              · by_cases h1 : I < (k : Int)
                · have hi : Hid (inn = true) := by show _ = _; rw [HIN.out]; simp [h0, h1]
                  go_wp2_with fail
                  go_meet
                  case rel => exact ⟨by rw [hi.out], rfl⟩
                · have hi : Hid (inn = false) := by show _ = _; rw [HIN.out]; simp [h1]
                  go_wp2_with fail
                  go_meet
                  case rel => exact ⟨by rw [hi.out], rfl⟩
              · have hi : Hid (inn = false) := by show _ = _; rw [HIN.out]; simp [h0]
                go_wp2_with fail
                go_meet
                case rel => exact ⟨by rw [hi.out], rfl⟩
            case rest =>
              obtain ⟨rfl, rfl⟩ := hcut
              rename World => W5
              have HR : Hid (Ok W5 r xs) := H.out.1.kp (V0.out.2.trans K5.out)
              have HV : Hid (Sl W5 (.slice a k c) xs) := H.out.2.1.kp (V0.out.2.trans K5.out)
              have V5 : Vr W5 w.heap.size r := V0.out.1.kp K5.out
              obtain ⟨ht, eH⟩ : ∃ h, htO r = h := ⟨_, rfl⟩
              obtain ⟨mn, eM⟩ : ∃ m : Int, (if (1 : Int) < (j : Int) then (1 : Int) else (j : Int)) = m := ⟨_, rfl⟩
              have eM2 : (if 1 < j then (1 : Int) else (j : Int)) = mn := by rw [← eM]; split <;> split <;> omega
              have g1 : (ht : Int) ≤ 2 * (j : Int) := by
                have := htO_bits r HR.out.b j (by rw [HR.out.e, HE.out.2.2]; exact HB.out.1)
                omega
              have g2 : mn ≤ (ht : Int) := by
                have hx : 0 < j → 1 ≤ ht := by
                  intro hj
                  have hk := HB.out.2 hj
                  cases r with
                  | none => have e1 := HR.out.e; have e2 := HE.out.2.2; simp only [itemsO] at e1; rw [← e1] at e2; simp at e2; omega
                  | some t => rw [← eH]; exact t.ht_pos
                rw [← eM]; split <;> omega
              have HH : Hid (htO r = ht) := eH
              have gw : IntKind.i64.wrap (2 * (j : Int)) = 2 * (j : Int) := by rw [IntKind.wrap_i64]; omega
              have EQC := run_ceql (P := Try.prog) 26 (A : Int) (D : Int) (A : Int) (D : Int) (small (by omega) (by omega)) (small (by omega) (by omega)) (small (by omega) (by omega)) (small (by omega) (by omega))
              have MP : mk (xs.take P) = cx (tl xs P : Nat) (tb xs P : Nat) := rfl
              obtain ⟨tp1, tp2⟩ := tl_le xs H.out.2.2.1 P
              rw [HE.out.2.2] at tp1 tp2
              have EQP := run_ceql (P := Try.prog) 26 (tl xs P : Int) (tb xs P : Int) (tl xs P : Int) (tb xs P : Int) (small (by omega) (by omega)) (small (by omega) (by omega)) (small (by omega) (by omega)) (small (by omega) (by omega))
              rw [MP]
              clear MP tp1 tp2 eH HIN AT HB
              have Q0 : Kp W5 W5.drew := (Kp.refl _).drew
              cases inn with
              | false =>
                obtain ⟨rfl, rfl, rfl⟩ := EY.out
                have EQ0 : ∀ w, (Op.equalIn 10000 29 (.agg #[.int .i64 0, .complex .f64 0 0]) (.agg #[.int .i64 0, .complex .f64 0 0])).run Try.prog w = .ok true w := by
                  intro w; have := eq_self 0 0 0 (by omega) (by omega) w; rw [cx, Int.natCast_zero, F_zero] at this; exact this
                have m5 := M5.out
                have MK : Hid (∀ W, Kp W5 W → W.cell? ⟨w.heap.size, 0, none⟩ = some (.pointer (pO r)) ∧ W.cell? ⟨w4.heap.size, 0, none⟩ = some (.int .i64 0) ∧ W.cell? ⟨w4.heap.size, 1, none⟩ = some (.complex .f64 0 0) ∧ Hid (Kp W5 W)) := fun W k => ⟨(V5.kp k).cell, bl_cell (bl_kp m5 k) 0 _ rfl, bl_cell (bl_kp m5 k) 1 _ rfl, k⟩
                clear m5 V5 EY
                go_wp2_with fail
                try simp only [List.append_eq, List.cons_append, List.nil_append]
                refine wp_region_noPanic ?_
                refine wp_region_held_drew (S := (fun W => W.cell? ⟨w.heap.size, 0, none⟩ = some (.pointer (pO r)) ∧ W.cell? ⟨w4.heap.size, 0, none⟩ = some (.int .i64 0) ∧ W.cell? ⟨w4.heap.size, 1, none⟩ = some (.complex .f64 0 0) ∧ Hid (Kp W5 W))) (by kernel_rfl) ?_ (fun hH => ?_)
                · exact MK.out _ Q0
                have KQ := Q0
                refine wpAnyH_take (i := 0) (oi := { dst := some 92, op := Op.load 24 (Operand.tmp 3), type := 24, pos := "law.go:92", after := #[], guard := none }) (v := ?v0f1) rfl (by kernel_rfl) (by kernel_rfl) (by kernel_rfl) (fun _ _ _ h => h) (Or.inl ⟨by rfl, ?hy0f1⟩) hH ?r0f1
                case hy0f1 => (intro W hSw; (try dsimp only at hSw); go_simp; try (with_reducible rfl))
                try simp only [Act.put, List.setIfInBounds_toArray, List.set_cons_zero, List.set_cons_succ]
                refine wpAnyH_take (i := 2) (oi := { dst := some 94, op := Op.move (Operand.tmp 1), type := 32, pos := "law.go:92", after := #[], guard := none }) (v := ?v2f2) rfl (by kernel_rfl) (by kernel_rfl) (by kernel_rfl) (fun _ _ _ h => h) (Or.inl ⟨by rfl, ?hy2f2⟩) hH ?r2f2
                case hy2f2 => (intro W hSw; (try dsimp only at hSw); go_simp; try (with_reducible rfl))
                try simp only [Act.put, List.setIfInBounds_toArray, List.set_cons_zero, List.set_cons_succ]
                refine wpAnyH_take (i := 3) (oi := { dst := some 95, op := Op.call { callee := Callee.builtin Builtin.len, args := #[Operand.tmp 94], argTypes := #[32] }, type := 3, pos := "law.go:92", after := #[{ on := 2, ground := Ground.data }], guard := none }) (v := ?v3f3) rfl (by kernel_rfl) (by kernel_rfl) (by kernel_rfl) (fun _ _ _ h => h) (Or.inl ⟨by rfl, ?hy3f3⟩) hH ?r3f3
                case hy3f3 => (intro W hSw; (try dsimp only at hSw); go_simp; try (with_reducible rfl))
                try simp only [Act.put, List.setIfInBounds_toArray, List.set_cons_zero, List.set_cons_succ]
                refine wpAnyH_ready (rs := [1]) (by kernel_rfl) (by simp) ?_
                refine AllReadyH.cons (o := { dst := some 93, op := Op.call { callee := Callee.value (Operand.func 14), args := #[Operand.tmp 92], argTypes := #[24] }, type := 3, pos := "law.go:92", after := #[{ on := 0, ground := Ground.data }], guard := none }) rfl (fun K hKq => ?_) AllReadyH.nil
                go_simp
                refine (len_ok r xs _ (Ok.kp HR.out KQ)).mono ?_
                rintro e y1 ⟨rfl, kq⟩
                rw [HE.out.2.2]
                refine hKq.out _ _ (MK.out _ (KQ.trans kq)) (fun hN => ?_)
                clear kq
                clear hKq K hH KQ
                have hH := hN
                clear hN
                have KQ := hH.2.2.2.out
                try simp only [Act.put, List.setIfInBounds_toArray, List.set_cons_zero, List.set_cons_succ]
                refine wpAnyH_take (i := 4) (oi := { dst := some 96, op := Op.binOp BinOp.eql 3 (Operand.tmp 93) (Operand.tmp 95) 3, type := 4, pos := "law.go:92", after := #[{ on := 1, ground := Ground.data }, { on := 3, ground := Ground.data }], guard := none }) (v := ?v4f4) rfl (by kernel_rfl) (by kernel_rfl) (by kernel_rfl) (fun _ _ _ h => h) (Or.inl ⟨by rfl, ?hy4f4⟩) hH ?r4f4
                case hy4f4 => (intro W hSw; (try dsimp only at hSw); go_simp; try (with_reducible rfl))
                try simp only [Act.put, List.setIfInBounds_toArray, List.set_cons_zero, List.set_cons_succ]
                refine wpAnyH_take (i := 5) (oi := { dst := some 97, op := Op.move (Operand.tmp 96), type := 4, pos := "law.go:92", after := #[{ on := 4, ground := Ground.data }, { on := 1, ground := Ground.chain }], guard := none }) (v := ?v5f5) rfl (by kernel_rfl) (by kernel_rfl) (by kernel_rfl) (fun _ _ _ h => h) (Or.inl ⟨by rfl, ?hy5f5⟩) hH ?r5f5
                case hy5f5 => (intro W hSw; (try dsimp only at hSw); go_simp; try (with_reducible rfl))
                try simp only [Act.put, List.setIfInBounds_toArray, List.set_cons_zero, List.set_cons_succ]
                refine wpAnyH_take (i := 6) (oi := { dst := some 98, op := Op.load 24 (Operand.tmp 3), type := 24, pos := "law.go:92", after := #[{ on := 5, ground := Ground.guard }], guard := some (5, true) }) (v := ?v6f6) rfl (by kernel_rfl) (by kernel_rfl) (by kernel_rfl) (fun _ _ _ h => h) (Or.inl ⟨by rfl, ?hy6f6⟩) hH ?r6f6
                case hy6f6 => (intro W hSw; (try dsimp only at hSw); go_simp; try (with_reducible rfl))
                try simp only [Act.put, List.setIfInBounds_toArray, List.set_cons_zero, List.set_cons_succ]
                refine wpAnyH_take (i := 8) (oi := { dst := some 100, op := Op.move (Operand.tmp 7), type := 26, pos := "law.go:92", after := #[{ on := 5, ground := Ground.guard }], guard := some (5, true) }) (v := ?v8f7) rfl (by kernel_rfl) (by kernel_rfl) (by kernel_rfl) (fun _ _ _ h => h) (Or.inl ⟨by rfl, ?hy8f7⟩) hH ?r8f7
                case hy8f7 => (intro W hSw; (try dsimp only at hSw); go_simp; try (with_reducible rfl))
                try simp only [Act.put, List.setIfInBounds_toArray, List.set_cons_zero, List.set_cons_succ]
                refine wpAnyH_ready (rs := [7]) (by kernel_rfl) (by simp) ?_
                refine AllReadyH.cons (o := { dst := some 99, op := Op.call { callee := Callee.value (Operand.func 20), args := #[Operand.tmp 98], argTypes := #[24] }, type := 26, pos := "law.go:92", after := #[{ on := 6, ground := Ground.data }, { on := 5, ground := Ground.chain }, { on := 5, ground := Ground.guard }], guard := some (5, true) }) rfl (fun K hKq => ?_) AllReadyH.nil
                go_simp
                refine (mark_ok r xs _ (Ok.kp HR.out KQ)).mono ?_
                rintro e y2 ⟨rfl, kq⟩
                rw [MX.out]
                refine hKq.out _ _ (MK.out _ (KQ.trans kq)) (fun hN => ?_)
                clear kq
                clear hKq K hH KQ
                have hH := hN
                clear hN
                have KQ := hH.2.2.2.out
                try simp only [Act.put, List.setIfInBounds_toArray, List.set_cons_zero, List.set_cons_succ]
                refine wpAnyH_take (i := 9) (oi := { dst := some 101, op := Op.binOp BinOp.eql 26 (Operand.tmp 99) (Operand.tmp 100) 26, type := 4, pos := "law.go:92", after := #[{ on := 7, ground := Ground.data }, { on := 8, ground := Ground.data }, { on := 5, ground := Ground.guard }], guard := some (5, true) }) (v := ?v9f8) rfl (by kernel_rfl) (by kernel_rfl) (by kernel_rfl) (fun _ _ _ h => h) (Or.inl ⟨by rfl, ?hy9f8⟩) hH ?r9f8
                case hy9f8 => (intro W hSw; (try dsimp only at hSw); go_simp; try (with_reducible rfl))
                try simp only [Act.put, List.setIfInBounds_toArray, List.set_cons_zero, List.set_cons_succ]
                refine wpAnyH_take (i := 10) (oi := { dst := some 102, op := Op.pick (Operand.tmp 97) (Operand.tmp 101) (Operand.const (Value.bool false)), type := 4, pos := "law.go:92", after := #[{ on := 5, ground := Ground.data }, { on := 9, ground := Ground.data }], guard := none }) (v := ?v10f9) rfl (by kernel_rfl) (by kernel_rfl) (by kernel_rfl) (fun _ _ _ h => h) (Or.inl ⟨by rfl, ?hy10f9⟩) hH ?r10f9
                case hy10f9 => (intro W hSw; (try dsimp only at hSw); go_simp; try (with_reducible rfl))
                try simp only [Act.put, List.setIfInBounds_toArray, List.set_cons_zero, List.set_cons_succ]
                refine wpAnyH_take (i := 11) (oi := { dst := some 103, op := Op.move (Operand.tmp 102), type := 4, pos := "law.go:92", after := #[{ on := 10, ground := Ground.data }, { on := 7, ground := Ground.chain }], guard := none }) (v := ?v11f10) rfl (by kernel_rfl) (by kernel_rfl) (by kernel_rfl) (fun _ _ _ h => h) (Or.inl ⟨by rfl, ?hy11f10⟩) hH ?r11f10
                case hy11f10 => (intro W hSw; (try dsimp only at hSw); go_simp; try (with_reducible rfl))
                try simp only [Act.put, List.setIfInBounds_toArray, List.set_cons_zero, List.set_cons_succ]
                refine wpAnyH_take (i := 12) (oi := { dst := some 104, op := Op.load 24 (Operand.tmp 3), type := 24, pos := "law.go:92", after := #[{ on := 11, ground := Ground.guard }], guard := some (11, true) }) (v := ?v12f11) rfl (by kernel_rfl) (by kernel_rfl) (by kernel_rfl) (fun _ _ _ h => h) (Or.inl ⟨by rfl, ?hy12f11⟩) hH ?r12f11
                case hy12f11 => (intro W hSw; (try dsimp only at hSw); go_simp; try (with_reducible rfl))
                try simp only [Act.put, List.setIfInBounds_toArray, List.set_cons_zero, List.set_cons_succ]
                refine wpAnyH_take (i := 14) (oi := { dst := some 106, op := Op.move (Operand.tmp 1), type := 32, pos := "law.go:92", after := #[{ on := 11, ground := Ground.guard }], guard := some (11, true) }) (v := ?v14f12) rfl (by kernel_rfl) (by kernel_rfl) (by kernel_rfl) (fun _ _ _ h => h) (Or.inl ⟨by rfl, ?hy14f12⟩) hH ?r14f12
                case hy14f12 => (intro W hSw; (try dsimp only at hSw); go_simp; try (with_reducible rfl))
                try simp only [Act.put, List.setIfInBounds_toArray, List.set_cons_zero, List.set_cons_succ]
                refine wpAnyH_ready (rs := [13]) (by kernel_rfl) (by simp) ?_
                refine AllReadyH.cons (o := { dst := some 105, op := Op.call { callee := Callee.value (Operand.func 12), args := #[Operand.tmp 104], argTypes := #[24] }, type := 32, pos := "law.go:92", after := #[{ on := 12, ground := Ground.data }, { on := 11, ground := Ground.chain }, { on := 11, ground := Ground.guard }], guard := some (11, true) }) rfl (fun K hKq => ?_) AllReadyH.nil
                go_simp
                refine (items_ok r xs _ (Ok.kp HR.out KQ) (by rw [HE.out.2.2]; omega)).mono ?_
                rintro e y3 ⟨vi, rfl, oi, kq⟩
                have OI : Hid (Sl y3 vi xs) := oi.sl
                clear oi
                refine hKq.out _ _ (MK.out _ (KQ.trans kq)) (fun hN => ?_)
                clear kq
                clear hKq K hH KQ
                have hH := hN
                clear hN
                have KQ := hH.2.2.2.out
                try simp only [Act.put, List.setIfInBounds_toArray, List.set_cons_zero, List.set_cons_succ]
                refine wpAnyH_ready (rs := [15]) (by kernel_rfl) (by simp) ?_
                refine AllReadyH.cons (o := { dst := some 107, op := Op.call { callee := Callee.value (Operand.func 18), args := #[Operand.tmp 105, Operand.tmp 106], argTypes := #[32, 32] }, type := 4, pos := "law.go:92", after := #[{ on := 13, ground := Ground.data }, { on := 14, ground := Ground.data }, { on := 13, ground := Ground.chain }, { on := 11, ground := Ground.guard }], guard := some (11, true) }) rfl (fun K hKq => ?_) AllReadyH.nil
                go_simp
                refine (same_any _ _ xs _ OI.out (Sl.kp HV.out KQ) H.out.2.2.1 (by rw [HE.out.2.2]; omega)).mono ?_
                rintro e y4 ⟨rfl, kq⟩
                refine hKq.out _ _ (MK.out _ (KQ.trans kq)) (fun hN => ?_)
                clear kq
                clear hKq K hH KQ
                have hH := hN
                clear hN
                have KQ := hH.2.2.2.out
                try simp only [Act.put, List.setIfInBounds_toArray, List.set_cons_zero, List.set_cons_succ]
                refine wpAnyH_take (i := 16) (oi := { dst := some 108, op := Op.pick (Operand.tmp 103) (Operand.tmp 107) (Operand.const (Value.bool false)), type := 4, pos := "law.go:92", after := #[{ on := 11, ground := Ground.data }, { on := 15, ground := Ground.data }], guard := none }) (v := ?v16f13) rfl (by kernel_rfl) (by kernel_rfl) (by kernel_rfl) (fun _ _ _ h => h) (Or.inl ⟨by rfl, ?hy16f13⟩) hH ?r16f13
                case hy16f13 => (intro W hSw; (try dsimp only at hSw); go_simp; try (with_reducible rfl))
                try simp only [Act.put, List.setIfInBounds_toArray, List.set_cons_zero, List.set_cons_succ]
                refine wpAnyH_take (i := 17) (oi := { dst := some 109, op := Op.move (Operand.tmp 108), type := 4, pos := "law.go:92", after := #[{ on := 16, ground := Ground.data }, { on := 15, ground := Ground.chain }], guard := none }) (v := ?v17f14) rfl (by kernel_rfl) (by kernel_rfl) (by kernel_rfl) (fun _ _ _ h => h) (Or.inl ⟨by rfl, ?hy17f14⟩) hH ?r17f14
                case hy17f14 => (intro W hSw; (try dsimp only at hSw); go_simp; try (with_reducible rfl))
                try simp only [Act.put, List.setIfInBounds_toArray, List.set_cons_zero, List.set_cons_succ]
                refine wpAnyH_take (i := 18) (oi := { dst := some 110, op := Op.move (Operand.tmp 15), type := 3, pos := "law.go:92", after := #[{ on := 17, ground := Ground.guard }], guard := some (17, true) }) (v := ?v18f15) rfl (by kernel_rfl) (by kernel_rfl) (by kernel_rfl) (fun _ _ _ h => h) (Or.inl ⟨by rfl, ?hy18f15⟩) hH ?r18f15
                case hy18f15 => (intro W hSw; (try dsimp only at hSw); go_simp; try (with_reducible rfl))
                try simp only [Act.put, List.setIfInBounds_toArray, List.set_cons_zero, List.set_cons_succ]
                refine wpAnyH_take (i := 19) (oi := { dst := some 111, op := Op.move (Operand.tmp 8), type := 3, pos := "law.go:92", after := #[{ on := 17, ground := Ground.guard }], guard := some (17, true) }) (v := ?v19f16) rfl (by kernel_rfl) (by kernel_rfl) (by kernel_rfl) (fun _ _ _ h => h) (Or.inl ⟨by rfl, ?hy19f16⟩) hH ?r19f16
                case hy19f16 => (intro W hSw; (try dsimp only at hSw); go_simp; try (with_reducible rfl))
                try simp only [Act.put, List.setIfInBounds_toArray, List.set_cons_zero, List.set_cons_succ]
                refine wpAnyH_take (i := 20) (oi := { dst := some 112, op := Op.binOp BinOp.eql 3 (Operand.tmp 110) (Operand.tmp 111) 3, type := 4, pos := "law.go:92", after := #[{ on := 18, ground := Ground.data }, { on := 19, ground := Ground.data }, { on := 17, ground := Ground.guard }], guard := some (17, true) }) (v := ?v20f17) rfl (by kernel_rfl) (by kernel_rfl) (by kernel_rfl) (fun _ _ _ h => h) (Or.inl ⟨by rfl, ?hy20f17⟩) hH ?r20f17
                case hy20f17 => (intro W hSw; (try dsimp only at hSw); go_simp; try (with_reducible rfl))
                try simp only [Act.put, List.setIfInBounds_toArray, List.set_cons_zero, List.set_cons_succ]
                refine wpAnyH_take (i := 21) (oi := { dst := some 113, op := Op.pick (Operand.tmp 109) (Operand.tmp 112) (Operand.const (Value.bool false)), type := 4, pos := "law.go:92", after := #[{ on := 17, ground := Ground.data }, { on := 20, ground := Ground.data }], guard := none }) (v := ?v21f18) rfl (by kernel_rfl) (by kernel_rfl) (by kernel_rfl) (fun _ _ _ h => h) (Or.inl ⟨by rfl, ?hy21f18⟩) hH ?r21f18
                case hy21f18 => (intro W hSw; (try dsimp only at hSw); go_simp; try (with_reducible rfl))
                try simp only [Act.put, List.setIfInBounds_toArray, List.set_cons_zero, List.set_cons_succ]
                refine wpAnyH_take (i := 22) (oi := { dst := some 114, op := Op.move (Operand.tmp 113), type := 4, pos := "law.go:92", after := #[{ on := 21, ground := Ground.data }, { on := 17, ground := Ground.chain }], guard := none }) (v := ?v22f19) rfl (by kernel_rfl) (by kernel_rfl) (by kernel_rfl) (fun _ _ _ h => h) (Or.inl ⟨by rfl, ?hy22f19⟩) hH ?r22f19
                case hy22f19 => (intro W hSw; (try dsimp only at hSw); go_simp; try (with_reducible rfl))
                try simp only [Act.put, List.setIfInBounds_toArray, List.set_cons_zero, List.set_cons_succ]
                refine wpAnyH_take (i := 23) (oi := { dst := some 115, op := Op.move (Operand.tmp 16), type := 26, pos := "law.go:92", after := #[{ on := 22, ground := Ground.guard }], guard := some (22, true) }) (v := ?v23f20) rfl (by kernel_rfl) (by kernel_rfl) (by kernel_rfl) (fun _ _ _ h => h) (Or.inl ⟨by rfl, ?hy23f20⟩) hH ?r23f20
                case hy23f20 => (intro W hSw; (try dsimp only at hSw); go_simp; try (with_reducible rfl))
                try simp only [Act.put, List.setIfInBounds_toArray, List.set_cons_zero, List.set_cons_succ]
                refine wpAnyH_take (i := 24) (oi := { dst := some 116, op := Op.move (Operand.tmp 9), type := 26, pos := "law.go:92", after := #[{ on := 22, ground := Ground.guard }], guard := some (22, true) }) (v := ?v24f21) rfl (by kernel_rfl) (by kernel_rfl) (by kernel_rfl) (fun _ _ _ h => h) (Or.inl ⟨by rfl, ?hy24f21⟩) hH ?r24f21
                case hy24f21 => (intro W hSw; (try dsimp only at hSw); go_simp; try (with_reducible rfl))
                try simp only [Act.put, List.setIfInBounds_toArray, List.set_cons_zero, List.set_cons_succ]
                refine wpAnyH_take (i := 25) (oi := { dst := some 117, op := Op.binOp BinOp.eql 26 (Operand.tmp 115) (Operand.tmp 116) 26, type := 4, pos := "law.go:92", after := #[{ on := 23, ground := Ground.data }, { on := 24, ground := Ground.data }, { on := 22, ground := Ground.guard }], guard := some (22, true) }) (v := ?v25f22) rfl (by kernel_rfl) (by kernel_rfl) (by kernel_rfl) (fun _ _ _ h => h) (Or.inl ⟨by rfl, ?hy25f22⟩) hH ?r25f22
                case hy25f22 => (intro W hSw; (try dsimp only at hSw); go_simp; try (with_reducible rfl))
                try simp only [Act.put, List.setIfInBounds_toArray, List.set_cons_zero, List.set_cons_succ]
                refine wpAnyH_take (i := 26) (oi := { dst := some 118, op := Op.pick (Operand.tmp 114) (Operand.tmp 117) (Operand.const (Value.bool false)), type := 4, pos := "law.go:92", after := #[{ on := 22, ground := Ground.data }, { on := 25, ground := Ground.data }], guard := none }) (v := ?v26f23) rfl (by kernel_rfl) (by kernel_rfl) (by kernel_rfl) (fun _ _ _ h => h) (Or.inl ⟨by rfl, ?hy26f23⟩) hH ?r26f23
                case hy26f23 => (intro W hSw; (try dsimp only at hSw); go_simp; try (with_reducible rfl))
                try simp only [Act.put, List.setIfInBounds_toArray, List.set_cons_zero, List.set_cons_succ]
                refine wpAnyH_take (i := 27) (oi := { dst := some 119, op := Op.move (Operand.tmp 118), type := 4, pos := "law.go:92", after := #[{ on := 26, ground := Ground.data }, { on := 22, ground := Ground.chain }], guard := none }) (v := ?v27f24) rfl (by kernel_rfl) (by kernel_rfl) (by kernel_rfl) (fun _ _ _ h => h) (Or.inl ⟨by rfl, ?hy27f24⟩) hH ?r27f24
                case hy27f24 => (intro W hSw; (try dsimp only at hSw); go_simp; try (with_reducible rfl))
                try simp only [Act.put, List.setIfInBounds_toArray, List.set_cons_zero, List.set_cons_succ]
                refine wpAnyH_take (i := 28) (oi := { dst := some 120, op := Op.move (Operand.tmp 19), type := 4, pos := "law.go:92", after := #[{ on := 27, ground := Ground.guard }], guard := some (27, true) }) (v := ?v28f25) rfl (by kernel_rfl) (by kernel_rfl) (by kernel_rfl) (fun _ _ _ h => h) (Or.inl ⟨by rfl, ?hy28f25⟩) hH ?r28f25
                case hy28f25 => (intro W hSw; (try dsimp only at hSw); go_simp; try (with_reducible rfl))
                try simp only [Act.put, List.setIfInBounds_toArray, List.set_cons_zero, List.set_cons_succ]
                refine wpAnyH_take (i := 29) (oi := { dst := some 121, op := Op.move (Operand.tmp 20), type := 4, pos := "law.go:92", after := #[{ on := 27, ground := Ground.guard }], guard := some (27, true) }) (v := ?v29f26) rfl (by kernel_rfl) (by kernel_rfl) (by kernel_rfl) (fun _ _ _ h => h) (Or.inl ⟨by rfl, ?hy29f26⟩) hH ?r29f26
                case hy29f26 => (intro W hSw; (try dsimp only at hSw); go_simp; try (with_reducible rfl))
                try simp only [Act.put, List.setIfInBounds_toArray, List.set_cons_zero, List.set_cons_succ]
                refine wpAnyH_take (i := 30) (oi := { dst := some 122, op := Op.binOp BinOp.eql 4 (Operand.tmp 120) (Operand.tmp 121) 4, type := 4, pos := "law.go:92", after := #[{ on := 28, ground := Ground.data }, { on := 29, ground := Ground.data }, { on := 27, ground := Ground.guard }], guard := some (27, true) }) (v := ?v30f27) rfl (by kernel_rfl) (by kernel_rfl) (by kernel_rfl) (fun _ _ _ h => h) (Or.inl ⟨by rfl, ?hy30f27⟩) hH ?r30f27
                case hy30f27 => (intro W hSw; (try dsimp only at hSw); go_simp; try (with_reducible rfl))
                try simp only [Act.put, List.setIfInBounds_toArray, List.set_cons_zero, List.set_cons_succ]
                refine wpAnyH_take (i := 31) (oi := { dst := some 123, op := Op.pick (Operand.tmp 119) (Operand.tmp 122) (Operand.const (Value.bool false)), type := 4, pos := "law.go:92", after := #[{ on := 27, ground := Ground.data }, { on := 30, ground := Ground.data }], guard := none }) (v := ?v31f28) rfl (by kernel_rfl) (by kernel_rfl) (by kernel_rfl) (fun _ _ _ h => h) (Or.inl ⟨by rfl, ?hy31f28⟩) hH ?r31f28
                case hy31f28 => (intro W hSw; (try dsimp only at hSw); go_simp; try (with_reducible rfl))
                try simp only [Act.put, List.setIfInBounds_toArray, List.set_cons_zero, List.set_cons_succ]
                refine wpAnyH_take (i := 32) (oi := { dst := some 124, op := Op.move (Operand.tmp 123), type := 4, pos := "law.go:92", after := #[{ on := 31, ground := Ground.data }, { on := 27, ground := Ground.chain }], guard := none }) (v := ?v32f29) rfl (by kernel_rfl) (by kernel_rfl) (by kernel_rfl) (fun _ _ _ h => h) (Or.inl ⟨by rfl, ?hy32f29⟩) hH ?r32f29
                case hy32f29 => (intro W hSw; (try dsimp only at hSw); go_simp; try (with_reducible rfl))
                try simp only [Act.put, List.setIfInBounds_toArray, List.set_cons_zero, List.set_cons_succ]
                refine wpAnyH_take (i := 33) (oi := { dst := some 125, op := Op.move (Operand.tmp 20), type := 4, pos := "law.go:92", after := #[{ on := 32, ground := Ground.guard }], guard := some (32, true) }) (v := ?v33f30) rfl (by kernel_rfl) (by kernel_rfl) (by kernel_rfl) (fun _ _ _ h => h) (Or.inl ⟨by rfl, ?hy33f30⟩) hH ?r33f30
                case hy33f30 => (intro W hSw; (try dsimp only at hSw); go_simp; try (with_reducible rfl))
                try simp only [Act.put, List.setIfInBounds_toArray, List.set_cons_zero, List.set_cons_succ]
                refine wpAnyH_take (i := 34) (oi := { dst := some 126, op := Op.unOp UnOp.not 4 (Operand.tmp 125), type := 4, pos := "law.go:92", after := #[{ on := 33, ground := Ground.data }, { on := 32, ground := Ground.guard }], guard := some (32, true) }) (v := ?v34f31) rfl (by kernel_rfl) (by kernel_rfl) (by kernel_rfl) (fun _ _ _ h => h) (Or.inl ⟨by rfl, ?hy34f31⟩) hH ?r34f31
                case hy34f31 => (intro W hSw; (try dsimp only at hSw); go_simp; try (with_reducible rfl))
                try simp only [Act.put, List.setIfInBounds_toArray, List.set_cons_zero, List.set_cons_succ]
                refine wpAnyH_take (i := 35) (oi := { dst := some 127, op := Op.move (Operand.tmp 126), type := 4, pos := "law.go:92", after := #[{ on := 34, ground := Ground.data }, { on := 32, ground := Ground.chain }, { on := 32, ground := Ground.guard }], guard := some (32, true) }) (v := ?v35f32) rfl (by kernel_rfl) (by kernel_rfl) (by kernel_rfl) (fun _ _ _ h => h) (Or.inl ⟨by rfl, ?hy35f32⟩) hH ?r35f32
                case hy35f32 => (intro W hSw; (try dsimp only at hSw); go_simp; try (with_reducible rfl))
                try simp only [Act.put, List.setIfInBounds_toArray, List.set_cons_zero, List.set_cons_succ]
                refine wpAnyH_take (i := 36) (oi := { dst := some 128, op := Op.load 29 (Operand.tmp 18), type := 29, pos := "law.go:92", after := #[{ on := 35, ground := Ground.guard }], guard := some (35, false) }) (v := undef) rfl (by kernel_rfl) (by kernel_rfl) (by kernel_rfl) (fun _ _ _ h => h) (Or.inr ⟨by rfl, rfl⟩) hH ?r36f33
                try simp only [Act.put, List.setIfInBounds_toArray, List.set_cons_zero, List.set_cons_succ]
                refine wpAnyH_take (i := 37) (oi := { dst := some 129, op := Op.move (Operand.tmp 1), type := 32, pos := "law.go:92", after := #[{ on := 35, ground := Ground.guard }], guard := some (35, false) }) (v := undef) rfl (by kernel_rfl) (by kernel_rfl) (by kernel_rfl) (fun _ _ _ h => h) (Or.inr ⟨by rfl, rfl⟩) hH ?r37f34
                try simp only [Act.put, List.setIfInBounds_toArray, List.set_cons_zero, List.set_cons_succ]
                refine wpAnyH_take (i := 38) (oi := { dst := some 130, op := Op.move (Operand.tmp 17), type := 3, pos := "law.go:92", after := #[{ on := 35, ground := Ground.guard }], guard := some (35, false) }) (v := undef) rfl (by kernel_rfl) (by kernel_rfl) (by kernel_rfl) (fun _ _ _ h => h) (Or.inr ⟨by rfl, rfl⟩) hH ?r38f35
                try simp only [Act.put, List.setIfInBounds_toArray, List.set_cons_zero, List.set_cons_succ]
                refine wpAnyH_take (i := 39) (oi := { dst := some 131, op := Op.indexAddr 32 (Operand.tmp 129) (Operand.tmp 130), type := 0, pos := "law.go:92", after := #[{ on := 37, ground := Ground.data }, { on := 38, ground := Ground.data }, { on := 35, ground := Ground.guard }], guard := some (35, false) }) (v := undef) rfl (by kernel_rfl) (by kernel_rfl) (by kernel_rfl) (fun _ _ _ h => h) (Or.inr ⟨by rfl, rfl⟩) hH ?r39f36
                try simp only [Act.put, List.setIfInBounds_toArray, List.set_cons_zero, List.set_cons_succ]
                refine wpAnyH_take (i := 40) (oi := { dst := some 132, op := Op.load 29 (Operand.tmp 131), type := 29, pos := "law.go:92", after := #[{ on := 39, ground := Ground.data }, { on := 35, ground := Ground.guard }], guard := some (35, false) }) (v := undef) rfl (by kernel_rfl) (by kernel_rfl) (by kernel_rfl) (fun _ _ _ h => h) (Or.inr ⟨by rfl, rfl⟩) hH ?r40f37
                try simp only [Act.put, List.setIfInBounds_toArray, List.set_cons_zero, List.set_cons_succ]
                refine wpAnyH_take (i := 41) (oi := { dst := some 133, op := Op.binOp BinOp.eql 29 (Operand.tmp 128) (Operand.tmp 132) 29, type := 4, pos := "law.go:92", after := #[{ on := 36, ground := Ground.data }, { on := 40, ground := Ground.data }, { on := 35, ground := Ground.guard }], guard := some (35, false) }) (v := undef) rfl (by kernel_rfl) (by kernel_rfl) (by kernel_rfl) (fun _ _ _ h => h) (Or.inr ⟨by rfl, rfl⟩) hH ?r41f38
                try simp only [Act.put, List.setIfInBounds_toArray, List.set_cons_zero, List.set_cons_succ]
                refine wpAnyH_take (i := 42) (oi := { dst := some 134, op := Op.pick (Operand.tmp 127) (Operand.const (Value.bool true)) (Operand.tmp 133), type := 4, pos := "law.go:92", after := #[{ on := 35, ground := Ground.data }, { on := 41, ground := Ground.data }, { on := 32, ground := Ground.guard }], guard := some (32, true) }) (v := ?v42f39) rfl (by kernel_rfl) (by kernel_rfl) (by kernel_rfl) (fun _ _ _ h => h) (Or.inl ⟨by rfl, ?hy42f39⟩) hH ?r42f39
                case hy42f39 => (intro W hSw; (try dsimp only at hSw); go_simp; try (with_reducible rfl))
                try simp only [Act.put, List.setIfInBounds_toArray, List.set_cons_zero, List.set_cons_succ]
                refine wpAnyH_take (i := 43) (oi := { dst := some 135, op := Op.pick (Operand.tmp 124) (Operand.tmp 134) (Operand.const (Value.bool false)), type := 4, pos := "law.go:92", after := #[{ on := 32, ground := Ground.data }, { on := 42, ground := Ground.data }], guard := none }) (v := ?v43f40) rfl (by kernel_rfl) (by kernel_rfl) (by kernel_rfl) (fun _ _ _ h => h) (Or.inl ⟨by rfl, ?hy43f40⟩) hH ?r43f40
                case hy43f40 => (intro W hSw; (try dsimp only at hSw); go_simp; try (with_reducible rfl))
                try simp only [Act.put, List.setIfInBounds_toArray, List.set_cons_zero, List.set_cons_succ]
                refine wpAnyH_take (i := 44) (oi := { dst := some 136, op := Op.move (Operand.tmp 135), type := 4, pos := "law.go:92", after := #[{ on := 43, ground := Ground.data }, { on := 35, ground := Ground.chain }], guard := none }) (v := ?v44f41) rfl (by kernel_rfl) (by kernel_rfl) (by kernel_rfl) (fun _ _ _ h => h) (Or.inl ⟨by rfl, ?hy44f41⟩) hH ?r44f41
                case hy44f41 => (intro W hSw; (try dsimp only at hSw); go_simp; try (with_reducible rfl))
                try simp only [Act.put, List.setIfInBounds_toArray, List.set_cons_zero, List.set_cons_succ]
                refine wpAnyH_take (i := 45) (oi := { dst := some 137, op := Op.move (Operand.tmp 20), type := 4, pos := "law.go:92", after := #[{ on := 44, ground := Ground.guard }], guard := some (44, true) }) (v := ?v45f42) rfl (by kernel_rfl) (by kernel_rfl) (by kernel_rfl) (fun _ _ _ h => h) (Or.inl ⟨by rfl, ?hy45f42⟩) hH ?r45f42
                case hy45f42 => (intro W hSw; (try dsimp only at hSw); go_simp; try (with_reducible rfl))
                try simp only [Act.put, List.setIfInBounds_toArray, List.set_cons_zero, List.set_cons_succ]
                refine wpAnyH_take (i := 46) (oi := { dst := some 138, op := Op.move (Operand.tmp 137), type := 4, pos := "law.go:92", after := #[{ on := 45, ground := Ground.data }, { on := 44, ground := Ground.chain }, { on := 44, ground := Ground.guard }], guard := some (44, true) }) (v := ?v46f43) rfl (by kernel_rfl) (by kernel_rfl) (by kernel_rfl) (fun _ _ _ h => h) (Or.inl ⟨by rfl, ?hy46f43⟩) hH ?r46f43
                case hy46f43 => (intro W hSw; (try dsimp only at hSw); go_simp; try (with_reducible rfl))
                try simp only [Act.put, List.setIfInBounds_toArray, List.set_cons_zero, List.set_cons_succ]
                refine wpAnyH_take (i := 47) (oi := { dst := some 139, op := Op.load 29 (Operand.tmp 18), type := 29, pos := "law.go:92", after := #[{ on := 46, ground := Ground.guard }], guard := some (46, false) }) (v := ?v47f44) rfl (by kernel_rfl) (by kernel_rfl) (by kernel_rfl) (fun _ _ _ h => h) (Or.inl ⟨by rfl, ?hy47f44⟩) hH ?r47f44
                case hy47f44 => (intro W hSw; (try dsimp only at hSw); go_simp; try (with_reducible rfl))
                try simp only [Act.put, List.setIfInBounds_toArray, List.set_cons_zero, List.set_cons_succ]
                refine wpAnyH_take (i := 48) (oi := { dst := some 140, op := Op.build 29 #[], type := 29, pos := "law.go:92", after := #[{ on := 46, ground := Ground.guard }], guard := some (46, false) }) (v := ?v48f45) rfl (by kernel_rfl) (by kernel_rfl) (by kernel_rfl) (fun _ _ _ h => h) (Or.inl ⟨by rfl, ?hy48f45⟩) hH ?r48f45
                case hy48f45 => (intro W hSw; (try dsimp only at hSw); go_simp; try (with_reducible rfl))
                try simp only [Act.put, List.setIfInBounds_toArray, List.set_cons_zero, List.set_cons_succ]
                refine wpAnyH_take (i := 49) (oi := { dst := some 141, op := Op.binOp BinOp.eql 29 (Operand.tmp 139) (Operand.tmp 140) 29, type := 4, pos := "law.go:92", after := #[{ on := 47, ground := Ground.data }, { on := 48, ground := Ground.data }, { on := 46, ground := Ground.guard }], guard := some (46, false) }) (v := ?v49f46) rfl (by kernel_rfl) (by kernel_rfl) (by kernel_rfl) (fun _ _ _ h => h) (Or.inl ⟨by rfl, ?hy49f46⟩) hH ?r49f46
                case hy49f46 => (intro W hSw; (try dsimp only at hSw); go_simp; try (with_reducible rfl))
                try simp only [Act.put, List.setIfInBounds_toArray, List.set_cons_zero, List.set_cons_succ]
                refine wpAnyH_take (i := 50) (oi := { dst := some 142, op := Op.pick (Operand.tmp 138) (Operand.const (Value.bool true)) (Operand.tmp 141), type := 4, pos := "law.go:92", after := #[{ on := 46, ground := Ground.data }, { on := 49, ground := Ground.data }, { on := 44, ground := Ground.guard }], guard := some (44, true) }) (v := ?v50f47) rfl (by kernel_rfl) (by kernel_rfl) (by kernel_rfl) (fun _ _ _ h => h) (Or.inl ⟨by rfl, ?hy50f47⟩) hH ?r50f47
                case hy50f47 => (intro W hSw; (try dsimp only at hSw); go_simp; try (with_reducible rfl))
                try simp only [Act.put, List.setIfInBounds_toArray, List.set_cons_zero, List.set_cons_succ]
                refine wpAnyH_take (i := 51) (oi := { dst := some 143, op := Op.pick (Operand.tmp 136) (Operand.tmp 142) (Operand.const (Value.bool false)), type := 4, pos := "law.go:92", after := #[{ on := 44, ground := Ground.data }, { on := 50, ground := Ground.data }], guard := none }) (v := ?v51f48) rfl (by kernel_rfl) (by kernel_rfl) (by kernel_rfl) (fun _ _ _ h => h) (Or.inl ⟨by rfl, ?hy51f48⟩) hH ?r51f48
                case hy51f48 => (intro W hSw; (try dsimp only at hSw); go_simp; try (with_reducible rfl))
                try simp only [Act.put, List.setIfInBounds_toArray, List.set_cons_zero, List.set_cons_succ]
                refine wpAnyH_take (i := 52) (oi := { dst := some 144, op := Op.move (Operand.tmp 143), type := 4, pos := "law.go:92", after := #[{ on := 51, ground := Ground.data }, { on := 46, ground := Ground.chain }], guard := none }) (v := ?v52f49) rfl (by kernel_rfl) (by kernel_rfl) (by kernel_rfl) (fun _ _ _ h => h) (Or.inl ⟨by rfl, ?hy52f49⟩) hH ?r52f49
                case hy52f49 => (intro W hSw; (try dsimp only at hSw); go_simp; try (with_reducible rfl))
                try simp only [Act.put, List.setIfInBounds_toArray, List.set_cons_zero, List.set_cons_succ]
                refine wpAnyH_take (i := 53) (oi := { dst := some 145, op := Op.load 24 (Operand.tmp 3), type := 24, pos := "law.go:92", after := #[{ on := 52, ground := Ground.guard }], guard := some (52, true) }) (v := ?v53f50) rfl (by kernel_rfl) (by kernel_rfl) (by kernel_rfl) (fun _ _ _ h => h) (Or.inl ⟨by rfl, ?hy53f50⟩) hH ?r53f50
                case hy53f50 => (intro W hSw; (try dsimp only at hSw); go_simp; try (with_reducible rfl))
                try simp only [Act.put, List.setIfInBounds_toArray, List.set_cons_zero, List.set_cons_succ]
                refine wpAnyH_take (i := 55) (oi := { dst := some 147, op := Op.move (Operand.tmp 13), type := 3, pos := "law.go:92", after := #[{ on := 52, ground := Ground.guard }], guard := some (52, true) }) (v := ?v55f51) rfl (by kernel_rfl) (by kernel_rfl) (by kernel_rfl) (fun _ _ _ h => h) (Or.inl ⟨by rfl, ?hy55f51⟩) hH ?r55f51
                case hy55f51 => (intro W hSw; (try dsimp only at hSw); go_simp; try (with_reducible rfl))
                try simp only [Act.put, List.setIfInBounds_toArray, List.set_cons_zero, List.set_cons_succ]
                refine wpAnyH_take (i := 56) (oi := { dst := some 148, op := Op.binOp BinOp.mul 3 (Operand.const (Value.int IntKind.i64 2)) (Operand.tmp 147) 3, type := 3, pos := "law.go:92", after := #[{ on := 55, ground := Ground.data }, { on := 52, ground := Ground.guard }], guard := some (52, true) }) (v := ?v56f52) rfl (by kernel_rfl) (by kernel_rfl) (by kernel_rfl) (fun _ _ _ h => h) (Or.inl ⟨by rfl, ?hy56f52⟩) hH ?r56f52
                case hy56f52 => (intro W hSw; (try dsimp only at hSw); go_simp; try (with_reducible rfl))
                try simp only [Act.put, List.setIfInBounds_toArray, List.set_cons_zero, List.set_cons_succ]
                refine wpAnyH_ready (rs := [54]) (by kernel_rfl) (by simp) ?_
                refine AllReadyH.cons (o := { dst := some 146, op := Op.call { callee := Callee.value (Operand.func 23), args := #[Operand.tmp 145], argTypes := #[24] }, type := 3, pos := "law.go:92", after := #[{ on := 53, ground := Ground.data }, { on := 52, ground := Ground.chain }, { on := 52, ground := Ground.guard }], guard := some (52, true) }) rfl (fun K hKq => ?_) AllReadyH.nil
                go_simp
                refine (height_any r _ (Ok.kp HR.out KQ).i).mono ?_
                rintro e y5 ⟨rfl, kq⟩
                rw [HH.out]
                refine hKq.out _ _ (MK.out _ (KQ.trans kq)) (fun hN => ?_)
                clear kq
                clear hKq K hH KQ
                have hH := hN
                clear hN
                have KQ := hH.2.2.2.out
                try simp only [Act.put, List.setIfInBounds_toArray, List.set_cons_zero, List.set_cons_succ]
                refine wpAnyH_take (i := 57) (oi := { dst := some 149, op := Op.binOp BinOp.leq 3 (Operand.tmp 146) (Operand.tmp 148) 3, type := 4, pos := "law.go:92", after := #[{ on := 54, ground := Ground.data }, { on := 56, ground := Ground.data }, { on := 52, ground := Ground.guard }], guard := some (52, true) }) (v := ?v57f53) rfl (by kernel_rfl) (by kernel_rfl) (by kernel_rfl) (fun _ _ _ h => h) (Or.inl ⟨by rfl, ?hy57f53⟩) hH ?r57f53
                case hy57f53 => (intro W hSw; (try dsimp only at hSw); go_simp; try (with_reducible rfl))
                try simp only [Act.put, List.setIfInBounds_toArray, List.set_cons_zero, List.set_cons_succ]
                refine wpAnyH_take (i := 58) (oi := { dst := some 150, op := Op.pick (Operand.tmp 144) (Operand.tmp 149) (Operand.const (Value.bool false)), type := 4, pos := "law.go:92", after := #[{ on := 52, ground := Ground.data }, { on := 57, ground := Ground.data }], guard := none }) (v := ?v58f54) rfl (by kernel_rfl) (by kernel_rfl) (by kernel_rfl) (fun _ _ _ h => h) (Or.inl ⟨by rfl, ?hy58f54⟩) hH ?r58f54
                case hy58f54 => (intro W hSw; (try dsimp only at hSw); go_simp; try (with_reducible rfl))
                try simp only [Act.put, List.setIfInBounds_toArray, List.set_cons_zero, List.set_cons_succ]
                refine wpAnyH_take (i := 59) (oi := { dst := some 151, op := Op.move (Operand.tmp 150), type := 4, pos := "law.go:92", after := #[{ on := 58, ground := Ground.data }, { on := 54, ground := Ground.chain }], guard := none }) (v := ?v59f55) rfl (by kernel_rfl) (by kernel_rfl) (by kernel_rfl) (fun _ _ _ h => h) (Or.inl ⟨by rfl, ?hy59f55⟩) hH ?r59f55
                case hy59f55 => (intro W hSw; (try dsimp only at hSw); go_simp; try (with_reducible rfl))
                try simp only [Act.put, List.setIfInBounds_toArray, List.set_cons_zero, List.set_cons_succ]
                refine wpAnyH_take (i := 60) (oi := { dst := some 152, op := Op.load 24 (Operand.tmp 3), type := 24, pos := "law.go:92", after := #[{ on := 59, ground := Ground.guard }], guard := some (59, true) }) (v := ?v60f56) rfl (by kernel_rfl) (by kernel_rfl) (by kernel_rfl) (fun _ _ _ h => h) (Or.inl ⟨by rfl, ?hy60f56⟩) hH ?r60f56
                case hy60f56 => (intro W hSw; (try dsimp only at hSw); go_simp; try (with_reducible rfl))
                try simp only [Act.put, List.setIfInBounds_toArray, List.set_cons_zero, List.set_cons_succ]
                refine wpAnyH_take (i := 62) (oi := { dst := some 154, op := Op.move (Operand.tmp 13), type := 3, pos := "law.go:92", after := #[{ on := 59, ground := Ground.guard }], guard := some (59, true) }) (v := ?v62f57) rfl (by kernel_rfl) (by kernel_rfl) (by kernel_rfl) (fun _ _ _ h => h) (Or.inl ⟨by rfl, ?hy62f57⟩) hH ?r62f57
                case hy62f57 => (intro W hSw; (try dsimp only at hSw); go_simp; try (with_reducible rfl))
                try simp only [Act.put, List.setIfInBounds_toArray, List.set_cons_zero, List.set_cons_succ]
                refine wpAnyH_take (i := 63) (oi := { dst := some 155, op := Op.call { callee := Callee.builtin Builtin.min, args := #[Operand.tmp 154, Operand.const (Value.int IntKind.i64 1)], argTypes := #[3, 3] }, type := 3, pos := "law.go:92", after := #[{ on := 62, ground := Ground.data }, { on := 59, ground := Ground.guard }], guard := some (59, true) }) (v := ?v63f58) rfl (by kernel_rfl) (by kernel_rfl) (by kernel_rfl) (fun _ _ _ h => h) (Or.inl ⟨by rfl, ?hy63f58⟩) hH ?r63f58
                case hy63f58 => (intro W hSw; (try dsimp only at hSw); go_simp; try (with_reducible rfl))
                try simp only [Act.put, List.setIfInBounds_toArray, List.set_cons_zero, List.set_cons_succ]
                refine wpAnyH_ready (rs := [61]) (by kernel_rfl) (by simp) ?_
                refine AllReadyH.cons (o := { dst := some 153, op := Op.call { callee := Callee.value (Operand.func 23), args := #[Operand.tmp 152], argTypes := #[24] }, type := 3, pos := "law.go:92", after := #[{ on := 60, ground := Ground.data }, { on := 59, ground := Ground.chain }, { on := 59, ground := Ground.guard }], guard := some (59, true) }) rfl (fun K hKq => ?_) AllReadyH.nil
                go_simp
                refine (height_any r _ (Ok.kp HR.out KQ).i).mono ?_
                rintro e y6 ⟨rfl, kq⟩
                rw [HH.out]
                refine hKq.out _ _ (MK.out _ (KQ.trans kq)) (fun hN => ?_)
                clear kq
                clear hKq K hH KQ
                have hH := hN
                clear hN
                have KQ := hH.2.2.2.out
                try simp only [Act.put, List.setIfInBounds_toArray, List.set_cons_zero, List.set_cons_succ]
                refine wpAnyH_take (i := 64) (oi := { dst := some 156, op := Op.binOp BinOp.geq 3 (Operand.tmp 153) (Operand.tmp 155) 3, type := 4, pos := "law.go:92", after := #[{ on := 61, ground := Ground.data }, { on := 63, ground := Ground.data }, { on := 59, ground := Ground.guard }], guard := some (59, true) }) (v := ?v64f59) rfl (by kernel_rfl) (by kernel_rfl) (by kernel_rfl) (fun _ _ _ h => h) (Or.inl ⟨by rfl, ?hy64f59⟩) hH ?r64f59
                case hy64f59 => (intro W hSw; (try dsimp only at hSw); go_simp; try (with_reducible rfl))
                try simp only [Act.put, List.setIfInBounds_toArray, List.set_cons_zero, List.set_cons_succ]
                refine wpAnyH_take (i := 65) (oi := { dst := some 157, op := Op.pick (Operand.tmp 151) (Operand.tmp 156) (Operand.const (Value.bool false)), type := 4, pos := "law.go:92", after := #[{ on := 59, ground := Ground.data }, { on := 64, ground := Ground.data }], guard := none }) (v := ?v65f60) rfl (by kernel_rfl) (by kernel_rfl) (by kernel_rfl) (fun _ _ _ h => h) (Or.inl ⟨by rfl, ?hy65f60⟩) hH ?r65f60
                case hy65f60 => (intro W hSw; (try dsimp only at hSw); go_simp; try (with_reducible rfl))
                try simp only [Act.put, List.setIfInBounds_toArray, List.set_cons_zero, List.set_cons_succ]
                refine wpAnyH_take (i := 66) (oi := { dst := some 6, op := Op.assign (Operand.tmp 157), type := 4, pos := "law.go:92", after := ([{ on := 65, ground := Ground.data }, { on := 61, ground := Ground.chain }, { on := 0, ground := Ground.phase }, { on := 1, ground := Ground.phase }, { on := 2, ground := Ground.phase }, { on := 3, ground := Ground.phase }, { on := 4, ground := Ground.phase }, { on := 5, ground := Ground.phase }, { on := 6, ground := Ground.phase }, { on := 7, ground := Ground.phase }, { on := 8, ground := Ground.phase }, { on := 9, ground := Ground.phase }, { on := 10, ground := Ground.phase }, { on := 11, ground := Ground.phase }, { on := 12, ground := Ground.phase }, { on := 13, ground := Ground.phase }, { on := 14, ground := Ground.phase }, { on := 15, ground := Ground.phase }, { on := 16, ground := Ground.phase }, { on := 17, ground := Ground.phase }, { on := 18, ground := Ground.phase }, { on := 19, ground := Ground.phase }, { on := 20, ground := Ground.phase }, { on := 21, ground := Ground.phase }, { on := 22, ground := Ground.phase }, { on := 23, ground := Ground.phase }, { on := 24, ground := Ground.phase }, { on := 25, ground := Ground.phase }, { on := 26, ground := Ground.phase }, { on := 27, ground := Ground.phase }, { on := 28, ground := Ground.phase }, { on := 29, ground := Ground.phase }, { on := 30, ground := Ground.phase }, { on := 31, ground := Ground.phase }].append [{ on := 32, ground := Ground.phase }, { on := 33, ground := Ground.phase }, { on := 34, ground := Ground.phase }, { on := 35, ground := Ground.phase }, { on := 36, ground := Ground.phase }, { on := 37, ground := Ground.phase }, { on := 38, ground := Ground.phase }, { on := 39, ground := Ground.phase }, { on := 40, ground := Ground.phase }, { on := 41, ground := Ground.phase }, { on := 42, ground := Ground.phase }, { on := 43, ground := Ground.phase }, { on := 44, ground := Ground.phase }, { on := 45, ground := Ground.phase }, { on := 46, ground := Ground.phase }, { on := 47, ground := Ground.phase }, { on := 48, ground := Ground.phase }, { on := 49, ground := Ground.phase }, { on := 50, ground := Ground.phase }, { on := 51, ground := Ground.phase }, { on := 52, ground := Ground.phase }, { on := 53, ground := Ground.phase }, { on := 54, ground := Ground.phase }, { on := 55, ground := Ground.phase }, { on := 56, ground := Ground.phase }, { on := 57, ground := Ground.phase }, { on := 58, ground := Ground.phase }, { on := 59, ground := Ground.phase }, { on := 60, ground := Ground.phase }, { on := 61, ground := Ground.phase }, { on := 62, ground := Ground.phase }, { on := 63, ground := Ground.phase }, { on := 64, ground := Ground.phase }, { on := 65, ground := Ground.phase }]).toArray, guard := none }) (v := ?v66f61) rfl (by kernel_rfl) (by kernel_rfl) (by kernel_rfl) (fun _ _ _ h => h) (Or.inl ⟨by rfl, ?hy66f61⟩) hH ?r66f61
                case hy66f61 => (intro W hSw; (try dsimp only at hSw); go_simp; try (with_reducible rfl))
                try simp only [Act.put, List.setIfInBounds_toArray, List.set_cons_zero, List.set_cons_succ]
                refine wpAnyH_done (by kernel_rfl) ?_ _
                refine NoPanic.normal ?_
                go_wp2_with fail
                go_ret
                exact ⟨rfl, (V0.out.2.trans K5.out).trans KQ⟩
              | true =>
                obtain ⟨j0, x, hI, hx, rfl, rfl, rfl⟩ := EY.out
                have hj0 : j0 < k := by have := (List.getElem?_eq_some_iff.1 hx).1; rw [HE.out.2.2] at this; exact this
                obtain ⟨x', B, o, hx', rfl, c0, c1⟩ := NX.out j0 hj0
                rw [hx] at hx'
                obtain rfl : x = x' := by injection hx'
                have sx := H.out.2.2.1 x (List.mem_of_getElem? hx)
                have EQ := eq_self x.key x.l x.y (by omega) (by omega)
                have m5 := M5.out
                have kw5 : Kp w W5 := V0.out.2.trans K5.out
                have i0 : (0 : Int) ≤ (j0 : Int) := by omega
                have i1 : (j0 : Int) < (k : Int) := by omega
                have MK : Hid (∀ W, Kp W5 W → W.cell? ⟨w.heap.size, 0, none⟩ = some (.pointer (pO r)) ∧ W.cell? ⟨w4.heap.size, 0, none⟩ = some (.int .i64 x.key) ∧ W.cell? ⟨w4.heap.size, 1, none⟩ = some (cx (x.l : Nat) (x.y : Nat)) ∧ W.cell? ⟨B, o + j0 * 2, none⟩ = some (.int .i64 x.key) ∧ W.cell? ⟨B, o + j0 * 2 + 1, none⟩ = some (cx (x.l : Nat) (x.y : Nat)) ∧ Hid (Kp W5 W)) := fun W k => ⟨(V5.kp k).cell, bl_cell (bl_kp m5 k) 0 _ rfl, bl_cell (bl_kp m5 k) 1 _ rfl, ((kw5.trans k).cell (block_lt_of_cell c0)).trans c0, ((kw5.trans k).cell (block_lt_of_cell c1)).trans c1, k⟩
                clear m5 V5 EY c0 c1 hx hx' sx kw5
                subst hI
                go_wp2_with fail
                try simp only [List.append_eq, List.cons_append, List.nil_append]
                refine wp_region_noPanic ?_
                refine wp_region_held_drew (S := (fun W => W.cell? ⟨w.heap.size, 0, none⟩ = some (.pointer (pO r)) ∧ W.cell? ⟨w4.heap.size, 0, none⟩ = some (.int .i64 x.key) ∧ W.cell? ⟨w4.heap.size, 1, none⟩ = some (cx (x.l : Nat) (x.y : Nat)) ∧ W.cell? ⟨B, o + j0 * 2, none⟩ = some (.int .i64 x.key) ∧ W.cell? ⟨B, o + j0 * 2 + 1, none⟩ = some (cx (x.l : Nat) (x.y : Nat)) ∧ Hid (Kp W5 W))) (by kernel_rfl) ?_ (fun hH => ?_)
                · exact MK.out _ Q0
                have KQ := Q0
                refine wpAnyH_take (i := 0) (oi := { dst := some 92, op := Op.load 24 (Operand.tmp 3), type := 24, pos := "law.go:92", after := #[], guard := none }) (v := ?v0t1) rfl (by kernel_rfl) (by kernel_rfl) (by kernel_rfl) (fun _ _ _ h => h) (Or.inl ⟨by rfl, ?hy0t1⟩) hH ?r0t1
                case hy0t1 => (intro W hSw; (try dsimp only at hSw); go_simp; try (with_reducible rfl))
                try simp only [Act.put, List.setIfInBounds_toArray, List.set_cons_zero, List.set_cons_succ]
                refine wpAnyH_take (i := 2) (oi := { dst := some 94, op := Op.move (Operand.tmp 1), type := 32, pos := "law.go:92", after := #[], guard := none }) (v := ?v2t2) rfl (by kernel_rfl) (by kernel_rfl) (by kernel_rfl) (fun _ _ _ h => h) (Or.inl ⟨by rfl, ?hy2t2⟩) hH ?r2t2
                case hy2t2 => (intro W hSw; (try dsimp only at hSw); go_simp; try (with_reducible rfl))
                try simp only [Act.put, List.setIfInBounds_toArray, List.set_cons_zero, List.set_cons_succ]
                refine wpAnyH_take (i := 3) (oi := { dst := some 95, op := Op.call { callee := Callee.builtin Builtin.len, args := #[Operand.tmp 94], argTypes := #[32] }, type := 3, pos := "law.go:92", after := #[{ on := 2, ground := Ground.data }], guard := none }) (v := ?v3t3) rfl (by kernel_rfl) (by kernel_rfl) (by kernel_rfl) (fun _ _ _ h => h) (Or.inl ⟨by rfl, ?hy3t3⟩) hH ?r3t3
                case hy3t3 => (intro W hSw; (try dsimp only at hSw); go_simp; try (with_reducible rfl))
                try simp only [Act.put, List.setIfInBounds_toArray, List.set_cons_zero, List.set_cons_succ]
                refine wpAnyH_ready (rs := [1]) (by kernel_rfl) (by simp) ?_
                refine AllReadyH.cons (o := { dst := some 93, op := Op.call { callee := Callee.value (Operand.func 14), args := #[Operand.tmp 92], argTypes := #[24] }, type := 3, pos := "law.go:92", after := #[{ on := 0, ground := Ground.data }], guard := none }) rfl (fun K hKq => ?_) AllReadyH.nil
                go_simp
                refine (len_ok r xs _ (Ok.kp HR.out KQ)).mono ?_
                rintro e y1 ⟨rfl, kq⟩
                rw [HE.out.2.2]
                refine hKq.out _ _ (MK.out _ (KQ.trans kq)) (fun hN => ?_)
                clear kq
                clear hKq K hH KQ
                have hH := hN
                clear hN
                have KQ := hH.2.2.2.2.2.out
                try simp only [Act.put, List.setIfInBounds_toArray, List.set_cons_zero, List.set_cons_succ]
                refine wpAnyH_take (i := 4) (oi := { dst := some 96, op := Op.binOp BinOp.eql 3 (Operand.tmp 93) (Operand.tmp 95) 3, type := 4, pos := "law.go:92", after := #[{ on := 1, ground := Ground.data }, { on := 3, ground := Ground.data }], guard := none }) (v := ?v4t4) rfl (by kernel_rfl) (by kernel_rfl) (by kernel_rfl) (fun _ _ _ h => h) (Or.inl ⟨by rfl, ?hy4t4⟩) hH ?r4t4
                case hy4t4 => (intro W hSw; (try dsimp only at hSw); go_simp; try (with_reducible rfl))
                try simp only [Act.put, List.setIfInBounds_toArray, List.set_cons_zero, List.set_cons_succ]
                refine wpAnyH_take (i := 5) (oi := { dst := some 97, op := Op.move (Operand.tmp 96), type := 4, pos := "law.go:92", after := #[{ on := 4, ground := Ground.data }, { on := 1, ground := Ground.chain }], guard := none }) (v := ?v5t5) rfl (by kernel_rfl) (by kernel_rfl) (by kernel_rfl) (fun _ _ _ h => h) (Or.inl ⟨by rfl, ?hy5t5⟩) hH ?r5t5
                case hy5t5 => (intro W hSw; (try dsimp only at hSw); go_simp; try (with_reducible rfl))
                try simp only [Act.put, List.setIfInBounds_toArray, List.set_cons_zero, List.set_cons_succ]
                refine wpAnyH_take (i := 6) (oi := { dst := some 98, op := Op.load 24 (Operand.tmp 3), type := 24, pos := "law.go:92", after := #[{ on := 5, ground := Ground.guard }], guard := some (5, true) }) (v := ?v6t6) rfl (by kernel_rfl) (by kernel_rfl) (by kernel_rfl) (fun _ _ _ h => h) (Or.inl ⟨by rfl, ?hy6t6⟩) hH ?r6t6
                case hy6t6 => (intro W hSw; (try dsimp only at hSw); go_simp; try (with_reducible rfl))
                try simp only [Act.put, List.setIfInBounds_toArray, List.set_cons_zero, List.set_cons_succ]
                refine wpAnyH_take (i := 8) (oi := { dst := some 100, op := Op.move (Operand.tmp 7), type := 26, pos := "law.go:92", after := #[{ on := 5, ground := Ground.guard }], guard := some (5, true) }) (v := ?v8t7) rfl (by kernel_rfl) (by kernel_rfl) (by kernel_rfl) (fun _ _ _ h => h) (Or.inl ⟨by rfl, ?hy8t7⟩) hH ?r8t7
                case hy8t7 => (intro W hSw; (try dsimp only at hSw); go_simp; try (with_reducible rfl))
                try simp only [Act.put, List.setIfInBounds_toArray, List.set_cons_zero, List.set_cons_succ]
                refine wpAnyH_ready (rs := [7]) (by kernel_rfl) (by simp) ?_
                refine AllReadyH.cons (o := { dst := some 99, op := Op.call { callee := Callee.value (Operand.func 20), args := #[Operand.tmp 98], argTypes := #[24] }, type := 26, pos := "law.go:92", after := #[{ on := 6, ground := Ground.data }, { on := 5, ground := Ground.chain }, { on := 5, ground := Ground.guard }], guard := some (5, true) }) rfl (fun K hKq => ?_) AllReadyH.nil
                go_simp
                refine (mark_ok r xs _ (Ok.kp HR.out KQ)).mono ?_
                rintro e y2 ⟨rfl, kq⟩
                rw [MX.out]
                refine hKq.out _ _ (MK.out _ (KQ.trans kq)) (fun hN => ?_)
                clear kq
                clear hKq K hH KQ
                have hH := hN
                clear hN
                have KQ := hH.2.2.2.2.2.out
                try simp only [Act.put, List.setIfInBounds_toArray, List.set_cons_zero, List.set_cons_succ]
                refine wpAnyH_take (i := 9) (oi := { dst := some 101, op := Op.binOp BinOp.eql 26 (Operand.tmp 99) (Operand.tmp 100) 26, type := 4, pos := "law.go:92", after := #[{ on := 7, ground := Ground.data }, { on := 8, ground := Ground.data }, { on := 5, ground := Ground.guard }], guard := some (5, true) }) (v := ?v9t8) rfl (by kernel_rfl) (by kernel_rfl) (by kernel_rfl) (fun _ _ _ h => h) (Or.inl ⟨by rfl, ?hy9t8⟩) hH ?r9t8
                case hy9t8 => (intro W hSw; (try dsimp only at hSw); go_simp; try (with_reducible rfl))
                try simp only [Act.put, List.setIfInBounds_toArray, List.set_cons_zero, List.set_cons_succ]
                refine wpAnyH_take (i := 10) (oi := { dst := some 102, op := Op.pick (Operand.tmp 97) (Operand.tmp 101) (Operand.const (Value.bool false)), type := 4, pos := "law.go:92", after := #[{ on := 5, ground := Ground.data }, { on := 9, ground := Ground.data }], guard := none }) (v := ?v10t9) rfl (by kernel_rfl) (by kernel_rfl) (by kernel_rfl) (fun _ _ _ h => h) (Or.inl ⟨by rfl, ?hy10t9⟩) hH ?r10t9
                case hy10t9 => (intro W hSw; (try dsimp only at hSw); go_simp; try (with_reducible rfl))
                try simp only [Act.put, List.setIfInBounds_toArray, List.set_cons_zero, List.set_cons_succ]
                refine wpAnyH_take (i := 11) (oi := { dst := some 103, op := Op.move (Operand.tmp 102), type := 4, pos := "law.go:92", after := #[{ on := 10, ground := Ground.data }, { on := 7, ground := Ground.chain }], guard := none }) (v := ?v11t10) rfl (by kernel_rfl) (by kernel_rfl) (by kernel_rfl) (fun _ _ _ h => h) (Or.inl ⟨by rfl, ?hy11t10⟩) hH ?r11t10
                case hy11t10 => (intro W hSw; (try dsimp only at hSw); go_simp; try (with_reducible rfl))
                try simp only [Act.put, List.setIfInBounds_toArray, List.set_cons_zero, List.set_cons_succ]
                refine wpAnyH_take (i := 12) (oi := { dst := some 104, op := Op.load 24 (Operand.tmp 3), type := 24, pos := "law.go:92", after := #[{ on := 11, ground := Ground.guard }], guard := some (11, true) }) (v := ?v12t11) rfl (by kernel_rfl) (by kernel_rfl) (by kernel_rfl) (fun _ _ _ h => h) (Or.inl ⟨by rfl, ?hy12t11⟩) hH ?r12t11
                case hy12t11 => (intro W hSw; (try dsimp only at hSw); go_simp; try (with_reducible rfl))
                try simp only [Act.put, List.setIfInBounds_toArray, List.set_cons_zero, List.set_cons_succ]
                refine wpAnyH_take (i := 14) (oi := { dst := some 106, op := Op.move (Operand.tmp 1), type := 32, pos := "law.go:92", after := #[{ on := 11, ground := Ground.guard }], guard := some (11, true) }) (v := ?v14t12) rfl (by kernel_rfl) (by kernel_rfl) (by kernel_rfl) (fun _ _ _ h => h) (Or.inl ⟨by rfl, ?hy14t12⟩) hH ?r14t12
                case hy14t12 => (intro W hSw; (try dsimp only at hSw); go_simp; try (with_reducible rfl))
                try simp only [Act.put, List.setIfInBounds_toArray, List.set_cons_zero, List.set_cons_succ]
                refine wpAnyH_ready (rs := [13]) (by kernel_rfl) (by simp) ?_
                refine AllReadyH.cons (o := { dst := some 105, op := Op.call { callee := Callee.value (Operand.func 12), args := #[Operand.tmp 104], argTypes := #[24] }, type := 32, pos := "law.go:92", after := #[{ on := 12, ground := Ground.data }, { on := 11, ground := Ground.chain }, { on := 11, ground := Ground.guard }], guard := some (11, true) }) rfl (fun K hKq => ?_) AllReadyH.nil
                go_simp
                refine (items_ok r xs _ (Ok.kp HR.out KQ) (by rw [HE.out.2.2]; omega)).mono ?_
                rintro e y3 ⟨vi, rfl, oi, kq⟩
                have OI : Hid (Sl y3 vi xs) := oi.sl
                clear oi
                refine hKq.out _ _ (MK.out _ (KQ.trans kq)) (fun hN => ?_)
                clear kq
                clear hKq K hH KQ
                have hH := hN
                clear hN
                have KQ := hH.2.2.2.2.2.out
                try simp only [Act.put, List.setIfInBounds_toArray, List.set_cons_zero, List.set_cons_succ]
                refine wpAnyH_ready (rs := [15]) (by kernel_rfl) (by simp) ?_
                refine AllReadyH.cons (o := { dst := some 107, op := Op.call { callee := Callee.value (Operand.func 18), args := #[Operand.tmp 105, Operand.tmp 106], argTypes := #[32, 32] }, type := 4, pos := "law.go:92", after := #[{ on := 13, ground := Ground.data }, { on := 14, ground := Ground.data }, { on := 13, ground := Ground.chain }, { on := 11, ground := Ground.guard }], guard := some (11, true) }) rfl (fun K hKq => ?_) AllReadyH.nil
                go_simp
                refine (same_any _ _ xs _ OI.out (Sl.kp HV.out KQ) H.out.2.2.1 (by rw [HE.out.2.2]; omega)).mono ?_
                rintro e y4 ⟨rfl, kq⟩
                refine hKq.out _ _ (MK.out _ (KQ.trans kq)) (fun hN => ?_)
                clear kq
                clear hKq K hH KQ
                have hH := hN
                clear hN
                have KQ := hH.2.2.2.2.2.out
                try simp only [Act.put, List.setIfInBounds_toArray, List.set_cons_zero, List.set_cons_succ]
                refine wpAnyH_take (i := 16) (oi := { dst := some 108, op := Op.pick (Operand.tmp 103) (Operand.tmp 107) (Operand.const (Value.bool false)), type := 4, pos := "law.go:92", after := #[{ on := 11, ground := Ground.data }, { on := 15, ground := Ground.data }], guard := none }) (v := ?v16t13) rfl (by kernel_rfl) (by kernel_rfl) (by kernel_rfl) (fun _ _ _ h => h) (Or.inl ⟨by rfl, ?hy16t13⟩) hH ?r16t13
                case hy16t13 => (intro W hSw; (try dsimp only at hSw); go_simp; try (with_reducible rfl))
                try simp only [Act.put, List.setIfInBounds_toArray, List.set_cons_zero, List.set_cons_succ]
                refine wpAnyH_take (i := 17) (oi := { dst := some 109, op := Op.move (Operand.tmp 108), type := 4, pos := "law.go:92", after := #[{ on := 16, ground := Ground.data }, { on := 15, ground := Ground.chain }], guard := none }) (v := ?v17t14) rfl (by kernel_rfl) (by kernel_rfl) (by kernel_rfl) (fun _ _ _ h => h) (Or.inl ⟨by rfl, ?hy17t14⟩) hH ?r17t14
                case hy17t14 => (intro W hSw; (try dsimp only at hSw); go_simp; try (with_reducible rfl))
                try simp only [Act.put, List.setIfInBounds_toArray, List.set_cons_zero, List.set_cons_succ]
                refine wpAnyH_take (i := 18) (oi := { dst := some 110, op := Op.move (Operand.tmp 15), type := 3, pos := "law.go:92", after := #[{ on := 17, ground := Ground.guard }], guard := some (17, true) }) (v := ?v18t15) rfl (by kernel_rfl) (by kernel_rfl) (by kernel_rfl) (fun _ _ _ h => h) (Or.inl ⟨by rfl, ?hy18t15⟩) hH ?r18t15
                case hy18t15 => (intro W hSw; (try dsimp only at hSw); go_simp; try (with_reducible rfl))
                try simp only [Act.put, List.setIfInBounds_toArray, List.set_cons_zero, List.set_cons_succ]
                refine wpAnyH_take (i := 19) (oi := { dst := some 111, op := Op.move (Operand.tmp 8), type := 3, pos := "law.go:92", after := #[{ on := 17, ground := Ground.guard }], guard := some (17, true) }) (v := ?v19t16) rfl (by kernel_rfl) (by kernel_rfl) (by kernel_rfl) (fun _ _ _ h => h) (Or.inl ⟨by rfl, ?hy19t16⟩) hH ?r19t16
                case hy19t16 => (intro W hSw; (try dsimp only at hSw); go_simp; try (with_reducible rfl))
                try simp only [Act.put, List.setIfInBounds_toArray, List.set_cons_zero, List.set_cons_succ]
                refine wpAnyH_take (i := 20) (oi := { dst := some 112, op := Op.binOp BinOp.eql 3 (Operand.tmp 110) (Operand.tmp 111) 3, type := 4, pos := "law.go:92", after := #[{ on := 18, ground := Ground.data }, { on := 19, ground := Ground.data }, { on := 17, ground := Ground.guard }], guard := some (17, true) }) (v := ?v20t17) rfl (by kernel_rfl) (by kernel_rfl) (by kernel_rfl) (fun _ _ _ h => h) (Or.inl ⟨by rfl, ?hy20t17⟩) hH ?r20t17
                case hy20t17 => (intro W hSw; (try dsimp only at hSw); go_simp; try (with_reducible rfl))
                try simp only [Act.put, List.setIfInBounds_toArray, List.set_cons_zero, List.set_cons_succ]
                refine wpAnyH_take (i := 21) (oi := { dst := some 113, op := Op.pick (Operand.tmp 109) (Operand.tmp 112) (Operand.const (Value.bool false)), type := 4, pos := "law.go:92", after := #[{ on := 17, ground := Ground.data }, { on := 20, ground := Ground.data }], guard := none }) (v := ?v21t18) rfl (by kernel_rfl) (by kernel_rfl) (by kernel_rfl) (fun _ _ _ h => h) (Or.inl ⟨by rfl, ?hy21t18⟩) hH ?r21t18
                case hy21t18 => (intro W hSw; (try dsimp only at hSw); go_simp; try (with_reducible rfl))
                try simp only [Act.put, List.setIfInBounds_toArray, List.set_cons_zero, List.set_cons_succ]
                refine wpAnyH_take (i := 22) (oi := { dst := some 114, op := Op.move (Operand.tmp 113), type := 4, pos := "law.go:92", after := #[{ on := 21, ground := Ground.data }, { on := 17, ground := Ground.chain }], guard := none }) (v := ?v22t19) rfl (by kernel_rfl) (by kernel_rfl) (by kernel_rfl) (fun _ _ _ h => h) (Or.inl ⟨by rfl, ?hy22t19⟩) hH ?r22t19
                case hy22t19 => (intro W hSw; (try dsimp only at hSw); go_simp; try (with_reducible rfl))
                try simp only [Act.put, List.setIfInBounds_toArray, List.set_cons_zero, List.set_cons_succ]
                refine wpAnyH_take (i := 23) (oi := { dst := some 115, op := Op.move (Operand.tmp 16), type := 26, pos := "law.go:92", after := #[{ on := 22, ground := Ground.guard }], guard := some (22, true) }) (v := ?v23t20) rfl (by kernel_rfl) (by kernel_rfl) (by kernel_rfl) (fun _ _ _ h => h) (Or.inl ⟨by rfl, ?hy23t20⟩) hH ?r23t20
                case hy23t20 => (intro W hSw; (try dsimp only at hSw); go_simp; try (with_reducible rfl))
                try simp only [Act.put, List.setIfInBounds_toArray, List.set_cons_zero, List.set_cons_succ]
                refine wpAnyH_take (i := 24) (oi := { dst := some 116, op := Op.move (Operand.tmp 9), type := 26, pos := "law.go:92", after := #[{ on := 22, ground := Ground.guard }], guard := some (22, true) }) (v := ?v24t21) rfl (by kernel_rfl) (by kernel_rfl) (by kernel_rfl) (fun _ _ _ h => h) (Or.inl ⟨by rfl, ?hy24t21⟩) hH ?r24t21
                case hy24t21 => (intro W hSw; (try dsimp only at hSw); go_simp; try (with_reducible rfl))
                try simp only [Act.put, List.setIfInBounds_toArray, List.set_cons_zero, List.set_cons_succ]
                refine wpAnyH_take (i := 25) (oi := { dst := some 117, op := Op.binOp BinOp.eql 26 (Operand.tmp 115) (Operand.tmp 116) 26, type := 4, pos := "law.go:92", after := #[{ on := 23, ground := Ground.data }, { on := 24, ground := Ground.data }, { on := 22, ground := Ground.guard }], guard := some (22, true) }) (v := ?v25t22) rfl (by kernel_rfl) (by kernel_rfl) (by kernel_rfl) (fun _ _ _ h => h) (Or.inl ⟨by rfl, ?hy25t22⟩) hH ?r25t22
                case hy25t22 => (intro W hSw; (try dsimp only at hSw); go_simp; try (with_reducible rfl))
                try simp only [Act.put, List.setIfInBounds_toArray, List.set_cons_zero, List.set_cons_succ]
                refine wpAnyH_take (i := 26) (oi := { dst := some 118, op := Op.pick (Operand.tmp 114) (Operand.tmp 117) (Operand.const (Value.bool false)), type := 4, pos := "law.go:92", after := #[{ on := 22, ground := Ground.data }, { on := 25, ground := Ground.data }], guard := none }) (v := ?v26t23) rfl (by kernel_rfl) (by kernel_rfl) (by kernel_rfl) (fun _ _ _ h => h) (Or.inl ⟨by rfl, ?hy26t23⟩) hH ?r26t23
                case hy26t23 => (intro W hSw; (try dsimp only at hSw); go_simp; try (with_reducible rfl))
                try simp only [Act.put, List.setIfInBounds_toArray, List.set_cons_zero, List.set_cons_succ]
                refine wpAnyH_take (i := 27) (oi := { dst := some 119, op := Op.move (Operand.tmp 118), type := 4, pos := "law.go:92", after := #[{ on := 26, ground := Ground.data }, { on := 22, ground := Ground.chain }], guard := none }) (v := ?v27t24) rfl (by kernel_rfl) (by kernel_rfl) (by kernel_rfl) (fun _ _ _ h => h) (Or.inl ⟨by rfl, ?hy27t24⟩) hH ?r27t24
                case hy27t24 => (intro W hSw; (try dsimp only at hSw); go_simp; try (with_reducible rfl))
                try simp only [Act.put, List.setIfInBounds_toArray, List.set_cons_zero, List.set_cons_succ]
                refine wpAnyH_take (i := 28) (oi := { dst := some 120, op := Op.move (Operand.tmp 19), type := 4, pos := "law.go:92", after := #[{ on := 27, ground := Ground.guard }], guard := some (27, true) }) (v := ?v28t25) rfl (by kernel_rfl) (by kernel_rfl) (by kernel_rfl) (fun _ _ _ h => h) (Or.inl ⟨by rfl, ?hy28t25⟩) hH ?r28t25
                case hy28t25 => (intro W hSw; (try dsimp only at hSw); go_simp; try (with_reducible rfl))
                try simp only [Act.put, List.setIfInBounds_toArray, List.set_cons_zero, List.set_cons_succ]
                refine wpAnyH_take (i := 29) (oi := { dst := some 121, op := Op.move (Operand.tmp 20), type := 4, pos := "law.go:92", after := #[{ on := 27, ground := Ground.guard }], guard := some (27, true) }) (v := ?v29t26) rfl (by kernel_rfl) (by kernel_rfl) (by kernel_rfl) (fun _ _ _ h => h) (Or.inl ⟨by rfl, ?hy29t26⟩) hH ?r29t26
                case hy29t26 => (intro W hSw; (try dsimp only at hSw); go_simp; try (with_reducible rfl))
                try simp only [Act.put, List.setIfInBounds_toArray, List.set_cons_zero, List.set_cons_succ]
                refine wpAnyH_take (i := 30) (oi := { dst := some 122, op := Op.binOp BinOp.eql 4 (Operand.tmp 120) (Operand.tmp 121) 4, type := 4, pos := "law.go:92", after := #[{ on := 28, ground := Ground.data }, { on := 29, ground := Ground.data }, { on := 27, ground := Ground.guard }], guard := some (27, true) }) (v := ?v30t27) rfl (by kernel_rfl) (by kernel_rfl) (by kernel_rfl) (fun _ _ _ h => h) (Or.inl ⟨by rfl, ?hy30t27⟩) hH ?r30t27
                case hy30t27 => (intro W hSw; (try dsimp only at hSw); go_simp; try (with_reducible rfl))
                try simp only [Act.put, List.setIfInBounds_toArray, List.set_cons_zero, List.set_cons_succ]
                refine wpAnyH_take (i := 31) (oi := { dst := some 123, op := Op.pick (Operand.tmp 119) (Operand.tmp 122) (Operand.const (Value.bool false)), type := 4, pos := "law.go:92", after := #[{ on := 27, ground := Ground.data }, { on := 30, ground := Ground.data }], guard := none }) (v := ?v31t28) rfl (by kernel_rfl) (by kernel_rfl) (by kernel_rfl) (fun _ _ _ h => h) (Or.inl ⟨by rfl, ?hy31t28⟩) hH ?r31t28
                case hy31t28 => (intro W hSw; (try dsimp only at hSw); go_simp; try (with_reducible rfl))
                try simp only [Act.put, List.setIfInBounds_toArray, List.set_cons_zero, List.set_cons_succ]
                refine wpAnyH_take (i := 32) (oi := { dst := some 124, op := Op.move (Operand.tmp 123), type := 4, pos := "law.go:92", after := #[{ on := 31, ground := Ground.data }, { on := 27, ground := Ground.chain }], guard := none }) (v := ?v32t29) rfl (by kernel_rfl) (by kernel_rfl) (by kernel_rfl) (fun _ _ _ h => h) (Or.inl ⟨by rfl, ?hy32t29⟩) hH ?r32t29
                case hy32t29 => (intro W hSw; (try dsimp only at hSw); go_simp; try (with_reducible rfl))
                try simp only [Act.put, List.setIfInBounds_toArray, List.set_cons_zero, List.set_cons_succ]
                refine wpAnyH_take (i := 33) (oi := { dst := some 125, op := Op.move (Operand.tmp 20), type := 4, pos := "law.go:92", after := #[{ on := 32, ground := Ground.guard }], guard := some (32, true) }) (v := ?v33t30) rfl (by kernel_rfl) (by kernel_rfl) (by kernel_rfl) (fun _ _ _ h => h) (Or.inl ⟨by rfl, ?hy33t30⟩) hH ?r33t30
                case hy33t30 => (intro W hSw; (try dsimp only at hSw); go_simp; try (with_reducible rfl))
                try simp only [Act.put, List.setIfInBounds_toArray, List.set_cons_zero, List.set_cons_succ]
                refine wpAnyH_take (i := 34) (oi := { dst := some 126, op := Op.unOp UnOp.not 4 (Operand.tmp 125), type := 4, pos := "law.go:92", after := #[{ on := 33, ground := Ground.data }, { on := 32, ground := Ground.guard }], guard := some (32, true) }) (v := ?v34t31) rfl (by kernel_rfl) (by kernel_rfl) (by kernel_rfl) (fun _ _ _ h => h) (Or.inl ⟨by rfl, ?hy34t31⟩) hH ?r34t31
                case hy34t31 => (intro W hSw; (try dsimp only at hSw); go_simp; try (with_reducible rfl))
                try simp only [Act.put, List.setIfInBounds_toArray, List.set_cons_zero, List.set_cons_succ]
                refine wpAnyH_take (i := 35) (oi := { dst := some 127, op := Op.move (Operand.tmp 126), type := 4, pos := "law.go:92", after := #[{ on := 34, ground := Ground.data }, { on := 32, ground := Ground.chain }, { on := 32, ground := Ground.guard }], guard := some (32, true) }) (v := ?v35t32) rfl (by kernel_rfl) (by kernel_rfl) (by kernel_rfl) (fun _ _ _ h => h) (Or.inl ⟨by rfl, ?hy35t32⟩) hH ?r35t32
                case hy35t32 => (intro W hSw; (try dsimp only at hSw); go_simp; try (with_reducible rfl))
                try simp only [Act.put, List.setIfInBounds_toArray, List.set_cons_zero, List.set_cons_succ]
                refine wpAnyH_take (i := 36) (oi := { dst := some 128, op := Op.load 29 (Operand.tmp 18), type := 29, pos := "law.go:92", after := #[{ on := 35, ground := Ground.guard }], guard := some (35, false) }) (v := ?v36t33) rfl (by kernel_rfl) (by kernel_rfl) (by kernel_rfl) (fun _ _ _ h => h) (Or.inl ⟨by rfl, ?hy36t33⟩) hH ?r36t33
                case hy36t33 => (intro W hSw; (try dsimp only at hSw); go_simp; try (with_reducible rfl))
                try simp only [Act.put, List.setIfInBounds_toArray, List.set_cons_zero, List.set_cons_succ]
                refine wpAnyH_take (i := 37) (oi := { dst := some 129, op := Op.move (Operand.tmp 1), type := 32, pos := "law.go:92", after := #[{ on := 35, ground := Ground.guard }], guard := some (35, false) }) (v := ?v37t34) rfl (by kernel_rfl) (by kernel_rfl) (by kernel_rfl) (fun _ _ _ h => h) (Or.inl ⟨by rfl, ?hy37t34⟩) hH ?r37t34
                case hy37t34 => (intro W hSw; (try dsimp only at hSw); go_simp; try (with_reducible rfl))
                try simp only [Act.put, List.setIfInBounds_toArray, List.set_cons_zero, List.set_cons_succ]
                refine wpAnyH_take (i := 38) (oi := { dst := some 130, op := Op.move (Operand.tmp 17), type := 3, pos := "law.go:92", after := #[{ on := 35, ground := Ground.guard }], guard := some (35, false) }) (v := ?v38t35) rfl (by kernel_rfl) (by kernel_rfl) (by kernel_rfl) (fun _ _ _ h => h) (Or.inl ⟨by rfl, ?hy38t35⟩) hH ?r38t35
                case hy38t35 => (intro W hSw; (try dsimp only at hSw); go_simp; try (with_reducible rfl))
                try simp only [Act.put, List.setIfInBounds_toArray, List.set_cons_zero, List.set_cons_succ]
                refine wpAnyH_take (i := 39) (oi := { dst := some 131, op := Op.indexAddr 32 (Operand.tmp 129) (Operand.tmp 130), type := 0, pos := "law.go:92", after := #[{ on := 37, ground := Ground.data }, { on := 38, ground := Ground.data }, { on := 35, ground := Ground.guard }], guard := some (35, false) }) (v := ?v39t36) rfl (by kernel_rfl) (by kernel_rfl) (by kernel_rfl) (fun _ _ _ h => h) (Or.inl ⟨by rfl, ?hy39t36⟩) hH ?r39t36
                case hy39t36 => (intro W hSw; (try dsimp only at hSw); go_simp; try (with_reducible rfl))
                try simp only [Act.put, List.setIfInBounds_toArray, List.set_cons_zero, List.set_cons_succ]
                refine wpAnyH_take (i := 40) (oi := { dst := some 132, op := Op.load 29 (Operand.tmp 131), type := 29, pos := "law.go:92", after := #[{ on := 39, ground := Ground.data }, { on := 35, ground := Ground.guard }], guard := some (35, false) }) (v := ?v40t37) rfl (by kernel_rfl) (by kernel_rfl) (by kernel_rfl) (fun _ _ _ h => h) (Or.inl ⟨by rfl, ?hy40t37⟩) hH ?r40t37
                case hy40t37 => (intro W hSw; (try dsimp only at hSw); go_simp; try (with_reducible rfl))
                try simp only [Act.put, List.setIfInBounds_toArray, List.set_cons_zero, List.set_cons_succ]
                refine wpAnyH_take (i := 41) (oi := { dst := some 133, op := Op.binOp BinOp.eql 29 (Operand.tmp 128) (Operand.tmp 132) 29, type := 4, pos := "law.go:92", after := #[{ on := 36, ground := Ground.data }, { on := 40, ground := Ground.data }, { on := 35, ground := Ground.guard }], guard := some (35, false) }) (v := ?v41t38) rfl (by kernel_rfl) (by kernel_rfl) (by kernel_rfl) (fun _ _ _ h => h) (Or.inl ⟨by rfl, ?hy41t38⟩) hH ?r41t38
                case hy41t38 => (intro W hSw; (try dsimp only at hSw); go_simp; try (with_reducible rfl))
                try simp only [Act.put, List.setIfInBounds_toArray, List.set_cons_zero, List.set_cons_succ]
                refine wpAnyH_take (i := 42) (oi := { dst := some 134, op := Op.pick (Operand.tmp 127) (Operand.const (Value.bool true)) (Operand.tmp 133), type := 4, pos := "law.go:92", after := #[{ on := 35, ground := Ground.data }, { on := 41, ground := Ground.data }, { on := 32, ground := Ground.guard }], guard := some (32, true) }) (v := ?v42t39) rfl (by kernel_rfl) (by kernel_rfl) (by kernel_rfl) (fun _ _ _ h => h) (Or.inl ⟨by rfl, ?hy42t39⟩) hH ?r42t39
                case hy42t39 => (intro W hSw; (try dsimp only at hSw); go_simp; try (with_reducible rfl))
                try simp only [Act.put, List.setIfInBounds_toArray, List.set_cons_zero, List.set_cons_succ]
                refine wpAnyH_take (i := 43) (oi := { dst := some 135, op := Op.pick (Operand.tmp 124) (Operand.tmp 134) (Operand.const (Value.bool false)), type := 4, pos := "law.go:92", after := #[{ on := 32, ground := Ground.data }, { on := 42, ground := Ground.data }], guard := none }) (v := ?v43t40) rfl (by kernel_rfl) (by kernel_rfl) (by kernel_rfl) (fun _ _ _ h => h) (Or.inl ⟨by rfl, ?hy43t40⟩) hH ?r43t40
                case hy43t40 => (intro W hSw; (try dsimp only at hSw); go_simp; try (with_reducible rfl))
                try simp only [Act.put, List.setIfInBounds_toArray, List.set_cons_zero, List.set_cons_succ]
                refine wpAnyH_take (i := 44) (oi := { dst := some 136, op := Op.move (Operand.tmp 135), type := 4, pos := "law.go:92", after := #[{ on := 43, ground := Ground.data }, { on := 35, ground := Ground.chain }], guard := none }) (v := ?v44t41) rfl (by kernel_rfl) (by kernel_rfl) (by kernel_rfl) (fun _ _ _ h => h) (Or.inl ⟨by rfl, ?hy44t41⟩) hH ?r44t41
                case hy44t41 => (intro W hSw; (try dsimp only at hSw); go_simp; try (with_reducible rfl))
                try simp only [Act.put, List.setIfInBounds_toArray, List.set_cons_zero, List.set_cons_succ]
                refine wpAnyH_take (i := 45) (oi := { dst := some 137, op := Op.move (Operand.tmp 20), type := 4, pos := "law.go:92", after := #[{ on := 44, ground := Ground.guard }], guard := some (44, true) }) (v := ?v45t42) rfl (by kernel_rfl) (by kernel_rfl) (by kernel_rfl) (fun _ _ _ h => h) (Or.inl ⟨by rfl, ?hy45t42⟩) hH ?r45t42
                case hy45t42 => (intro W hSw; (try dsimp only at hSw); go_simp; try (with_reducible rfl))
                try simp only [Act.put, List.setIfInBounds_toArray, List.set_cons_zero, List.set_cons_succ]
                refine wpAnyH_take (i := 46) (oi := { dst := some 138, op := Op.move (Operand.tmp 137), type := 4, pos := "law.go:92", after := #[{ on := 45, ground := Ground.data }, { on := 44, ground := Ground.chain }, { on := 44, ground := Ground.guard }], guard := some (44, true) }) (v := ?v46t43) rfl (by kernel_rfl) (by kernel_rfl) (by kernel_rfl) (fun _ _ _ h => h) (Or.inl ⟨by rfl, ?hy46t43⟩) hH ?r46t43
                case hy46t43 => (intro W hSw; (try dsimp only at hSw); go_simp; try (with_reducible rfl))
                try simp only [Act.put, List.setIfInBounds_toArray, List.set_cons_zero, List.set_cons_succ]
                refine wpAnyH_take (i := 47) (oi := { dst := some 139, op := Op.load 29 (Operand.tmp 18), type := 29, pos := "law.go:92", after := #[{ on := 46, ground := Ground.guard }], guard := some (46, false) }) (v := undef) rfl (by kernel_rfl) (by kernel_rfl) (by kernel_rfl) (fun _ _ _ h => h) (Or.inr ⟨by rfl, rfl⟩) hH ?r47t44
                try simp only [Act.put, List.setIfInBounds_toArray, List.set_cons_zero, List.set_cons_succ]
                refine wpAnyH_take (i := 48) (oi := { dst := some 140, op := Op.build 29 #[], type := 29, pos := "law.go:92", after := #[{ on := 46, ground := Ground.guard }], guard := some (46, false) }) (v := undef) rfl (by kernel_rfl) (by kernel_rfl) (by kernel_rfl) (fun _ _ _ h => h) (Or.inr ⟨by rfl, rfl⟩) hH ?r48t45
                try simp only [Act.put, List.setIfInBounds_toArray, List.set_cons_zero, List.set_cons_succ]
                refine wpAnyH_take (i := 49) (oi := { dst := some 141, op := Op.binOp BinOp.eql 29 (Operand.tmp 139) (Operand.tmp 140) 29, type := 4, pos := "law.go:92", after := #[{ on := 47, ground := Ground.data }, { on := 48, ground := Ground.data }, { on := 46, ground := Ground.guard }], guard := some (46, false) }) (v := undef) rfl (by kernel_rfl) (by kernel_rfl) (by kernel_rfl) (fun _ _ _ h => h) (Or.inr ⟨by rfl, rfl⟩) hH ?r49t46
                try simp only [Act.put, List.setIfInBounds_toArray, List.set_cons_zero, List.set_cons_succ]
                refine wpAnyH_take (i := 50) (oi := { dst := some 142, op := Op.pick (Operand.tmp 138) (Operand.const (Value.bool true)) (Operand.tmp 141), type := 4, pos := "law.go:92", after := #[{ on := 46, ground := Ground.data }, { on := 49, ground := Ground.data }, { on := 44, ground := Ground.guard }], guard := some (44, true) }) (v := ?v50t47) rfl (by kernel_rfl) (by kernel_rfl) (by kernel_rfl) (fun _ _ _ h => h) (Or.inl ⟨by rfl, ?hy50t47⟩) hH ?r50t47
                case hy50t47 => (intro W hSw; (try dsimp only at hSw); go_simp; try (with_reducible rfl))
                try simp only [Act.put, List.setIfInBounds_toArray, List.set_cons_zero, List.set_cons_succ]
                refine wpAnyH_take (i := 51) (oi := { dst := some 143, op := Op.pick (Operand.tmp 136) (Operand.tmp 142) (Operand.const (Value.bool false)), type := 4, pos := "law.go:92", after := #[{ on := 44, ground := Ground.data }, { on := 50, ground := Ground.data }], guard := none }) (v := ?v51t48) rfl (by kernel_rfl) (by kernel_rfl) (by kernel_rfl) (fun _ _ _ h => h) (Or.inl ⟨by rfl, ?hy51t48⟩) hH ?r51t48
                case hy51t48 => (intro W hSw; (try dsimp only at hSw); go_simp; try (with_reducible rfl))
                try simp only [Act.put, List.setIfInBounds_toArray, List.set_cons_zero, List.set_cons_succ]
                refine wpAnyH_take (i := 52) (oi := { dst := some 144, op := Op.move (Operand.tmp 143), type := 4, pos := "law.go:92", after := #[{ on := 51, ground := Ground.data }, { on := 46, ground := Ground.chain }], guard := none }) (v := ?v52t49) rfl (by kernel_rfl) (by kernel_rfl) (by kernel_rfl) (fun _ _ _ h => h) (Or.inl ⟨by rfl, ?hy52t49⟩) hH ?r52t49
                case hy52t49 => (intro W hSw; (try dsimp only at hSw); go_simp; try (with_reducible rfl))
                try simp only [Act.put, List.setIfInBounds_toArray, List.set_cons_zero, List.set_cons_succ]
                refine wpAnyH_take (i := 53) (oi := { dst := some 145, op := Op.load 24 (Operand.tmp 3), type := 24, pos := "law.go:92", after := #[{ on := 52, ground := Ground.guard }], guard := some (52, true) }) (v := ?v53t50) rfl (by kernel_rfl) (by kernel_rfl) (by kernel_rfl) (fun _ _ _ h => h) (Or.inl ⟨by rfl, ?hy53t50⟩) hH ?r53t50
                case hy53t50 => (intro W hSw; (try dsimp only at hSw); go_simp; try (with_reducible rfl))
                try simp only [Act.put, List.setIfInBounds_toArray, List.set_cons_zero, List.set_cons_succ]
                refine wpAnyH_take (i := 55) (oi := { dst := some 147, op := Op.move (Operand.tmp 13), type := 3, pos := "law.go:92", after := #[{ on := 52, ground := Ground.guard }], guard := some (52, true) }) (v := ?v55t51) rfl (by kernel_rfl) (by kernel_rfl) (by kernel_rfl) (fun _ _ _ h => h) (Or.inl ⟨by rfl, ?hy55t51⟩) hH ?r55t51
                case hy55t51 => (intro W hSw; (try dsimp only at hSw); go_simp; try (with_reducible rfl))
                try simp only [Act.put, List.setIfInBounds_toArray, List.set_cons_zero, List.set_cons_succ]
                refine wpAnyH_take (i := 56) (oi := { dst := some 148, op := Op.binOp BinOp.mul 3 (Operand.const (Value.int IntKind.i64 2)) (Operand.tmp 147) 3, type := 3, pos := "law.go:92", after := #[{ on := 55, ground := Ground.data }, { on := 52, ground := Ground.guard }], guard := some (52, true) }) (v := ?v56t52) rfl (by kernel_rfl) (by kernel_rfl) (by kernel_rfl) (fun _ _ _ h => h) (Or.inl ⟨by rfl, ?hy56t52⟩) hH ?r56t52
                case hy56t52 => (intro W hSw; (try dsimp only at hSw); go_simp; try (with_reducible rfl))
                try simp only [Act.put, List.setIfInBounds_toArray, List.set_cons_zero, List.set_cons_succ]
                refine wpAnyH_ready (rs := [54]) (by kernel_rfl) (by simp) ?_
                refine AllReadyH.cons (o := { dst := some 146, op := Op.call { callee := Callee.value (Operand.func 23), args := #[Operand.tmp 145], argTypes := #[24] }, type := 3, pos := "law.go:92", after := #[{ on := 53, ground := Ground.data }, { on := 52, ground := Ground.chain }, { on := 52, ground := Ground.guard }], guard := some (52, true) }) rfl (fun K hKq => ?_) AllReadyH.nil
                go_simp
                refine (height_any r _ (Ok.kp HR.out KQ).i).mono ?_
                rintro e y5 ⟨rfl, kq⟩
                rw [HH.out]
                refine hKq.out _ _ (MK.out _ (KQ.trans kq)) (fun hN => ?_)
                clear kq
                clear hKq K hH KQ
                have hH := hN
                clear hN
                have KQ := hH.2.2.2.2.2.out
                try simp only [Act.put, List.setIfInBounds_toArray, List.set_cons_zero, List.set_cons_succ]
                refine wpAnyH_take (i := 57) (oi := { dst := some 149, op := Op.binOp BinOp.leq 3 (Operand.tmp 146) (Operand.tmp 148) 3, type := 4, pos := "law.go:92", after := #[{ on := 54, ground := Ground.data }, { on := 56, ground := Ground.data }, { on := 52, ground := Ground.guard }], guard := some (52, true) }) (v := ?v57t53) rfl (by kernel_rfl) (by kernel_rfl) (by kernel_rfl) (fun _ _ _ h => h) (Or.inl ⟨by rfl, ?hy57t53⟩) hH ?r57t53
                case hy57t53 => (intro W hSw; (try dsimp only at hSw); go_simp; try (with_reducible rfl))
                try simp only [Act.put, List.setIfInBounds_toArray, List.set_cons_zero, List.set_cons_succ]
                refine wpAnyH_take (i := 58) (oi := { dst := some 150, op := Op.pick (Operand.tmp 144) (Operand.tmp 149) (Operand.const (Value.bool false)), type := 4, pos := "law.go:92", after := #[{ on := 52, ground := Ground.data }, { on := 57, ground := Ground.data }], guard := none }) (v := ?v58t54) rfl (by kernel_rfl) (by kernel_rfl) (by kernel_rfl) (fun _ _ _ h => h) (Or.inl ⟨by rfl, ?hy58t54⟩) hH ?r58t54
                case hy58t54 => (intro W hSw; (try dsimp only at hSw); go_simp; try (with_reducible rfl))
                try simp only [Act.put, List.setIfInBounds_toArray, List.set_cons_zero, List.set_cons_succ]
                refine wpAnyH_take (i := 59) (oi := { dst := some 151, op := Op.move (Operand.tmp 150), type := 4, pos := "law.go:92", after := #[{ on := 58, ground := Ground.data }, { on := 54, ground := Ground.chain }], guard := none }) (v := ?v59t55) rfl (by kernel_rfl) (by kernel_rfl) (by kernel_rfl) (fun _ _ _ h => h) (Or.inl ⟨by rfl, ?hy59t55⟩) hH ?r59t55
                case hy59t55 => (intro W hSw; (try dsimp only at hSw); go_simp; try (with_reducible rfl))
                try simp only [Act.put, List.setIfInBounds_toArray, List.set_cons_zero, List.set_cons_succ]
                refine wpAnyH_take (i := 60) (oi := { dst := some 152, op := Op.load 24 (Operand.tmp 3), type := 24, pos := "law.go:92", after := #[{ on := 59, ground := Ground.guard }], guard := some (59, true) }) (v := ?v60t56) rfl (by kernel_rfl) (by kernel_rfl) (by kernel_rfl) (fun _ _ _ h => h) (Or.inl ⟨by rfl, ?hy60t56⟩) hH ?r60t56
                case hy60t56 => (intro W hSw; (try dsimp only at hSw); go_simp; try (with_reducible rfl))
                try simp only [Act.put, List.setIfInBounds_toArray, List.set_cons_zero, List.set_cons_succ]
                refine wpAnyH_take (i := 62) (oi := { dst := some 154, op := Op.move (Operand.tmp 13), type := 3, pos := "law.go:92", after := #[{ on := 59, ground := Ground.guard }], guard := some (59, true) }) (v := ?v62t57) rfl (by kernel_rfl) (by kernel_rfl) (by kernel_rfl) (fun _ _ _ h => h) (Or.inl ⟨by rfl, ?hy62t57⟩) hH ?r62t57
                case hy62t57 => (intro W hSw; (try dsimp only at hSw); go_simp; try (with_reducible rfl))
                try simp only [Act.put, List.setIfInBounds_toArray, List.set_cons_zero, List.set_cons_succ]
                refine wpAnyH_take (i := 63) (oi := { dst := some 155, op := Op.call { callee := Callee.builtin Builtin.min, args := #[Operand.tmp 154, Operand.const (Value.int IntKind.i64 1)], argTypes := #[3, 3] }, type := 3, pos := "law.go:92", after := #[{ on := 62, ground := Ground.data }, { on := 59, ground := Ground.guard }], guard := some (59, true) }) (v := ?v63t58) rfl (by kernel_rfl) (by kernel_rfl) (by kernel_rfl) (fun _ _ _ h => h) (Or.inl ⟨by rfl, ?hy63t58⟩) hH ?r63t58
                case hy63t58 => (intro W hSw; (try dsimp only at hSw); go_simp; try (with_reducible rfl))
                try simp only [Act.put, List.setIfInBounds_toArray, List.set_cons_zero, List.set_cons_succ]
                refine wpAnyH_ready (rs := [61]) (by kernel_rfl) (by simp) ?_
                refine AllReadyH.cons (o := { dst := some 153, op := Op.call { callee := Callee.value (Operand.func 23), args := #[Operand.tmp 152], argTypes := #[24] }, type := 3, pos := "law.go:92", after := #[{ on := 60, ground := Ground.data }, { on := 59, ground := Ground.chain }, { on := 59, ground := Ground.guard }], guard := some (59, true) }) rfl (fun K hKq => ?_) AllReadyH.nil
                go_simp
                refine (height_any r _ (Ok.kp HR.out KQ).i).mono ?_
                rintro e y6 ⟨rfl, kq⟩
                rw [HH.out]
                refine hKq.out _ _ (MK.out _ (KQ.trans kq)) (fun hN => ?_)
                clear kq
                clear hKq K hH KQ
                have hH := hN
                clear hN
                have KQ := hH.2.2.2.2.2.out
                try simp only [Act.put, List.setIfInBounds_toArray, List.set_cons_zero, List.set_cons_succ]
                refine wpAnyH_take (i := 64) (oi := { dst := some 156, op := Op.binOp BinOp.geq 3 (Operand.tmp 153) (Operand.tmp 155) 3, type := 4, pos := "law.go:92", after := #[{ on := 61, ground := Ground.data }, { on := 63, ground := Ground.data }, { on := 59, ground := Ground.guard }], guard := some (59, true) }) (v := ?v64t59) rfl (by kernel_rfl) (by kernel_rfl) (by kernel_rfl) (fun _ _ _ h => h) (Or.inl ⟨by rfl, ?hy64t59⟩) hH ?r64t59
                case hy64t59 => (intro W hSw; (try dsimp only at hSw); go_simp; try (with_reducible rfl))
                try simp only [Act.put, List.setIfInBounds_toArray, List.set_cons_zero, List.set_cons_succ]
                refine wpAnyH_take (i := 65) (oi := { dst := some 157, op := Op.pick (Operand.tmp 151) (Operand.tmp 156) (Operand.const (Value.bool false)), type := 4, pos := "law.go:92", after := #[{ on := 59, ground := Ground.data }, { on := 64, ground := Ground.data }], guard := none }) (v := ?v65t60) rfl (by kernel_rfl) (by kernel_rfl) (by kernel_rfl) (fun _ _ _ h => h) (Or.inl ⟨by rfl, ?hy65t60⟩) hH ?r65t60
                case hy65t60 => (intro W hSw; (try dsimp only at hSw); go_simp; try (with_reducible rfl))
                try simp only [Act.put, List.setIfInBounds_toArray, List.set_cons_zero, List.set_cons_succ]
                refine wpAnyH_take (i := 66) (oi := { dst := some 6, op := Op.assign (Operand.tmp 157), type := 4, pos := "law.go:92", after := ([{ on := 65, ground := Ground.data }, { on := 61, ground := Ground.chain }, { on := 0, ground := Ground.phase }, { on := 1, ground := Ground.phase }, { on := 2, ground := Ground.phase }, { on := 3, ground := Ground.phase }, { on := 4, ground := Ground.phase }, { on := 5, ground := Ground.phase }, { on := 6, ground := Ground.phase }, { on := 7, ground := Ground.phase }, { on := 8, ground := Ground.phase }, { on := 9, ground := Ground.phase }, { on := 10, ground := Ground.phase }, { on := 11, ground := Ground.phase }, { on := 12, ground := Ground.phase }, { on := 13, ground := Ground.phase }, { on := 14, ground := Ground.phase }, { on := 15, ground := Ground.phase }, { on := 16, ground := Ground.phase }, { on := 17, ground := Ground.phase }, { on := 18, ground := Ground.phase }, { on := 19, ground := Ground.phase }, { on := 20, ground := Ground.phase }, { on := 21, ground := Ground.phase }, { on := 22, ground := Ground.phase }, { on := 23, ground := Ground.phase }, { on := 24, ground := Ground.phase }, { on := 25, ground := Ground.phase }, { on := 26, ground := Ground.phase }, { on := 27, ground := Ground.phase }, { on := 28, ground := Ground.phase }, { on := 29, ground := Ground.phase }, { on := 30, ground := Ground.phase }, { on := 31, ground := Ground.phase }].append [{ on := 32, ground := Ground.phase }, { on := 33, ground := Ground.phase }, { on := 34, ground := Ground.phase }, { on := 35, ground := Ground.phase }, { on := 36, ground := Ground.phase }, { on := 37, ground := Ground.phase }, { on := 38, ground := Ground.phase }, { on := 39, ground := Ground.phase }, { on := 40, ground := Ground.phase }, { on := 41, ground := Ground.phase }, { on := 42, ground := Ground.phase }, { on := 43, ground := Ground.phase }, { on := 44, ground := Ground.phase }, { on := 45, ground := Ground.phase }, { on := 46, ground := Ground.phase }, { on := 47, ground := Ground.phase }, { on := 48, ground := Ground.phase }, { on := 49, ground := Ground.phase }, { on := 50, ground := Ground.phase }, { on := 51, ground := Ground.phase }, { on := 52, ground := Ground.phase }, { on := 53, ground := Ground.phase }, { on := 54, ground := Ground.phase }, { on := 55, ground := Ground.phase }, { on := 56, ground := Ground.phase }, { on := 57, ground := Ground.phase }, { on := 58, ground := Ground.phase }, { on := 59, ground := Ground.phase }, { on := 60, ground := Ground.phase }, { on := 61, ground := Ground.phase }, { on := 62, ground := Ground.phase }, { on := 63, ground := Ground.phase }, { on := 64, ground := Ground.phase }, { on := 65, ground := Ground.phase }]).toArray, guard := none }) (v := ?v66t61) rfl (by kernel_rfl) (by kernel_rfl) (by kernel_rfl) (fun _ _ _ h => h) (Or.inl ⟨by rfl, ?hy66t61⟩) hH ?r66t61
                case hy66t61 => (intro W hSw; (try dsimp only at hSw); go_simp; try (with_reducible rfl))
                try simp only [Act.put, List.setIfInBounds_toArray, List.set_cons_zero, List.set_cons_succ]
                refine wpAnyH_done (by kernel_rfl) ?_ _
                refine NoPanic.normal ?_
                go_wp2_with fail
                go_ret
                exact ⟨rfl, (V0.out.2.trans K5.out).trans KQ⟩

/-- A rope and a slice of its items look alike, whatever number is asked. -/
theorem looks_any (r : Option T) (xs : List It) (v : Value) (q : Int) (w : World) (hr : Ok w r xs) (hv : Sl w v xs) (hs : Sm xs) (hn : xs.length ≤ 5000) :
    Calls Try.prog 17 #[rv r, v, .int .i64 q] w fun e w' => e = .returned (.bool true) ∧ Kp w w' := by
  obtain ⟨a, n, c, rfl, ha⟩ : ∃ a n c, v = .slice a n c ∧ Sv w a n xs := by
    rcases hv with ⟨B, o, cap, rfl, hrow, _, _⟩ | ⟨rfl, rfl⟩
    · exact ⟨_, _, _, rfl, rfl, Or.inl ⟨B, o, rfl, hrow⟩⟩
    · exact ⟨_, _, _, rfl, rfl, Or.inr rfl⟩
  have hl := ha.1
  by_cases h : 0 ≤ wit q (-2) (n + 1) ∧ wit q (-2) (n + 1) < n
  · obtain ⟨j, hj⟩ := Int.eq_ofNat_of_zero_le h.1
    have hlt : j < xs.length := by rw [hl]; have := h.2; omega
    have hx : xs[j]? = some xs[j] := List.getElem?_eq_getElem hlt
    refine looks_walk r xs a n c q w true xs[j].key (F (xs[j].l : Nat)) (F (xs[j].y : Nat)) hr hv ha hs (by omega) (by simp [h]) ?_ ?_
    · intro w1 k1
      rw [hj]
      have hr1 := hr.kp k1
      cases r with
      | none => have := hr1.e; simp only [itemsO] at this; rw [← this] at hlt; simp at hlt
      | some t =>
        have e := hr1.e
        simp only [itemsO] at e
        exact at_in t j xs[j] w1 hr1.i (by rw [e]; exact hx) (by rw [e]; omega)
    · show if true = true then _ else _
      rw [if_pos rfl]
      exact ⟨j, xs[j], hj, hx, rfl, rfl, rfl⟩
  · refine looks_walk r xs a n c q w false 0 0 0 hr hv ha hs (by omega) (by simp; omega) ?_ ?_
    · intro w1 k1
      have hr1 := hr.kp k1
      exact at_out r _ w1 hr1.i (by rw [hr1.e, hl]; omega)
    · show if false = true then _ else _
      rw [if_neg (by decide)]
      exact ⟨rfl, rfl, rfl⟩
end Go.Proofs.Ytjphjnpcpbenlaa
