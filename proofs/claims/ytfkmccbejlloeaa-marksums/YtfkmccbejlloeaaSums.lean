/-
  The law MarkSums, walked up to its loop's end.
-/
import Derived.Test.YtfkmccbejlloeaaTurned
import Derived.Deep.QuietTactic
import Derived.BigQuiet
import Derived.Deep.DeepCutAuto
import Derived.Maps.AppendAt
import Derived.Deep.RegionHeld3
import Derived.Deep.RegionLaw
namespace Go.Proofs.Ytfkmccbejlloeaa
open Go.RowKit

/-- The book's Within(n, 0, hi). -/
def wi (n hi : Int) : Int := if n.tmod (hi + 1) < 0 then n.tmod (hi + 1) + hi + 1 else n.tmod (hi + 1)

theorem wi_bd (n hi : Int) (h0 : 0 ≤ hi) : 0 ≤ wi n hi ∧ wi n hi ≤ hi := by
  have hm1 : -(hi + 1) < n.tmod (hi + 1) := by
    have h2 := Int.tmod_lt_of_pos (-n) (show 0 < hi + 1 by omega)
    rw [Int.neg_tmod] at h2; omega
  have hm2 : n.tmod (hi + 1) < hi + 1 := Int.tmod_lt_of_pos n (by omega)
  unfold wi
  split <;> omega

theorem ret_int {k : IntKind} {a b : Int} (h : a = b) : Ending.returned (.int k a) = .returned (.int k b) := by rw [h]

theorem within_is (n hi : Int) (w : World) (h0 : 0 ≤ hi) (h1 : hi ≤ 1099511627776) :
    Calls Try.prog 14 #[.int .i64 n, .int .i64 0, .int .i64 hi] w fun e w' => e = .returned (.int .i64 (wi n hi)) ∧ w' = w := by
  have hm1 : -(hi + 1) < n.tmod (hi + 1) := by
    have h2 := Int.tmod_lt_of_pos (-n) (show 0 < hi + 1 by omega)
    rw [Int.neg_tmod] at h2; omega
  have hm2 : n.tmod (hi + 1) < hi + 1 := Int.tmod_lt_of_pos n (by omega)
  by_cases hneg : n.tmod (hi + 1) < 0
  · have hw : Hid (n.tmod (hi + 1) + hi + 1 = wi n hi) := by show _ = _; unfold wi; rw [if_pos hneg]
    go_enter Try.func14, Try.ntmps14
    go_wp2
    go_ret
    exact ⟨ret_int hw.out, rfl⟩
  · have hw : Hid (n.tmod (hi + 1) = wi n hi) := by show _ = _; unfold wi; rw [if_neg hneg]
    go_enter Try.func14, Try.ntmps14
    go_wp2
    go_ret
    exact ⟨ret_int hw.out, rfl⟩

theorem ceql_true {P : Program} (t : TypeId) (a b c d : Int) (ha : a.natAbs < 2 ^ 53) (hb : b.natAbs < 2 ^ 53) (h1 : a = c) (h2 : b = d) (w : World) :
    (binOp .eql t (.complex .f64 (F a) (F b)) (.complex .f64 (F c) (F d))).run P w = .ok (.bool true) w := by
  subst h1; subst h2
  rw [run_ceql t a b a b ha hb ha hb]; simp

theorem sum_pair (a b c d : Int) (W : World) (B : Nat) (hc0 : W.cell? ⟨B, 0, none⟩ = some (.complex .f64 (F a) (F b))) (hc1 : W.cell? ⟨B, 1, none⟩ = some (.complex .f64 (F c) (F d)))
    (ha : 0 ≤ a) (hb : 0 ≤ b) (hc : 0 ≤ c) (hd : 0 ≤ d) (h1 : a + c < 9007199254740992) (h2 : b + d < 9007199254740992) :
    Calls Try.prog 8 #[.slice (some ⟨B, 0, none⟩) 2 2] W fun e w' => e = .returned (.complex .f64 (F (a + c)) (F (b + d))) ∧ w' = W := by
  have e1 : psum (fun j => if j = 0 then a else c) 2 = a + c := by simp [psum]
  have e2 : psum (fun j => if j = 0 then b else d) 2 = b + d := by simp [psum]
  have := sum_any (fun j => if j = 0 then a else c) (fun j => if j = 0 then b else d) B 0 2 2 W (by omega)
    (by intro j hj; have : j = 0 ∨ j = 1 := by omega
        rcases this with rfl | rfl
        · exact hc0
        · exact hc1)
    (by intro j hj; show 0 ≤ ite _ _ _; split <;> assumption) (by intro j hj; show 0 ≤ ite _ _ _; split <;> assumption) (by rw [e1]; exact h1) (by rw [e2]; exact h2)
  rw [e1, e2] at this
  exact this

theorem bel_alloc {w W : World} (h : Below w.heap.size w W) (o : Obj) : Below w.heap.size w (W.alloc o) := h.alloc h.size o
theorem bel_trans {w W X : World} (h : Below w.heap.size w W) (k : Below W.heap.size W X) : Below w.heap.size w X := h.trans (k.mono h.size)

/-- A mark put behind those that the call owns. -/
theorem wpList_append_mark {ops : Array Oper} {rest : List Oper} {o : Oper} {a : Act} {Q : Exit → Act → World → Prop} (W : World) (hgd : o.guard = none) (s x : Operand)
    (ho : o.op = .call { callee := .builtin .append, args := #[s, x], argTypes := #[33, 33] })
    (base : Nat) (v u : Value) (n : Nat) (xs : List Value) (hs : a.eval s = v) (hown : Hid (W.ownsRow base 22 1 v n xs)) (B : Nat) (hB : B = W.heap.size)
    (hx : a.eval x = .slice (some ⟨B, 0, none⟩) 1 1) (h1 : u.oneCell' = true) (h63 : n ≤ 900) (hbase : base ≤ W.heap.size)
    (h : ∀ v' w', w'.ownsRow base 22 1 v' (n + 1) (xs ++ [u]) → (W.alloc (.cells #[u] 22)).grownBy w' v.ownBlock → wpList Try.prog ops Q rest (a.put o.dst v') w') :
    wpList Try.prog ops Q (o :: rest) a (W.alloc (.cells #[u] 22)) := by
  obtain ⟨i, hi, hz, hsz, hby⟩ := info22
  subst hB
  refine wpList_append_own_at (W.alloc (.cells #[u] 22)) hgd s x 33 ho base 22 i (.complex .f64 0 0) 1 16 Try.underlying33 hi hz hsz hby rfl (by omega) v n xs hs (hown.out.alloc _) ⟨W.heap.size, 0, none⟩ 1 1 [u] hx rfl ?_ ?_ (by unfold maxLen; omega) (by omega) (by simp; omega) ?_
  · intro j y hj
    match j, hj with
    | 0, hj => simp at hj; subst hj; simp [Addr.add]
  · intro y hy; simp at hy; subst hy; exact h1
  · intro v' w' a1 a2 _ _
    exact h v' w' a1 a2

/-- What the loop has gathered after k rounds: the slice owns k marks; the sums so far; old memory as it was. -/
def Gathered (f g : Nat → Int) (w wr : World) (v : Value) (k : Nat) : Prop :=
  wr.ownsRow w.heap.size 22 1 v k (marks f g k) ∧ Below w.heap.size w wr

theorem gathered_put (f g : Nat → Int) (w W w2 : World) (v v' : Value) (k : Nat) (ho : W.ownsRow w.heap.size 22 1 v k (marks f g k)) (hb : Below w.heap.size w W)
    (ho' : w2.ownsRow w.heap.size 22 1 v' (k + 1) (marks f g k ++ [.complex .f64 (F (f k)) (F (g k))])) (hg : (W.alloc (.cells #[.complex .f64 (F (f k)) (F (g k))] 22)).grownBy w2 v.ownBlock) :
    Gathered f g w w2 v' (k + 1) := by
  refine ⟨by rw [marks_succ]; exact ho', ?_⟩
  exact (hb.alloc hb.size _).grown hg (by have := hb.size; simp; omega) (fun b hb' => (ho.lt b hb').1)

set_option maxRecDepth 100000 in
set_option maxHeartbeats 2000000 in
theorem sums_walk (a0 a1 : Option Addr) (b0 o0 b1 o1 len0 cap0 len1 cap1 : Nat) (z0 z1 : List Int) (cut : Int) (w : World)
    (hl0 : len0 ≤ z0.length) (hl1 : len1 ≤ z1.length)
    (hc0 : ∀ i, i < z0.length → w.cell? ⟨b0, o0 + i, none⟩ = some (.int .i64 (z0.getD i 0))) (hc1 : ∀ i, i < z1.length → w.cell? ⟨b1, o1 + i, none⟩ = some (.int .i64 (z1.getD i 0)))
    (ha0 : 0 < len0 → a0 = some ⟨b0, o0, none⟩ ∧ b0 < w.heap.size) (ha1 : 0 < len1 → a1 = some ⟨b1, o1, none⟩ ∧ b1 < w.heap.size) :
    Calls Try.prog 5 #[.slice a0 len0 cap0, .slice a1 len1 cap1, .int .i64 cut] w fun e w' => e = .returned (.bool true) ∧ Below w.heap.size w w' := by
  have HA0 : Hid (0 < len0 → a0 = some ⟨b0, o0, none⟩ ∧ b0 < w.heap.size) := ha0
  have HA1 : Hid (0 < len1 → a1 = some ⟨b1, o1, none⟩ ∧ b1 < w.heap.size) := ha1
  clear ha0 ha1
  have HC0 : Hid (∀ i, i < z0.length → w.cell? ⟨b0, o0 + i, none⟩ = some (.int .i64 (z0.getD i 0))) := hc0
  have HC1 : Hid (∀ i, i < z1.length → w.cell? ⟨b1, o1 + i, none⟩ = some (.int .i64 (z1.getD i 0))) := hc1
  clear hc0 hc1
  obtain ⟨f, hf⟩ : ∃ f : Nat → Int, ∀ j, wi (z0[j]?.getD 0) 1073741824 = f j := ⟨_, fun _ => rfl⟩
  obtain ⟨g, hg⟩ : ∃ g : Nat → Int, ∀ j, wi (z1[j]?.getD 0) 1073741824 = g j := ⟨_, fun _ => rfl⟩
  have HF : Hid (∀ j, wi (z0[j]?.getD 0) 1073741824 = f j) := hf
  have HG : Hid (∀ j, wi (z1[j]?.getD 0) 1073741824 = g j) := hg
  have BF : Hid (∀ j, 0 ≤ f j ∧ f j ≤ 1073741824) := fun j => by rw [← hf j]; exact wi_bd _ _ (by omega)
  have BG : Hid (∀ j, 0 ≤ g j ∧ g j ≤ 1073741824) := fun j => by rw [← hg j]; exact wi_bd _ _ (by omega)
  clear hf hg
  go_enter Try.func5, Try.ntmps5
  go_wp2_with fail
  go_loopw [7, 8, 9, 10] (fun v l y i wr => ∃ k : Nat, k ≤ len0 ∧ k ≤ len1 ∧ k ≤ 20 ∧ i = .int .i64 k ∧ l = .int .i64 (psum f k) ∧ y = .int .i64 (psum g k) ∧ Gathered f g w wr v k) (fun _ _ _ i _ => 20 - (intOf i).toNat)
  case atStart => exact ⟨0, Nat.zero_le _, Nat.zero_le _, by omega, rfl, rfl, rfl, World.ownsRow_nil _ _ _ _, Below.refl _ _⟩
  case round =>
    obtain ⟨k, hk0, hk1, hk2, rfl, rfl, rfl, hown, hbel⟩ := hrel
    by_cases hlt : k < len0 ∧ k < len1 ∧ k < 20
    · obtain ⟨h1, h2, h3⟩ := hlt
      obtain ⟨rfl, hb0⟩ := HA0.out (by omega)
      obtain ⟨rfl, hb1⟩ := HA1.out (by omega)
      clear HA0 HA1
      have c0 : wr.cell? ⟨b0, o0 + k, none⟩ = some (.int .i64 (z0[k]?.getD 0)) := (hbel.cell (p := ⟨b0, o0 + k, none⟩) hb0).trans (HC0.out k (by omega))
      have c1 : wr.cell? ⟨b1, o1 + k, none⟩ = some (.int .i64 (z1[k]?.getD 0)) := (hbel.cell (p := ⟨b1, o1 + k, none⟩) hb1).trans (HC1.out k (by omega))
      have HO : Hid (wr.ownsRow w.heap.size 22 1 _ k (marks f g k)) := hown
      have HB : Hid (Below w.heap.size w wr) := hbel
      have hsz : w.heap.size ≤ wr.heap.size := hbel.size
      clear hown hbel
      have i0 : (0 : Int) ≤ (k : Int) := by omega
      have i1 : (k : Int) < (len0 : Int) := by omega
      have i2 : (k : Int) < (len1 : Int) := by omega
      have bf := BF.out k
      have bg := BG.out k
      have sf := psum_le f BF.out k (by omega)
      have sg := psum_le g BG.out k (by omega)
      go_wp2_with fail
      go_quiet ((go_at_call 14; exact Calls.quiet_of_same (within_is _ _ _ (by omega) (by omega))))
      rw [HF.out k, HG.out k]
      obtain ⟨W, hW⟩ : ∃ W, wr.drewN nq = W := ⟨_, rfl⟩
      have HO' : Hid (W.ownsRow w.heap.size 22 1 u7 k (marks f g k)) := by subst hW; exact HO.out
      have HB' : Hid (Below w.heap.size w W) := by subst hW; exact below_drewN HB.out nq
      have hsz' : w.heap.size ≤ W.heap.size := by subst hW; exact hsz
      clear HO HB hsz c0 c1
      rw [hW]
      clear hW
      go_wp2_with (first | (go_at_call 9; refine (of_any _ _ _).mono ?_; rintro e w1 ⟨rfl, rfl⟩) | (at_builtin; go_must (refine wpList_append_mark _ (by rfl) _ _ (by rfl) w.heap.size u7 (.complex .f64 (F (f k)) (F (g k))) k _ (by rfl) HO' _ (by rfl) (by rfl) (by rfl) ?h1 ?h2 ?_)))
      case h1 => omega
      case h2 => exact hsz'
      intro v' w2 hown' hgrow
      have HN : Hid (Gathered f g w w2 v' (k + 1)) := gathered_put f g w w1 w2 u7 v' k HO'.out HB'.out hown' hgrow
      clear hown' hgrow
      go_wp2_with fail
      exact ⟨⟨k + 1, by omega, by omega, by omega, by go_num, rfl, rfl, HN.out⟩, by simp [intOf]; omega⟩
    · clear HA0 HA1
      have HN : Hid (Gathered f g w wr u7 k) := ⟨hown, hbel⟩
      have HK : Hid (k ≤ len0 ∧ k ≤ len1 ∧ k ≤ 20) := ⟨hk0, hk1, hk2⟩
      clear hown hbel
      go_upto_region 4 with fail
      go_cut [29] (fun b wc => b = .bool false ∧ wc = wr)
      case first =>
        by_cases q0 : k < len0
        · by_cases q1 : k < len1
          · have q2 : decide ((k : Int) < 20) = false := by simp; omega
            go_wp2_with fail
            go_meet
            case rel => exact ⟨rfl, rfl⟩
          · go_wp2_with fail
            go_meet
            case rel => exact ⟨rfl, rfl⟩
        · go_wp2_with fail
          go_meet
          case rel => exact ⟨rfl, rfl⟩
      case rest =>
        obtain ⟨rfl, rfl⟩ := hcut
        rcases HN.out.1.2 with ⟨rfl, hn⟩ | ⟨g0, cp, cur, rfl, q1, q2, q3, q4, q5, q6⟩
        · subst hn
          have HBW : Below w.heap.size w wc := HN.out.2
          clear HF HG HC0 HC1 BF BG HN HK
          go_wp2_with fail
          refine (within_is cut 0 _ (by omega) (by omega)).mono ?_
          rintro e w1 ⟨rfl, rfl⟩
          rw [show wi cut 0 = 0 by have := wi_bd cut 0 (by omega); omega]
          go_wp2_with fail
          refine (sum_nil _).mono ?_
          rintro e w2 ⟨rfl, rfl⟩
          go_wp2_with fail
          go_region_held3 (fun W => Below w.heap.size w W) (first | exact HBW.drew | exact (HBW.alloc HBW.size _).drew)
            (first
              | (refine step_none w.heap.size _ (by rfl) _ _ (by rfl) _ 0 [] (by rfl) (made_none w _ HBW) (by rfl) ?_)
              | (go_at_call 8; refine (sum_none _ _ _ _).mono ?_; rintro e w5 ⟨rfl, rfl⟩))
          rw [show psum f 0 = 0 from rfl, show psum g 0 = 0 from rfl]
          have e2 := ceql_true (P := Try.prog) 22 0 0 0 0 (by decide) (by decide) rfl rfl
          have LE : Hid (∀ W, Calls Try.prog 15 #[.complex .f64 (F 0) (F 0), .complex .f64 (F 0) (F 0)] W fun e w' => e = .returned (.complex .f64 (F 0) (F 0)) ∧ w' = W) := fun W => less_any 0 0 0 0 W (by decide) (by decide) (by decide) (by decide) (by decide) (by decide)
          have TW : Hid (∀ (W : World) (B : Nat), W.cell? ⟨B, 0, none⟩ = some (.complex .f64 (F 0) (F 0)) → W.cell? ⟨B, 1, none⟩ = some (.complex .f64 (F 0) (F 0)) → Calls Try.prog 8 #[.slice (some ⟨B, 0, none⟩) 2 2] W fun e w' => e = .returned (.complex .f64 (F 0) (F 0)) ∧ w' = W) := fun W B hc0 hc1 =>
            sum_pair 0 0 0 0 W B hc0 hc1 (by omega) (by omega) (by omega) (by omega) (by omega) (by omega)
          go_wp2_with fail
          go_region_held3 (fun W => Below w.heap.size w W) (first | (with_reducible assumption) | (refine bel_trans ?_ HGR; with_reducible assumption) | (repeat (first | exact HBW | refine Below.drew ?_ | refine bel_alloc ?_ _)))
            (first
              | (go_at_call 11; refine (lines_any 0 0 _ (by decide)).mono ?_; rintro e w6 ⟨rfl, rfl⟩)
              | (go_at_call 12; refine (bytes_any 0 0 _ (by decide)).mono ?_; rintro e w6 ⟨rfl, rfl⟩)
              | (go_at_call 15; refine (LE.out _).mono ?_; rintro e w6 ⟨rfl, rfl⟩)
              | (go_at_call_of 8 (Value.slice none 0 0); refine (sum_nil _).mono ?_; rintro e w6 ⟨rfl, rfl⟩)
              | (go_at_call 8; refine (TW.out _ _ ?_ ?_).mono ?_; (simp); (simp); rintro e w6 ⟨rfl, rfl⟩)
              | (go_at_call 3; refine (runs_below _).mono ?_; rintro e w6 ⟨rfl, HGR⟩))
          go_wp2
          go_ret
          refine ⟨rfl, bel_trans ?_ HGR⟩
          repeat (first | exact HBW | refine Below.drew ?_ | refine bel_alloc ?_ _)
        · have CE : Hid (∀ j, j < k → wc.cell? ⟨g0, 0 + j, none⟩ = some (.complex .f64 (F (f j)) (F (g j)))) := row_cells f g wc g0 k cur q2 q6
          have hk20 := HK.out.2.2
          have hg0 : g0 < wc.heap.size := cell_block q2
          clear q2 q4 q5 q6
          go_wp2_with fail
          refine (within_is cut k _ (by omega) (by omega)).mono ?_
          rintro e w1 ⟨rfl, rfl⟩
          obtain ⟨m, hm⟩ : ∃ m : Nat, wi cut k = (m : Int) := ⟨(wi cut k).toNat, by have := wi_bd cut k (by omega); omega⟩
          have hmk : m ≤ k := by have := wi_bd cut k (by omega); omega
          rw [hm]
          clear hm
          go_wp2_with fail
          refine (sum_any f g g0 0 k cp _ (by omega) CE.out (fun j _ => (BF.out j).1) (fun j _ => (BG.out j).1) (by have := psum_le f BF.out k hk20; omega) (by have := psum_le g BG.out k hk20; omega)).mono ?_
          rintro e w2 ⟨rfl, rfl⟩
          have KP : Kept f g w g0 k w2 := ⟨CE.out, hg0, HN.out.2⟩
          by_cases he : cp = m
          · have hmk' : m = k := by omega
            subst hmk'
            subst he
            clear hmk
            have i0 : (0 : Int) ≤ (cp : Int) := by omega
            go_wp2_with fail
            go_region_held3 (fun W => Kept f g w g0 cp W) (first | exact kept_drew KP | exact kept_drew (kept_alloc KP _) | exact AP.1)
              (first
                | (refine step_apart f g w g0 cp _ (by rfl) _ _ (by rfl) _ 0 [] (by rfl) (apart_made KP) 0 0 _ (by rfl) (by omega) (by omega) ?_; intro v1 w3 AP)
                | (refine step_apart f g w g0 cp _ (by rfl) _ _ (by rfl) v1 _ _ (by rfl) AP 0 cp _ (by rfl) (by omega) (by omega) ?_; intro v2 w4 AP)
                | (go_at_call 8; refine (sum_turned0 f g w _ g0 cp v2 hk20 BF.out BG.out AP).mono ?_; rintro e w5 ⟨rfl, rfl⟩))
            have KP5 : Kept f g w g0 cp w5 := AP.1
            clear AP KP CE HN HF HG HC0 HC1
            obtain ⟨s1, hs1⟩ : ∃ x, psum f cp = x := ⟨_, rfl⟩
            obtain ⟨s2, hs2⟩ : ∃ x, psum g cp = x := ⟨_, rfl⟩
            have P1 := psum_le f BF.out cp hk20
            have P2 := psum_le g BG.out cp hk20
            have HD : Hid (∀ W, Kept f g w g0 cp W → Calls Try.prog 8 #[.slice (some ⟨g0, 0, none⟩) cp cp] W fun e w' => e = .returned (.complex .f64 (F s1) (F s2)) ∧ w' = W) := by
              intro W hW; rw [← hs1, ← hs2]; exact sum_head f g w W g0 cp cp cp (Nat.le_refl _) hk20 BF.out BG.out hW
            rw [hs1, hs2]
            rw [hs1] at P1
            rw [hs2] at P2
            clear hs1 hs2
            have L1 : s1.natAbs < 2 ^ 53 := small (by omega) (by omega)
            have L2 : s2.natAbs < 2 ^ 53 := small (by omega) (by omega)
            have e1 := ceql_true (P := Try.prog) 22 s1 s2 s1 s2 L1 L2 rfl rfl
            have e2 := ceql_true (P := Try.prog) 22 0 0 0 0 (by decide) (by decide) rfl rfl
            have LI : Hid (∀ W, Calls Try.prog 11 #[.complex .f64 (F s1) (F s2)] W fun e w' => e = .returned (.int .i64 s1) ∧ w' = W) := fun W => lines_any s1 s2 W L1
            have BY : Hid (∀ W, Calls Try.prog 12 #[.complex .f64 (F s1) (F s2)] W fun e w' => e = .returned (.int .i64 s2) ∧ w' = W) := fun W => bytes_any s1 s2 W L2
            have LE : Hid (∀ W, Calls Try.prog 15 #[.complex .f64 (F s1) (F s2), .complex .f64 (F s1) (F s2)] W fun e w' => e = .returned (.complex .f64 (F 0) (F 0)) ∧ w' = W) := by
              intro W
              have := less_any s1 s2 s1 s2 W L1 L2 L1 L2 (by rw [Int.sub_self]; decide) (by rw [Int.sub_self]; decide)
              rw [Int.sub_self, Int.sub_self] at this
              exact this
            have TW : Hid (∀ (W : World) (B : Nat), W.cell? ⟨B, 0, none⟩ = some (.complex .f64 (F s1) (F s2)) → W.cell? ⟨B, 1, none⟩ = some (.complex .f64 (F 0) (F 0)) → Calls Try.prog 8 #[.slice (some ⟨B, 0, none⟩) 2 2] W fun e w' => e = .returned (.complex .f64 (F s1) (F s2)) ∧ w' = W) := by
              intro W B hc0 hc1
              have := sum_pair s1 s2 0 0 W B hc0 hc1 (by omega) (by omega) (by omega) (by omega) (by omega) (by omega)
              rw [Int.add_zero, Int.add_zero] at this
              exact this
            clear L1 L2 P1 P2 BF BG
            go_wp2_with fail
            go_region_held3 (fun W => Kept f g w g0 cp W) (first | (with_reducible assumption) | (refine kept_drew ?_; with_reducible assumption) | (exact kept_drew (kept_alloc KP5 _)) | (refine kept_below ?_ HGR; with_reducible assumption))
              (first
                | (go_at_call 11; refine (LI.out _).mono ?_; rintro e w6 ⟨rfl, rfl⟩)
                | (go_at_call 12; refine (BY.out _).mono ?_; rintro e w6 ⟨rfl, rfl⟩)
                | (go_at_call 15; refine (LE.out _).mono ?_; rintro e w6 ⟨rfl, rfl⟩)
                | (go_at_call_of 8 (Value.slice (some ⟨g0, 0, none⟩) cp cp); refine (HD.out _ ?_).mono ?_; (with_reducible assumption); rintro e w6 ⟨rfl, rfl⟩)
                | (go_at_call_of 8 (Value.slice (some ⟨g0, 0, none⟩) 0 0); refine (sum_none _ _ _ _).mono ?_; rintro e w6 ⟨rfl, rfl⟩)
                | (go_at_call 8; refine (TW.out _ _ ?_ ?_).mono ?_; (simp); (simp); rintro e w6 ⟨rfl, rfl⟩)
                | (go_at_call 3; refine (runs_below _).mono ?_; rintro e w6 ⟨rfl, HGR⟩))
            go_wp2
            go_ret
            exact ⟨rfl, (kept_below (kept_drew (kept_alloc KP5 _)) HGR).2.2⟩
          · have i0 : (0 : Int) ≤ (m : Int) := by omega
            have i1 : (m : Int) ≤ (k : Int) := by omega
            have i2 : (k : Int) ≤ (cp : Int) := by omega
            have i3 : (m : Int) ≤ (cp : Int) := by omega
            go_wp2_with fail
            go_region_held3 (fun W => Kept f g w g0 k W) (first | exact kept_drew KP | exact kept_drew (kept_alloc KP _) | exact AP.1)
              (first
                | (refine step_apart f g w g0 k _ (by rfl) _ _ (by rfl) _ 0 [] (by rfl) (apart_made KP) m (k - m) _ (by rfl) (by omega) (by omega) ?_; intro v1 w3 AP)
                | (refine step_apart f g w g0 k _ (by rfl) _ _ (by rfl) v1 _ _ (by rfl) AP 0 m _ (by rfl) (by omega) (by omega) ?_; intro v2 w4 AP)
                | (go_at_call 8; refine (sum_turned f g w _ g0 k m v2 hmk hk20 BF.out BG.out AP).mono ?_; rintro e w5 ⟨rfl, rfl⟩))
            have KP5 : Kept f g w g0 k w5 := AP.1
            clear AP KP CE HN HF HG HC0 HC1
            obtain ⟨s1, hs1⟩ : ∃ x, psum f k = x := ⟨_, rfl⟩
            obtain ⟨s2, hs2⟩ : ∃ x, psum g k = x := ⟨_, rfl⟩
            obtain ⟨a1, ha1⟩ : ∃ x, psum f m = x := ⟨_, rfl⟩
            obtain ⟨a2, ha2⟩ : ∃ x, psum g m = x := ⟨_, rfl⟩
            have P1 := psum_le f BF.out k hk20
            have P2 := psum_le g BG.out k hk20
            have P3 := psum_le f BF.out m (by omega)
            have P4 := psum_le g BG.out m (by omega)
            have P5 := psum_part f BF.out m k hmk
            have P6 := psum_part g BG.out m k hmk
            have HD : Hid (∀ W, Kept f g w g0 k W → Calls Try.prog 8 #[.slice (some ⟨g0, 0, none⟩) m cp] W fun e w' => e = .returned (.complex .f64 (F a1) (F a2)) ∧ w' = W) := by
              intro W hW; rw [← ha1, ← ha2]; exact sum_head f g w W g0 k m cp hmk hk20 BF.out BG.out hW
            have TL : Hid (∀ W, Kept f g w g0 k W → Calls Try.prog 8 #[.slice (some ⟨g0, m, none⟩) (k - m) (cp - m)] W fun e w' => e = .returned (.complex .f64 (F (s1 - a1)) (F (s2 - a2))) ∧ w' = W) := by
              intro W hW; rw [← ha1, ← ha2, ← hs1, ← hs2]; exact sum_tail f g w W g0 k m (cp - m) hmk hk20 BF.out BG.out hW
            rw [hs1, hs2]
            rw [hs1] at P1 P5
            rw [hs2] at P2 P6
            rw [ha1] at P3 P5
            rw [ha2] at P4 P6
            clear hs1 hs2 ha1 ha2
            have L1 : s1.natAbs < 2 ^ 53 := small (by omega) (by omega)
            have L2 : s2.natAbs < 2 ^ 53 := small (by omega) (by omega)
            have L3 : a1.natAbs < 2 ^ 53 := small (by omega) (by omega)
            have L4 : a2.natAbs < 2 ^ 53 := small (by omega) (by omega)
            have L5 : (s1 - a1).natAbs < 2 ^ 53 := small (by omega) (by omega)
            have L6 : (s2 - a2).natAbs < 2 ^ 53 := small (by omega) (by omega)
            have e1 := ceql_true (P := Try.prog) 22 s1 s2 s1 s2 L1 L2 rfl rfl
            have e2 := ceql_true (P := Try.prog) 22 (s1 - a1) (s2 - a2) (s1 - a1) (s2 - a2) L5 L6 rfl rfl
            have LI : Hid (∀ W, Calls Try.prog 11 #[.complex .f64 (F s1) (F s2)] W fun e w' => e = .returned (.int .i64 s1) ∧ w' = W) := fun W => lines_any s1 s2 W L1
            have BY : Hid (∀ W, Calls Try.prog 12 #[.complex .f64 (F s1) (F s2)] W fun e w' => e = .returned (.int .i64 s2) ∧ w' = W) := fun W => bytes_any s1 s2 W L2
            have LE : Hid (∀ W, Calls Try.prog 15 #[.complex .f64 (F s1) (F s2), .complex .f64 (F a1) (F a2)] W fun e w' => e = .returned (.complex .f64 (F (s1 - a1)) (F (s2 - a2))) ∧ w' = W) := fun W => less_any s1 s2 a1 a2 W L1 L2 L3 L4 L5 L6
            have TW : Hid (∀ (W : World) (B : Nat), W.cell? ⟨B, 0, none⟩ = some (.complex .f64 (F a1) (F a2)) → W.cell? ⟨B, 1, none⟩ = some (.complex .f64 (F (s1 - a1)) (F (s2 - a2))) → Calls Try.prog 8 #[.slice (some ⟨B, 0, none⟩) 2 2] W fun e w' => e = .returned (.complex .f64 (F s1) (F s2)) ∧ w' = W) := by
              intro W B hc0 hc1
              have := sum_pair a1 a2 (s1 - a1) (s2 - a2) W B hc0 hc1 (by omega) (by omega) (by omega) (by omega) (by omega) (by omega)
              rw [show a1 + (s1 - a1) = s1 by omega, show a2 + (s2 - a2) = s2 by omega] at this
              exact this
            clear L1 L2 L3 L4 L5 L6 P1 P2 P3 P4 P5 P6 BF BG
            go_wp2_with fail
            go_region_held3 (fun W => Kept f g w g0 k W) (first | (with_reducible assumption) | (refine kept_drew ?_; with_reducible assumption) | (exact kept_drew (kept_alloc KP5 _)) | (refine kept_below ?_ HGR; with_reducible assumption))
              (first
                | (go_at_call 11; refine (LI.out _).mono ?_; rintro e w6 ⟨rfl, rfl⟩)
                | (go_at_call 12; refine (BY.out _).mono ?_; rintro e w6 ⟨rfl, rfl⟩)
                | (go_at_call 15; refine (LE.out _).mono ?_; rintro e w6 ⟨rfl, rfl⟩)
                | (go_at_call_of 8 (Value.slice (some ⟨g0, 0, none⟩) m cp); refine (HD.out _ ?_).mono ?_; (with_reducible assumption); rintro e w6 ⟨rfl, rfl⟩)
                | (go_at_call_of 8 (Value.slice (some ⟨g0, m, none⟩) (k - m) (cp - m)); refine (TL.out _ ?_).mono ?_; (with_reducible assumption); rintro e w6 ⟨rfl, rfl⟩)
                | (go_at_call 8; refine (TW.out _ _ ?_ ?_).mono ?_; (simp); (simp); rintro e w6 ⟨rfl, rfl⟩)
                | (go_at_call 3; refine (runs_below _).mono ?_; rintro e w6 ⟨rfl, HGR⟩))
            go_wp2
            go_ret
            exact ⟨rfl, (kept_below (kept_drew (kept_alloc KP5 _)) HGR).2.2⟩
end Go.Proofs.Ytfkmccbejlloeaa
