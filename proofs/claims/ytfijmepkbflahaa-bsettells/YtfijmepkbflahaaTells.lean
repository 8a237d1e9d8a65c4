/-
  The law BsetTells.
-/
import Derived.Test.YtfijmepkbflahaaRoomy
import Derived.Test.YtfijmepkbflahaaRefClass
import Derived.Test.YtfijmepkbflahaaJoined
import Derived.Deep.DeepCutAuto
import Derived.Deep.RegionHeld3
namespace Go.Proofs.Ytfijmepkbflahaa
open Go.RowKit Go.Maps

theorem addr_add (b o j : Nat) : (⟨b, o, none⟩ : Addr).add j = ⟨b, o + j, none⟩ := by
  unfold Addr.add; split <;> simp_all

theorem own_row {w : World} {base n : Nat} {v : Value} {ys : List Nat} (hO : w.ownsRow base 5 1 v n (ys.map u8v)) (hn : n = ys.length) (hne : v ≠ .slice none 0 0) :
    ∃ g cp, v = .slice (some ⟨g, 0, none⟩) ys.length cp ∧ ys.length ≤ cp ∧ base ≤ g ∧ g < w.heap.size ∧ ∀ j, j < ys.length → w.cell? ⟨g, j, none⟩ = some (u8v (ys.getD j 0)) := by
  subst hn
  rcases hO.2 with ⟨h, _⟩ | ⟨g, cp, cur, hv, hb, hg, hnc, _⟩
  · exact absurd h hne
  · have hv' : v = .slice (some ⟨g, 0, none⟩) ys.length cp := hv
    subst hv'
    refine ⟨g, cp, rfl, hnc, hb, (Array.getElem?_eq_some_iff.1 hg).1, ?_⟩
    intro j hj
    have := World.ownsRow.cellAt hO j (by omega)
    rw [this, List.getElem?_map, List.getElem?_eq_getElem hj, List.getD_eq_getElem?_getD, List.getElem?_eq_getElem hj]
    rfl

theorem own_empty (w : World) (q : Nat → Bool) : ((w.alloc (blk q)).alloc (.cells #[] 5)).ownsRow (w.heap.size + 1) 5 1 (.slice (some ⟨w.heap.size + 1, 0, none⟩) 0 0) 0 [] := by
  have h := World.ownsRow_lit (base := w.heap.size + 1) (e := 5) (size := 1) (w.alloc (blk q)) #[] 0 (by simp) (by unfold maxLen; omega) (by simp)
  rw [show (w.alloc (blk q)).heap.size = w.heap.size + 1 by simp] at h
  exact h

theorem firsts_getD (z : Nat → Nat) (m j : Nat) (hz : ∀ j, z j < 256) : ((List.range m).map z).getD j 0 < 256 := by
  rw [List.getD_eq_getElem?_getD, List.getElem?_map]
  by_cases h : j < m
  · rw [List.getElem?_range h]; exact hz j
  · rw [List.getElem?_eq_none (by simpa using h)]; exact (by decide : (0 : Nat) < 256)

/-- What the first statement leaves. -/
def Start (p : Nat → Bool) (w : World) (v : Value) (wc : World) : Prop :=
  ∃ (xs : List Nat) (g cp : Nat), v = .slice (some ⟨g, 0, none⟩) xs.length cp ∧ xs.length ≤ cp ∧ xs.length ≤ 20 ∧ (∀ j, xs.getD j 0 < 256) ∧ g < wc.heap.size ∧ (∀ j, j < xs.length → wc.cell? ⟨g, j, none⟩ = some (u8v (xs.getD j 0))) ∧ At wc w.heap.size p ∧ Kp w wc

theorem start_mk (p : Nat → Bool) (w w2 : World) (v : Value) (z : Nat → Nat) (m : Nat) (hm : m ≤ 20) (hz : ∀ j, z j < 256)
    (hO : w2.ownsRow (w.heap.size + 1) 5 1 v m (((List.range m).map z).map u8v))
    (hG : ((w.alloc (blk p)).alloc (.cells #[] 5)).grownBy w2 (some (w.heap.size + 1))) (hne : v ≠ .slice none 0 0) : Start p w v w2 := by
  obtain ⟨g, cp, hv, hc, _, hl, hcell⟩ := own_row hO (by simp) hne
  have hlen : ((List.range m).map z).length ≤ 20 := by simpa using hm
  refine ⟨(List.range m).map z, g, cp, hv, hc, hlen, fun j => firsts_getD z m j hz, hl, hcell, ?_, ?_⟩
  · have hA : At ((w.alloc (blk p)).alloc (.cells #[] 5)) w.heap.size p := (At.new w p).alloc _
    exact (hG.block w.heap.size hA.lt (by simp)).trans hA
  · exact Below.grown (((Kp.refl w).alloc _).alloc _) hG (by simp; omega) (fun k hk => by cases hk; omega)

theorem start_zero (p : Nat → Bool) (w : World) : Start p w (.slice (some ⟨w.heap.size + 1, 0, none⟩) 0 0) ((w.alloc (blk p)).alloc (.cells #[] 5)) :=
  ⟨[], w.heap.size + 1, 0, rfl, Nat.le_refl _, by simp, fun j => by simp, by simp, fun j hj => by simp at hj, (At.new w p).alloc _, ((Kp.refl w).alloc _).alloc _⟩

/-- What lies where, behind the first statements: below block N all stays. -/
def Env (p q r c : Nat → Bool) (S B13 B14 B15 B17 F g N : Nat) (xs : List Nat) (w W : World) : Prop :=
  At W S p ∧ At W B13 q ∧ At W B14 r ∧ At W B15 c ∧ At W B17 c ∧ Row5 W F (room xs 7 80) ∧ (∀ j, j < xs.length → W.cell? ⟨g, j, none⟩ = some (u8v (xs.getD j 0))) ∧
  (S < N ∧ B13 < N ∧ B14 < N ∧ B15 < N ∧ B17 < N ∧ F < N ∧ g < N ∧ N ≤ W.heap.size ∧ w.heap.size ≤ N) ∧ Kp w W

theorem At.below {W W' : World} {N S : Nat} {p : Nat → Bool} (h : At W S p) (hb : Below N W W') (hS : S < N) : At W' S p := (hb.block S hS).trans h

theorem Env.below {p q r c : Nat → Bool} {S B13 B14 B15 B17 F g N : Nat} {xs : List Nat} {w W W' : World} (h : Env p q r c S B13 B14 B15 B17 F g N xs w W) (hb : Below N W W') : Env p q r c S B13 B14 B15 B17 F g N xs w W' := by
  obtain ⟨h1, h2, h3, h4, h5, h6, h7, ⟨a1, a2, a3, a4, a5, a6, a7, a8, a9⟩, h9⟩ := h
  refine ⟨h1.below hb a1, h2.below hb a2, h3.below hb a3, h4.below hb a4, h5.below hb a5, (hb.block F a6).trans h6, fun j hj => (hb.cell (p := ⟨g, j, none⟩) a7).trans (h7 j hj), ⟨a1, a2, a3, a4, a5, a6, a7, Nat.le_trans a8 hb.size, a9⟩, Below.trans h9 (hb.mono a9)⟩

theorem Env.kp {p q r c : Nat → Bool} {S B13 B14 B15 B17 F g N : Nat} {xs : List Nat} {w W W' : World} (h : Env p q r c S B13 B14 B15 B17 F g N xs w W) (k : Kp W W') : Env p q r c S B13 B14 B15 B17 F g N xs w W' :=
  h.below (Below.mono k h.2.2.2.2.2.2.2.1.2.2.2.2.2.2.2.1)

/-- The set of the bytes put in, as a map. -/
def dm (xs : List Nat) : Nat → DataW Value
  | 0 => .map []
  | k + 1 => (dm xs k).put (.int .u8 ((xs.getD k 0 : Nat) : Int)) (.held (.bool true))

theorem keyed5 : Keyed Try.prog 5 := int_keyed Try.underlying5

theorem isMap_dm (xs : List Nat) (k : Nat) : IsMap (dm xs k) := by
  induction k with
  | zero => exact ⟨[], rfl⟩
  | succ k ih =>
    obtain ⟨es, he⟩ := ih
    rw [dm, he]
    exact ⟨_, rfl⟩

theorem isKey_int (q : IntKind) (a : Int) : WideAt.IsKeyLit (.int q a) := by trivial

theorem atKey_dm (xs : List Nat) (b n : Nat) : (dm xs n).atKey (.int .u8 (b : Int)) (.held (.bool false)) = .held (.bool (memb (fun j => xs.getD j 0) n b)) := by
  induction n with
  | zero => rfl
  | succ n ih =>
    rw [dm, memb, addB]
    by_cases he : xs.getD n 0 = b
    · rw [he, atKey_put_same (isMap_dm xs n) (isKey_int _ _)]
      simp
    · have hne : (Lit.int .u8 (b : Int)) ≠ .int .u8 ((xs.getD n 0 : Nat) : Int) := fun h => he (by injection h with _ h; omega)
      rw [atKey_put_other hne, ih]
      have : (b == xs.getD n 0) = false := by rw [beq_eq_false_iff_ne]; exact fun h => he h.symm
      rw [this, Bool.or_false]

theorem zero4b (w : World) : (zeroValue 4).run Try.prog w = .ok (.bool false) w := by kernel_rfl

theorem wf_u8 (b : Nat) (h : b < 256) : (Lit.int .u8 (b : Int)).wf = true := by
  simp [Lit.wf, IntKind.min, IntKind.max, IntKind.signed, IntKind.bits]; omega

theorem look_dm {W : World} {M : Nat} {xs : List Nat} {n m : Nat} (h : W.ownsMap Try.prog 5 RV M m (dm xs n)) (b : Nat) (hb : b < 256) :
    (Instr.lookup 35 (.map (some M)) (.int .u8 (b : Int)) false).run Try.prog W = .ok (.bool (memb (fun j => xs.getD j 0) n b)) W := by
  obtain ⟨v, ps, hrun, hv⟩ := World.ownsMap.lookup h keyed5 Try.underlying35 (zero4b W) (zd := .held (.bool false)) (zp := []) rfl (keyOf_int_mk Try.underlying5 (wf_u8 b hb))
  rw [atKey_dm] at hv
  have : v = .bool (memb (fun j => xs.getD j 0) n b) := by
    unfold RV at hv
    simp only [Option.some.injEq, Prod.mk.injEq, DataW.held.injEq] at hv
    exact hv.1
  rw [hrun, this]

theorem lst_more (p : Nat → Bool) (n d : Nat) : ∃ r, lst p (n + d) = lst p n ++ r := by
  induction d with
  | zero => exact ⟨[], by simp⟩
  | succ d ih =>
    obtain ⟨r, hr⟩ := ih
    rw [← Nat.add_assoc, lst_succ, hr]
    exact ⟨_, List.append_assoc _ _ _⟩

theorem lst_nth (p : Nat → Bool) (k N : Nat) (hk : k < N) (hp : p k = true) : cnt p k < (lst p N).length ∧ (lst p N).getD (cnt p k) 0 = k := by
  obtain ⟨r, hr⟩ := lst_more p (k + 1) (N - (k + 1))
  rw [show k + 1 + (N - (k + 1)) = N by omega, lst_succ, hp] at hr
  have hl := lst_length p k
  constructor
  · rw [hr]; simp; omega
  · rw [hr, ← hl, List.getD_eq_getElem?_getD]
    simp

theorem bytes_shape {w : World} {base : Nat} {p : Nat → Bool} {v : Value} (hO : w.ownsRow base 5 1 v (lst p 256).length ((lst p 256).map u8v)) :
    ∃ (L : Nat) (ab : Option Addr) (gb cb : Nat), (lst p 256).length = L ∧ v = .slice ab L cb ∧ (0 < L → ab = some ⟨gb, 0, none⟩ ∧ gb < w.heap.size) ∧ ∀ j, j < L → w.cell? ⟨gb, j, none⟩ = some (u8v ((lst p 256).getD j 0)) := by
  by_cases hne : v = .slice none 0 0
  · rcases hO.2 with ⟨_, h0⟩ | ⟨g, cp, cur, hv, _⟩
    · refine ⟨(lst p 256).length, none, 0, 0, rfl, by rw [h0]; exact hne, fun h => by omega, fun j hj => by omega⟩
    · rw [hne] at hv; cases hv
  · obtain ⟨g, cp, hv, _, _, hl, hc⟩ := own_row hO rfl hne
    exact ⟨_, _, g, cp, rfl, hv, fun _ => ⟨rfl, hl⟩, hc⟩

set_option maxRecDepth 100000 in
set_option maxHeartbeats 40000000 in
theorem tells_any (p : Nat → Bool) (a0 : Option Addr) (b o len cap : Nat) (z : Nat → Nat) (fr tt : Nat) (s : ByteArray) (w : World)
    (hfr : fr < 256) (htt : tt < 256) (hs : s.size ≤ maxLen) (hl : len ≤ cap)
    (ha : 0 < len → a0 = some ⟨b, o, none⟩ ∧ b < w.heap.size) (hz : ∀ j, z j < 256) (hc : ∀ j, j < len → w.cell? ⟨b, o + j, none⟩ = some (u8v (z j))) :
    Calls Try.prog 4 #[sv p, .slice a0 len cap, .int .u8 (fr : Nat), .int .u8 (tt : Nat), .string s] w fun e w' => e = .returned (.bool true) ∧ Kp w w' := by
  have HA : Hid (0 < len → a0 = some ⟨b, o, none⟩ ∧ b < w.heap.size) := ha
  have HZ : Hid (∀ j, z j < 256) := hz
  have HC : Hid (∀ j, j < len → w.cell? ⟨b, o + j, none⟩ = some (u8v (z j))) := hc
  have HS : Hid (s.size ≤ maxLen) := hs
  clear ha hz hc hs
  have hmm := @run_makeMap Try.prog
  go_enter Try.func4, Try.ntmps4
  go_upto_region 1 with fail
  go_cut [11] (fun v wc => Start p w v wc)
  case first =>
    obtain ⟨i5, h5, z5, s5, b5⟩ := info5
    have OE : Hid (((w.alloc (blk p)).alloc (.cells #[] 5)).ownsRow (w.heap.size + 1) 5 1 (.slice (some ⟨w.heap.size + 1, 0, none⟩) 0 0) 0 []) := own_empty w p
    by_cases h0 : len = 0
    · subst h0
      cases a0 with
      | none =>
        go_wp2_with fail
        go_meet
        case rel => exact start_zero p w
      | some ad =>
        go_wp2_with fail
        go_meet
        case rel => exact start_zero p w
    · obtain ⟨rfl, hb⟩ := HA.out (by omega)
      clear HA
      by_cases h20 : len ≤ 20
      · obtain ⟨nw, hnw⟩ : ∃ nw, ((List.range len).map z).map u8v = nw := ⟨_, rfl⟩
        have HW : Hid (((List.range len).map z).map u8v = nw) := hnw
        clear hnw
        go_wp2_with (at_builtin; go_must (refine wpList_append_own_at _ (by rfl) _ _ 33 (by rfl) (w.heap.size + 1) 5 i5 (.int .u8 0) 1 1 Try.underlying33 h5 z5 s5 b5 (by rfl) (by omega) _ 0 [] (by rfl) OE.out ⟨b, o, none⟩ len cap nw (by rfl) ?g1 ?g2 ?g3 ?g4 ?g5 ?g6 ?_))
        case g1 => rw [← HW.out]; simp
        case g2 =>
          intro j u hj
          rw [← HW.out, List.map_map, List.getElem?_map] at hj
          have hjm : j < len := by
            rcases Nat.lt_or_ge j len with h | h
            · exact h
            · rw [List.getElem?_eq_none (by simpa using h)] at hj; cases hj
          rw [List.getElem?_range hjm] at hj
          simp only [Option.map_some, Option.some.injEq, Function.comp] at hj
          subst hj
          have := HC.out j (by omega)
          have hk : Kp w ((w.alloc (blk p)).alloc (.cells #[] 5)) := ((Kp.refl w).alloc _).alloc _
          rw [addr_add]
          exact (hk.cell (p := ⟨b, o + j, none⟩) hb).trans this
        case g3 =>
          intro u hu
          rw [← HW.out] at hu
          obtain ⟨x, _, rfl⟩ := List.mem_map.1 hu
          rfl
        case g4 => unfold maxLen; omega
        case g5 => omega
        case g6 => simp
        intro v' w2 hO hG hnil _
        have hne : v' ≠ .slice none 0 0 := fun h => by simp [h] at hnil
        have ST : Hid (Start p w v' w2) := start_mk p w w2 v' z len (by omega) HZ.out (by rw [HW.out]; exact hO) hG hne
        clear hO hG hnil hne
        go_wp2_with fail
        go_meet
        case rel => exact ST.out
      · obtain ⟨nw, hnw⟩ : ∃ nw, ((List.range 20).map z).map u8v = nw := ⟨_, rfl⟩
        have HW : Hid (((List.range 20).map z).map u8v = nw) := hnw
        clear hnw
        go_wp2_with (at_builtin; go_must (refine wpList_append_own_at _ (by rfl) _ _ 33 (by rfl) (w.heap.size + 1) 5 i5 (.int .u8 0) 1 1 Try.underlying33 h5 z5 s5 b5 (by rfl) (by omega) _ 0 [] (by rfl) OE.out ⟨b, o, none⟩ 20 cap nw (by rfl) ?g1 ?g2 ?g3 ?g4 ?g5 ?g6 ?_))
        case g1 => rw [← HW.out]; simp
        case g2 =>
          intro j u hj
          rw [← HW.out, List.map_map, List.getElem?_map] at hj
          have hjm : j < 20 := by
            rcases Nat.lt_or_ge j 20 with h | h
            · exact h
            · rw [List.getElem?_eq_none (by simpa using h)] at hj; cases hj
          rw [List.getElem?_range hjm] at hj
          simp only [Option.map_some, Option.some.injEq, Function.comp] at hj
          subst hj
          have := HC.out j (by omega)
          have hk : Kp w ((w.alloc (blk p)).alloc (.cells #[] 5)) := ((Kp.refl w).alloc _).alloc _
          rw [addr_add]
          exact (hk.cell (p := ⟨b, o + j, none⟩) hb).trans this
        case g3 =>
          intro u hu
          rw [← HW.out] at hu
          obtain ⟨x, _, rfl⟩ := List.mem_map.1 hu
          rfl
        case g4 => unfold maxLen; omega
        case g5 => omega
        case g6 => simp
        intro v' w2 hO hG hnil _
        have hne : v' ≠ .slice none 0 0 := fun h => by simp [h] at hnil
        have ST : Hid (Start p w v' w2) := start_mk p w w2 v' z 20 (by omega) HZ.out (by rw [HW.out]; exact hO) hG hne
        clear hO hG hnil hne
        go_wp2_with fail
        go_meet
        case rel => exact ST.out
  case rest =>
    obtain ⟨xs, g, cp, rfl, hcp, h20, hx, hg, hcell, hA, hK⟩ := hcut
    rename World => w0
    have HX : Hid (∀ j, xs.getD j 0 < 256) := hx
    have HCL : Hid (∀ j, j < xs.length → w0.cell? ⟨g, j, none⟩ = some (u8v (xs.getD j 0))) := hcell
    have A0 : Hid (At w0 w.heap.size p) := hA
    have K0 : Hid (Kp w w0) := hK
    clear hx hcell hA hK HA HZ HC
    go_wp2_with fail
    refine (roomy_any xs h20 g cp 7 _ hg HCL.out).mono ?_
    rintro e w1 ⟨rfl, hR, k⟩
    have R1 : Hid (Row5 w1 w0.heap.size (room xs 7 80)) := hR
    have K1 : Hid (Kp w0 w1) := k
    clear hR k
    go_wp2_with fail
    refine (of_core (fun j => xs.getD j 0) w0.heap.size 0 xs.length (xs.length + 80) _ (by omega) R1.out.lt ?oc HX.out).mono ?_
    case oc =>
      intro j hj
      rw [Nat.zero_add, R1.out.cell j, room_at xs 7 80 j (by omega), if_pos hj]
    rintro e w2 ⟨rfl, k⟩
    have K2 : Hid (Kp w0 w2) := K1.out.trans k
    have R2 : Hid (Row5 w2 w0.heap.size (room xs 7 80)) := R1.out.kp k
    clear k R1 K1
    obtain ⟨q, hq⟩ : ∃ q, memb (fun j => xs.getD j 0) xs.length = q := ⟨_, rfl⟩
    have HQ : Hid (memb (fun j => xs.getD j 0) xs.length = q) := hq
    rw [hq]
    clear hq
    go_wp2_with fail
    refine (range_any fr tt _ hfr htt).mono ?_
    rintro e w3 ⟨rfl, k⟩
    have K3 : Hid (Kp w0 w3) := K2.out.trans k
    have R3 : Hid (Row5 w3 w0.heap.size (room xs 7 80)) := R2.out.kp k
    clear k R2 K2
    go_wp2_with fail
    refine (class_is s _).mono ?_
    rintro e w4 ⟨rfl, k⟩
    have K4 : Hid (Kp ((w3.alloc (blk q)).alloc (blk (rng fr tt))) w4) := k
    clear k
    go_wp2_with fail
    refine (refclass_is s _).mono ?_
    rintro e w5 ⟨rfl, k⟩
    have K5 : Hid (Kp (w4.alloc (blk (cOf s))) w5) := k
    clear k
    have EV : Hid (Env p q (rng fr tt) (cOf s) w.heap.size w3.heap.size (w3.heap.size + 1) w4.heap.size w5.heap.size w0.heap.size g (w5.heap.size + 1) xs w ((w5.alloc (blk (cOf s))).alloc (.map #[] 0))) := by
      have b1 : At w5 w.heap.size p := K5.out.at ((K4.out.at (((K3.out.at A0.out).alloc _).alloc _)).alloc _)
      have b2 : At w5 w3.heap.size q := K5.out.at ((K4.out.at ((At.new w3 q).alloc _)).alloc _)
      have b3 : At w5 (w3.heap.size + 1) (rng fr tt) := K5.out.at ((K4.out.at (At.new' _ _ _ (by simp))).alloc _)
      have b4 : At w5 w4.heap.size (cOf s) := K5.out.at (At.new w4 _)
      have kk : Kp w0 w5 := K3.out.trans ((((Kp.refl _).alloc _).alloc _).trans (K4.out.trans (((Kp.refl _).alloc _).trans K5.out)))
      have b6 : Row5 w5 w0.heap.size (room xs 7 80) := R3.out.kp ((((Kp.refl _).alloc _).alloc _).trans (K4.out.trans (((Kp.refl _).alloc _).trans K5.out)))
      have hb : Kp w5 ((w5.alloc (blk (cOf s))).alloc (.map #[] 0)) := ((Kp.refl _).alloc _).alloc _
      have l1 := b1.lt; have l2 := b2.lt; have l3 := b3.lt; have l4 := b4.lt; have l6 := b6.lt
      have lg : g < w5.heap.size := Nat.lt_of_lt_of_le hg kk.size
      refine ⟨hb.at b1, hb.at b2, hb.at b3, hb.at b4, (At.new w5 _).alloc _, b6.kp hb, fun j hj => ?_, ⟨by omega, by omega, by omega, by omega, by omega, by omega, by omega, by simp, by omega⟩, (K0.out.trans kk).trans hb⟩
      exact ((kk.trans hb).cell (p := ⟨g, j, none⟩) hg).trans (HCL.out j hj)
    have OM : Hid (((w5.alloc (blk (cOf s))).alloc (.map #[] 0)).ownsMap Try.prog 5 RV (w5.heap.size + 1) 0 (.map [])) := by
      have h := World.ownsMap_made (w5.alloc (blk (cOf s))) Try.prog 5 RV
      rw [show (w5.alloc (blk (cOf s))).heap.size = w5.heap.size + 1 by simp] at h
      exact h
    clear K0 K3 R3 K4 K5 A0 HCL
    go_wp2_with fail
    go_loopw [58] (fun i wr => ∃ k : Nat, k ≤ xs.length ∧ i = .int .i64 k ∧ wr.ownsMap Try.prog 5 RV (w5.heap.size + 1) k (dm xs k) ∧ Env p q (rng fr tt) (cOf s) w.heap.size w3.heap.size (w3.heap.size + 1) w4.heap.size w5.heap.size w0.heap.size g (w5.heap.size + 1) xs w wr) (fun i _ => xs.length - (intOf i).toNat)
    case atStart => exact ⟨0, Nat.zero_le _, rfl, OM.out, EV.out⟩
    case round =>
      clear OM EV
      obtain ⟨k, hk, rfl, hO, hE⟩ := hrel
      by_cases hlt : k < xs.length
      · have hc := hE.2.2.2.2.2.2.1 k hlt
        obtain ⟨x, hx⟩ : ∃ x, xs.getD k 0 = x := ⟨_, rfl⟩
        have hx8 : x < 256 := by rw [← hx]; exact HX.out k
        have HD : Hid (dm xs (k + 1) = (dm xs k).put (.int .u8 (x : Int)) (.held (.bool true))) := by rw [← hx]; rfl
        rw [hx] at hc
        have HKY : Hid (keyOf Try.prog 5 (.int .u8 (x : Int)) = some (.int .u8 (x : Int))) := keyOf_int_mk Try.underlying5 (wf_u8 x hx8)
        have hsz : w5.heap.size + 1 ≤ wr.heap.size := hE.2.2.2.2.2.2.2.1.2.2.2.2.2.2.2.1
        have HE : Hid (Env p q (rng fr tt) (cOf s) w.heap.size w3.heap.size (w3.heap.size + 1) w4.heap.size w5.heap.size w0.heap.size g (w5.heap.size + 1) xs w wr) := hE
        clear hx hE
        go_wp2_with (at_mapUpdate; go_must (refine wpList_mapUpdate_own _ (by rfl) _ _ _ 35 (by rfl) 5 4 keyed5 Try.underlying35 RV (w5.heap.size + 1) k (dm xs k) (by rfl) hO ?h1 _ (.bool true) _ (by rfl) (by rfl) HKY.out _ [] (by rfl) ?_))
        case h1 => unfold maxLen; omega
        intro w6 hown6 hgrow6
        have HO6 : Hid (w6.ownsMap Try.prog 5 RV (w5.heap.size + 1) (k + 1) (dm xs (k + 1))) := by rw [HD.out]; exact hown6
        have HE6 : Hid (Env p q (rng fr tt) (cOf s) w.heap.size w3.heap.size (w3.heap.size + 1) w4.heap.size w5.heap.size w0.heap.size g (w5.heap.size + 1) xs w w6) := HE.out.below ((Below.refl _ _).grown hgrow6 hsz (fun b hb => by cases hb; exact Nat.le_refl _))
        clear hown6 hgrow6 hO HE
        go_wp2_with fail
        exact ⟨⟨k + 1, by omega, by go_num, HO6.out, HE6.out⟩, by simp [intOf]; omega⟩
      · obtain rfl : k = xs.length := by omega
        obtain ⟨c0, c1, c2, c3⟩ := hE.1.cells
        have HO : Hid (wr.ownsMap Try.prog 5 RV (w5.heap.size + 1) xs.length (dm xs xs.length)) := hO
        have HE : Hid (Env p q (rng fr tt) (cOf s) w.heap.size w3.heap.size (w3.heap.size + 1) w4.heap.size w5.heap.size w0.heap.size g (w5.heap.size + 1) xs w wr) := hE
        clear hO hE
        go_wp2_with fail
        refine (bytes_any p _).mono ?_
        rintro e w7 ⟨bv, rfl, hB, k7⟩
        have HO7 : Hid (w7.ownsMap Try.prog 5 RV (w5.heap.size + 1) xs.length (dm xs xs.length)) := own_kp HO.out k7
        have HE7 : Hid (Env p q (rng fr tt) (cOf s) w.heap.size w3.heap.size (w3.heap.size + 1) w4.heap.size w5.heap.size w0.heap.size g (w5.heap.size + 1) xs w w7) := HE.out.kp k7
        have HB7 : Hid (w7.ownsRow (wr.heap.size + 1) 5 1 bv (lst p 256).length ((lst p 256).map u8v)) := hB
        clear hB k7 HO HE c0 c1 c2 c3
        obtain ⟨L, ab, gb, cb, hL, rfl, hgb, hbc⟩ := bytes_shape HB7.out
        have HL : Hid ((lst p 256).length = L) := hL
        have HG : Hid (0 < L → ab = some ⟨gb, 0, none⟩ ∧ gb < w7.heap.size) := hgb
        have HBC : Hid (∀ j, j < L → w7.cell? ⟨gb, j, none⟩ = some (u8v ((lst p 256).getD j 0))) := hbc
        have hL256 : L ≤ 256 := by rw [← hL]; exact lst_len p
        clear hL hgb hbc HB7
        go_wp2_with fail
        go_loopw [22, 67] (fun c i wr => ∃ k : Nat, k ≤ 256 ∧ i = .int .i64 k ∧ c = .int .i64 (cnt p k : Nat) ∧ Kp w7 wr) (fun _ i _ => 256 - (intOf i).toNat)
        case atStart => exact ⟨0, by omega, rfl, rfl, Kp.refl _⟩
        case round =>
          obtain ⟨k, hk, rfl, rfl, hK⟩ := hrel
          by_cases hlt : k < 256
          · have hw8 : IntKind.u8.wrap (k : Int) = (k : Int) := by rw [IntKind.wrap_u8']; omega
            obtain ⟨qk, hqk⟩ : ∃ u, q k = u := ⟨_, rfl⟩
            have HQK : Hid (q k = qk) := hqk
            have MK : Hid (∀ W, Kp w7 W → (fun W => W.cell? ⟨w.heap.size, 0, none⟩ = some (.int .u64 (wd p 0 : Nat)) ∧ W.cell? ⟨w.heap.size, 1, none⟩ = some (.int .u64 (wd p 1 : Nat)) ∧ W.cell? ⟨w.heap.size, 2, none⟩ = some (.int .u64 (wd p 2 : Nat)) ∧ W.cell? ⟨w.heap.size, 3, none⟩ = some (.int .u64 (wd p 3 : Nat)) ∧ W.cell? ⟨w3.heap.size, 0, none⟩ = some (.int .u64 (wd q 0 : Nat)) ∧ W.cell? ⟨w3.heap.size, 1, none⟩ = some (.int .u64 (wd q 1 : Nat)) ∧ W.cell? ⟨w3.heap.size, 2, none⟩ = some (.int .u64 (wd q 2 : Nat)) ∧ W.cell? ⟨w3.heap.size, 3, none⟩ = some (.int .u64 (wd q 3 : Nat)) ∧ W.cell? ⟨(w3.heap.size + 1), 0, none⟩ = some (.int .u64 (wd (rng fr tt) 0 : Nat)) ∧ W.cell? ⟨(w3.heap.size + 1), 1, none⟩ = some (.int .u64 (wd (rng fr tt) 1 : Nat)) ∧ W.cell? ⟨(w3.heap.size + 1), 2, none⟩ = some (.int .u64 (wd (rng fr tt) 2 : Nat)) ∧ W.cell? ⟨(w3.heap.size + 1), 3, none⟩ = some (.int .u64 (wd (rng fr tt) 3 : Nat)) ∧ (Instr.lookup 35 (.map (some (w5.heap.size + 1))) (.int .u8 (k : Int)) false).run Try.prog W = .ok (.bool qk) W ∧ Hid (Kp w7 W)) W) := by
              intro W hW
              have e := HE7.out.kp hW
              have c1 := e.1.cells; have c2 := e.2.1.cells; have c3 := e.2.2.1.cells
              have hl := look_dm (own_kp HO7.out hW) k hlt
              rw [HQ.out, hqk] at hl
              exact ⟨c1.1, c1.2.1, c1.2.2.1, c1.2.2.2, c2.1, c2.2.1, c2.2.2.1, c2.2.2.2, c3.1, c3.2.1, c3.2.2.1, c3.2.2.2, hl, hW⟩
            have HK : Hid (Kp w7 wr) := hK
            clear hqk hK
            go_upto_region 18 with fail
            go_cut [128] (fun v wc => v = .bool false ∧ Kp w7 wc)
            case first =>
              have Q0 : Kp w7 wr.drew := HK.out.drew
              cases hp : p k
              · have HNP : Hid (notB p k = true) := by show (!p k) = true; rw [hp]; rfl
                have HOR : Hid (orB p q k = qk) := by show (p k || q k) = qk; rw [hp, HQK.out]; rfl
                by_cases hf : fr ≤ k
                · have HR : Hid (rng fr tt k = decide ((k : Int) ≤ (tt : Int))) := by show _ = _; unfold rng; simp [hf]
                  have hf' : (fr : Int) ≤ (k : Int) := by omega
                  refine wp_region_noPanic ?_
                  refine wp_region_held_drew (S := (fun W => W.cell? ⟨w.heap.size, 0, none⟩ = some (.int .u64 (wd p 0 : Nat)) ∧ W.cell? ⟨w.heap.size, 1, none⟩ = some (.int .u64 (wd p 1 : Nat)) ∧ W.cell? ⟨w.heap.size, 2, none⟩ = some (.int .u64 (wd p 2 : Nat)) ∧ W.cell? ⟨w.heap.size, 3, none⟩ = some (.int .u64 (wd p 3 : Nat)) ∧ W.cell? ⟨w3.heap.size, 0, none⟩ = some (.int .u64 (wd q 0 : Nat)) ∧ W.cell? ⟨w3.heap.size, 1, none⟩ = some (.int .u64 (wd q 1 : Nat)) ∧ W.cell? ⟨w3.heap.size, 2, none⟩ = some (.int .u64 (wd q 2 : Nat)) ∧ W.cell? ⟨w3.heap.size, 3, none⟩ = some (.int .u64 (wd q 3 : Nat)) ∧ W.cell? ⟨(w3.heap.size + 1), 0, none⟩ = some (.int .u64 (wd (rng fr tt) 0 : Nat)) ∧ W.cell? ⟨(w3.heap.size + 1), 1, none⟩ = some (.int .u64 (wd (rng fr tt) 1 : Nat)) ∧ W.cell? ⟨(w3.heap.size + 1), 2, none⟩ = some (.int .u64 (wd (rng fr tt) 2 : Nat)) ∧ W.cell? ⟨(w3.heap.size + 1), 3, none⟩ = some (.int .u64 (wd (rng fr tt) 3 : Nat)) ∧ (Instr.lookup 35 (.map (some (w5.heap.size + 1))) (.int .u8 (k : Int)) false).run Try.prog W = .ok (.bool qk) W ∧ Hid (Kp w7 W))) (by kernel_rfl) ?_ (fun hH => ?_)
                  · exact MK.out _ Q0
                  refine wpAnyH_take (i := 0) (oi := { dst := some 72, op := Op.load 24 (Operand.tmp 5), type := 24, pos := "law.go:32", after := #[], guard := none }) (v := ?v0ft) rfl (by kernel_rfl) (by kernel_rfl) (by kernel_rfl) (fun _ _ _ h => h) (Or.inl ⟨by rfl, ?hy0ft⟩) hH ?r0ft
                  case hy0ft => (intro W hSw; (try dsimp only at hSw); go_simp; try (with_reducible rfl))
                  try simp only [Act.put, List.setIfInBounds_toArray, List.set_cons_zero, List.set_cons_succ]
                  refine wpAnyH_take (i := 1) (oi := { dst := some 73, op := Op.move (Operand.tmp 25), type := 5, pos := "law.go:32", after := #[], guard := none }) (v := ?v1ft) rfl (by kernel_rfl) (by kernel_rfl) (by kernel_rfl) (fun _ _ _ h => h) (Or.inl ⟨by rfl, ?hy1ft⟩) hH ?r1ft
                  case hy1ft => (intro W hSw; (try dsimp only at hSw); go_simp; try (with_reducible rfl))
                  try simp only [Act.put, List.setIfInBounds_toArray, List.set_cons_zero, List.set_cons_succ]
                  refine wpAnyH_take (i := 3) (oi := { dst := some 75, op := Op.load 24 (Operand.tmp 5), type := 24, pos := "law.go:32", after := #[], guard := none }) (v := ?v3ft) rfl (by kernel_rfl) (by kernel_rfl) (by kernel_rfl) (fun _ _ _ h => h) (Or.inl ⟨by rfl, ?hy3ft⟩) hH ?r3ft
                  case hy3ft => (intro W hSw; (try dsimp only at hSw); go_simp; try (with_reducible rfl))
                  try simp only [Act.put, List.setIfInBounds_toArray, List.set_cons_zero, List.set_cons_succ]
                  refine wpAnyH_take (i := 4) (oi := { dst := some 76, op := Op.move (Operand.tmp 25), type := 5, pos := "law.go:32", after := #[], guard := none }) (v := ?v4ft) rfl (by kernel_rfl) (by kernel_rfl) (by kernel_rfl) (fun _ _ _ h => h) (Or.inl ⟨by rfl, ?hy4ft⟩) hH ?r4ft
                  case hy4ft => (intro W hSw; (try dsimp only at hSw); go_simp; try (with_reducible rfl))
                  try simp only [Act.put, List.setIfInBounds_toArray, List.set_cons_zero, List.set_cons_succ]
                  refine wpAnyH_ready (rs := [2]) (by kernel_rfl) (by simp) ?_
                  refine AllReadyH.cons (o := { dst := some 74, op := Op.call { callee := Callee.value (Operand.func 17), args := #[Operand.tmp 72, Operand.tmp 73], argTypes := #[24, 5] }, type := 4, pos := "law.go:32", after := #[{ on := 0, ground := Ground.data }, { on := 1, ground := Ground.data }], guard := none }) rfl (fun K hKq => ?_) AllReadyH.nil
                  go_simp
                  refine (has_any p k _ hlt).mono ?_
                  rintro e y1 ⟨rfl, kq⟩
                  rw [hp]
                  have Q1 : Kp w7 y1 := Q0.trans kq
                  clear kq Q0
                  refine hKq.out _ _ (MK.out _ Q1) (fun hN => ?_)
                  clear hKq K hH
                  have hH := hN
                  clear hN
                  try simp only [Act.put, List.setIfInBounds_toArray, List.set_cons_zero, List.set_cons_succ]
                  refine wpAnyH_ready (rs := [5]) (by kernel_rfl) (by simp) ?_
                  refine AllReadyH.cons (o := { dst := some 77, op := Op.call { callee := Callee.value (Operand.func 18), args := #[Operand.tmp 75, Operand.tmp 76], argTypes := #[24, 5] }, type := 4, pos := "law.go:32", after := #[{ on := 3, ground := Ground.data }, { on := 4, ground := Ground.data }, { on := 2, ground := Ground.chain }], guard := none }) rfl (fun K hKq => ?_) AllReadyH.nil
                  go_simp
                  refine (refhas_any p k _ hlt).mono ?_
                  rintro e y2 ⟨rfl, kq⟩
                  rw [hp]
                  have Q2 : Kp w7 y2 := Q1.trans kq
                  clear kq Q1
                  refine hKq.out _ _ (MK.out _ Q2) (fun hN => ?_)
                  clear hKq K hH
                  have hH := hN
                  clear hN
                  try simp only [Act.put, List.setIfInBounds_toArray, List.set_cons_zero, List.set_cons_succ]
                  refine wpAnyH_take (i := 6) (oi := { dst := some 78, op := Op.binOp BinOp.neq 4 (Operand.tmp 74) (Operand.tmp 77) 4, type := 4, pos := "law.go:32", after := #[{ on := 2, ground := Ground.data }, { on := 5, ground := Ground.data }], guard := none }) (v := ?v6ft) rfl (by kernel_rfl) (by kernel_rfl) (by kernel_rfl) (fun _ _ _ h => h) (Or.inl ⟨by rfl, ?hy6ft⟩) hH ?r6ft
                  case hy6ft => (intro W hSw; (try dsimp only at hSw); go_simp; try (with_reducible rfl))
                  try simp only [Act.put, List.setIfInBounds_toArray, List.set_cons_zero, List.set_cons_succ]
                  refine wpAnyH_take (i := 7) (oi := { dst := some 79, op := Op.move (Operand.tmp 78), type := 4, pos := "law.go:32", after := #[{ on := 6, ground := Ground.data }, { on := 5, ground := Ground.chain }], guard := none }) (v := ?v7ft) rfl (by kernel_rfl) (by kernel_rfl) (by kernel_rfl) (fun _ _ _ h => h) (Or.inl ⟨by rfl, ?hy7ft⟩) hH ?r7ft
                  case hy7ft => (intro W hSw; (try dsimp only at hSw); go_simp; try (with_reducible rfl))
                  try simp only [Act.put, List.setIfInBounds_toArray, List.set_cons_zero, List.set_cons_succ]
                  refine wpAnyH_take (i := 8) (oi := { dst := some 80, op := Op.load 24 (Operand.tmp 13), type := 24, pos := "law.go:32", after := #[{ on := 7, ground := Ground.guard }], guard := some (7, false) }) (v := ?v8ft) rfl (by kernel_rfl) (by kernel_rfl) (by kernel_rfl) (fun _ _ _ h => h) (Or.inl ⟨by rfl, ?hy8ft⟩) hH ?r8ft
                  case hy8ft => (intro W hSw; (try dsimp only at hSw); go_simp; try (with_reducible rfl))
                  try simp only [Act.put, List.setIfInBounds_toArray, List.set_cons_zero, List.set_cons_succ]
                  refine wpAnyH_take (i := 9) (oi := { dst := some 81, op := Op.move (Operand.tmp 25), type := 5, pos := "law.go:32", after := #[{ on := 7, ground := Ground.guard }], guard := some (7, false) }) (v := ?v9ft) rfl (by kernel_rfl) (by kernel_rfl) (by kernel_rfl) (fun _ _ _ h => h) (Or.inl ⟨by rfl, ?hy9ft⟩) hH ?r9ft
                  case hy9ft => (intro W hSw; (try dsimp only at hSw); go_simp; try (with_reducible rfl))
                  try simp only [Act.put, List.setIfInBounds_toArray, List.set_cons_zero, List.set_cons_succ]
                  refine wpAnyH_take (i := 11) (oi := { dst := some 83, op := Op.move (Operand.tmp 19), type := 35, pos := "law.go:32", after := #[{ on := 7, ground := Ground.guard }], guard := some (7, false) }) (v := ?v11ft) rfl (by kernel_rfl) (by kernel_rfl) (by kernel_rfl) (fun _ _ _ h => h) (Or.inl ⟨by rfl, ?hy11ft⟩) hH ?r11ft
                  case hy11ft => (intro W hSw; (try dsimp only at hSw); go_simp; try (with_reducible rfl))
                  try simp only [Act.put, List.setIfInBounds_toArray, List.set_cons_zero, List.set_cons_succ]
                  refine wpAnyH_take (i := 12) (oi := { dst := some 84, op := Op.move (Operand.tmp 25), type := 5, pos := "law.go:32", after := #[{ on := 7, ground := Ground.guard }], guard := some (7, false) }) (v := ?v12ft) rfl (by kernel_rfl) (by kernel_rfl) (by kernel_rfl) (fun _ _ _ h => h) (Or.inl ⟨by rfl, ?hy12ft⟩) hH ?r12ft
                  case hy12ft => (intro W hSw; (try dsimp only at hSw); go_simp; try (with_reducible rfl))
                  try simp only [Act.put, List.setIfInBounds_toArray, List.set_cons_zero, List.set_cons_succ]
                  refine wpAnyH_take (i := 13) (oi := { dst := some 85, op := Op.lookup 35 (Operand.tmp 83) (Operand.tmp 84) false, type := 4, pos := "law.go:32", after := #[{ on := 11, ground := Ground.data }, { on := 12, ground := Ground.data }, { on := 7, ground := Ground.guard }], guard := some (7, false) }) (v := ?v13ft) rfl (by kernel_rfl) (by kernel_rfl) (by kernel_rfl) (fun _ _ _ h => h) (Or.inl ⟨by rfl, ?hy13ft⟩) hH ?r13ft
                  case hy13ft => (intro W hSw; (try dsimp only at hSw); go_simp; try (with_reducible rfl))
                  try simp only [Act.put, List.setIfInBounds_toArray, List.set_cons_zero, List.set_cons_succ]
                  refine wpAnyH_ready (rs := [10]) (by kernel_rfl) (by simp) ?_
                  refine AllReadyH.cons (o := { dst := some 82, op := Op.call { callee := Callee.value (Operand.func 17), args := #[Operand.tmp 80, Operand.tmp 81], argTypes := #[24, 5] }, type := 4, pos := "law.go:32", after := #[{ on := 8, ground := Ground.data }, { on := 9, ground := Ground.data }, { on := 7, ground := Ground.chain }, { on := 7, ground := Ground.guard }], guard := some (7, false) }) rfl (fun K hKq => ?_) AllReadyH.nil
                  go_simp
                  refine (has_any q k _ hlt).mono ?_
                  rintro e y3 ⟨rfl, kq⟩
                  rw [HQK.out]
                  have Q3 : Kp w7 y3 := Q2.trans kq
                  clear kq Q2
                  refine hKq.out _ _ (MK.out _ Q3) (fun hN => ?_)
                  clear hKq K hH
                  have hH := hN
                  clear hN
                  try simp only [Act.put, List.setIfInBounds_toArray, List.set_cons_zero, List.set_cons_succ]
                  refine wpAnyH_take (i := 14) (oi := { dst := some 86, op := Op.binOp BinOp.neq 4 (Operand.tmp 82) (Operand.tmp 85) 4, type := 4, pos := "law.go:32", after := #[{ on := 10, ground := Ground.data }, { on := 13, ground := Ground.data }, { on := 7, ground := Ground.guard }], guard := some (7, false) }) (v := ?v14ft) rfl (by kernel_rfl) (by kernel_rfl) (by kernel_rfl) (fun _ _ _ h => h) (Or.inl ⟨by rfl, ?hy14ft⟩) hH ?r14ft
                  case hy14ft => (intro W hSw; (try dsimp only at hSw); go_simp; try (with_reducible rfl))
                  try simp only [Act.put, List.setIfInBounds_toArray, List.set_cons_zero, List.set_cons_succ]
                  refine wpAnyH_take (i := 15) (oi := { dst := some 87, op := Op.pick (Operand.tmp 79) (Operand.const (Value.bool true)) (Operand.tmp 86), type := 4, pos := "law.go:32", after := #[{ on := 7, ground := Ground.data }, { on := 14, ground := Ground.data }], guard := none }) (v := ?v15ft) rfl (by kernel_rfl) (by kernel_rfl) (by kernel_rfl) (fun _ _ _ h => h) (Or.inl ⟨by rfl, ?hy15ft⟩) hH ?r15ft
                  case hy15ft => (intro W hSw; (try dsimp only at hSw); go_simp; try (with_reducible rfl))
                  try simp only [Act.put, List.setIfInBounds_toArray, List.set_cons_zero, List.set_cons_succ]
                  refine wpAnyH_take (i := 16) (oi := { dst := some 88, op := Op.move (Operand.tmp 87), type := 4, pos := "law.go:32", after := #[{ on := 15, ground := Ground.data }, { on := 10, ground := Ground.chain }], guard := none }) (v := ?v16ft) rfl (by kernel_rfl) (by kernel_rfl) (by kernel_rfl) (fun _ _ _ h => h) (Or.inl ⟨by rfl, ?hy16ft⟩) hH ?r16ft
                  case hy16ft => (intro W hSw; (try dsimp only at hSw); go_simp; try (with_reducible rfl))
                  try simp only [Act.put, List.setIfInBounds_toArray, List.set_cons_zero, List.set_cons_succ]
                  refine wpAnyH_take (i := 17) (oi := { dst := some 89, op := Op.load 24 (Operand.tmp 14), type := 24, pos := "law.go:32", after := #[{ on := 16, ground := Ground.guard }], guard := some (16, false) }) (v := ?v17ft) rfl (by kernel_rfl) (by kernel_rfl) (by kernel_rfl) (fun _ _ _ h => h) (Or.inl ⟨by rfl, ?hy17ft⟩) hH ?r17ft
                  case hy17ft => (intro W hSw; (try dsimp only at hSw); go_simp; try (with_reducible rfl))
                  try simp only [Act.put, List.setIfInBounds_toArray, List.set_cons_zero, List.set_cons_succ]
                  refine wpAnyH_take (i := 18) (oi := { dst := some 90, op := Op.move (Operand.tmp 25), type := 5, pos := "law.go:32", after := #[{ on := 16, ground := Ground.guard }], guard := some (16, false) }) (v := ?v18ft) rfl (by kernel_rfl) (by kernel_rfl) (by kernel_rfl) (fun _ _ _ h => h) (Or.inl ⟨by rfl, ?hy18ft⟩) hH ?r18ft
                  case hy18ft => (intro W hSw; (try dsimp only at hSw); go_simp; try (with_reducible rfl))
                  try simp only [Act.put, List.setIfInBounds_toArray, List.set_cons_zero, List.set_cons_succ]
                  refine wpAnyH_take (i := 20) (oi := { dst := some 92, op := Op.move (Operand.tmp 25), type := 5, pos := "law.go:32", after := #[{ on := 16, ground := Ground.guard }], guard := some (16, false) }) (v := ?v20ft) rfl (by kernel_rfl) (by kernel_rfl) (by kernel_rfl) (fun _ _ _ h => h) (Or.inl ⟨by rfl, ?hy20ft⟩) hH ?r20ft
                  case hy20ft => (intro W hSw; (try dsimp only at hSw); go_simp; try (with_reducible rfl))
                  try simp only [Act.put, List.setIfInBounds_toArray, List.set_cons_zero, List.set_cons_succ]
                  refine wpAnyH_take (i := 21) (oi := { dst := some 93, op := Op.move (Operand.tmp 2), type := 5, pos := "law.go:32", after := #[{ on := 16, ground := Ground.guard }], guard := some (16, false) }) (v := ?v21ft) rfl (by kernel_rfl) (by kernel_rfl) (by kernel_rfl) (fun _ _ _ h => h) (Or.inl ⟨by rfl, ?hy21ft⟩) hH ?r21ft
                  case hy21ft => (intro W hSw; (try dsimp only at hSw); go_simp; try (with_reducible rfl))
                  try simp only [Act.put, List.setIfInBounds_toArray, List.set_cons_zero, List.set_cons_succ]
                  refine wpAnyH_take (i := 22) (oi := { dst := some 94, op := Op.binOp BinOp.geq 5 (Operand.tmp 92) (Operand.tmp 93) 5, type := 4, pos := "law.go:32", after := #[{ on := 20, ground := Ground.data }, { on := 21, ground := Ground.data }, { on := 16, ground := Ground.guard }], guard := some (16, false) }) (v := ?v22ft) rfl (by kernel_rfl) (by kernel_rfl) (by kernel_rfl) (fun _ _ _ h => h) (Or.inl ⟨by rfl, ?hy22ft⟩) hH ?r22ft
                  case hy22ft => (intro W hSw; (try dsimp only at hSw); go_simp; try (with_reducible rfl))
                  try simp only [Act.put, List.setIfInBounds_toArray, List.set_cons_zero, List.set_cons_succ]
                  refine wpAnyH_ready (rs := [19]) (by kernel_rfl) (by simp) ?_
                  refine AllReadyH.cons (o := { dst := some 91, op := Op.call { callee := Callee.value (Operand.func 17), args := #[Operand.tmp 89, Operand.tmp 90], argTypes := #[24, 5] }, type := 4, pos := "law.go:32", after := #[{ on := 17, ground := Ground.data }, { on := 18, ground := Ground.data }, { on := 16, ground := Ground.chain }, { on := 16, ground := Ground.guard }], guard := some (16, false) }) rfl (fun K hKq => ?_) AllReadyH.nil
                  go_simp
                  refine (has_any (rng fr tt) k _ hlt).mono ?_
                  rintro e y4 ⟨rfl, kq⟩
                  rw [HR.out]
                  have Q4 : Kp w7 y4 := Q3.trans kq
                  clear kq Q3
                  refine hKq.out _ _ (MK.out _ Q4) (fun hN => ?_)
                  clear hKq K hH
                  have hH := hN
                  clear hN
                  try simp only [Act.put, List.setIfInBounds_toArray, List.set_cons_zero, List.set_cons_succ]
                  refine wpAnyH_take (i := 23) (oi := { dst := some 95, op := Op.move (Operand.tmp 94), type := 4, pos := "law.go:32", after := #[{ on := 22, ground := Ground.data }, { on := 19, ground := Ground.chain }, { on := 16, ground := Ground.guard }], guard := some (16, false) }) (v := ?v23ft) rfl (by kernel_rfl) (by kernel_rfl) (by kernel_rfl) (fun _ _ _ h => h) (Or.inl ⟨by rfl, ?hy23ft⟩) hH ?r23ft
                  case hy23ft => (intro W hSw; (try dsimp only at hSw); go_simp; try (with_reducible rfl))
                  try simp only [Act.put, List.setIfInBounds_toArray, List.set_cons_zero, List.set_cons_succ]
                  refine wpAnyH_take (i := 24) (oi := { dst := some 96, op := Op.move (Operand.tmp 25), type := 5, pos := "law.go:32", after := #[{ on := 23, ground := Ground.guard }], guard := some (23, true) }) (v := ?v24ft) rfl (by kernel_rfl) (by kernel_rfl) (by kernel_rfl) (fun _ _ _ h => h) (Or.inl ⟨by rfl, ?hy24ft⟩) hH ?r24ft
                  case hy24ft => (intro W hSw; (try dsimp only at hSw); go_simp; try (with_reducible rfl))
                  try simp only [Act.put, List.setIfInBounds_toArray, List.set_cons_zero, List.set_cons_succ]
                  refine wpAnyH_take (i := 25) (oi := { dst := some 97, op := Op.move (Operand.tmp 3), type := 5, pos := "law.go:32", after := #[{ on := 23, ground := Ground.guard }], guard := some (23, true) }) (v := ?v25ft) rfl (by kernel_rfl) (by kernel_rfl) (by kernel_rfl) (fun _ _ _ h => h) (Or.inl ⟨by rfl, ?hy25ft⟩) hH ?r25ft
                  case hy25ft => (intro W hSw; (try dsimp only at hSw); go_simp; try (with_reducible rfl))
                  try simp only [Act.put, List.setIfInBounds_toArray, List.set_cons_zero, List.set_cons_succ]
                  refine wpAnyH_take (i := 26) (oi := { dst := some 98, op := Op.binOp BinOp.leq 5 (Operand.tmp 96) (Operand.tmp 97) 5, type := 4, pos := "law.go:32", after := #[{ on := 24, ground := Ground.data }, { on := 25, ground := Ground.data }, { on := 23, ground := Ground.guard }], guard := some (23, true) }) (v := ?v26ft) rfl (by kernel_rfl) (by kernel_rfl) (by kernel_rfl) (fun _ _ _ h => h) (Or.inl ⟨by rfl, ?hy26ft⟩) hH ?r26ft
                  case hy26ft => (intro W hSw; (try dsimp only at hSw); go_simp; try (with_reducible rfl))
                  try simp only [Act.put, List.setIfInBounds_toArray, List.set_cons_zero, List.set_cons_succ]
                  refine wpAnyH_take (i := 27) (oi := { dst := some 99, op := Op.pick (Operand.tmp 95) (Operand.tmp 98) (Operand.const (Value.bool false)), type := 4, pos := "law.go:32", after := #[{ on := 23, ground := Ground.data }, { on := 26, ground := Ground.data }, { on := 16, ground := Ground.guard }], guard := some (16, false) }) (v := ?v27ft) rfl (by kernel_rfl) (by kernel_rfl) (by kernel_rfl) (fun _ _ _ h => h) (Or.inl ⟨by rfl, ?hy27ft⟩) hH ?r27ft
                  case hy27ft => (intro W hSw; (try dsimp only at hSw); go_simp; try (with_reducible rfl))
                  try simp only [Act.put, List.setIfInBounds_toArray, List.set_cons_zero, List.set_cons_succ]
                  refine wpAnyH_take (i := 28) (oi := { dst := some 100, op := Op.binOp BinOp.neq 4 (Operand.tmp 91) (Operand.tmp 99) 4, type := 4, pos := "law.go:32", after := #[{ on := 19, ground := Ground.data }, { on := 27, ground := Ground.data }, { on := 16, ground := Ground.guard }], guard := some (16, false) }) (v := ?v28ft) rfl (by kernel_rfl) (by kernel_rfl) (by kernel_rfl) (fun _ _ _ h => h) (Or.inl ⟨by rfl, ?hy28ft⟩) hH ?r28ft
                  case hy28ft => (intro W hSw; (try dsimp only at hSw); go_simp; try (with_reducible rfl))
                  try simp only [Act.put, List.setIfInBounds_toArray, List.set_cons_zero, List.set_cons_succ]
                  refine wpAnyH_take (i := 29) (oi := { dst := some 101, op := Op.pick (Operand.tmp 88) (Operand.const (Value.bool true)) (Operand.tmp 100), type := 4, pos := "law.go:32", after := #[{ on := 16, ground := Ground.data }, { on := 28, ground := Ground.data }], guard := none }) (v := ?v29ft) rfl (by kernel_rfl) (by kernel_rfl) (by kernel_rfl) (fun _ _ _ h => h) (Or.inl ⟨by rfl, ?hy29ft⟩) hH ?r29ft
                  case hy29ft => (intro W hSw; (try dsimp only at hSw); go_simp; try (with_reducible rfl))
                  try simp only [Act.put, List.setIfInBounds_toArray, List.set_cons_zero, List.set_cons_succ]
                  refine wpAnyH_take (i := 30) (oi := { dst := some 102, op := Op.move (Operand.tmp 101), type := 4, pos := "law.go:32", after := #[{ on := 29, ground := Ground.data }, { on := 23, ground := Ground.chain }], guard := none }) (v := ?v30ft) rfl (by kernel_rfl) (by kernel_rfl) (by kernel_rfl) (fun _ _ _ h => h) (Or.inl ⟨by rfl, ?hy30ft⟩) hH ?r30ft
                  case hy30ft => (intro W hSw; (try dsimp only at hSw); go_simp; try (with_reducible rfl))
                  try simp only [Act.put, List.setIfInBounds_toArray, List.set_cons_zero, List.set_cons_succ]
                  refine wpAnyH_take (i := 31) (oi := { dst := some 103, op := Op.load 24 (Operand.tmp 5), type := 24, pos := "law.go:32", after := #[{ on := 30, ground := Ground.guard }], guard := some (30, false) }) (v := ?v31ft) rfl (by kernel_rfl) (by kernel_rfl) (by kernel_rfl) (fun _ _ _ h => h) (Or.inl ⟨by rfl, ?hy31ft⟩) hH ?r31ft
                  case hy31ft => (intro W hSw; (try dsimp only at hSw); go_simp; try (with_reducible rfl))
                  try simp only [Act.put, List.setIfInBounds_toArray, List.set_cons_zero, List.set_cons_succ]
                  refine wpAnyH_take (i := 33) (oi := { dst := some 105, op := Op.move (Operand.tmp 25), type := 5, pos := "law.go:32", after := #[{ on := 30, ground := Ground.guard }], guard := some (30, false) }) (v := ?v33ft) rfl (by kernel_rfl) (by kernel_rfl) (by kernel_rfl) (fun _ _ _ h => h) (Or.inl ⟨by rfl, ?hy33ft⟩) hH ?r33ft
                  case hy33ft => (intro W hSw; (try dsimp only at hSw); go_simp; try (with_reducible rfl))
                  try simp only [Act.put, List.setIfInBounds_toArray, List.set_cons_zero, List.set_cons_succ]
                  refine wpAnyH_take (i := 35) (oi := { dst := some 107, op := Op.load 24 (Operand.tmp 5), type := 24, pos := "law.go:32", after := #[{ on := 30, ground := Ground.guard }], guard := some (30, false) }) (v := ?v35ft) rfl (by kernel_rfl) (by kernel_rfl) (by kernel_rfl) (fun _ _ _ h => h) (Or.inl ⟨by rfl, ?hy35ft⟩) hH ?r35ft
                  case hy35ft => (intro W hSw; (try dsimp only at hSw); go_simp; try (with_reducible rfl))
                  try simp only [Act.put, List.setIfInBounds_toArray, List.set_cons_zero, List.set_cons_succ]
                  refine wpAnyH_take (i := 36) (oi := { dst := some 108, op := Op.move (Operand.tmp 25), type := 5, pos := "law.go:32", after := #[{ on := 30, ground := Ground.guard }], guard := some (30, false) }) (v := ?v36ft) rfl (by kernel_rfl) (by kernel_rfl) (by kernel_rfl) (fun _ _ _ h => h) (Or.inl ⟨by rfl, ?hy36ft⟩) hH ?r36ft
                  case hy36ft => (intro W hSw; (try dsimp only at hSw); go_simp; try (with_reducible rfl))
                  try simp only [Act.put, List.setIfInBounds_toArray, List.set_cons_zero, List.set_cons_succ]
                  refine wpAnyH_ready (rs := [32]) (by kernel_rfl) (by simp) ?_
                  refine AllReadyH.cons (o := { dst := some 104, op := Op.call { callee := Callee.value (Operand.func 13), args := #[Operand.tmp 103], argTypes := #[24] }, type := 24, pos := "law.go:32", after := #[{ on := 31, ground := Ground.data }, { on := 30, ground := Ground.chain }, { on := 30, ground := Ground.guard }], guard := some (30, false) }) rfl (fun K hKq => ?_) AllReadyH.nil
                  go_simp
                  refine (not_any p _).mono ?_
                  rintro e y5 ⟨rfl, kq⟩
                  have Q5 : Kp w7 y5 := Q4.trans kq
                  clear kq Q4
                  refine hKq.out _ _ (MK.out _ Q5) (fun hN => ?_)
                  clear hKq K hH
                  have hH := hN
                  clear hN
                  try simp only [Act.put, List.setIfInBounds_toArray, List.set_cons_zero, List.set_cons_succ]
                  refine wpAnyH_ready (rs := [34]) (by kernel_rfl) (by simp) ?_
                  refine AllReadyH.cons (o := { dst := some 106, op := Op.call { callee := Callee.value (Operand.func 17), args := #[Operand.tmp 104, Operand.tmp 105], argTypes := #[24, 5] }, type := 4, pos := "law.go:32", after := #[{ on := 32, ground := Ground.data }, { on := 33, ground := Ground.data }, { on := 32, ground := Ground.chain }, { on := 30, ground := Ground.guard }], guard := some (30, false) }) rfl (fun K hKq => ?_) AllReadyH.nil
                  go_simp
                  refine (has_any (notB p) k _ hlt).mono ?_
                  rintro e y6 ⟨rfl, kq⟩
                  rw [HNP.out]
                  have Q6 : Kp w7 y6 := Q5.trans kq
                  clear kq Q5
                  refine hKq.out _ _ (MK.out _ Q6) (fun hN => ?_)
                  clear hKq K hH
                  have hH := hN
                  clear hN
                  try simp only [Act.put, List.setIfInBounds_toArray, List.set_cons_zero, List.set_cons_succ]
                  refine wpAnyH_ready (rs := [37]) (by kernel_rfl) (by simp) ?_
                  refine AllReadyH.cons (o := { dst := some 109, op := Op.call { callee := Callee.value (Operand.func 18), args := #[Operand.tmp 107, Operand.tmp 108], argTypes := #[24, 5] }, type := 4, pos := "law.go:32", after := #[{ on := 35, ground := Ground.data }, { on := 36, ground := Ground.data }, { on := 34, ground := Ground.chain }, { on := 30, ground := Ground.guard }], guard := some (30, false) }) rfl (fun K hKq => ?_) AllReadyH.nil
                  go_simp
                  refine (refhas_any p k _ hlt).mono ?_
                  rintro e y7 ⟨rfl, kq⟩
                  rw [hp]
                  have Q7 : Kp w7 y7 := Q6.trans kq
                  clear kq Q6
                  refine hKq.out _ _ (MK.out _ Q7) (fun hN => ?_)
                  clear hKq K hH
                  have hH := hN
                  clear hN
                  try simp only [Act.put, List.setIfInBounds_toArray, List.set_cons_zero, List.set_cons_succ]
                  refine wpAnyH_take (i := 38) (oi := { dst := some 110, op := Op.binOp BinOp.eql 4 (Operand.tmp 106) (Operand.tmp 109) 4, type := 4, pos := "law.go:32", after := #[{ on := 34, ground := Ground.data }, { on := 37, ground := Ground.data }, { on := 30, ground := Ground.guard }], guard := some (30, false) }) (v := ?v38ft) rfl (by kernel_rfl) (by kernel_rfl) (by kernel_rfl) (fun _ _ _ h => h) (Or.inl ⟨by rfl, ?hy38ft⟩) hH ?r38ft
                  case hy38ft => (intro W hSw; (try dsimp only at hSw); go_simp; try (with_reducible rfl))
                  try simp only [Act.put, List.setIfInBounds_toArray, List.set_cons_zero, List.set_cons_succ]
                  refine wpAnyH_take (i := 39) (oi := { dst := some 111, op := Op.pick (Operand.tmp 102) (Operand.const (Value.bool true)) (Operand.tmp 110), type := 4, pos := "law.go:32", after := #[{ on := 30, ground := Ground.data }, { on := 38, ground := Ground.data }], guard := none }) (v := ?v39ft) rfl (by kernel_rfl) (by kernel_rfl) (by kernel_rfl) (fun _ _ _ h => h) (Or.inl ⟨by rfl, ?hy39ft⟩) hH ?r39ft
                  case hy39ft => (intro W hSw; (try dsimp only at hSw); go_simp; try (with_reducible rfl))
                  try simp only [Act.put, List.setIfInBounds_toArray, List.set_cons_zero, List.set_cons_succ]
                  refine wpAnyH_take (i := 40) (oi := { dst := some 112, op := Op.move (Operand.tmp 111), type := 4, pos := "law.go:32", after := #[{ on := 39, ground := Ground.data }, { on := 37, ground := Ground.chain }], guard := none }) (v := ?v40ft) rfl (by kernel_rfl) (by kernel_rfl) (by kernel_rfl) (fun _ _ _ h => h) (Or.inl ⟨by rfl, ?hy40ft⟩) hH ?r40ft
                  case hy40ft => (intro W hSw; (try dsimp only at hSw); go_simp; try (with_reducible rfl))
                  try simp only [Act.put, List.setIfInBounds_toArray, List.set_cons_zero, List.set_cons_succ]
                  refine wpAnyH_take (i := 41) (oi := { dst := some 113, op := Op.load 24 (Operand.tmp 5), type := 24, pos := "law.go:32", after := #[{ on := 40, ground := Ground.guard }], guard := some (40, false) }) (v := ?v41ft) rfl (by kernel_rfl) (by kernel_rfl) (by kernel_rfl) (fun _ _ _ h => h) (Or.inl ⟨by rfl, ?hy41ft⟩) hH ?r41ft
                  case hy41ft => (intro W hSw; (try dsimp only at hSw); go_simp; try (with_reducible rfl))
                  try simp only [Act.put, List.setIfInBounds_toArray, List.set_cons_zero, List.set_cons_succ]
                  refine wpAnyH_take (i := 42) (oi := { dst := some 114, op := Op.load 24 (Operand.tmp 13), type := 24, pos := "law.go:32", after := #[{ on := 40, ground := Ground.guard }], guard := some (40, false) }) (v := ?v42ft) rfl (by kernel_rfl) (by kernel_rfl) (by kernel_rfl) (fun _ _ _ h => h) (Or.inl ⟨by rfl, ?hy42ft⟩) hH ?r42ft
                  case hy42ft => (intro W hSw; (try dsimp only at hSw); go_simp; try (with_reducible rfl))
                  try simp only [Act.put, List.setIfInBounds_toArray, List.set_cons_zero, List.set_cons_succ]
                  refine wpAnyH_take (i := 45) (oi := { dst := some 117, op := Op.move (Operand.tmp 25), type := 5, pos := "law.go:32", after := #[{ on := 40, ground := Ground.guard }], guard := some (40, false) }) (v := ?v45ft) rfl (by kernel_rfl) (by kernel_rfl) (by kernel_rfl) (fun _ _ _ h => h) (Or.inl ⟨by rfl, ?hy45ft⟩) hH ?r45ft
                  case hy45ft => (intro W hSw; (try dsimp only at hSw); go_simp; try (with_reducible rfl))
                  try simp only [Act.put, List.setIfInBounds_toArray, List.set_cons_zero, List.set_cons_succ]
                  refine wpAnyH_take (i := 47) (oi := { dst := some 119, op := Op.load 24 (Operand.tmp 5), type := 24, pos := "law.go:32", after := #[{ on := 40, ground := Ground.guard }], guard := some (40, false) }) (v := ?v47ft) rfl (by kernel_rfl) (by kernel_rfl) (by kernel_rfl) (fun _ _ _ h => h) (Or.inl ⟨by rfl, ?hy47ft⟩) hH ?r47ft
                  case hy47ft => (intro W hSw; (try dsimp only at hSw); go_simp; try (with_reducible rfl))
                  try simp only [Act.put, List.setIfInBounds_toArray, List.set_cons_zero, List.set_cons_succ]
                  refine wpAnyH_take (i := 48) (oi := { dst := some 120, op := Op.move (Operand.tmp 25), type := 5, pos := "law.go:32", after := #[{ on := 40, ground := Ground.guard }], guard := some (40, false) }) (v := ?v48ft) rfl (by kernel_rfl) (by kernel_rfl) (by kernel_rfl) (fun _ _ _ h => h) (Or.inl ⟨by rfl, ?hy48ft⟩) hH ?r48ft
                  case hy48ft => (intro W hSw; (try dsimp only at hSw); go_simp; try (with_reducible rfl))
                  try simp only [Act.put, List.setIfInBounds_toArray, List.set_cons_zero, List.set_cons_succ]
                  refine wpAnyH_ready (rs := [43]) (by kernel_rfl) (by simp) ?_
                  refine AllReadyH.cons (o := { dst := some 115, op := Op.buildSlice 50 2 #[(0, Operand.tmp 113), (1, Operand.tmp 114)], type := 50, pos := "law.go:32", after := #[{ on := 41, ground := Ground.data }, { on := 42, ground := Ground.data }, { on := 40, ground := Ground.guard }], guard := some (40, false) }) rfl (fun K hKq => ?_) AllReadyH.nil
                  go_simp
                  refine hKq.out _ _ (MK.out _ (Q7.alloc _)) (fun hN => ?_)
                  clear hKq K hH
                  have hH := hN
                  clear hN
                  try simp only [Act.put, List.setIfInBounds_toArray, List.set_cons_zero, List.set_cons_succ]
                  refine wpAnyH_ready (rs := [44]) (by kernel_rfl) (by simp) ?_
                  refine AllReadyH.cons (o := { dst := some 116, op := Op.call { callee := Callee.value (Operand.func 10), args := #[Operand.tmp 115], argTypes := #[50] }, type := 24, pos := "law.go:32", after := #[{ on := 43, ground := Ground.data }, { on := 40, ground := Ground.chain }, { on := 40, ground := Ground.guard }], guard := some (40, false) }) rfl (fun K hKq => ?_) AllReadyH.nil
                  go_simp
                  refine (join2 p q _ _ ?hsft ?hXft).mono ?_
                  case hsft => simp
                  case hXft => exact last_of _ _
                  rintro e y8 ⟨rfl, kq⟩
                  have Q8 : Kp w7 y8 := (Q7.alloc _).trans kq
                  clear kq Q7
                  refine hKq.out _ _ (MK.out _ Q8) (fun hN => ?_)
                  clear hKq K hH
                  have hH := hN
                  clear hN
                  try simp only [Act.put, List.setIfInBounds_toArray, List.set_cons_zero, List.set_cons_succ]
                  refine wpAnyH_ready (rs := [46]) (by kernel_rfl) (by simp) ?_
                  refine AllReadyH.cons (o := { dst := some 118, op := Op.call { callee := Callee.value (Operand.func 17), args := #[Operand.tmp 116, Operand.tmp 117], argTypes := #[24, 5] }, type := 4, pos := "law.go:32", after := #[{ on := 44, ground := Ground.data }, { on := 45, ground := Ground.data }, { on := 44, ground := Ground.chain }, { on := 40, ground := Ground.guard }], guard := some (40, false) }) rfl (fun K hKq => ?_) AllReadyH.nil
                  go_simp
                  refine (has_any (orB p q) k _ hlt).mono ?_
                  rintro e y9 ⟨rfl, kq⟩
                  rw [HOR.out]
                  have Q9 : Kp w7 y9 := Q8.trans kq
                  clear kq Q8
                  refine hKq.out _ _ (MK.out _ Q9) (fun hN => ?_)
                  clear hKq K hH
                  have hH := hN
                  clear hN
                  try simp only [Act.put, List.setIfInBounds_toArray, List.set_cons_zero, List.set_cons_succ]
                  refine wpAnyH_ready (rs := [49]) (by kernel_rfl) (by simp) ?_
                  refine AllReadyH.cons (o := { dst := some 121, op := Op.call { callee := Callee.value (Operand.func 18), args := #[Operand.tmp 119, Operand.tmp 120], argTypes := #[24, 5] }, type := 4, pos := "law.go:32", after := #[{ on := 47, ground := Ground.data }, { on := 48, ground := Ground.data }, { on := 46, ground := Ground.chain }, { on := 40, ground := Ground.guard }], guard := some (40, false) }) rfl (fun K hKq => ?_) AllReadyH.nil
                  go_simp
                  refine (refhas_any p k _ hlt).mono ?_
                  rintro e y10 ⟨rfl, kq⟩
                  rw [hp]
                  have Q10 : Kp w7 y10 := Q9.trans kq
                  clear kq Q9
                  refine hKq.out _ _ (MK.out _ Q10) (fun hN => ?_)
                  clear hKq K hH
                  have hH := hN
                  clear hN
                  try simp only [Act.put, List.setIfInBounds_toArray, List.set_cons_zero, List.set_cons_succ]
                  refine wpAnyH_take (i := 50) (oi := { dst := some 122, op := Op.move (Operand.tmp 121), type := 4, pos := "law.go:32", after := #[{ on := 49, ground := Ground.data }, { on := 49, ground := Ground.chain }, { on := 40, ground := Ground.guard }], guard := some (40, false) }) (v := ?v50ft) rfl (by kernel_rfl) (by kernel_rfl) (by kernel_rfl) (fun _ _ _ h => h) (Or.inl ⟨by rfl, ?hy50ft⟩) hH ?r50ft
                  case hy50ft => (intro W hSw; (try dsimp only at hSw); go_simp; try (with_reducible rfl))
                  try simp only [Act.put, List.setIfInBounds_toArray, List.set_cons_zero, List.set_cons_succ]
                  refine wpAnyH_take (i := 51) (oi := { dst := some 123, op := Op.move (Operand.tmp 19), type := 35, pos := "law.go:32", after := #[{ on := 50, ground := Ground.guard }], guard := some (50, false) }) (v := ?v51ft) rfl (by kernel_rfl) (by kernel_rfl) (by kernel_rfl) (fun _ _ _ h => h) (Or.inl ⟨by rfl, ?hy51ft⟩) hH ?r51ft
                  case hy51ft => (intro W hSw; (try dsimp only at hSw); go_simp; try (with_reducible rfl))
                  try simp only [Act.put, List.setIfInBounds_toArray, List.set_cons_zero, List.set_cons_succ]
                  refine wpAnyH_take (i := 52) (oi := { dst := some 124, op := Op.move (Operand.tmp 25), type := 5, pos := "law.go:32", after := #[{ on := 50, ground := Ground.guard }], guard := some (50, false) }) (v := ?v52ft) rfl (by kernel_rfl) (by kernel_rfl) (by kernel_rfl) (fun _ _ _ h => h) (Or.inl ⟨by rfl, ?hy52ft⟩) hH ?r52ft
                  case hy52ft => (intro W hSw; (try dsimp only at hSw); go_simp; try (with_reducible rfl))
                  try simp only [Act.put, List.setIfInBounds_toArray, List.set_cons_zero, List.set_cons_succ]
                  refine wpAnyH_take (i := 53) (oi := { dst := some 125, op := Op.lookup 35 (Operand.tmp 123) (Operand.tmp 124) false, type := 4, pos := "law.go:32", after := #[{ on := 51, ground := Ground.data }, { on := 52, ground := Ground.data }, { on := 50, ground := Ground.guard }], guard := some (50, false) }) (v := ?v53ft) rfl (by kernel_rfl) (by kernel_rfl) (by kernel_rfl) (fun _ _ _ h => h) (Or.inl ⟨by rfl, ?hy53ft⟩) hH ?r53ft
                  case hy53ft => (intro W hSw; (try dsimp only at hSw); go_simp; try (with_reducible rfl))
                  try simp only [Act.put, List.setIfInBounds_toArray, List.set_cons_zero, List.set_cons_succ]
                  refine wpAnyH_take (i := 54) (oi := { dst := some 126, op := Op.pick (Operand.tmp 122) (Operand.const (Value.bool true)) (Operand.tmp 125), type := 4, pos := "law.go:32", after := #[{ on := 50, ground := Ground.data }, { on := 53, ground := Ground.data }, { on := 40, ground := Ground.guard }], guard := some (40, false) }) (v := ?v54ft) rfl (by kernel_rfl) (by kernel_rfl) (by kernel_rfl) (fun _ _ _ h => h) (Or.inl ⟨by rfl, ?hy54ft⟩) hH ?r54ft
                  case hy54ft => (intro W hSw; (try dsimp only at hSw); go_simp; try (with_reducible rfl))
                  try simp only [Act.put, List.setIfInBounds_toArray, List.set_cons_zero, List.set_cons_succ]
                  refine wpAnyH_take (i := 55) (oi := { dst := some 127, op := Op.binOp BinOp.neq 4 (Operand.tmp 118) (Operand.tmp 126) 4, type := 4, pos := "law.go:32", after := #[{ on := 46, ground := Ground.data }, { on := 54, ground := Ground.data }, { on := 40, ground := Ground.guard }], guard := some (40, false) }) (v := ?v55ft) rfl (by kernel_rfl) (by kernel_rfl) (by kernel_rfl) (fun _ _ _ h => h) (Or.inl ⟨by rfl, ?hy55ft⟩) hH ?r55ft
                  case hy55ft => (intro W hSw; (try dsimp only at hSw); go_simp; try (with_reducible rfl))
                  try simp only [Act.put, List.setIfInBounds_toArray, List.set_cons_zero, List.set_cons_succ]
                  refine wpAnyH_take (i := 56) (oi := { dst := some 128, op := Op.pick (Operand.tmp 112) (Operand.const (Value.bool true)) (Operand.tmp 127), type := 4, pos := "law.go:32", after := #[{ on := 40, ground := Ground.data }, { on := 55, ground := Ground.data }], guard := none }) (v := ?v56ft) rfl (by kernel_rfl) (by kernel_rfl) (by kernel_rfl) (fun _ _ _ h => h) (Or.inl ⟨by rfl, ?hy56ft⟩) hH ?r56ft
                  case hy56ft => (intro W hSw; (try dsimp only at hSw); go_simp; try (with_reducible rfl))
                  try simp only [Act.put, List.setIfInBounds_toArray, List.set_cons_zero, List.set_cons_succ]
                  refine wpAnyH_done (by kernel_rfl) ?_ _
                  refine NoPanic.normal ?_
                  go_wp2_with fail
                  go_meet
                  case rel => exact ⟨rfl, Q10⟩
                · have HR : Hid (rng fr tt k = false) := by show _ = _; unfold rng; simp [hf]
                  have hf' : decide ((fr : Int) ≤ (k : Int)) = false := by simp; omega
                  refine wp_region_noPanic ?_
                  refine wp_region_held_drew (S := (fun W => W.cell? ⟨w.heap.size, 0, none⟩ = some (.int .u64 (wd p 0 : Nat)) ∧ W.cell? ⟨w.heap.size, 1, none⟩ = some (.int .u64 (wd p 1 : Nat)) ∧ W.cell? ⟨w.heap.size, 2, none⟩ = some (.int .u64 (wd p 2 : Nat)) ∧ W.cell? ⟨w.heap.size, 3, none⟩ = some (.int .u64 (wd p 3 : Nat)) ∧ W.cell? ⟨w3.heap.size, 0, none⟩ = some (.int .u64 (wd q 0 : Nat)) ∧ W.cell? ⟨w3.heap.size, 1, none⟩ = some (.int .u64 (wd q 1 : Nat)) ∧ W.cell? ⟨w3.heap.size, 2, none⟩ = some (.int .u64 (wd q 2 : Nat)) ∧ W.cell? ⟨w3.heap.size, 3, none⟩ = some (.int .u64 (wd q 3 : Nat)) ∧ W.cell? ⟨(w3.heap.size + 1), 0, none⟩ = some (.int .u64 (wd (rng fr tt) 0 : Nat)) ∧ W.cell? ⟨(w3.heap.size + 1), 1, none⟩ = some (.int .u64 (wd (rng fr tt) 1 : Nat)) ∧ W.cell? ⟨(w3.heap.size + 1), 2, none⟩ = some (.int .u64 (wd (rng fr tt) 2 : Nat)) ∧ W.cell? ⟨(w3.heap.size + 1), 3, none⟩ = some (.int .u64 (wd (rng fr tt) 3 : Nat)) ∧ (Instr.lookup 35 (.map (some (w5.heap.size + 1))) (.int .u8 (k : Int)) false).run Try.prog W = .ok (.bool qk) W ∧ Hid (Kp w7 W))) (by kernel_rfl) ?_ (fun hH => ?_)
                  · exact MK.out _ Q0
                  refine wpAnyH_take (i := 0) (oi := { dst := some 72, op := Op.load 24 (Operand.tmp 5), type := 24, pos := "law.go:32", after := #[], guard := none }) (v := ?v0ff) rfl (by kernel_rfl) (by kernel_rfl) (by kernel_rfl) (fun _ _ _ h => h) (Or.inl ⟨by rfl, ?hy0ff⟩) hH ?r0ff
                  case hy0ff => (intro W hSw; (try dsimp only at hSw); go_simp; try (with_reducible rfl))
                  try simp only [Act.put, List.setIfInBounds_toArray, List.set_cons_zero, List.set_cons_succ]
                  refine wpAnyH_take (i := 1) (oi := { dst := some 73, op := Op.move (Operand.tmp 25), type := 5, pos := "law.go:32", after := #[], guard := none }) (v := ?v1ff) rfl (by kernel_rfl) (by kernel_rfl) (by kernel_rfl) (fun _ _ _ h => h) (Or.inl ⟨by rfl, ?hy1ff⟩) hH ?r1ff
                  case hy1ff => (intro W hSw; (try dsimp only at hSw); go_simp; try (with_reducible rfl))
                  try simp only [Act.put, List.setIfInBounds_toArray, List.set_cons_zero, List.set_cons_succ]
                  refine wpAnyH_take (i := 3) (oi := { dst := some 75, op := Op.load 24 (Operand.tmp 5), type := 24, pos := "law.go:32", after := #[], guard := none }) (v := ?v3ff) rfl (by kernel_rfl) (by kernel_rfl) (by kernel_rfl) (fun _ _ _ h => h) (Or.inl ⟨by rfl, ?hy3ff⟩) hH ?r3ff
                  case hy3ff => (intro W hSw; (try dsimp only at hSw); go_simp; try (with_reducible rfl))
                  try simp only [Act.put, List.setIfInBounds_toArray, List.set_cons_zero, List.set_cons_succ]
                  refine wpAnyH_take (i := 4) (oi := { dst := some 76, op := Op.move (Operand.tmp 25), type := 5, pos := "law.go:32", after := #[], guard := none }) (v := ?v4ff) rfl (by kernel_rfl) (by kernel_rfl) (by kernel_rfl) (fun _ _ _ h => h) (Or.inl ⟨by rfl, ?hy4ff⟩) hH ?r4ff
                  case hy4ff => (intro W hSw; (try dsimp only at hSw); go_simp; try (with_reducible rfl))
                  try simp only [Act.put, List.setIfInBounds_toArray, List.set_cons_zero, List.set_cons_succ]
                  refine wpAnyH_ready (rs := [2]) (by kernel_rfl) (by simp) ?_
                  refine AllReadyH.cons (o := { dst := some 74, op := Op.call { callee := Callee.value (Operand.func 17), args := #[Operand.tmp 72, Operand.tmp 73], argTypes := #[24, 5] }, type := 4, pos := "law.go:32", after := #[{ on := 0, ground := Ground.data }, { on := 1, ground := Ground.data }], guard := none }) rfl (fun K hKq => ?_) AllReadyH.nil
                  go_simp
                  refine (has_any p k _ hlt).mono ?_
                  rintro e y1 ⟨rfl, kq⟩
                  rw [hp]
                  have Q1 : Kp w7 y1 := Q0.trans kq
                  clear kq Q0
                  refine hKq.out _ _ (MK.out _ Q1) (fun hN => ?_)
                  clear hKq K hH
                  have hH := hN
                  clear hN
                  try simp only [Act.put, List.setIfInBounds_toArray, List.set_cons_zero, List.set_cons_succ]
                  refine wpAnyH_ready (rs := [5]) (by kernel_rfl) (by simp) ?_
                  refine AllReadyH.cons (o := { dst := some 77, op := Op.call { callee := Callee.value (Operand.func 18), args := #[Operand.tmp 75, Operand.tmp 76], argTypes := #[24, 5] }, type := 4, pos := "law.go:32", after := #[{ on := 3, ground := Ground.data }, { on := 4, ground := Ground.data }, { on := 2, ground := Ground.chain }], guard := none }) rfl (fun K hKq => ?_) AllReadyH.nil
                  go_simp
                  refine (refhas_any p k _ hlt).mono ?_
                  rintro e y2 ⟨rfl, kq⟩
                  rw [hp]
                  have Q2 : Kp w7 y2 := Q1.trans kq
                  clear kq Q1
                  refine hKq.out _ _ (MK.out _ Q2) (fun hN => ?_)
                  clear hKq K hH
                  have hH := hN
                  clear hN
                  try simp only [Act.put, List.setIfInBounds_toArray, List.set_cons_zero, List.set_cons_succ]
                  refine wpAnyH_take (i := 6) (oi := { dst := some 78, op := Op.binOp BinOp.neq 4 (Operand.tmp 74) (Operand.tmp 77) 4, type := 4, pos := "law.go:32", after := #[{ on := 2, ground := Ground.data }, { on := 5, ground := Ground.data }], guard := none }) (v := ?v6ff) rfl (by kernel_rfl) (by kernel_rfl) (by kernel_rfl) (fun _ _ _ h => h) (Or.inl ⟨by rfl, ?hy6ff⟩) hH ?r6ff
                  case hy6ff => (intro W hSw; (try dsimp only at hSw); go_simp; try (with_reducible rfl))
                  try simp only [Act.put, List.setIfInBounds_toArray, List.set_cons_zero, List.set_cons_succ]
                  refine wpAnyH_take (i := 7) (oi := { dst := some 79, op := Op.move (Operand.tmp 78), type := 4, pos := "law.go:32", after := #[{ on := 6, ground := Ground.data }, { on := 5, ground := Ground.chain }], guard := none }) (v := ?v7ff) rfl (by kernel_rfl) (by kernel_rfl) (by kernel_rfl) (fun _ _ _ h => h) (Or.inl ⟨by rfl, ?hy7ff⟩) hH ?r7ff
                  case hy7ff => (intro W hSw; (try dsimp only at hSw); go_simp; try (with_reducible rfl))
                  try simp only [Act.put, List.setIfInBounds_toArray, List.set_cons_zero, List.set_cons_succ]
                  refine wpAnyH_take (i := 8) (oi := { dst := some 80, op := Op.load 24 (Operand.tmp 13), type := 24, pos := "law.go:32", after := #[{ on := 7, ground := Ground.guard }], guard := some (7, false) }) (v := ?v8ff) rfl (by kernel_rfl) (by kernel_rfl) (by kernel_rfl) (fun _ _ _ h => h) (Or.inl ⟨by rfl, ?hy8ff⟩) hH ?r8ff
                  case hy8ff => (intro W hSw; (try dsimp only at hSw); go_simp; try (with_reducible rfl))
                  try simp only [Act.put, List.setIfInBounds_toArray, List.set_cons_zero, List.set_cons_succ]
                  refine wpAnyH_take (i := 9) (oi := { dst := some 81, op := Op.move (Operand.tmp 25), type := 5, pos := "law.go:32", after := #[{ on := 7, ground := Ground.guard }], guard := some (7, false) }) (v := ?v9ff) rfl (by kernel_rfl) (by kernel_rfl) (by kernel_rfl) (fun _ _ _ h => h) (Or.inl ⟨by rfl, ?hy9ff⟩) hH ?r9ff
                  case hy9ff => (intro W hSw; (try dsimp only at hSw); go_simp; try (with_reducible rfl))
                  try simp only [Act.put, List.setIfInBounds_toArray, List.set_cons_zero, List.set_cons_succ]
                  refine wpAnyH_take (i := 11) (oi := { dst := some 83, op := Op.move (Operand.tmp 19), type := 35, pos := "law.go:32", after := #[{ on := 7, ground := Ground.guard }], guard := some (7, false) }) (v := ?v11ff) rfl (by kernel_rfl) (by kernel_rfl) (by kernel_rfl) (fun _ _ _ h => h) (Or.inl ⟨by rfl, ?hy11ff⟩) hH ?r11ff
                  case hy11ff => (intro W hSw; (try dsimp only at hSw); go_simp; try (with_reducible rfl))
                  try simp only [Act.put, List.setIfInBounds_toArray, List.set_cons_zero, List.set_cons_succ]
                  refine wpAnyH_take (i := 12) (oi := { dst := some 84, op := Op.move (Operand.tmp 25), type := 5, pos := "law.go:32", after := #[{ on := 7, ground := Ground.guard }], guard := some (7, false) }) (v := ?v12ff) rfl (by kernel_rfl) (by kernel_rfl) (by kernel_rfl) (fun _ _ _ h => h) (Or.inl ⟨by rfl, ?hy12ff⟩) hH ?r12ff
                  case hy12ff => (intro W hSw; (try dsimp only at hSw); go_simp; try (with_reducible rfl))
                  try simp only [Act.put, List.setIfInBounds_toArray, List.set_cons_zero, List.set_cons_succ]
                  refine wpAnyH_take (i := 13) (oi := { dst := some 85, op := Op.lookup 35 (Operand.tmp 83) (Operand.tmp 84) false, type := 4, pos := "law.go:32", after := #[{ on := 11, ground := Ground.data }, { on := 12, ground := Ground.data }, { on := 7, ground := Ground.guard }], guard := some (7, false) }) (v := ?v13ff) rfl (by kernel_rfl) (by kernel_rfl) (by kernel_rfl) (fun _ _ _ h => h) (Or.inl ⟨by rfl, ?hy13ff⟩) hH ?r13ff
                  case hy13ff => (intro W hSw; (try dsimp only at hSw); go_simp; try (with_reducible rfl))
                  try simp only [Act.put, List.setIfInBounds_toArray, List.set_cons_zero, List.set_cons_succ]
                  refine wpAnyH_ready (rs := [10]) (by kernel_rfl) (by simp) ?_
                  refine AllReadyH.cons (o := { dst := some 82, op := Op.call { callee := Callee.value (Operand.func 17), args := #[Operand.tmp 80, Operand.tmp 81], argTypes := #[24, 5] }, type := 4, pos := "law.go:32", after := #[{ on := 8, ground := Ground.data }, { on := 9, ground := Ground.data }, { on := 7, ground := Ground.chain }, { on := 7, ground := Ground.guard }], guard := some (7, false) }) rfl (fun K hKq => ?_) AllReadyH.nil
                  go_simp
                  refine (has_any q k _ hlt).mono ?_
                  rintro e y3 ⟨rfl, kq⟩
                  rw [HQK.out]
                  have Q3 : Kp w7 y3 := Q2.trans kq
                  clear kq Q2
                  refine hKq.out _ _ (MK.out _ Q3) (fun hN => ?_)
                  clear hKq K hH
                  have hH := hN
                  clear hN
                  try simp only [Act.put, List.setIfInBounds_toArray, List.set_cons_zero, List.set_cons_succ]
                  refine wpAnyH_take (i := 14) (oi := { dst := some 86, op := Op.binOp BinOp.neq 4 (Operand.tmp 82) (Operand.tmp 85) 4, type := 4, pos := "law.go:32", after := #[{ on := 10, ground := Ground.data }, { on := 13, ground := Ground.data }, { on := 7, ground := Ground.guard }], guard := some (7, false) }) (v := ?v14ff) rfl (by kernel_rfl) (by kernel_rfl) (by kernel_rfl) (fun _ _ _ h => h) (Or.inl ⟨by rfl, ?hy14ff⟩) hH ?r14ff
                  case hy14ff => (intro W hSw; (try dsimp only at hSw); go_simp; try (with_reducible rfl))
                  try simp only [Act.put, List.setIfInBounds_toArray, List.set_cons_zero, List.set_cons_succ]
                  refine wpAnyH_take (i := 15) (oi := { dst := some 87, op := Op.pick (Operand.tmp 79) (Operand.const (Value.bool true)) (Operand.tmp 86), type := 4, pos := "law.go:32", after := #[{ on := 7, ground := Ground.data }, { on := 14, ground := Ground.data }], guard := none }) (v := ?v15ff) rfl (by kernel_rfl) (by kernel_rfl) (by kernel_rfl) (fun _ _ _ h => h) (Or.inl ⟨by rfl, ?hy15ff⟩) hH ?r15ff
                  case hy15ff => (intro W hSw; (try dsimp only at hSw); go_simp; try (with_reducible rfl))
                  try simp only [Act.put, List.setIfInBounds_toArray, List.set_cons_zero, List.set_cons_succ]
                  refine wpAnyH_take (i := 16) (oi := { dst := some 88, op := Op.move (Operand.tmp 87), type := 4, pos := "law.go:32", after := #[{ on := 15, ground := Ground.data }, { on := 10, ground := Ground.chain }], guard := none }) (v := ?v16ff) rfl (by kernel_rfl) (by kernel_rfl) (by kernel_rfl) (fun _ _ _ h => h) (Or.inl ⟨by rfl, ?hy16ff⟩) hH ?r16ff
                  case hy16ff => (intro W hSw; (try dsimp only at hSw); go_simp; try (with_reducible rfl))
                  try simp only [Act.put, List.setIfInBounds_toArray, List.set_cons_zero, List.set_cons_succ]
                  refine wpAnyH_take (i := 17) (oi := { dst := some 89, op := Op.load 24 (Operand.tmp 14), type := 24, pos := "law.go:32", after := #[{ on := 16, ground := Ground.guard }], guard := some (16, false) }) (v := ?v17ff) rfl (by kernel_rfl) (by kernel_rfl) (by kernel_rfl) (fun _ _ _ h => h) (Or.inl ⟨by rfl, ?hy17ff⟩) hH ?r17ff
                  case hy17ff => (intro W hSw; (try dsimp only at hSw); go_simp; try (with_reducible rfl))
                  try simp only [Act.put, List.setIfInBounds_toArray, List.set_cons_zero, List.set_cons_succ]
                  refine wpAnyH_take (i := 18) (oi := { dst := some 90, op := Op.move (Operand.tmp 25), type := 5, pos := "law.go:32", after := #[{ on := 16, ground := Ground.guard }], guard := some (16, false) }) (v := ?v18ff) rfl (by kernel_rfl) (by kernel_rfl) (by kernel_rfl) (fun _ _ _ h => h) (Or.inl ⟨by rfl, ?hy18ff⟩) hH ?r18ff
                  case hy18ff => (intro W hSw; (try dsimp only at hSw); go_simp; try (with_reducible rfl))
                  try simp only [Act.put, List.setIfInBounds_toArray, List.set_cons_zero, List.set_cons_succ]
                  refine wpAnyH_take (i := 20) (oi := { dst := some 92, op := Op.move (Operand.tmp 25), type := 5, pos := "law.go:32", after := #[{ on := 16, ground := Ground.guard }], guard := some (16, false) }) (v := ?v20ff) rfl (by kernel_rfl) (by kernel_rfl) (by kernel_rfl) (fun _ _ _ h => h) (Or.inl ⟨by rfl, ?hy20ff⟩) hH ?r20ff
                  case hy20ff => (intro W hSw; (try dsimp only at hSw); go_simp; try (with_reducible rfl))
                  try simp only [Act.put, List.setIfInBounds_toArray, List.set_cons_zero, List.set_cons_succ]
                  refine wpAnyH_take (i := 21) (oi := { dst := some 93, op := Op.move (Operand.tmp 2), type := 5, pos := "law.go:32", after := #[{ on := 16, ground := Ground.guard }], guard := some (16, false) }) (v := ?v21ff) rfl (by kernel_rfl) (by kernel_rfl) (by kernel_rfl) (fun _ _ _ h => h) (Or.inl ⟨by rfl, ?hy21ff⟩) hH ?r21ff
                  case hy21ff => (intro W hSw; (try dsimp only at hSw); go_simp; try (with_reducible rfl))
                  try simp only [Act.put, List.setIfInBounds_toArray, List.set_cons_zero, List.set_cons_succ]
                  refine wpAnyH_take (i := 22) (oi := { dst := some 94, op := Op.binOp BinOp.geq 5 (Operand.tmp 92) (Operand.tmp 93) 5, type := 4, pos := "law.go:32", after := #[{ on := 20, ground := Ground.data }, { on := 21, ground := Ground.data }, { on := 16, ground := Ground.guard }], guard := some (16, false) }) (v := ?v22ff) rfl (by kernel_rfl) (by kernel_rfl) (by kernel_rfl) (fun _ _ _ h => h) (Or.inl ⟨by rfl, ?hy22ff⟩) hH ?r22ff
                  case hy22ff => (intro W hSw; (try dsimp only at hSw); go_simp; try (with_reducible rfl))
                  try simp only [Act.put, List.setIfInBounds_toArray, List.set_cons_zero, List.set_cons_succ]
                  refine wpAnyH_ready (rs := [19]) (by kernel_rfl) (by simp) ?_
                  refine AllReadyH.cons (o := { dst := some 91, op := Op.call { callee := Callee.value (Operand.func 17), args := #[Operand.tmp 89, Operand.tmp 90], argTypes := #[24, 5] }, type := 4, pos := "law.go:32", after := #[{ on := 17, ground := Ground.data }, { on := 18, ground := Ground.data }, { on := 16, ground := Ground.chain }, { on := 16, ground := Ground.guard }], guard := some (16, false) }) rfl (fun K hKq => ?_) AllReadyH.nil
                  go_simp
                  refine (has_any (rng fr tt) k _ hlt).mono ?_
                  rintro e y4 ⟨rfl, kq⟩
                  rw [HR.out]
                  have Q4 : Kp w7 y4 := Q3.trans kq
                  clear kq Q3
                  refine hKq.out _ _ (MK.out _ Q4) (fun hN => ?_)
                  clear hKq K hH
                  have hH := hN
                  clear hN
                  try simp only [Act.put, List.setIfInBounds_toArray, List.set_cons_zero, List.set_cons_succ]
                  refine wpAnyH_take (i := 23) (oi := { dst := some 95, op := Op.move (Operand.tmp 94), type := 4, pos := "law.go:32", after := #[{ on := 22, ground := Ground.data }, { on := 19, ground := Ground.chain }, { on := 16, ground := Ground.guard }], guard := some (16, false) }) (v := ?v23ff) rfl (by kernel_rfl) (by kernel_rfl) (by kernel_rfl) (fun _ _ _ h => h) (Or.inl ⟨by rfl, ?hy23ff⟩) hH ?r23ff
                  case hy23ff => (intro W hSw; (try dsimp only at hSw); go_simp; try (with_reducible rfl))
                  try simp only [Act.put, List.setIfInBounds_toArray, List.set_cons_zero, List.set_cons_succ]
                  refine wpAnyH_take (i := 24) (oi := { dst := some 96, op := Op.move (Operand.tmp 25), type := 5, pos := "law.go:32", after := #[{ on := 23, ground := Ground.guard }], guard := some (23, true) }) (v := undef) rfl (by kernel_rfl) (by kernel_rfl) (by kernel_rfl) (fun _ _ _ h => h) (Or.inr ⟨by rfl, rfl⟩) hH ?r24ff
                  try simp only [Act.put, List.setIfInBounds_toArray, List.set_cons_zero, List.set_cons_succ]
                  refine wpAnyH_take (i := 25) (oi := { dst := some 97, op := Op.move (Operand.tmp 3), type := 5, pos := "law.go:32", after := #[{ on := 23, ground := Ground.guard }], guard := some (23, true) }) (v := undef) rfl (by kernel_rfl) (by kernel_rfl) (by kernel_rfl) (fun _ _ _ h => h) (Or.inr ⟨by rfl, rfl⟩) hH ?r25ff
                  try simp only [Act.put, List.setIfInBounds_toArray, List.set_cons_zero, List.set_cons_succ]
                  refine wpAnyH_take (i := 26) (oi := { dst := some 98, op := Op.binOp BinOp.leq 5 (Operand.tmp 96) (Operand.tmp 97) 5, type := 4, pos := "law.go:32", after := #[{ on := 24, ground := Ground.data }, { on := 25, ground := Ground.data }, { on := 23, ground := Ground.guard }], guard := some (23, true) }) (v := undef) rfl (by kernel_rfl) (by kernel_rfl) (by kernel_rfl) (fun _ _ _ h => h) (Or.inr ⟨by rfl, rfl⟩) hH ?r26ff
                  try simp only [Act.put, List.setIfInBounds_toArray, List.set_cons_zero, List.set_cons_succ]
                  refine wpAnyH_take (i := 27) (oi := { dst := some 99, op := Op.pick (Operand.tmp 95) (Operand.tmp 98) (Operand.const (Value.bool false)), type := 4, pos := "law.go:32", after := #[{ on := 23, ground := Ground.data }, { on := 26, ground := Ground.data }, { on := 16, ground := Ground.guard }], guard := some (16, false) }) (v := ?v27ff) rfl (by kernel_rfl) (by kernel_rfl) (by kernel_rfl) (fun _ _ _ h => h) (Or.inl ⟨by rfl, ?hy27ff⟩) hH ?r27ff
                  case hy27ff => (intro W hSw; (try dsimp only at hSw); go_simp; try (with_reducible rfl))
                  try simp only [Act.put, List.setIfInBounds_toArray, List.set_cons_zero, List.set_cons_succ]
                  refine wpAnyH_take (i := 28) (oi := { dst := some 100, op := Op.binOp BinOp.neq 4 (Operand.tmp 91) (Operand.tmp 99) 4, type := 4, pos := "law.go:32", after := #[{ on := 19, ground := Ground.data }, { on := 27, ground := Ground.data }, { on := 16, ground := Ground.guard }], guard := some (16, false) }) (v := ?v28ff) rfl (by kernel_rfl) (by kernel_rfl) (by kernel_rfl) (fun _ _ _ h => h) (Or.inl ⟨by rfl, ?hy28ff⟩) hH ?r28ff
                  case hy28ff => (intro W hSw; (try dsimp only at hSw); go_simp; try (with_reducible rfl))
                  try simp only [Act.put, List.setIfInBounds_toArray, List.set_cons_zero, List.set_cons_succ]
                  refine wpAnyH_take (i := 29) (oi := { dst := some 101, op := Op.pick (Operand.tmp 88) (Operand.const (Value.bool true)) (Operand.tmp 100), type := 4, pos := "law.go:32", after := #[{ on := 16, ground := Ground.data }, { on := 28, ground := Ground.data }], guard := none }) (v := ?v29ff) rfl (by kernel_rfl) (by kernel_rfl) (by kernel_rfl) (fun _ _ _ h => h) (Or.inl ⟨by rfl, ?hy29ff⟩) hH ?r29ff
                  case hy29ff => (intro W hSw; (try dsimp only at hSw); go_simp; try (with_reducible rfl))
                  try simp only [Act.put, List.setIfInBounds_toArray, List.set_cons_zero, List.set_cons_succ]
                  refine wpAnyH_take (i := 30) (oi := { dst := some 102, op := Op.move (Operand.tmp 101), type := 4, pos := "law.go:32", after := #[{ on := 29, ground := Ground.data }, { on := 23, ground := Ground.chain }], guard := none }) (v := ?v30ff) rfl (by kernel_rfl) (by kernel_rfl) (by kernel_rfl) (fun _ _ _ h => h) (Or.inl ⟨by rfl, ?hy30ff⟩) hH ?r30ff
                  case hy30ff => (intro W hSw; (try dsimp only at hSw); go_simp; try (with_reducible rfl))
                  try simp only [Act.put, List.setIfInBounds_toArray, List.set_cons_zero, List.set_cons_succ]
                  refine wpAnyH_take (i := 31) (oi := { dst := some 103, op := Op.load 24 (Operand.tmp 5), type := 24, pos := "law.go:32", after := #[{ on := 30, ground := Ground.guard }], guard := some (30, false) }) (v := ?v31ff) rfl (by kernel_rfl) (by kernel_rfl) (by kernel_rfl) (fun _ _ _ h => h) (Or.inl ⟨by rfl, ?hy31ff⟩) hH ?r31ff
                  case hy31ff => (intro W hSw; (try dsimp only at hSw); go_simp; try (with_reducible rfl))
                  try simp only [Act.put, List.setIfInBounds_toArray, List.set_cons_zero, List.set_cons_succ]
                  refine wpAnyH_take (i := 33) (oi := { dst := some 105, op := Op.move (Operand.tmp 25), type := 5, pos := "law.go:32", after := #[{ on := 30, ground := Ground.guard }], guard := some (30, false) }) (v := ?v33ff) rfl (by kernel_rfl) (by kernel_rfl) (by kernel_rfl) (fun _ _ _ h => h) (Or.inl ⟨by rfl, ?hy33ff⟩) hH ?r33ff
                  case hy33ff => (intro W hSw; (try dsimp only at hSw); go_simp; try (with_reducible rfl))
                  try simp only [Act.put, List.setIfInBounds_toArray, List.set_cons_zero, List.set_cons_succ]
                  refine wpAnyH_take (i := 35) (oi := { dst := some 107, op := Op.load 24 (Operand.tmp 5), type := 24, pos := "law.go:32", after := #[{ on := 30, ground := Ground.guard }], guard := some (30, false) }) (v := ?v35ff) rfl (by kernel_rfl) (by kernel_rfl) (by kernel_rfl) (fun _ _ _ h => h) (Or.inl ⟨by rfl, ?hy35ff⟩) hH ?r35ff
                  case hy35ff => (intro W hSw; (try dsimp only at hSw); go_simp; try (with_reducible rfl))
                  try simp only [Act.put, List.setIfInBounds_toArray, List.set_cons_zero, List.set_cons_succ]
                  refine wpAnyH_take (i := 36) (oi := { dst := some 108, op := Op.move (Operand.tmp 25), type := 5, pos := "law.go:32", after := #[{ on := 30, ground := Ground.guard }], guard := some (30, false) }) (v := ?v36ff) rfl (by kernel_rfl) (by kernel_rfl) (by kernel_rfl) (fun _ _ _ h => h) (Or.inl ⟨by rfl, ?hy36ff⟩) hH ?r36ff
                  case hy36ff => (intro W hSw; (try dsimp only at hSw); go_simp; try (with_reducible rfl))
                  try simp only [Act.put, List.setIfInBounds_toArray, List.set_cons_zero, List.set_cons_succ]
                  refine wpAnyH_ready (rs := [32]) (by kernel_rfl) (by simp) ?_
                  refine AllReadyH.cons (o := { dst := some 104, op := Op.call { callee := Callee.value (Operand.func 13), args := #[Operand.tmp 103], argTypes := #[24] }, type := 24, pos := "law.go:32", after := #[{ on := 31, ground := Ground.data }, { on := 30, ground := Ground.chain }, { on := 30, ground := Ground.guard }], guard := some (30, false) }) rfl (fun K hKq => ?_) AllReadyH.nil
                  go_simp
                  refine (not_any p _).mono ?_
                  rintro e y5 ⟨rfl, kq⟩
                  have Q5 : Kp w7 y5 := Q4.trans kq
                  clear kq Q4
                  refine hKq.out _ _ (MK.out _ Q5) (fun hN => ?_)
                  clear hKq K hH
                  have hH := hN
                  clear hN
                  try simp only [Act.put, List.setIfInBounds_toArray, List.set_cons_zero, List.set_cons_succ]
                  refine wpAnyH_ready (rs := [34]) (by kernel_rfl) (by simp) ?_
                  refine AllReadyH.cons (o := { dst := some 106, op := Op.call { callee := Callee.value (Operand.func 17), args := #[Operand.tmp 104, Operand.tmp 105], argTypes := #[24, 5] }, type := 4, pos := "law.go:32", after := #[{ on := 32, ground := Ground.data }, { on := 33, ground := Ground.data }, { on := 32, ground := Ground.chain }, { on := 30, ground := Ground.guard }], guard := some (30, false) }) rfl (fun K hKq => ?_) AllReadyH.nil
                  go_simp
                  refine (has_any (notB p) k _ hlt).mono ?_
                  rintro e y6 ⟨rfl, kq⟩
                  rw [HNP.out]
                  have Q6 : Kp w7 y6 := Q5.trans kq
                  clear kq Q5
                  refine hKq.out _ _ (MK.out _ Q6) (fun hN => ?_)
                  clear hKq K hH
                  have hH := hN
                  clear hN
                  try simp only [Act.put, List.setIfInBounds_toArray, List.set_cons_zero, List.set_cons_succ]
                  refine wpAnyH_ready (rs := [37]) (by kernel_rfl) (by simp) ?_
                  refine AllReadyH.cons (o := { dst := some 109, op := Op.call { callee := Callee.value (Operand.func 18), args := #[Operand.tmp 107, Operand.tmp 108], argTypes := #[24, 5] }, type := 4, pos := "law.go:32", after := #[{ on := 35, ground := Ground.data }, { on := 36, ground := Ground.data }, { on := 34, ground := Ground.chain }, { on := 30, ground := Ground.guard }], guard := some (30, false) }) rfl (fun K hKq => ?_) AllReadyH.nil
                  go_simp
                  refine (refhas_any p k _ hlt).mono ?_
                  rintro e y7 ⟨rfl, kq⟩
                  rw [hp]
                  have Q7 : Kp w7 y7 := Q6.trans kq
                  clear kq Q6
                  refine hKq.out _ _ (MK.out _ Q7) (fun hN => ?_)
                  clear hKq K hH
                  have hH := hN
                  clear hN
                  try simp only [Act.put, List.setIfInBounds_toArray, List.set_cons_zero, List.set_cons_succ]
                  refine wpAnyH_take (i := 38) (oi := { dst := some 110, op := Op.binOp BinOp.eql 4 (Operand.tmp 106) (Operand.tmp 109) 4, type := 4, pos := "law.go:32", after := #[{ on := 34, ground := Ground.data }, { on := 37, ground := Ground.data }, { on := 30, ground := Ground.guard }], guard := some (30, false) }) (v := ?v38ff) rfl (by kernel_rfl) (by kernel_rfl) (by kernel_rfl) (fun _ _ _ h => h) (Or.inl ⟨by rfl, ?hy38ff⟩) hH ?r38ff
                  case hy38ff => (intro W hSw; (try dsimp only at hSw); go_simp; try (with_reducible rfl))
                  try simp only [Act.put, List.setIfInBounds_toArray, List.set_cons_zero, List.set_cons_succ]
                  refine wpAnyH_take (i := 39) (oi := { dst := some 111, op := Op.pick (Operand.tmp 102) (Operand.const (Value.bool true)) (Operand.tmp 110), type := 4, pos := "law.go:32", after := #[{ on := 30, ground := Ground.data }, { on := 38, ground := Ground.data }], guard := none }) (v := ?v39ff) rfl (by kernel_rfl) (by kernel_rfl) (by kernel_rfl) (fun _ _ _ h => h) (Or.inl ⟨by rfl, ?hy39ff⟩) hH ?r39ff
                  case hy39ff => (intro W hSw; (try dsimp only at hSw); go_simp; try (with_reducible rfl))
                  try simp only [Act.put, List.setIfInBounds_toArray, List.set_cons_zero, List.set_cons_succ]
                  refine wpAnyH_take (i := 40) (oi := { dst := some 112, op := Op.move (Operand.tmp 111), type := 4, pos := "law.go:32", after := #[{ on := 39, ground := Ground.data }, { on := 37, ground := Ground.chain }], guard := none }) (v := ?v40ff) rfl (by kernel_rfl) (by kernel_rfl) (by kernel_rfl) (fun _ _ _ h => h) (Or.inl ⟨by rfl, ?hy40ff⟩) hH ?r40ff
                  case hy40ff => (intro W hSw; (try dsimp only at hSw); go_simp; try (with_reducible rfl))
                  try simp only [Act.put, List.setIfInBounds_toArray, List.set_cons_zero, List.set_cons_succ]
                  refine wpAnyH_take (i := 41) (oi := { dst := some 113, op := Op.load 24 (Operand.tmp 5), type := 24, pos := "law.go:32", after := #[{ on := 40, ground := Ground.guard }], guard := some (40, false) }) (v := ?v41ff) rfl (by kernel_rfl) (by kernel_rfl) (by kernel_rfl) (fun _ _ _ h => h) (Or.inl ⟨by rfl, ?hy41ff⟩) hH ?r41ff
                  case hy41ff => (intro W hSw; (try dsimp only at hSw); go_simp; try (with_reducible rfl))
                  try simp only [Act.put, List.setIfInBounds_toArray, List.set_cons_zero, List.set_cons_succ]
                  refine wpAnyH_take (i := 42) (oi := { dst := some 114, op := Op.load 24 (Operand.tmp 13), type := 24, pos := "law.go:32", after := #[{ on := 40, ground := Ground.guard }], guard := some (40, false) }) (v := ?v42ff) rfl (by kernel_rfl) (by kernel_rfl) (by kernel_rfl) (fun _ _ _ h => h) (Or.inl ⟨by rfl, ?hy42ff⟩) hH ?r42ff
                  case hy42ff => (intro W hSw; (try dsimp only at hSw); go_simp; try (with_reducible rfl))
                  try simp only [Act.put, List.setIfInBounds_toArray, List.set_cons_zero, List.set_cons_succ]
                  refine wpAnyH_take (i := 45) (oi := { dst := some 117, op := Op.move (Operand.tmp 25), type := 5, pos := "law.go:32", after := #[{ on := 40, ground := Ground.guard }], guard := some (40, false) }) (v := ?v45ff) rfl (by kernel_rfl) (by kernel_rfl) (by kernel_rfl) (fun _ _ _ h => h) (Or.inl ⟨by rfl, ?hy45ff⟩) hH ?r45ff
                  case hy45ff => (intro W hSw; (try dsimp only at hSw); go_simp; try (with_reducible rfl))
                  try simp only [Act.put, List.setIfInBounds_toArray, List.set_cons_zero, List.set_cons_succ]
                  refine wpAnyH_take (i := 47) (oi := { dst := some 119, op := Op.load 24 (Operand.tmp 5), type := 24, pos := "law.go:32", after := #[{ on := 40, ground := Ground.guard }], guard := some (40, false) }) (v := ?v47ff) rfl (by kernel_rfl) (by kernel_rfl) (by kernel_rfl) (fun _ _ _ h => h) (Or.inl ⟨by rfl, ?hy47ff⟩) hH ?r47ff
                  case hy47ff => (intro W hSw; (try dsimp only at hSw); go_simp; try (with_reducible rfl))
                  try simp only [Act.put, List.setIfInBounds_toArray, List.set_cons_zero, List.set_cons_succ]
                  refine wpAnyH_take (i := 48) (oi := { dst := some 120, op := Op.move (Operand.tmp 25), type := 5, pos := "law.go:32", after := #[{ on := 40, ground := Ground.guard }], guard := some (40, false) }) (v := ?v48ff) rfl (by kernel_rfl) (by kernel_rfl) (by kernel_rfl) (fun _ _ _ h => h) (Or.inl ⟨by rfl, ?hy48ff⟩) hH ?r48ff
                  case hy48ff => (intro W hSw; (try dsimp only at hSw); go_simp; try (with_reducible rfl))
                  try simp only [Act.put, List.setIfInBounds_toArray, List.set_cons_zero, List.set_cons_succ]
                  refine wpAnyH_ready (rs := [43]) (by kernel_rfl) (by simp) ?_
                  refine AllReadyH.cons (o := { dst := some 115, op := Op.buildSlice 50 2 #[(0, Operand.tmp 113), (1, Operand.tmp 114)], type := 50, pos := "law.go:32", after := #[{ on := 41, ground := Ground.data }, { on := 42, ground := Ground.data }, { on := 40, ground := Ground.guard }], guard := some (40, false) }) rfl (fun K hKq => ?_) AllReadyH.nil
                  go_simp
                  refine hKq.out _ _ (MK.out _ (Q7.alloc _)) (fun hN => ?_)
                  clear hKq K hH
                  have hH := hN
                  clear hN
                  try simp only [Act.put, List.setIfInBounds_toArray, List.set_cons_zero, List.set_cons_succ]
                  refine wpAnyH_ready (rs := [44]) (by kernel_rfl) (by simp) ?_
                  refine AllReadyH.cons (o := { dst := some 116, op := Op.call { callee := Callee.value (Operand.func 10), args := #[Operand.tmp 115], argTypes := #[50] }, type := 24, pos := "law.go:32", after := #[{ on := 43, ground := Ground.data }, { on := 40, ground := Ground.chain }, { on := 40, ground := Ground.guard }], guard := some (40, false) }) rfl (fun K hKq => ?_) AllReadyH.nil
                  go_simp
                  refine (join2 p q _ _ ?hsff ?hXff).mono ?_
                  case hsff => simp
                  case hXff => exact last_of _ _
                  rintro e y8 ⟨rfl, kq⟩
                  have Q8 : Kp w7 y8 := (Q7.alloc _).trans kq
                  clear kq Q7
                  refine hKq.out _ _ (MK.out _ Q8) (fun hN => ?_)
                  clear hKq K hH
                  have hH := hN
                  clear hN
                  try simp only [Act.put, List.setIfInBounds_toArray, List.set_cons_zero, List.set_cons_succ]
                  refine wpAnyH_ready (rs := [46]) (by kernel_rfl) (by simp) ?_
                  refine AllReadyH.cons (o := { dst := some 118, op := Op.call { callee := Callee.value (Operand.func 17), args := #[Operand.tmp 116, Operand.tmp 117], argTypes := #[24, 5] }, type := 4, pos := "law.go:32", after := #[{ on := 44, ground := Ground.data }, { on := 45, ground := Ground.data }, { on := 44, ground := Ground.chain }, { on := 40, ground := Ground.guard }], guard := some (40, false) }) rfl (fun K hKq => ?_) AllReadyH.nil
                  go_simp
                  refine (has_any (orB p q) k _ hlt).mono ?_
                  rintro e y9 ⟨rfl, kq⟩
                  rw [HOR.out]
                  have Q9 : Kp w7 y9 := Q8.trans kq
                  clear kq Q8
                  refine hKq.out _ _ (MK.out _ Q9) (fun hN => ?_)
                  clear hKq K hH
                  have hH := hN
                  clear hN
                  try simp only [Act.put, List.setIfInBounds_toArray, List.set_cons_zero, List.set_cons_succ]
                  refine wpAnyH_ready (rs := [49]) (by kernel_rfl) (by simp) ?_
                  refine AllReadyH.cons (o := { dst := some 121, op := Op.call { callee := Callee.value (Operand.func 18), args := #[Operand.tmp 119, Operand.tmp 120], argTypes := #[24, 5] }, type := 4, pos := "law.go:32", after := #[{ on := 47, ground := Ground.data }, { on := 48, ground := Ground.data }, { on := 46, ground := Ground.chain }, { on := 40, ground := Ground.guard }], guard := some (40, false) }) rfl (fun K hKq => ?_) AllReadyH.nil
                  go_simp
                  refine (refhas_any p k _ hlt).mono ?_
                  rintro e y10 ⟨rfl, kq⟩
                  rw [hp]
                  have Q10 : Kp w7 y10 := Q9.trans kq
                  clear kq Q9
                  refine hKq.out _ _ (MK.out _ Q10) (fun hN => ?_)
                  clear hKq K hH
                  have hH := hN
                  clear hN
                  try simp only [Act.put, List.setIfInBounds_toArray, List.set_cons_zero, List.set_cons_succ]
                  refine wpAnyH_take (i := 50) (oi := { dst := some 122, op := Op.move (Operand.tmp 121), type := 4, pos := "law.go:32", after := #[{ on := 49, ground := Ground.data }, { on := 49, ground := Ground.chain }, { on := 40, ground := Ground.guard }], guard := some (40, false) }) (v := ?v50ff) rfl (by kernel_rfl) (by kernel_rfl) (by kernel_rfl) (fun _ _ _ h => h) (Or.inl ⟨by rfl, ?hy50ff⟩) hH ?r50ff
                  case hy50ff => (intro W hSw; (try dsimp only at hSw); go_simp; try (with_reducible rfl))
                  try simp only [Act.put, List.setIfInBounds_toArray, List.set_cons_zero, List.set_cons_succ]
                  refine wpAnyH_take (i := 51) (oi := { dst := some 123, op := Op.move (Operand.tmp 19), type := 35, pos := "law.go:32", after := #[{ on := 50, ground := Ground.guard }], guard := some (50, false) }) (v := ?v51ff) rfl (by kernel_rfl) (by kernel_rfl) (by kernel_rfl) (fun _ _ _ h => h) (Or.inl ⟨by rfl, ?hy51ff⟩) hH ?r51ff
                  case hy51ff => (intro W hSw; (try dsimp only at hSw); go_simp; try (with_reducible rfl))
                  try simp only [Act.put, List.setIfInBounds_toArray, List.set_cons_zero, List.set_cons_succ]
                  refine wpAnyH_take (i := 52) (oi := { dst := some 124, op := Op.move (Operand.tmp 25), type := 5, pos := "law.go:32", after := #[{ on := 50, ground := Ground.guard }], guard := some (50, false) }) (v := ?v52ff) rfl (by kernel_rfl) (by kernel_rfl) (by kernel_rfl) (fun _ _ _ h => h) (Or.inl ⟨by rfl, ?hy52ff⟩) hH ?r52ff
                  case hy52ff => (intro W hSw; (try dsimp only at hSw); go_simp; try (with_reducible rfl))
                  try simp only [Act.put, List.setIfInBounds_toArray, List.set_cons_zero, List.set_cons_succ]
                  refine wpAnyH_take (i := 53) (oi := { dst := some 125, op := Op.lookup 35 (Operand.tmp 123) (Operand.tmp 124) false, type := 4, pos := "law.go:32", after := #[{ on := 51, ground := Ground.data }, { on := 52, ground := Ground.data }, { on := 50, ground := Ground.guard }], guard := some (50, false) }) (v := ?v53ff) rfl (by kernel_rfl) (by kernel_rfl) (by kernel_rfl) (fun _ _ _ h => h) (Or.inl ⟨by rfl, ?hy53ff⟩) hH ?r53ff
                  case hy53ff => (intro W hSw; (try dsimp only at hSw); go_simp; try (with_reducible rfl))
                  try simp only [Act.put, List.setIfInBounds_toArray, List.set_cons_zero, List.set_cons_succ]
                  refine wpAnyH_take (i := 54) (oi := { dst := some 126, op := Op.pick (Operand.tmp 122) (Operand.const (Value.bool true)) (Operand.tmp 125), type := 4, pos := "law.go:32", after := #[{ on := 50, ground := Ground.data }, { on := 53, ground := Ground.data }, { on := 40, ground := Ground.guard }], guard := some (40, false) }) (v := ?v54ff) rfl (by kernel_rfl) (by kernel_rfl) (by kernel_rfl) (fun _ _ _ h => h) (Or.inl ⟨by rfl, ?hy54ff⟩) hH ?r54ff
                  case hy54ff => (intro W hSw; (try dsimp only at hSw); go_simp; try (with_reducible rfl))
                  try simp only [Act.put, List.setIfInBounds_toArray, List.set_cons_zero, List.set_cons_succ]
                  refine wpAnyH_take (i := 55) (oi := { dst := some 127, op := Op.binOp BinOp.neq 4 (Operand.tmp 118) (Operand.tmp 126) 4, type := 4, pos := "law.go:32", after := #[{ on := 46, ground := Ground.data }, { on := 54, ground := Ground.data }, { on := 40, ground := Ground.guard }], guard := some (40, false) }) (v := ?v55ff) rfl (by kernel_rfl) (by kernel_rfl) (by kernel_rfl) (fun _ _ _ h => h) (Or.inl ⟨by rfl, ?hy55ff⟩) hH ?r55ff
                  case hy55ff => (intro W hSw; (try dsimp only at hSw); go_simp; try (with_reducible rfl))
                  try simp only [Act.put, List.setIfInBounds_toArray, List.set_cons_zero, List.set_cons_succ]
                  refine wpAnyH_take (i := 56) (oi := { dst := some 128, op := Op.pick (Operand.tmp 112) (Operand.const (Value.bool true)) (Operand.tmp 127), type := 4, pos := "law.go:32", after := #[{ on := 40, ground := Ground.data }, { on := 55, ground := Ground.data }], guard := none }) (v := ?v56ff) rfl (by kernel_rfl) (by kernel_rfl) (by kernel_rfl) (fun _ _ _ h => h) (Or.inl ⟨by rfl, ?hy56ff⟩) hH ?r56ff
                  case hy56ff => (intro W hSw; (try dsimp only at hSw); go_simp; try (with_reducible rfl))
                  try simp only [Act.put, List.setIfInBounds_toArray, List.set_cons_zero, List.set_cons_succ]
                  refine wpAnyH_done (by kernel_rfl) ?_ _
                  refine NoPanic.normal ?_
                  go_wp2_with fail
                  go_meet
                  case rel => exact ⟨rfl, Q10⟩
              · have HNP : Hid (notB p k = false) := by show (!p k) = false; rw [hp]; rfl
                have HOR : Hid (orB p q k = true) := by show (p k || q k) = true; rw [hp]; rfl
                by_cases hf : fr ≤ k
                · have HR : Hid (rng fr tt k = decide ((k : Int) ≤ (tt : Int))) := by show _ = _; unfold rng; simp [hf]
                  have hf' : (fr : Int) ≤ (k : Int) := by omega
                  refine wp_region_noPanic ?_
                  refine wp_region_held_drew (S := (fun W => W.cell? ⟨w.heap.size, 0, none⟩ = some (.int .u64 (wd p 0 : Nat)) ∧ W.cell? ⟨w.heap.size, 1, none⟩ = some (.int .u64 (wd p 1 : Nat)) ∧ W.cell? ⟨w.heap.size, 2, none⟩ = some (.int .u64 (wd p 2 : Nat)) ∧ W.cell? ⟨w.heap.size, 3, none⟩ = some (.int .u64 (wd p 3 : Nat)) ∧ W.cell? ⟨w3.heap.size, 0, none⟩ = some (.int .u64 (wd q 0 : Nat)) ∧ W.cell? ⟨w3.heap.size, 1, none⟩ = some (.int .u64 (wd q 1 : Nat)) ∧ W.cell? ⟨w3.heap.size, 2, none⟩ = some (.int .u64 (wd q 2 : Nat)) ∧ W.cell? ⟨w3.heap.size, 3, none⟩ = some (.int .u64 (wd q 3 : Nat)) ∧ W.cell? ⟨(w3.heap.size + 1), 0, none⟩ = some (.int .u64 (wd (rng fr tt) 0 : Nat)) ∧ W.cell? ⟨(w3.heap.size + 1), 1, none⟩ = some (.int .u64 (wd (rng fr tt) 1 : Nat)) ∧ W.cell? ⟨(w3.heap.size + 1), 2, none⟩ = some (.int .u64 (wd (rng fr tt) 2 : Nat)) ∧ W.cell? ⟨(w3.heap.size + 1), 3, none⟩ = some (.int .u64 (wd (rng fr tt) 3 : Nat)) ∧ (Instr.lookup 35 (.map (some (w5.heap.size + 1))) (.int .u8 (k : Int)) false).run Try.prog W = .ok (.bool qk) W ∧ Hid (Kp w7 W))) (by kernel_rfl) ?_ (fun hH => ?_)
                  · exact MK.out _ Q0
                  refine wpAnyH_take (i := 0) (oi := { dst := some 72, op := Op.load 24 (Operand.tmp 5), type := 24, pos := "law.go:32", after := #[], guard := none }) (v := ?v0tt) rfl (by kernel_rfl) (by kernel_rfl) (by kernel_rfl) (fun _ _ _ h => h) (Or.inl ⟨by rfl, ?hy0tt⟩) hH ?r0tt
                  case hy0tt => (intro W hSw; (try dsimp only at hSw); go_simp; try (with_reducible rfl))
                  try simp only [Act.put, List.setIfInBounds_toArray, List.set_cons_zero, List.set_cons_succ]
                  refine wpAnyH_take (i := 1) (oi := { dst := some 73, op := Op.move (Operand.tmp 25), type := 5, pos := "law.go:32", after := #[], guard := none }) (v := ?v1tt) rfl (by kernel_rfl) (by kernel_rfl) (by kernel_rfl) (fun _ _ _ h => h) (Or.inl ⟨by rfl, ?hy1tt⟩) hH ?r1tt
                  case hy1tt => (intro W hSw; (try dsimp only at hSw); go_simp; try (with_reducible rfl))
                  try simp only [Act.put, List.setIfInBounds_toArray, List.set_cons_zero, List.set_cons_succ]
                  refine wpAnyH_take (i := 3) (oi := { dst := some 75, op := Op.load 24 (Operand.tmp 5), type := 24, pos := "law.go:32", after := #[], guard := none }) (v := ?v3tt) rfl (by kernel_rfl) (by kernel_rfl) (by kernel_rfl) (fun _ _ _ h => h) (Or.inl ⟨by rfl, ?hy3tt⟩) hH ?r3tt
                  case hy3tt => (intro W hSw; (try dsimp only at hSw); go_simp; try (with_reducible rfl))
                  try simp only [Act.put, List.setIfInBounds_toArray, List.set_cons_zero, List.set_cons_succ]
                  refine wpAnyH_take (i := 4) (oi := { dst := some 76, op := Op.move (Operand.tmp 25), type := 5, pos := "law.go:32", after := #[], guard := none }) (v := ?v4tt) rfl (by kernel_rfl) (by kernel_rfl) (by kernel_rfl) (fun _ _ _ h => h) (Or.inl ⟨by rfl, ?hy4tt⟩) hH ?r4tt
                  case hy4tt => (intro W hSw; (try dsimp only at hSw); go_simp; try (with_reducible rfl))
                  try simp only [Act.put, List.setIfInBounds_toArray, List.set_cons_zero, List.set_cons_succ]
                  refine wpAnyH_ready (rs := [2]) (by kernel_rfl) (by simp) ?_
                  refine AllReadyH.cons (o := { dst := some 74, op := Op.call { callee := Callee.value (Operand.func 17), args := #[Operand.tmp 72, Operand.tmp 73], argTypes := #[24, 5] }, type := 4, pos := "law.go:32", after := #[{ on := 0, ground := Ground.data }, { on := 1, ground := Ground.data }], guard := none }) rfl (fun K hKq => ?_) AllReadyH.nil
                  go_simp
                  refine (has_any p k _ hlt).mono ?_
                  rintro e y1 ⟨rfl, kq⟩
                  rw [hp]
                  have Q1 : Kp w7 y1 := Q0.trans kq
                  clear kq Q0
                  refine hKq.out _ _ (MK.out _ Q1) (fun hN => ?_)
                  clear hKq K hH
                  have hH := hN
                  clear hN
                  try simp only [Act.put, List.setIfInBounds_toArray, List.set_cons_zero, List.set_cons_succ]
                  refine wpAnyH_ready (rs := [5]) (by kernel_rfl) (by simp) ?_
                  refine AllReadyH.cons (o := { dst := some 77, op := Op.call { callee := Callee.value (Operand.func 18), args := #[Operand.tmp 75, Operand.tmp 76], argTypes := #[24, 5] }, type := 4, pos := "law.go:32", after := #[{ on := 3, ground := Ground.data }, { on := 4, ground := Ground.data }, { on := 2, ground := Ground.chain }], guard := none }) rfl (fun K hKq => ?_) AllReadyH.nil
                  go_simp
                  refine (refhas_any p k _ hlt).mono ?_
                  rintro e y2 ⟨rfl, kq⟩
                  rw [hp]
                  have Q2 : Kp w7 y2 := Q1.trans kq
                  clear kq Q1
                  refine hKq.out _ _ (MK.out _ Q2) (fun hN => ?_)
                  clear hKq K hH
                  have hH := hN
                  clear hN
                  try simp only [Act.put, List.setIfInBounds_toArray, List.set_cons_zero, List.set_cons_succ]
                  refine wpAnyH_take (i := 6) (oi := { dst := some 78, op := Op.binOp BinOp.neq 4 (Operand.tmp 74) (Operand.tmp 77) 4, type := 4, pos := "law.go:32", after := #[{ on := 2, ground := Ground.data }, { on := 5, ground := Ground.data }], guard := none }) (v := ?v6tt) rfl (by kernel_rfl) (by kernel_rfl) (by kernel_rfl) (fun _ _ _ h => h) (Or.inl ⟨by rfl, ?hy6tt⟩) hH ?r6tt
                  case hy6tt => (intro W hSw; (try dsimp only at hSw); go_simp; try (with_reducible rfl))
                  try simp only [Act.put, List.setIfInBounds_toArray, List.set_cons_zero, List.set_cons_succ]
                  refine wpAnyH_take (i := 7) (oi := { dst := some 79, op := Op.move (Operand.tmp 78), type := 4, pos := "law.go:32", after := #[{ on := 6, ground := Ground.data }, { on := 5, ground := Ground.chain }], guard := none }) (v := ?v7tt) rfl (by kernel_rfl) (by kernel_rfl) (by kernel_rfl) (fun _ _ _ h => h) (Or.inl ⟨by rfl, ?hy7tt⟩) hH ?r7tt
                  case hy7tt => (intro W hSw; (try dsimp only at hSw); go_simp; try (with_reducible rfl))
                  try simp only [Act.put, List.setIfInBounds_toArray, List.set_cons_zero, List.set_cons_succ]
                  refine wpAnyH_take (i := 8) (oi := { dst := some 80, op := Op.load 24 (Operand.tmp 13), type := 24, pos := "law.go:32", after := #[{ on := 7, ground := Ground.guard }], guard := some (7, false) }) (v := ?v8tt) rfl (by kernel_rfl) (by kernel_rfl) (by kernel_rfl) (fun _ _ _ h => h) (Or.inl ⟨by rfl, ?hy8tt⟩) hH ?r8tt
                  case hy8tt => (intro W hSw; (try dsimp only at hSw); go_simp; try (with_reducible rfl))
                  try simp only [Act.put, List.setIfInBounds_toArray, List.set_cons_zero, List.set_cons_succ]
                  refine wpAnyH_take (i := 9) (oi := { dst := some 81, op := Op.move (Operand.tmp 25), type := 5, pos := "law.go:32", after := #[{ on := 7, ground := Ground.guard }], guard := some (7, false) }) (v := ?v9tt) rfl (by kernel_rfl) (by kernel_rfl) (by kernel_rfl) (fun _ _ _ h => h) (Or.inl ⟨by rfl, ?hy9tt⟩) hH ?r9tt
                  case hy9tt => (intro W hSw; (try dsimp only at hSw); go_simp; try (with_reducible rfl))
                  try simp only [Act.put, List.setIfInBounds_toArray, List.set_cons_zero, List.set_cons_succ]
                  refine wpAnyH_take (i := 11) (oi := { dst := some 83, op := Op.move (Operand.tmp 19), type := 35, pos := "law.go:32", after := #[{ on := 7, ground := Ground.guard }], guard := some (7, false) }) (v := ?v11tt) rfl (by kernel_rfl) (by kernel_rfl) (by kernel_rfl) (fun _ _ _ h => h) (Or.inl ⟨by rfl, ?hy11tt⟩) hH ?r11tt
                  case hy11tt => (intro W hSw; (try dsimp only at hSw); go_simp; try (with_reducible rfl))
                  try simp only [Act.put, List.setIfInBounds_toArray, List.set_cons_zero, List.set_cons_succ]
                  refine wpAnyH_take (i := 12) (oi := { dst := some 84, op := Op.move (Operand.tmp 25), type := 5, pos := "law.go:32", after := #[{ on := 7, ground := Ground.guard }], guard := some (7, false) }) (v := ?v12tt) rfl (by kernel_rfl) (by kernel_rfl) (by kernel_rfl) (fun _ _ _ h => h) (Or.inl ⟨by rfl, ?hy12tt⟩) hH ?r12tt
                  case hy12tt => (intro W hSw; (try dsimp only at hSw); go_simp; try (with_reducible rfl))
                  try simp only [Act.put, List.setIfInBounds_toArray, List.set_cons_zero, List.set_cons_succ]
                  refine wpAnyH_take (i := 13) (oi := { dst := some 85, op := Op.lookup 35 (Operand.tmp 83) (Operand.tmp 84) false, type := 4, pos := "law.go:32", after := #[{ on := 11, ground := Ground.data }, { on := 12, ground := Ground.data }, { on := 7, ground := Ground.guard }], guard := some (7, false) }) (v := ?v13tt) rfl (by kernel_rfl) (by kernel_rfl) (by kernel_rfl) (fun _ _ _ h => h) (Or.inl ⟨by rfl, ?hy13tt⟩) hH ?r13tt
                  case hy13tt => (intro W hSw; (try dsimp only at hSw); go_simp; try (with_reducible rfl))
                  try simp only [Act.put, List.setIfInBounds_toArray, List.set_cons_zero, List.set_cons_succ]
                  refine wpAnyH_ready (rs := [10]) (by kernel_rfl) (by simp) ?_
                  refine AllReadyH.cons (o := { dst := some 82, op := Op.call { callee := Callee.value (Operand.func 17), args := #[Operand.tmp 80, Operand.tmp 81], argTypes := #[24, 5] }, type := 4, pos := "law.go:32", after := #[{ on := 8, ground := Ground.data }, { on := 9, ground := Ground.data }, { on := 7, ground := Ground.chain }, { on := 7, ground := Ground.guard }], guard := some (7, false) }) rfl (fun K hKq => ?_) AllReadyH.nil
                  go_simp
                  refine (has_any q k _ hlt).mono ?_
                  rintro e y3 ⟨rfl, kq⟩
                  rw [HQK.out]
                  have Q3 : Kp w7 y3 := Q2.trans kq
                  clear kq Q2
                  refine hKq.out _ _ (MK.out _ Q3) (fun hN => ?_)
                  clear hKq K hH
                  have hH := hN
                  clear hN
                  try simp only [Act.put, List.setIfInBounds_toArray, List.set_cons_zero, List.set_cons_succ]
                  refine wpAnyH_take (i := 14) (oi := { dst := some 86, op := Op.binOp BinOp.neq 4 (Operand.tmp 82) (Operand.tmp 85) 4, type := 4, pos := "law.go:32", after := #[{ on := 10, ground := Ground.data }, { on := 13, ground := Ground.data }, { on := 7, ground := Ground.guard }], guard := some (7, false) }) (v := ?v14tt) rfl (by kernel_rfl) (by kernel_rfl) (by kernel_rfl) (fun _ _ _ h => h) (Or.inl ⟨by rfl, ?hy14tt⟩) hH ?r14tt
                  case hy14tt => (intro W hSw; (try dsimp only at hSw); go_simp; try (with_reducible rfl))
                  try simp only [Act.put, List.setIfInBounds_toArray, List.set_cons_zero, List.set_cons_succ]
                  refine wpAnyH_take (i := 15) (oi := { dst := some 87, op := Op.pick (Operand.tmp 79) (Operand.const (Value.bool true)) (Operand.tmp 86), type := 4, pos := "law.go:32", after := #[{ on := 7, ground := Ground.data }, { on := 14, ground := Ground.data }], guard := none }) (v := ?v15tt) rfl (by kernel_rfl) (by kernel_rfl) (by kernel_rfl) (fun _ _ _ h => h) (Or.inl ⟨by rfl, ?hy15tt⟩) hH ?r15tt
                  case hy15tt => (intro W hSw; (try dsimp only at hSw); go_simp; try (with_reducible rfl))
                  try simp only [Act.put, List.setIfInBounds_toArray, List.set_cons_zero, List.set_cons_succ]
                  refine wpAnyH_take (i := 16) (oi := { dst := some 88, op := Op.move (Operand.tmp 87), type := 4, pos := "law.go:32", after := #[{ on := 15, ground := Ground.data }, { on := 10, ground := Ground.chain }], guard := none }) (v := ?v16tt) rfl (by kernel_rfl) (by kernel_rfl) (by kernel_rfl) (fun _ _ _ h => h) (Or.inl ⟨by rfl, ?hy16tt⟩) hH ?r16tt
                  case hy16tt => (intro W hSw; (try dsimp only at hSw); go_simp; try (with_reducible rfl))
                  try simp only [Act.put, List.setIfInBounds_toArray, List.set_cons_zero, List.set_cons_succ]
                  refine wpAnyH_take (i := 17) (oi := { dst := some 89, op := Op.load 24 (Operand.tmp 14), type := 24, pos := "law.go:32", after := #[{ on := 16, ground := Ground.guard }], guard := some (16, false) }) (v := ?v17tt) rfl (by kernel_rfl) (by kernel_rfl) (by kernel_rfl) (fun _ _ _ h => h) (Or.inl ⟨by rfl, ?hy17tt⟩) hH ?r17tt
                  case hy17tt => (intro W hSw; (try dsimp only at hSw); go_simp; try (with_reducible rfl))
                  try simp only [Act.put, List.setIfInBounds_toArray, List.set_cons_zero, List.set_cons_succ]
                  refine wpAnyH_take (i := 18) (oi := { dst := some 90, op := Op.move (Operand.tmp 25), type := 5, pos := "law.go:32", after := #[{ on := 16, ground := Ground.guard }], guard := some (16, false) }) (v := ?v18tt) rfl (by kernel_rfl) (by kernel_rfl) (by kernel_rfl) (fun _ _ _ h => h) (Or.inl ⟨by rfl, ?hy18tt⟩) hH ?r18tt
                  case hy18tt => (intro W hSw; (try dsimp only at hSw); go_simp; try (with_reducible rfl))
                  try simp only [Act.put, List.setIfInBounds_toArray, List.set_cons_zero, List.set_cons_succ]
                  refine wpAnyH_take (i := 20) (oi := { dst := some 92, op := Op.move (Operand.tmp 25), type := 5, pos := "law.go:32", after := #[{ on := 16, ground := Ground.guard }], guard := some (16, false) }) (v := ?v20tt) rfl (by kernel_rfl) (by kernel_rfl) (by kernel_rfl) (fun _ _ _ h => h) (Or.inl ⟨by rfl, ?hy20tt⟩) hH ?r20tt
                  case hy20tt => (intro W hSw; (try dsimp only at hSw); go_simp; try (with_reducible rfl))
                  try simp only [Act.put, List.setIfInBounds_toArray, List.set_cons_zero, List.set_cons_succ]
                  refine wpAnyH_take (i := 21) (oi := { dst := some 93, op := Op.move (Operand.tmp 2), type := 5, pos := "law.go:32", after := #[{ on := 16, ground := Ground.guard }], guard := some (16, false) }) (v := ?v21tt) rfl (by kernel_rfl) (by kernel_rfl) (by kernel_rfl) (fun _ _ _ h => h) (Or.inl ⟨by rfl, ?hy21tt⟩) hH ?r21tt
                  case hy21tt => (intro W hSw; (try dsimp only at hSw); go_simp; try (with_reducible rfl))
                  try simp only [Act.put, List.setIfInBounds_toArray, List.set_cons_zero, List.set_cons_succ]
                  refine wpAnyH_take (i := 22) (oi := { dst := some 94, op := Op.binOp BinOp.geq 5 (Operand.tmp 92) (Operand.tmp 93) 5, type := 4, pos := "law.go:32", after := #[{ on := 20, ground := Ground.data }, { on := 21, ground := Ground.data }, { on := 16, ground := Ground.guard }], guard := some (16, false) }) (v := ?v22tt) rfl (by kernel_rfl) (by kernel_rfl) (by kernel_rfl) (fun _ _ _ h => h) (Or.inl ⟨by rfl, ?hy22tt⟩) hH ?r22tt
                  case hy22tt => (intro W hSw; (try dsimp only at hSw); go_simp; try (with_reducible rfl))
                  try simp only [Act.put, List.setIfInBounds_toArray, List.set_cons_zero, List.set_cons_succ]
                  refine wpAnyH_ready (rs := [19]) (by kernel_rfl) (by simp) ?_
                  refine AllReadyH.cons (o := { dst := some 91, op := Op.call { callee := Callee.value (Operand.func 17), args := #[Operand.tmp 89, Operand.tmp 90], argTypes := #[24, 5] }, type := 4, pos := "law.go:32", after := #[{ on := 17, ground := Ground.data }, { on := 18, ground := Ground.data }, { on := 16, ground := Ground.chain }, { on := 16, ground := Ground.guard }], guard := some (16, false) }) rfl (fun K hKq => ?_) AllReadyH.nil
                  go_simp
                  refine (has_any (rng fr tt) k _ hlt).mono ?_
                  rintro e y4 ⟨rfl, kq⟩
                  rw [HR.out]
                  have Q4 : Kp w7 y4 := Q3.trans kq
                  clear kq Q3
                  refine hKq.out _ _ (MK.out _ Q4) (fun hN => ?_)
                  clear hKq K hH
                  have hH := hN
                  clear hN
                  try simp only [Act.put, List.setIfInBounds_toArray, List.set_cons_zero, List.set_cons_succ]
                  refine wpAnyH_take (i := 23) (oi := { dst := some 95, op := Op.move (Operand.tmp 94), type := 4, pos := "law.go:32", after := #[{ on := 22, ground := Ground.data }, { on := 19, ground := Ground.chain }, { on := 16, ground := Ground.guard }], guard := some (16, false) }) (v := ?v23tt) rfl (by kernel_rfl) (by kernel_rfl) (by kernel_rfl) (fun _ _ _ h => h) (Or.inl ⟨by rfl, ?hy23tt⟩) hH ?r23tt
                  case hy23tt => (intro W hSw; (try dsimp only at hSw); go_simp; try (with_reducible rfl))
                  try simp only [Act.put, List.setIfInBounds_toArray, List.set_cons_zero, List.set_cons_succ]
                  refine wpAnyH_take (i := 24) (oi := { dst := some 96, op := Op.move (Operand.tmp 25), type := 5, pos := "law.go:32", after := #[{ on := 23, ground := Ground.guard }], guard := some (23, true) }) (v := ?v24tt) rfl (by kernel_rfl) (by kernel_rfl) (by kernel_rfl) (fun _ _ _ h => h) (Or.inl ⟨by rfl, ?hy24tt⟩) hH ?r24tt
                  case hy24tt => (intro W hSw; (try dsimp only at hSw); go_simp; try (with_reducible rfl))
                  try simp only [Act.put, List.setIfInBounds_toArray, List.set_cons_zero, List.set_cons_succ]
                  refine wpAnyH_take (i := 25) (oi := { dst := some 97, op := Op.move (Operand.tmp 3), type := 5, pos := "law.go:32", after := #[{ on := 23, ground := Ground.guard }], guard := some (23, true) }) (v := ?v25tt) rfl (by kernel_rfl) (by kernel_rfl) (by kernel_rfl) (fun _ _ _ h => h) (Or.inl ⟨by rfl, ?hy25tt⟩) hH ?r25tt
                  case hy25tt => (intro W hSw; (try dsimp only at hSw); go_simp; try (with_reducible rfl))
                  try simp only [Act.put, List.setIfInBounds_toArray, List.set_cons_zero, List.set_cons_succ]
                  refine wpAnyH_take (i := 26) (oi := { dst := some 98, op := Op.binOp BinOp.leq 5 (Operand.tmp 96) (Operand.tmp 97) 5, type := 4, pos := "law.go:32", after := #[{ on := 24, ground := Ground.data }, { on := 25, ground := Ground.data }, { on := 23, ground := Ground.guard }], guard := some (23, true) }) (v := ?v26tt) rfl (by kernel_rfl) (by kernel_rfl) (by kernel_rfl) (fun _ _ _ h => h) (Or.inl ⟨by rfl, ?hy26tt⟩) hH ?r26tt
                  case hy26tt => (intro W hSw; (try dsimp only at hSw); go_simp; try (with_reducible rfl))
                  try simp only [Act.put, List.setIfInBounds_toArray, List.set_cons_zero, List.set_cons_succ]
                  refine wpAnyH_take (i := 27) (oi := { dst := some 99, op := Op.pick (Operand.tmp 95) (Operand.tmp 98) (Operand.const (Value.bool false)), type := 4, pos := "law.go:32", after := #[{ on := 23, ground := Ground.data }, { on := 26, ground := Ground.data }, { on := 16, ground := Ground.guard }], guard := some (16, false) }) (v := ?v27tt) rfl (by kernel_rfl) (by kernel_rfl) (by kernel_rfl) (fun _ _ _ h => h) (Or.inl ⟨by rfl, ?hy27tt⟩) hH ?r27tt
                  case hy27tt => (intro W hSw; (try dsimp only at hSw); go_simp; try (with_reducible rfl))
                  try simp only [Act.put, List.setIfInBounds_toArray, List.set_cons_zero, List.set_cons_succ]
                  refine wpAnyH_take (i := 28) (oi := { dst := some 100, op := Op.binOp BinOp.neq 4 (Operand.tmp 91) (Operand.tmp 99) 4, type := 4, pos := "law.go:32", after := #[{ on := 19, ground := Ground.data }, { on := 27, ground := Ground.data }, { on := 16, ground := Ground.guard }], guard := some (16, false) }) (v := ?v28tt) rfl (by kernel_rfl) (by kernel_rfl) (by kernel_rfl) (fun _ _ _ h => h) (Or.inl ⟨by rfl, ?hy28tt⟩) hH ?r28tt
                  case hy28tt => (intro W hSw; (try dsimp only at hSw); go_simp; try (with_reducible rfl))
                  try simp only [Act.put, List.setIfInBounds_toArray, List.set_cons_zero, List.set_cons_succ]
                  refine wpAnyH_take (i := 29) (oi := { dst := some 101, op := Op.pick (Operand.tmp 88) (Operand.const (Value.bool true)) (Operand.tmp 100), type := 4, pos := "law.go:32", after := #[{ on := 16, ground := Ground.data }, { on := 28, ground := Ground.data }], guard := none }) (v := ?v29tt) rfl (by kernel_rfl) (by kernel_rfl) (by kernel_rfl) (fun _ _ _ h => h) (Or.inl ⟨by rfl, ?hy29tt⟩) hH ?r29tt
                  case hy29tt => (intro W hSw; (try dsimp only at hSw); go_simp; try (with_reducible rfl))
                  try simp only [Act.put, List.setIfInBounds_toArray, List.set_cons_zero, List.set_cons_succ]
                  refine wpAnyH_take (i := 30) (oi := { dst := some 102, op := Op.move (Operand.tmp 101), type := 4, pos := "law.go:32", after := #[{ on := 29, ground := Ground.data }, { on := 23, ground := Ground.chain }], guard := none }) (v := ?v30tt) rfl (by kernel_rfl) (by kernel_rfl) (by kernel_rfl) (fun _ _ _ h => h) (Or.inl ⟨by rfl, ?hy30tt⟩) hH ?r30tt
                  case hy30tt => (intro W hSw; (try dsimp only at hSw); go_simp; try (with_reducible rfl))
                  try simp only [Act.put, List.setIfInBounds_toArray, List.set_cons_zero, List.set_cons_succ]
                  refine wpAnyH_take (i := 31) (oi := { dst := some 103, op := Op.load 24 (Operand.tmp 5), type := 24, pos := "law.go:32", after := #[{ on := 30, ground := Ground.guard }], guard := some (30, false) }) (v := ?v31tt) rfl (by kernel_rfl) (by kernel_rfl) (by kernel_rfl) (fun _ _ _ h => h) (Or.inl ⟨by rfl, ?hy31tt⟩) hH ?r31tt
                  case hy31tt => (intro W hSw; (try dsimp only at hSw); go_simp; try (with_reducible rfl))
                  try simp only [Act.put, List.setIfInBounds_toArray, List.set_cons_zero, List.set_cons_succ]
                  refine wpAnyH_take (i := 33) (oi := { dst := some 105, op := Op.move (Operand.tmp 25), type := 5, pos := "law.go:32", after := #[{ on := 30, ground := Ground.guard }], guard := some (30, false) }) (v := ?v33tt) rfl (by kernel_rfl) (by kernel_rfl) (by kernel_rfl) (fun _ _ _ h => h) (Or.inl ⟨by rfl, ?hy33tt⟩) hH ?r33tt
                  case hy33tt => (intro W hSw; (try dsimp only at hSw); go_simp; try (with_reducible rfl))
                  try simp only [Act.put, List.setIfInBounds_toArray, List.set_cons_zero, List.set_cons_succ]
                  refine wpAnyH_take (i := 35) (oi := { dst := some 107, op := Op.load 24 (Operand.tmp 5), type := 24, pos := "law.go:32", after := #[{ on := 30, ground := Ground.guard }], guard := some (30, false) }) (v := ?v35tt) rfl (by kernel_rfl) (by kernel_rfl) (by kernel_rfl) (fun _ _ _ h => h) (Or.inl ⟨by rfl, ?hy35tt⟩) hH ?r35tt
                  case hy35tt => (intro W hSw; (try dsimp only at hSw); go_simp; try (with_reducible rfl))
                  try simp only [Act.put, List.setIfInBounds_toArray, List.set_cons_zero, List.set_cons_succ]
                  refine wpAnyH_take (i := 36) (oi := { dst := some 108, op := Op.move (Operand.tmp 25), type := 5, pos := "law.go:32", after := #[{ on := 30, ground := Ground.guard }], guard := some (30, false) }) (v := ?v36tt) rfl (by kernel_rfl) (by kernel_rfl) (by kernel_rfl) (fun _ _ _ h => h) (Or.inl ⟨by rfl, ?hy36tt⟩) hH ?r36tt
                  case hy36tt => (intro W hSw; (try dsimp only at hSw); go_simp; try (with_reducible rfl))
                  try simp only [Act.put, List.setIfInBounds_toArray, List.set_cons_zero, List.set_cons_succ]
                  refine wpAnyH_ready (rs := [32]) (by kernel_rfl) (by simp) ?_
                  refine AllReadyH.cons (o := { dst := some 104, op := Op.call { callee := Callee.value (Operand.func 13), args := #[Operand.tmp 103], argTypes := #[24] }, type := 24, pos := "law.go:32", after := #[{ on := 31, ground := Ground.data }, { on := 30, ground := Ground.chain }, { on := 30, ground := Ground.guard }], guard := some (30, false) }) rfl (fun K hKq => ?_) AllReadyH.nil
                  go_simp
                  refine (not_any p _).mono ?_
                  rintro e y5 ⟨rfl, kq⟩
                  have Q5 : Kp w7 y5 := Q4.trans kq
                  clear kq Q4
                  refine hKq.out _ _ (MK.out _ Q5) (fun hN => ?_)
                  clear hKq K hH
                  have hH := hN
                  clear hN
                  try simp only [Act.put, List.setIfInBounds_toArray, List.set_cons_zero, List.set_cons_succ]
                  refine wpAnyH_ready (rs := [34]) (by kernel_rfl) (by simp) ?_
                  refine AllReadyH.cons (o := { dst := some 106, op := Op.call { callee := Callee.value (Operand.func 17), args := #[Operand.tmp 104, Operand.tmp 105], argTypes := #[24, 5] }, type := 4, pos := "law.go:32", after := #[{ on := 32, ground := Ground.data }, { on := 33, ground := Ground.data }, { on := 32, ground := Ground.chain }, { on := 30, ground := Ground.guard }], guard := some (30, false) }) rfl (fun K hKq => ?_) AllReadyH.nil
                  go_simp
                  refine (has_any (notB p) k _ hlt).mono ?_
                  rintro e y6 ⟨rfl, kq⟩
                  rw [HNP.out]
                  have Q6 : Kp w7 y6 := Q5.trans kq
                  clear kq Q5
                  refine hKq.out _ _ (MK.out _ Q6) (fun hN => ?_)
                  clear hKq K hH
                  have hH := hN
                  clear hN
                  try simp only [Act.put, List.setIfInBounds_toArray, List.set_cons_zero, List.set_cons_succ]
                  refine wpAnyH_ready (rs := [37]) (by kernel_rfl) (by simp) ?_
                  refine AllReadyH.cons (o := { dst := some 109, op := Op.call { callee := Callee.value (Operand.func 18), args := #[Operand.tmp 107, Operand.tmp 108], argTypes := #[24, 5] }, type := 4, pos := "law.go:32", after := #[{ on := 35, ground := Ground.data }, { on := 36, ground := Ground.data }, { on := 34, ground := Ground.chain }, { on := 30, ground := Ground.guard }], guard := some (30, false) }) rfl (fun K hKq => ?_) AllReadyH.nil
                  go_simp
                  refine (refhas_any p k _ hlt).mono ?_
                  rintro e y7 ⟨rfl, kq⟩
                  rw [hp]
                  have Q7 : Kp w7 y7 := Q6.trans kq
                  clear kq Q6
                  refine hKq.out _ _ (MK.out _ Q7) (fun hN => ?_)
                  clear hKq K hH
                  have hH := hN
                  clear hN
                  try simp only [Act.put, List.setIfInBounds_toArray, List.set_cons_zero, List.set_cons_succ]
                  refine wpAnyH_take (i := 38) (oi := { dst := some 110, op := Op.binOp BinOp.eql 4 (Operand.tmp 106) (Operand.tmp 109) 4, type := 4, pos := "law.go:32", after := #[{ on := 34, ground := Ground.data }, { on := 37, ground := Ground.data }, { on := 30, ground := Ground.guard }], guard := some (30, false) }) (v := ?v38tt) rfl (by kernel_rfl) (by kernel_rfl) (by kernel_rfl) (fun _ _ _ h => h) (Or.inl ⟨by rfl, ?hy38tt⟩) hH ?r38tt
                  case hy38tt => (intro W hSw; (try dsimp only at hSw); go_simp; try (with_reducible rfl))
                  try simp only [Act.put, List.setIfInBounds_toArray, List.set_cons_zero, List.set_cons_succ]
                  refine wpAnyH_take (i := 39) (oi := { dst := some 111, op := Op.pick (Operand.tmp 102) (Operand.const (Value.bool true)) (Operand.tmp 110), type := 4, pos := "law.go:32", after := #[{ on := 30, ground := Ground.data }, { on := 38, ground := Ground.data }], guard := none }) (v := ?v39tt) rfl (by kernel_rfl) (by kernel_rfl) (by kernel_rfl) (fun _ _ _ h => h) (Or.inl ⟨by rfl, ?hy39tt⟩) hH ?r39tt
                  case hy39tt => (intro W hSw; (try dsimp only at hSw); go_simp; try (with_reducible rfl))
                  try simp only [Act.put, List.setIfInBounds_toArray, List.set_cons_zero, List.set_cons_succ]
                  refine wpAnyH_take (i := 40) (oi := { dst := some 112, op := Op.move (Operand.tmp 111), type := 4, pos := "law.go:32", after := #[{ on := 39, ground := Ground.data }, { on := 37, ground := Ground.chain }], guard := none }) (v := ?v40tt) rfl (by kernel_rfl) (by kernel_rfl) (by kernel_rfl) (fun _ _ _ h => h) (Or.inl ⟨by rfl, ?hy40tt⟩) hH ?r40tt
                  case hy40tt => (intro W hSw; (try dsimp only at hSw); go_simp; try (with_reducible rfl))
                  try simp only [Act.put, List.setIfInBounds_toArray, List.set_cons_zero, List.set_cons_succ]
                  refine wpAnyH_take (i := 41) (oi := { dst := some 113, op := Op.load 24 (Operand.tmp 5), type := 24, pos := "law.go:32", after := #[{ on := 40, ground := Ground.guard }], guard := some (40, false) }) (v := ?v41tt) rfl (by kernel_rfl) (by kernel_rfl) (by kernel_rfl) (fun _ _ _ h => h) (Or.inl ⟨by rfl, ?hy41tt⟩) hH ?r41tt
                  case hy41tt => (intro W hSw; (try dsimp only at hSw); go_simp; try (with_reducible rfl))
                  try simp only [Act.put, List.setIfInBounds_toArray, List.set_cons_zero, List.set_cons_succ]
                  refine wpAnyH_take (i := 42) (oi := { dst := some 114, op := Op.load 24 (Operand.tmp 13), type := 24, pos := "law.go:32", after := #[{ on := 40, ground := Ground.guard }], guard := some (40, false) }) (v := ?v42tt) rfl (by kernel_rfl) (by kernel_rfl) (by kernel_rfl) (fun _ _ _ h => h) (Or.inl ⟨by rfl, ?hy42tt⟩) hH ?r42tt
                  case hy42tt => (intro W hSw; (try dsimp only at hSw); go_simp; try (with_reducible rfl))
                  try simp only [Act.put, List.setIfInBounds_toArray, List.set_cons_zero, List.set_cons_succ]
                  refine wpAnyH_take (i := 45) (oi := { dst := some 117, op := Op.move (Operand.tmp 25), type := 5, pos := "law.go:32", after := #[{ on := 40, ground := Ground.guard }], guard := some (40, false) }) (v := ?v45tt) rfl (by kernel_rfl) (by kernel_rfl) (by kernel_rfl) (fun _ _ _ h => h) (Or.inl ⟨by rfl, ?hy45tt⟩) hH ?r45tt
                  case hy45tt => (intro W hSw; (try dsimp only at hSw); go_simp; try (with_reducible rfl))
                  try simp only [Act.put, List.setIfInBounds_toArray, List.set_cons_zero, List.set_cons_succ]
                  refine wpAnyH_take (i := 47) (oi := { dst := some 119, op := Op.load 24 (Operand.tmp 5), type := 24, pos := "law.go:32", after := #[{ on := 40, ground := Ground.guard }], guard := some (40, false) }) (v := ?v47tt) rfl (by kernel_rfl) (by kernel_rfl) (by kernel_rfl) (fun _ _ _ h => h) (Or.inl ⟨by rfl, ?hy47tt⟩) hH ?r47tt
                  case hy47tt => (intro W hSw; (try dsimp only at hSw); go_simp; try (with_reducible rfl))
                  try simp only [Act.put, List.setIfInBounds_toArray, List.set_cons_zero, List.set_cons_succ]
                  refine wpAnyH_take (i := 48) (oi := { dst := some 120, op := Op.move (Operand.tmp 25), type := 5, pos := "law.go:32", after := #[{ on := 40, ground := Ground.guard }], guard := some (40, false) }) (v := ?v48tt) rfl (by kernel_rfl) (by kernel_rfl) (by kernel_rfl) (fun _ _ _ h => h) (Or.inl ⟨by rfl, ?hy48tt⟩) hH ?r48tt
                  case hy48tt => (intro W hSw; (try dsimp only at hSw); go_simp; try (with_reducible rfl))
                  try simp only [Act.put, List.setIfInBounds_toArray, List.set_cons_zero, List.set_cons_succ]
                  refine wpAnyH_ready (rs := [43]) (by kernel_rfl) (by simp) ?_
                  refine AllReadyH.cons (o := { dst := some 115, op := Op.buildSlice 50 2 #[(0, Operand.tmp 113), (1, Operand.tmp 114)], type := 50, pos := "law.go:32", after := #[{ on := 41, ground := Ground.data }, { on := 42, ground := Ground.data }, { on := 40, ground := Ground.guard }], guard := some (40, false) }) rfl (fun K hKq => ?_) AllReadyH.nil
                  go_simp
                  refine hKq.out _ _ (MK.out _ (Q7.alloc _)) (fun hN => ?_)
                  clear hKq K hH
                  have hH := hN
                  clear hN
                  try simp only [Act.put, List.setIfInBounds_toArray, List.set_cons_zero, List.set_cons_succ]
                  refine wpAnyH_ready (rs := [44]) (by kernel_rfl) (by simp) ?_
                  refine AllReadyH.cons (o := { dst := some 116, op := Op.call { callee := Callee.value (Operand.func 10), args := #[Operand.tmp 115], argTypes := #[50] }, type := 24, pos := "law.go:32", after := #[{ on := 43, ground := Ground.data }, { on := 40, ground := Ground.chain }, { on := 40, ground := Ground.guard }], guard := some (40, false) }) rfl (fun K hKq => ?_) AllReadyH.nil
                  go_simp
                  refine (join2 p q _ _ ?hstt ?hXtt).mono ?_
                  case hstt => simp
                  case hXtt => exact last_of _ _
                  rintro e y8 ⟨rfl, kq⟩
                  have Q8 : Kp w7 y8 := (Q7.alloc _).trans kq
                  clear kq Q7
                  refine hKq.out _ _ (MK.out _ Q8) (fun hN => ?_)
                  clear hKq K hH
                  have hH := hN
                  clear hN
                  try simp only [Act.put, List.setIfInBounds_toArray, List.set_cons_zero, List.set_cons_succ]
                  refine wpAnyH_ready (rs := [46]) (by kernel_rfl) (by simp) ?_
                  refine AllReadyH.cons (o := { dst := some 118, op := Op.call { callee := Callee.value (Operand.func 17), args := #[Operand.tmp 116, Operand.tmp 117], argTypes := #[24, 5] }, type := 4, pos := "law.go:32", after := #[{ on := 44, ground := Ground.data }, { on := 45, ground := Ground.data }, { on := 44, ground := Ground.chain }, { on := 40, ground := Ground.guard }], guard := some (40, false) }) rfl (fun K hKq => ?_) AllReadyH.nil
                  go_simp
                  refine (has_any (orB p q) k _ hlt).mono ?_
                  rintro e y9 ⟨rfl, kq⟩
                  rw [HOR.out]
                  have Q9 : Kp w7 y9 := Q8.trans kq
                  clear kq Q8
                  refine hKq.out _ _ (MK.out _ Q9) (fun hN => ?_)
                  clear hKq K hH
                  have hH := hN
                  clear hN
                  try simp only [Act.put, List.setIfInBounds_toArray, List.set_cons_zero, List.set_cons_succ]
                  refine wpAnyH_ready (rs := [49]) (by kernel_rfl) (by simp) ?_
                  refine AllReadyH.cons (o := { dst := some 121, op := Op.call { callee := Callee.value (Operand.func 18), args := #[Operand.tmp 119, Operand.tmp 120], argTypes := #[24, 5] }, type := 4, pos := "law.go:32", after := #[{ on := 47, ground := Ground.data }, { on := 48, ground := Ground.data }, { on := 46, ground := Ground.chain }, { on := 40, ground := Ground.guard }], guard := some (40, false) }) rfl (fun K hKq => ?_) AllReadyH.nil
                  go_simp
                  refine (refhas_any p k _ hlt).mono ?_
                  rintro e y10 ⟨rfl, kq⟩
                  rw [hp]
                  have Q10 : Kp w7 y10 := Q9.trans kq
                  clear kq Q9
                  refine hKq.out _ _ (MK.out _ Q10) (fun hN => ?_)
                  clear hKq K hH
                  have hH := hN
                  clear hN
                  try simp only [Act.put, List.setIfInBounds_toArray, List.set_cons_zero, List.set_cons_succ]
                  refine wpAnyH_take (i := 50) (oi := { dst := some 122, op := Op.move (Operand.tmp 121), type := 4, pos := "law.go:32", after := #[{ on := 49, ground := Ground.data }, { on := 49, ground := Ground.chain }, { on := 40, ground := Ground.guard }], guard := some (40, false) }) (v := ?v50tt) rfl (by kernel_rfl) (by kernel_rfl) (by kernel_rfl) (fun _ _ _ h => h) (Or.inl ⟨by rfl, ?hy50tt⟩) hH ?r50tt
                  case hy50tt => (intro W hSw; (try dsimp only at hSw); go_simp; try (with_reducible rfl))
                  try simp only [Act.put, List.setIfInBounds_toArray, List.set_cons_zero, List.set_cons_succ]
                  refine wpAnyH_take (i := 51) (oi := { dst := some 123, op := Op.move (Operand.tmp 19), type := 35, pos := "law.go:32", after := #[{ on := 50, ground := Ground.guard }], guard := some (50, false) }) (v := undef) rfl (by kernel_rfl) (by kernel_rfl) (by kernel_rfl) (fun _ _ _ h => h) (Or.inr ⟨by rfl, rfl⟩) hH ?r51tt
                  try simp only [Act.put, List.setIfInBounds_toArray, List.set_cons_zero, List.set_cons_succ]
                  refine wpAnyH_take (i := 52) (oi := { dst := some 124, op := Op.move (Operand.tmp 25), type := 5, pos := "law.go:32", after := #[{ on := 50, ground := Ground.guard }], guard := some (50, false) }) (v := undef) rfl (by kernel_rfl) (by kernel_rfl) (by kernel_rfl) (fun _ _ _ h => h) (Or.inr ⟨by rfl, rfl⟩) hH ?r52tt
                  try simp only [Act.put, List.setIfInBounds_toArray, List.set_cons_zero, List.set_cons_succ]
                  refine wpAnyH_take (i := 53) (oi := { dst := some 125, op := Op.lookup 35 (Operand.tmp 123) (Operand.tmp 124) false, type := 4, pos := "law.go:32", after := #[{ on := 51, ground := Ground.data }, { on := 52, ground := Ground.data }, { on := 50, ground := Ground.guard }], guard := some (50, false) }) (v := undef) rfl (by kernel_rfl) (by kernel_rfl) (by kernel_rfl) (fun _ _ _ h => h) (Or.inr ⟨by rfl, rfl⟩) hH ?r53tt
                  try simp only [Act.put, List.setIfInBounds_toArray, List.set_cons_zero, List.set_cons_succ]
                  refine wpAnyH_take (i := 54) (oi := { dst := some 126, op := Op.pick (Operand.tmp 122) (Operand.const (Value.bool true)) (Operand.tmp 125), type := 4, pos := "law.go:32", after := #[{ on := 50, ground := Ground.data }, { on := 53, ground := Ground.data }, { on := 40, ground := Ground.guard }], guard := some (40, false) }) (v := ?v54tt) rfl (by kernel_rfl) (by kernel_rfl) (by kernel_rfl) (fun _ _ _ h => h) (Or.inl ⟨by rfl, ?hy54tt⟩) hH ?r54tt
                  case hy54tt => (intro W hSw; (try dsimp only at hSw); go_simp; try (with_reducible rfl))
                  try simp only [Act.put, List.setIfInBounds_toArray, List.set_cons_zero, List.set_cons_succ]
                  refine wpAnyH_take (i := 55) (oi := { dst := some 127, op := Op.binOp BinOp.neq 4 (Operand.tmp 118) (Operand.tmp 126) 4, type := 4, pos := "law.go:32", after := #[{ on := 46, ground := Ground.data }, { on := 54, ground := Ground.data }, { on := 40, ground := Ground.guard }], guard := some (40, false) }) (v := ?v55tt) rfl (by kernel_rfl) (by kernel_rfl) (by kernel_rfl) (fun _ _ _ h => h) (Or.inl ⟨by rfl, ?hy55tt⟩) hH ?r55tt
                  case hy55tt => (intro W hSw; (try dsimp only at hSw); go_simp; try (with_reducible rfl))
                  try simp only [Act.put, List.setIfInBounds_toArray, List.set_cons_zero, List.set_cons_succ]
                  refine wpAnyH_take (i := 56) (oi := { dst := some 128, op := Op.pick (Operand.tmp 112) (Operand.const (Value.bool true)) (Operand.tmp 127), type := 4, pos := "law.go:32", after := #[{ on := 40, ground := Ground.data }, { on := 55, ground := Ground.data }], guard := none }) (v := ?v56tt) rfl (by kernel_rfl) (by kernel_rfl) (by kernel_rfl) (fun _ _ _ h => h) (Or.inl ⟨by rfl, ?hy56tt⟩) hH ?r56tt
                  case hy56tt => (intro W hSw; (try dsimp only at hSw); go_simp; try (with_reducible rfl))
                  try simp only [Act.put, List.setIfInBounds_toArray, List.set_cons_zero, List.set_cons_succ]
                  refine wpAnyH_done (by kernel_rfl) ?_ _
                  refine NoPanic.normal ?_
                  go_wp2_with fail
                  go_meet
                  case rel => exact ⟨rfl, Q10⟩
                · have HR : Hid (rng fr tt k = false) := by show _ = _; unfold rng; simp [hf]
                  have hf' : decide ((fr : Int) ≤ (k : Int)) = false := by simp; omega
                  refine wp_region_noPanic ?_
                  refine wp_region_held_drew (S := (fun W => W.cell? ⟨w.heap.size, 0, none⟩ = some (.int .u64 (wd p 0 : Nat)) ∧ W.cell? ⟨w.heap.size, 1, none⟩ = some (.int .u64 (wd p 1 : Nat)) ∧ W.cell? ⟨w.heap.size, 2, none⟩ = some (.int .u64 (wd p 2 : Nat)) ∧ W.cell? ⟨w.heap.size, 3, none⟩ = some (.int .u64 (wd p 3 : Nat)) ∧ W.cell? ⟨w3.heap.size, 0, none⟩ = some (.int .u64 (wd q 0 : Nat)) ∧ W.cell? ⟨w3.heap.size, 1, none⟩ = some (.int .u64 (wd q 1 : Nat)) ∧ W.cell? ⟨w3.heap.size, 2, none⟩ = some (.int .u64 (wd q 2 : Nat)) ∧ W.cell? ⟨w3.heap.size, 3, none⟩ = some (.int .u64 (wd q 3 : Nat)) ∧ W.cell? ⟨(w3.heap.size + 1), 0, none⟩ = some (.int .u64 (wd (rng fr tt) 0 : Nat)) ∧ W.cell? ⟨(w3.heap.size + 1), 1, none⟩ = some (.int .u64 (wd (rng fr tt) 1 : Nat)) ∧ W.cell? ⟨(w3.heap.size + 1), 2, none⟩ = some (.int .u64 (wd (rng fr tt) 2 : Nat)) ∧ W.cell? ⟨(w3.heap.size + 1), 3, none⟩ = some (.int .u64 (wd (rng fr tt) 3 : Nat)) ∧ (Instr.lookup 35 (.map (some (w5.heap.size + 1))) (.int .u8 (k : Int)) false).run Try.prog W = .ok (.bool qk) W ∧ Hid (Kp w7 W))) (by kernel_rfl) ?_ (fun hH => ?_)
                  · exact MK.out _ Q0
                  refine wpAnyH_take (i := 0) (oi := { dst := some 72, op := Op.load 24 (Operand.tmp 5), type := 24, pos := "law.go:32", after := #[], guard := none }) (v := ?v0tf) rfl (by kernel_rfl) (by kernel_rfl) (by kernel_rfl) (fun _ _ _ h => h) (Or.inl ⟨by rfl, ?hy0tf⟩) hH ?r0tf
                  case hy0tf => (intro W hSw; (try dsimp only at hSw); go_simp; try (with_reducible rfl))
                  try simp only [Act.put, List.setIfInBounds_toArray, List.set_cons_zero, List.set_cons_succ]
                  refine wpAnyH_take (i := 1) (oi := { dst := some 73, op := Op.move (Operand.tmp 25), type := 5, pos := "law.go:32", after := #[], guard := none }) (v := ?v1tf) rfl (by kernel_rfl) (by kernel_rfl) (by kernel_rfl) (fun _ _ _ h => h) (Or.inl ⟨by rfl, ?hy1tf⟩) hH ?r1tf
                  case hy1tf => (intro W hSw; (try dsimp only at hSw); go_simp; try (with_reducible rfl))
                  try simp only [Act.put, List.setIfInBounds_toArray, List.set_cons_zero, List.set_cons_succ]
                  refine wpAnyH_take (i := 3) (oi := { dst := some 75, op := Op.load 24 (Operand.tmp 5), type := 24, pos := "law.go:32", after := #[], guard := none }) (v := ?v3tf) rfl (by kernel_rfl) (by kernel_rfl) (by kernel_rfl) (fun _ _ _ h => h) (Or.inl ⟨by rfl, ?hy3tf⟩) hH ?r3tf
                  case hy3tf => (intro W hSw; (try dsimp only at hSw); go_simp; try (with_reducible rfl))
                  try simp only [Act.put, List.setIfInBounds_toArray, List.set_cons_zero, List.set_cons_succ]
                  refine wpAnyH_take (i := 4) (oi := { dst := some 76, op := Op.move (Operand.tmp 25), type := 5, pos := "law.go:32", after := #[], guard := none }) (v := ?v4tf) rfl (by kernel_rfl) (by kernel_rfl) (by kernel_rfl) (fun _ _ _ h => h) (Or.inl ⟨by rfl, ?hy4tf⟩) hH ?r4tf
                  case hy4tf => (intro W hSw; (try dsimp only at hSw); go_simp; try (with_reducible rfl))
                  try simp only [Act.put, List.setIfInBounds_toArray, List.set_cons_zero, List.set_cons_succ]
                  refine wpAnyH_ready (rs := [2]) (by kernel_rfl) (by simp) ?_
                  refine AllReadyH.cons (o := { dst := some 74, op := Op.call { callee := Callee.value (Operand.func 17), args := #[Operand.tmp 72, Operand.tmp 73], argTypes := #[24, 5] }, type := 4, pos := "law.go:32", after := #[{ on := 0, ground := Ground.data }, { on := 1, ground := Ground.data }], guard := none }) rfl (fun K hKq => ?_) AllReadyH.nil
                  go_simp
                  refine (has_any p k _ hlt).mono ?_
                  rintro e y1 ⟨rfl, kq⟩
                  rw [hp]
                  have Q1 : Kp w7 y1 := Q0.trans kq
                  clear kq Q0
                  refine hKq.out _ _ (MK.out _ Q1) (fun hN => ?_)
                  clear hKq K hH
                  have hH := hN
                  clear hN
                  try simp only [Act.put, List.setIfInBounds_toArray, List.set_cons_zero, List.set_cons_succ]
                  refine wpAnyH_ready (rs := [5]) (by kernel_rfl) (by simp) ?_
                  refine AllReadyH.cons (o := { dst := some 77, op := Op.call { callee := Callee.value (Operand.func 18), args := #[Operand.tmp 75, Operand.tmp 76], argTypes := #[24, 5] }, type := 4, pos := "law.go:32", after := #[{ on := 3, ground := Ground.data }, { on := 4, ground := Ground.data }, { on := 2, ground := Ground.chain }], guard := none }) rfl (fun K hKq => ?_) AllReadyH.nil
                  go_simp
                  refine (refhas_any p k _ hlt).mono ?_
                  rintro e y2 ⟨rfl, kq⟩
                  rw [hp]
                  have Q2 : Kp w7 y2 := Q1.trans kq
                  clear kq Q1
                  refine hKq.out _ _ (MK.out _ Q2) (fun hN => ?_)
                  clear hKq K hH
                  have hH := hN
                  clear hN
                  try simp only [Act.put, List.setIfInBounds_toArray, List.set_cons_zero, List.set_cons_succ]
                  refine wpAnyH_take (i := 6) (oi := { dst := some 78, op := Op.binOp BinOp.neq 4 (Operand.tmp 74) (Operand.tmp 77) 4, type := 4, pos := "law.go:32", after := #[{ on := 2, ground := Ground.data }, { on := 5, ground := Ground.data }], guard := none }) (v := ?v6tf) rfl (by kernel_rfl) (by kernel_rfl) (by kernel_rfl) (fun _ _ _ h => h) (Or.inl ⟨by rfl, ?hy6tf⟩) hH ?r6tf
                  case hy6tf => (intro W hSw; (try dsimp only at hSw); go_simp; try (with_reducible rfl))
                  try simp only [Act.put, List.setIfInBounds_toArray, List.set_cons_zero, List.set_cons_succ]
                  refine wpAnyH_take (i := 7) (oi := { dst := some 79, op := Op.move (Operand.tmp 78), type := 4, pos := "law.go:32", after := #[{ on := 6, ground := Ground.data }, { on := 5, ground := Ground.chain }], guard := none }) (v := ?v7tf) rfl (by kernel_rfl) (by kernel_rfl) (by kernel_rfl) (fun _ _ _ h => h) (Or.inl ⟨by rfl, ?hy7tf⟩) hH ?r7tf
                  case hy7tf => (intro W hSw; (try dsimp only at hSw); go_simp; try (with_reducible rfl))
                  try simp only [Act.put, List.setIfInBounds_toArray, List.set_cons_zero, List.set_cons_succ]
                  refine wpAnyH_take (i := 8) (oi := { dst := some 80, op := Op.load 24 (Operand.tmp 13), type := 24, pos := "law.go:32", after := #[{ on := 7, ground := Ground.guard }], guard := some (7, false) }) (v := ?v8tf) rfl (by kernel_rfl) (by kernel_rfl) (by kernel_rfl) (fun _ _ _ h => h) (Or.inl ⟨by rfl, ?hy8tf⟩) hH ?r8tf
                  case hy8tf => (intro W hSw; (try dsimp only at hSw); go_simp; try (with_reducible rfl))
                  try simp only [Act.put, List.setIfInBounds_toArray, List.set_cons_zero, List.set_cons_succ]
                  refine wpAnyH_take (i := 9) (oi := { dst := some 81, op := Op.move (Operand.tmp 25), type := 5, pos := "law.go:32", after := #[{ on := 7, ground := Ground.guard }], guard := some (7, false) }) (v := ?v9tf) rfl (by kernel_rfl) (by kernel_rfl) (by kernel_rfl) (fun _ _ _ h => h) (Or.inl ⟨by rfl, ?hy9tf⟩) hH ?r9tf
                  case hy9tf => (intro W hSw; (try dsimp only at hSw); go_simp; try (with_reducible rfl))
                  try simp only [Act.put, List.setIfInBounds_toArray, List.set_cons_zero, List.set_cons_succ]
                  refine wpAnyH_take (i := 11) (oi := { dst := some 83, op := Op.move (Operand.tmp 19), type := 35, pos := "law.go:32", after := #[{ on := 7, ground := Ground.guard }], guard := some (7, false) }) (v := ?v11tf) rfl (by kernel_rfl) (by kernel_rfl) (by kernel_rfl) (fun _ _ _ h => h) (Or.inl ⟨by rfl, ?hy11tf⟩) hH ?r11tf
                  case hy11tf => (intro W hSw; (try dsimp only at hSw); go_simp; try (with_reducible rfl))
                  try simp only [Act.put, List.setIfInBounds_toArray, List.set_cons_zero, List.set_cons_succ]
                  refine wpAnyH_take (i := 12) (oi := { dst := some 84, op := Op.move (Operand.tmp 25), type := 5, pos := "law.go:32", after := #[{ on := 7, ground := Ground.guard }], guard := some (7, false) }) (v := ?v12tf) rfl (by kernel_rfl) (by kernel_rfl) (by kernel_rfl) (fun _ _ _ h => h) (Or.inl ⟨by rfl, ?hy12tf⟩) hH ?r12tf
                  case hy12tf => (intro W hSw; (try dsimp only at hSw); go_simp; try (with_reducible rfl))
                  try simp only [Act.put, List.setIfInBounds_toArray, List.set_cons_zero, List.set_cons_succ]
                  refine wpAnyH_take (i := 13) (oi := { dst := some 85, op := Op.lookup 35 (Operand.tmp 83) (Operand.tmp 84) false, type := 4, pos := "law.go:32", after := #[{ on := 11, ground := Ground.data }, { on := 12, ground := Ground.data }, { on := 7, ground := Ground.guard }], guard := some (7, false) }) (v := ?v13tf) rfl (by kernel_rfl) (by kernel_rfl) (by kernel_rfl) (fun _ _ _ h => h) (Or.inl ⟨by rfl, ?hy13tf⟩) hH ?r13tf
                  case hy13tf => (intro W hSw; (try dsimp only at hSw); go_simp; try (with_reducible rfl))
                  try simp only [Act.put, List.setIfInBounds_toArray, List.set_cons_zero, List.set_cons_succ]
                  refine wpAnyH_ready (rs := [10]) (by kernel_rfl) (by simp) ?_
                  refine AllReadyH.cons (o := { dst := some 82, op := Op.call { callee := Callee.value (Operand.func 17), args := #[Operand.tmp 80, Operand.tmp 81], argTypes := #[24, 5] }, type := 4, pos := "law.go:32", after := #[{ on := 8, ground := Ground.data }, { on := 9, ground := Ground.data }, { on := 7, ground := Ground.chain }, { on := 7, ground := Ground.guard }], guard := some (7, false) }) rfl (fun K hKq => ?_) AllReadyH.nil
                  go_simp
                  refine (has_any q k _ hlt).mono ?_
                  rintro e y3 ⟨rfl, kq⟩
                  rw [HQK.out]
                  have Q3 : Kp w7 y3 := Q2.trans kq
                  clear kq Q2
                  refine hKq.out _ _ (MK.out _ Q3) (fun hN => ?_)
                  clear hKq K hH
                  have hH := hN
                  clear hN
                  try simp only [Act.put, List.setIfInBounds_toArray, List.set_cons_zero, List.set_cons_succ]
                  refine wpAnyH_take (i := 14) (oi := { dst := some 86, op := Op.binOp BinOp.neq 4 (Operand.tmp 82) (Operand.tmp 85) 4, type := 4, pos := "law.go:32", after := #[{ on := 10, ground := Ground.data }, { on := 13, ground := Ground.data }, { on := 7, ground := Ground.guard }], guard := some (7, false) }) (v := ?v14tf) rfl (by kernel_rfl) (by kernel_rfl) (by kernel_rfl) (fun _ _ _ h => h) (Or.inl ⟨by rfl, ?hy14tf⟩) hH ?r14tf
                  case hy14tf => (intro W hSw; (try dsimp only at hSw); go_simp; try (with_reducible rfl))
                  try simp only [Act.put, List.setIfInBounds_toArray, List.set_cons_zero, List.set_cons_succ]
                  refine wpAnyH_take (i := 15) (oi := { dst := some 87, op := Op.pick (Operand.tmp 79) (Operand.const (Value.bool true)) (Operand.tmp 86), type := 4, pos := "law.go:32", after := #[{ on := 7, ground := Ground.data }, { on := 14, ground := Ground.data }], guard := none }) (v := ?v15tf) rfl (by kernel_rfl) (by kernel_rfl) (by kernel_rfl) (fun _ _ _ h => h) (Or.inl ⟨by rfl, ?hy15tf⟩) hH ?r15tf
                  case hy15tf => (intro W hSw; (try dsimp only at hSw); go_simp; try (with_reducible rfl))
                  try simp only [Act.put, List.setIfInBounds_toArray, List.set_cons_zero, List.set_cons_succ]
                  refine wpAnyH_take (i := 16) (oi := { dst := some 88, op := Op.move (Operand.tmp 87), type := 4, pos := "law.go:32", after := #[{ on := 15, ground := Ground.data }, { on := 10, ground := Ground.chain }], guard := none }) (v := ?v16tf) rfl (by kernel_rfl) (by kernel_rfl) (by kernel_rfl) (fun _ _ _ h => h) (Or.inl ⟨by rfl, ?hy16tf⟩) hH ?r16tf
                  case hy16tf => (intro W hSw; (try dsimp only at hSw); go_simp; try (with_reducible rfl))
                  try simp only [Act.put, List.setIfInBounds_toArray, List.set_cons_zero, List.set_cons_succ]
                  refine wpAnyH_take (i := 17) (oi := { dst := some 89, op := Op.load 24 (Operand.tmp 14), type := 24, pos := "law.go:32", after := #[{ on := 16, ground := Ground.guard }], guard := some (16, false) }) (v := ?v17tf) rfl (by kernel_rfl) (by kernel_rfl) (by kernel_rfl) (fun _ _ _ h => h) (Or.inl ⟨by rfl, ?hy17tf⟩) hH ?r17tf
                  case hy17tf => (intro W hSw; (try dsimp only at hSw); go_simp; try (with_reducible rfl))
                  try simp only [Act.put, List.setIfInBounds_toArray, List.set_cons_zero, List.set_cons_succ]
                  refine wpAnyH_take (i := 18) (oi := { dst := some 90, op := Op.move (Operand.tmp 25), type := 5, pos := "law.go:32", after := #[{ on := 16, ground := Ground.guard }], guard := some (16, false) }) (v := ?v18tf) rfl (by kernel_rfl) (by kernel_rfl) (by kernel_rfl) (fun _ _ _ h => h) (Or.inl ⟨by rfl, ?hy18tf⟩) hH ?r18tf
                  case hy18tf => (intro W hSw; (try dsimp only at hSw); go_simp; try (with_reducible rfl))
                  try simp only [Act.put, List.setIfInBounds_toArray, List.set_cons_zero, List.set_cons_succ]
                  refine wpAnyH_take (i := 20) (oi := { dst := some 92, op := Op.move (Operand.tmp 25), type := 5, pos := "law.go:32", after := #[{ on := 16, ground := Ground.guard }], guard := some (16, false) }) (v := ?v20tf) rfl (by kernel_rfl) (by kernel_rfl) (by kernel_rfl) (fun _ _ _ h => h) (Or.inl ⟨by rfl, ?hy20tf⟩) hH ?r20tf
                  case hy20tf => (intro W hSw; (try dsimp only at hSw); go_simp; try (with_reducible rfl))
                  try simp only [Act.put, List.setIfInBounds_toArray, List.set_cons_zero, List.set_cons_succ]
                  refine wpAnyH_take (i := 21) (oi := { dst := some 93, op := Op.move (Operand.tmp 2), type := 5, pos := "law.go:32", after := #[{ on := 16, ground := Ground.guard }], guard := some (16, false) }) (v := ?v21tf) rfl (by kernel_rfl) (by kernel_rfl) (by kernel_rfl) (fun _ _ _ h => h) (Or.inl ⟨by rfl, ?hy21tf⟩) hH ?r21tf
                  case hy21tf => (intro W hSw; (try dsimp only at hSw); go_simp; try (with_reducible rfl))
                  try simp only [Act.put, List.setIfInBounds_toArray, List.set_cons_zero, List.set_cons_succ]
                  refine wpAnyH_take (i := 22) (oi := { dst := some 94, op := Op.binOp BinOp.geq 5 (Operand.tmp 92) (Operand.tmp 93) 5, type := 4, pos := "law.go:32", after := #[{ on := 20, ground := Ground.data }, { on := 21, ground := Ground.data }, { on := 16, ground := Ground.guard }], guard := some (16, false) }) (v := ?v22tf) rfl (by kernel_rfl) (by kernel_rfl) (by kernel_rfl) (fun _ _ _ h => h) (Or.inl ⟨by rfl, ?hy22tf⟩) hH ?r22tf
                  case hy22tf => (intro W hSw; (try dsimp only at hSw); go_simp; try (with_reducible rfl))
                  try simp only [Act.put, List.setIfInBounds_toArray, List.set_cons_zero, List.set_cons_succ]
                  refine wpAnyH_ready (rs := [19]) (by kernel_rfl) (by simp) ?_
                  refine AllReadyH.cons (o := { dst := some 91, op := Op.call { callee := Callee.value (Operand.func 17), args := #[Operand.tmp 89, Operand.tmp 90], argTypes := #[24, 5] }, type := 4, pos := "law.go:32", after := #[{ on := 17, ground := Ground.data }, { on := 18, ground := Ground.data }, { on := 16, ground := Ground.chain }, { on := 16, ground := Ground.guard }], guard := some (16, false) }) rfl (fun K hKq => ?_) AllReadyH.nil
                  go_simp
                  refine (has_any (rng fr tt) k _ hlt).mono ?_
                  rintro e y4 ⟨rfl, kq⟩
                  rw [HR.out]
                  have Q4 : Kp w7 y4 := Q3.trans kq
                  clear kq Q3
                  refine hKq.out _ _ (MK.out _ Q4) (fun hN => ?_)
                  clear hKq K hH
                  have hH := hN
                  clear hN
                  try simp only [Act.put, List.setIfInBounds_toArray, List.set_cons_zero, List.set_cons_succ]
                  refine wpAnyH_take (i := 23) (oi := { dst := some 95, op := Op.move (Operand.tmp 94), type := 4, pos := "law.go:32", after := #[{ on := 22, ground := Ground.data }, { on := 19, ground := Ground.chain }, { on := 16, ground := Ground.guard }], guard := some (16, false) }) (v := ?v23tf) rfl (by kernel_rfl) (by kernel_rfl) (by kernel_rfl) (fun _ _ _ h => h) (Or.inl ⟨by rfl, ?hy23tf⟩) hH ?r23tf
                  case hy23tf => (intro W hSw; (try dsimp only at hSw); go_simp; try (with_reducible rfl))
                  try simp only [Act.put, List.setIfInBounds_toArray, List.set_cons_zero, List.set_cons_succ]
                  refine wpAnyH_take (i := 24) (oi := { dst := some 96, op := Op.move (Operand.tmp 25), type := 5, pos := "law.go:32", after := #[{ on := 23, ground := Ground.guard }], guard := some (23, true) }) (v := undef) rfl (by kernel_rfl) (by kernel_rfl) (by kernel_rfl) (fun _ _ _ h => h) (Or.inr ⟨by rfl, rfl⟩) hH ?r24tf
                  try simp only [Act.put, List.setIfInBounds_toArray, List.set_cons_zero, List.set_cons_succ]
                  refine wpAnyH_take (i := 25) (oi := { dst := some 97, op := Op.move (Operand.tmp 3), type := 5, pos := "law.go:32", after := #[{ on := 23, ground := Ground.guard }], guard := some (23, true) }) (v := undef) rfl (by kernel_rfl) (by kernel_rfl) (by kernel_rfl) (fun _ _ _ h => h) (Or.inr ⟨by rfl, rfl⟩) hH ?r25tf
                  try simp only [Act.put, List.setIfInBounds_toArray, List.set_cons_zero, List.set_cons_succ]
                  refine wpAnyH_take (i := 26) (oi := { dst := some 98, op := Op.binOp BinOp.leq 5 (Operand.tmp 96) (Operand.tmp 97) 5, type := 4, pos := "law.go:32", after := #[{ on := 24, ground := Ground.data }, { on := 25, ground := Ground.data }, { on := 23, ground := Ground.guard }], guard := some (23, true) }) (v := undef) rfl (by kernel_rfl) (by kernel_rfl) (by kernel_rfl) (fun _ _ _ h => h) (Or.inr ⟨by rfl, rfl⟩) hH ?r26tf
                  try simp only [Act.put, List.setIfInBounds_toArray, List.set_cons_zero, List.set_cons_succ]
                  refine wpAnyH_take (i := 27) (oi := { dst := some 99, op := Op.pick (Operand.tmp 95) (Operand.tmp 98) (Operand.const (Value.bool false)), type := 4, pos := "law.go:32", after := #[{ on := 23, ground := Ground.data }, { on := 26, ground := Ground.data }, { on := 16, ground := Ground.guard }], guard := some (16, false) }) (v := ?v27tf) rfl (by kernel_rfl) (by kernel_rfl) (by kernel_rfl) (fun _ _ _ h => h) (Or.inl ⟨by rfl, ?hy27tf⟩) hH ?r27tf
                  case hy27tf => (intro W hSw; (try dsimp only at hSw); go_simp; try (with_reducible rfl))
                  try simp only [Act.put, List.setIfInBounds_toArray, List.set_cons_zero, List.set_cons_succ]
                  refine wpAnyH_take (i := 28) (oi := { dst := some 100, op := Op.binOp BinOp.neq 4 (Operand.tmp 91) (Operand.tmp 99) 4, type := 4, pos := "law.go:32", after := #[{ on := 19, ground := Ground.data }, { on := 27, ground := Ground.data }, { on := 16, ground := Ground.guard }], guard := some (16, false) }) (v := ?v28tf) rfl (by kernel_rfl) (by kernel_rfl) (by kernel_rfl) (fun _ _ _ h => h) (Or.inl ⟨by rfl, ?hy28tf⟩) hH ?r28tf
                  case hy28tf => (intro W hSw; (try dsimp only at hSw); go_simp; try (with_reducible rfl))
                  try simp only [Act.put, List.setIfInBounds_toArray, List.set_cons_zero, List.set_cons_succ]
                  refine wpAnyH_take (i := 29) (oi := { dst := some 101, op := Op.pick (Operand.tmp 88) (Operand.const (Value.bool true)) (Operand.tmp 100), type := 4, pos := "law.go:32", after := #[{ on := 16, ground := Ground.data }, { on := 28, ground := Ground.data }], guard := none }) (v := ?v29tf) rfl (by kernel_rfl) (by kernel_rfl) (by kernel_rfl) (fun _ _ _ h => h) (Or.inl ⟨by rfl, ?hy29tf⟩) hH ?r29tf
                  case hy29tf => (intro W hSw; (try dsimp only at hSw); go_simp; try (with_reducible rfl))
                  try simp only [Act.put, List.setIfInBounds_toArray, List.set_cons_zero, List.set_cons_succ]
                  refine wpAnyH_take (i := 30) (oi := { dst := some 102, op := Op.move (Operand.tmp 101), type := 4, pos := "law.go:32", after := #[{ on := 29, ground := Ground.data }, { on := 23, ground := Ground.chain }], guard := none }) (v := ?v30tf) rfl (by kernel_rfl) (by kernel_rfl) (by kernel_rfl) (fun _ _ _ h => h) (Or.inl ⟨by rfl, ?hy30tf⟩) hH ?r30tf
                  case hy30tf => (intro W hSw; (try dsimp only at hSw); go_simp; try (with_reducible rfl))
                  try simp only [Act.put, List.setIfInBounds_toArray, List.set_cons_zero, List.set_cons_succ]
                  refine wpAnyH_take (i := 31) (oi := { dst := some 103, op := Op.load 24 (Operand.tmp 5), type := 24, pos := "law.go:32", after := #[{ on := 30, ground := Ground.guard }], guard := some (30, false) }) (v := ?v31tf) rfl (by kernel_rfl) (by kernel_rfl) (by kernel_rfl) (fun _ _ _ h => h) (Or.inl ⟨by rfl, ?hy31tf⟩) hH ?r31tf
                  case hy31tf => (intro W hSw; (try dsimp only at hSw); go_simp; try (with_reducible rfl))
                  try simp only [Act.put, List.setIfInBounds_toArray, List.set_cons_zero, List.set_cons_succ]
                  refine wpAnyH_take (i := 33) (oi := { dst := some 105, op := Op.move (Operand.tmp 25), type := 5, pos := "law.go:32", after := #[{ on := 30, ground := Ground.guard }], guard := some (30, false) }) (v := ?v33tf) rfl (by kernel_rfl) (by kernel_rfl) (by kernel_rfl) (fun _ _ _ h => h) (Or.inl ⟨by rfl, ?hy33tf⟩) hH ?r33tf
                  case hy33tf => (intro W hSw; (try dsimp only at hSw); go_simp; try (with_reducible rfl))
                  try simp only [Act.put, List.setIfInBounds_toArray, List.set_cons_zero, List.set_cons_succ]
                  refine wpAnyH_take (i := 35) (oi := { dst := some 107, op := Op.load 24 (Operand.tmp 5), type := 24, pos := "law.go:32", after := #[{ on := 30, ground := Ground.guard }], guard := some (30, false) }) (v := ?v35tf) rfl (by kernel_rfl) (by kernel_rfl) (by kernel_rfl) (fun _ _ _ h => h) (Or.inl ⟨by rfl, ?hy35tf⟩) hH ?r35tf
                  case hy35tf => (intro W hSw; (try dsimp only at hSw); go_simp; try (with_reducible rfl))
                  try simp only [Act.put, List.setIfInBounds_toArray, List.set_cons_zero, List.set_cons_succ]
                  refine wpAnyH_take (i := 36) (oi := { dst := some 108, op := Op.move (Operand.tmp 25), type := 5, pos := "law.go:32", after := #[{ on := 30, ground := Ground.guard }], guard := some (30, false) }) (v := ?v36tf) rfl (by kernel_rfl) (by kernel_rfl) (by kernel_rfl) (fun _ _ _ h => h) (Or.inl ⟨by rfl, ?hy36tf⟩) hH ?r36tf
                  case hy36tf => (intro W hSw; (try dsimp only at hSw); go_simp; try (with_reducible rfl))
                  try simp only [Act.put, List.setIfInBounds_toArray, List.set_cons_zero, List.set_cons_succ]
                  refine wpAnyH_ready (rs := [32]) (by kernel_rfl) (by simp) ?_
                  refine AllReadyH.cons (o := { dst := some 104, op := Op.call { callee := Callee.value (Operand.func 13), args := #[Operand.tmp 103], argTypes := #[24] }, type := 24, pos := "law.go:32", after := #[{ on := 31, ground := Ground.data }, { on := 30, ground := Ground.chain }, { on := 30, ground := Ground.guard }], guard := some (30, false) }) rfl (fun K hKq => ?_) AllReadyH.nil
                  go_simp
                  refine (not_any p _).mono ?_
                  rintro e y5 ⟨rfl, kq⟩
                  have Q5 : Kp w7 y5 := Q4.trans kq
                  clear kq Q4
                  refine hKq.out _ _ (MK.out _ Q5) (fun hN => ?_)
                  clear hKq K hH
                  have hH := hN
                  clear hN
                  try simp only [Act.put, List.setIfInBounds_toArray, List.set_cons_zero, List.set_cons_succ]
                  refine wpAnyH_ready (rs := [34]) (by kernel_rfl) (by simp) ?_
                  refine AllReadyH.cons (o := { dst := some 106, op := Op.call { callee := Callee.value (Operand.func 17), args := #[Operand.tmp 104, Operand.tmp 105], argTypes := #[24, 5] }, type := 4, pos := "law.go:32", after := #[{ on := 32, ground := Ground.data }, { on := 33, ground := Ground.data }, { on := 32, ground := Ground.chain }, { on := 30, ground := Ground.guard }], guard := some (30, false) }) rfl (fun K hKq => ?_) AllReadyH.nil
                  go_simp
                  refine (has_any (notB p) k _ hlt).mono ?_
                  rintro e y6 ⟨rfl, kq⟩
                  rw [HNP.out]
                  have Q6 : Kp w7 y6 := Q5.trans kq
                  clear kq Q5
                  refine hKq.out _ _ (MK.out _ Q6) (fun hN => ?_)
                  clear hKq K hH
                  have hH := hN
                  clear hN
                  try simp only [Act.put, List.setIfInBounds_toArray, List.set_cons_zero, List.set_cons_succ]
                  refine wpAnyH_ready (rs := [37]) (by kernel_rfl) (by simp) ?_
                  refine AllReadyH.cons (o := { dst := some 109, op := Op.call { callee := Callee.value (Operand.func 18), args := #[Operand.tmp 107, Operand.tmp 108], argTypes := #[24, 5] }, type := 4, pos := "law.go:32", after := #[{ on := 35, ground := Ground.data }, { on := 36, ground := Ground.data }, { on := 34, ground := Ground.chain }, { on := 30, ground := Ground.guard }], guard := some (30, false) }) rfl (fun K hKq => ?_) AllReadyH.nil
                  go_simp
                  refine (refhas_any p k _ hlt).mono ?_
                  rintro e y7 ⟨rfl, kq⟩
                  rw [hp]
                  have Q7 : Kp w7 y7 := Q6.trans kq
                  clear kq Q6
                  refine hKq.out _ _ (MK.out _ Q7) (fun hN => ?_)
                  clear hKq K hH
                  have hH := hN
                  clear hN
                  try simp only [Act.put, List.setIfInBounds_toArray, List.set_cons_zero, List.set_cons_succ]
                  refine wpAnyH_take (i := 38) (oi := { dst := some 110, op := Op.binOp BinOp.eql 4 (Operand.tmp 106) (Operand.tmp 109) 4, type := 4, pos := "law.go:32", after := #[{ on := 34, ground := Ground.data }, { on := 37, ground := Ground.data }, { on := 30, ground := Ground.guard }], guard := some (30, false) }) (v := ?v38tf) rfl (by kernel_rfl) (by kernel_rfl) (by kernel_rfl) (fun _ _ _ h => h) (Or.inl ⟨by rfl, ?hy38tf⟩) hH ?r38tf
                  case hy38tf => (intro W hSw; (try dsimp only at hSw); go_simp; try (with_reducible rfl))
                  try simp only [Act.put, List.setIfInBounds_toArray, List.set_cons_zero, List.set_cons_succ]
                  refine wpAnyH_take (i := 39) (oi := { dst := some 111, op := Op.pick (Operand.tmp 102) (Operand.const (Value.bool true)) (Operand.tmp 110), type := 4, pos := "law.go:32", after := #[{ on := 30, ground := Ground.data }, { on := 38, ground := Ground.data }], guard := none }) (v := ?v39tf) rfl (by kernel_rfl) (by kernel_rfl) (by kernel_rfl) (fun _ _ _ h => h) (Or.inl ⟨by rfl, ?hy39tf⟩) hH ?r39tf
                  case hy39tf => (intro W hSw; (try dsimp only at hSw); go_simp; try (with_reducible rfl))
                  try simp only [Act.put, List.setIfInBounds_toArray, List.set_cons_zero, List.set_cons_succ]
                  refine wpAnyH_take (i := 40) (oi := { dst := some 112, op := Op.move (Operand.tmp 111), type := 4, pos := "law.go:32", after := #[{ on := 39, ground := Ground.data }, { on := 37, ground := Ground.chain }], guard := none }) (v := ?v40tf) rfl (by kernel_rfl) (by kernel_rfl) (by kernel_rfl) (fun _ _ _ h => h) (Or.inl ⟨by rfl, ?hy40tf⟩) hH ?r40tf
                  case hy40tf => (intro W hSw; (try dsimp only at hSw); go_simp; try (with_reducible rfl))
                  try simp only [Act.put, List.setIfInBounds_toArray, List.set_cons_zero, List.set_cons_succ]
                  refine wpAnyH_take (i := 41) (oi := { dst := some 113, op := Op.load 24 (Operand.tmp 5), type := 24, pos := "law.go:32", after := #[{ on := 40, ground := Ground.guard }], guard := some (40, false) }) (v := ?v41tf) rfl (by kernel_rfl) (by kernel_rfl) (by kernel_rfl) (fun _ _ _ h => h) (Or.inl ⟨by rfl, ?hy41tf⟩) hH ?r41tf
                  case hy41tf => (intro W hSw; (try dsimp only at hSw); go_simp; try (with_reducible rfl))
                  try simp only [Act.put, List.setIfInBounds_toArray, List.set_cons_zero, List.set_cons_succ]
                  refine wpAnyH_take (i := 42) (oi := { dst := some 114, op := Op.load 24 (Operand.tmp 13), type := 24, pos := "law.go:32", after := #[{ on := 40, ground := Ground.guard }], guard := some (40, false) }) (v := ?v42tf) rfl (by kernel_rfl) (by kernel_rfl) (by kernel_rfl) (fun _ _ _ h => h) (Or.inl ⟨by rfl, ?hy42tf⟩) hH ?r42tf
                  case hy42tf => (intro W hSw; (try dsimp only at hSw); go_simp; try (with_reducible rfl))
                  try simp only [Act.put, List.setIfInBounds_toArray, List.set_cons_zero, List.set_cons_succ]
                  refine wpAnyH_take (i := 45) (oi := { dst := some 117, op := Op.move (Operand.tmp 25), type := 5, pos := "law.go:32", after := #[{ on := 40, ground := Ground.guard }], guard := some (40, false) }) (v := ?v45tf) rfl (by kernel_rfl) (by kernel_rfl) (by kernel_rfl) (fun _ _ _ h => h) (Or.inl ⟨by rfl, ?hy45tf⟩) hH ?r45tf
                  case hy45tf => (intro W hSw; (try dsimp only at hSw); go_simp; try (with_reducible rfl))
                  try simp only [Act.put, List.setIfInBounds_toArray, List.set_cons_zero, List.set_cons_succ]
                  refine wpAnyH_take (i := 47) (oi := { dst := some 119, op := Op.load 24 (Operand.tmp 5), type := 24, pos := "law.go:32", after := #[{ on := 40, ground := Ground.guard }], guard := some (40, false) }) (v := ?v47tf) rfl (by kernel_rfl) (by kernel_rfl) (by kernel_rfl) (fun _ _ _ h => h) (Or.inl ⟨by rfl, ?hy47tf⟩) hH ?r47tf
                  case hy47tf => (intro W hSw; (try dsimp only at hSw); go_simp; try (with_reducible rfl))
                  try simp only [Act.put, List.setIfInBounds_toArray, List.set_cons_zero, List.set_cons_succ]
                  refine wpAnyH_take (i := 48) (oi := { dst := some 120, op := Op.move (Operand.tmp 25), type := 5, pos := "law.go:32", after := #[{ on := 40, ground := Ground.guard }], guard := some (40, false) }) (v := ?v48tf) rfl (by kernel_rfl) (by kernel_rfl) (by kernel_rfl) (fun _ _ _ h => h) (Or.inl ⟨by rfl, ?hy48tf⟩) hH ?r48tf
                  case hy48tf => (intro W hSw; (try dsimp only at hSw); go_simp; try (with_reducible rfl))
                  try simp only [Act.put, List.setIfInBounds_toArray, List.set_cons_zero, List.set_cons_succ]
                  refine wpAnyH_ready (rs := [43]) (by kernel_rfl) (by simp) ?_
                  refine AllReadyH.cons (o := { dst := some 115, op := Op.buildSlice 50 2 #[(0, Operand.tmp 113), (1, Operand.tmp 114)], type := 50, pos := "law.go:32", after := #[{ on := 41, ground := Ground.data }, { on := 42, ground := Ground.data }, { on := 40, ground := Ground.guard }], guard := some (40, false) }) rfl (fun K hKq => ?_) AllReadyH.nil
                  go_simp
                  refine hKq.out _ _ (MK.out _ (Q7.alloc _)) (fun hN => ?_)
                  clear hKq K hH
                  have hH := hN
                  clear hN
                  try simp only [Act.put, List.setIfInBounds_toArray, List.set_cons_zero, List.set_cons_succ]
                  refine wpAnyH_ready (rs := [44]) (by kernel_rfl) (by simp) ?_
                  refine AllReadyH.cons (o := { dst := some 116, op := Op.call { callee := Callee.value (Operand.func 10), args := #[Operand.tmp 115], argTypes := #[50] }, type := 24, pos := "law.go:32", after := #[{ on := 43, ground := Ground.data }, { on := 40, ground := Ground.chain }, { on := 40, ground := Ground.guard }], guard := some (40, false) }) rfl (fun K hKq => ?_) AllReadyH.nil
                  go_simp
                  refine (join2 p q _ _ ?hstf ?hXtf).mono ?_
                  case hstf => simp
                  case hXtf => exact last_of _ _
                  rintro e y8 ⟨rfl, kq⟩
                  have Q8 : Kp w7 y8 := (Q7.alloc _).trans kq
                  clear kq Q7
                  refine hKq.out _ _ (MK.out _ Q8) (fun hN => ?_)
                  clear hKq K hH
                  have hH := hN
                  clear hN
                  try simp only [Act.put, List.setIfInBounds_toArray, List.set_cons_zero, List.set_cons_succ]
                  refine wpAnyH_ready (rs := [46]) (by kernel_rfl) (by simp) ?_
                  refine AllReadyH.cons (o := { dst := some 118, op := Op.call { callee := Callee.value (Operand.func 17), args := #[Operand.tmp 116, Operand.tmp 117], argTypes := #[24, 5] }, type := 4, pos := "law.go:32", after := #[{ on := 44, ground := Ground.data }, { on := 45, ground := Ground.data }, { on := 44, ground := Ground.chain }, { on := 40, ground := Ground.guard }], guard := some (40, false) }) rfl (fun K hKq => ?_) AllReadyH.nil
                  go_simp
                  refine (has_any (orB p q) k _ hlt).mono ?_
                  rintro e y9 ⟨rfl, kq⟩
                  rw [HOR.out]
                  have Q9 : Kp w7 y9 := Q8.trans kq
                  clear kq Q8
                  refine hKq.out _ _ (MK.out _ Q9) (fun hN => ?_)
                  clear hKq K hH
                  have hH := hN
                  clear hN
                  try simp only [Act.put, List.setIfInBounds_toArray, List.set_cons_zero, List.set_cons_succ]
                  refine wpAnyH_ready (rs := [49]) (by kernel_rfl) (by simp) ?_
                  refine AllReadyH.cons (o := { dst := some 121, op := Op.call { callee := Callee.value (Operand.func 18), args := #[Operand.tmp 119, Operand.tmp 120], argTypes := #[24, 5] }, type := 4, pos := "law.go:32", after := #[{ on := 47, ground := Ground.data }, { on := 48, ground := Ground.data }, { on := 46, ground := Ground.chain }, { on := 40, ground := Ground.guard }], guard := some (40, false) }) rfl (fun K hKq => ?_) AllReadyH.nil
                  go_simp
                  refine (refhas_any p k _ hlt).mono ?_
                  rintro e y10 ⟨rfl, kq⟩
                  rw [hp]
                  have Q10 : Kp w7 y10 := Q9.trans kq
                  clear kq Q9
                  refine hKq.out _ _ (MK.out _ Q10) (fun hN => ?_)
                  clear hKq K hH
                  have hH := hN
                  clear hN
                  try simp only [Act.put, List.setIfInBounds_toArray, List.set_cons_zero, List.set_cons_succ]
                  refine wpAnyH_take (i := 50) (oi := { dst := some 122, op := Op.move (Operand.tmp 121), type := 4, pos := "law.go:32", after := #[{ on := 49, ground := Ground.data }, { on := 49, ground := Ground.chain }, { on := 40, ground := Ground.guard }], guard := some (40, false) }) (v := ?v50tf) rfl (by kernel_rfl) (by kernel_rfl) (by kernel_rfl) (fun _ _ _ h => h) (Or.inl ⟨by rfl, ?hy50tf⟩) hH ?r50tf
                  case hy50tf => (intro W hSw; (try dsimp only at hSw); go_simp; try (with_reducible rfl))
                  try simp only [Act.put, List.setIfInBounds_toArray, List.set_cons_zero, List.set_cons_succ]
                  refine wpAnyH_take (i := 51) (oi := { dst := some 123, op := Op.move (Operand.tmp 19), type := 35, pos := "law.go:32", after := #[{ on := 50, ground := Ground.guard }], guard := some (50, false) }) (v := undef) rfl (by kernel_rfl) (by kernel_rfl) (by kernel_rfl) (fun _ _ _ h => h) (Or.inr ⟨by rfl, rfl⟩) hH ?r51tf
                  try simp only [Act.put, List.setIfInBounds_toArray, List.set_cons_zero, List.set_cons_succ]
                  refine wpAnyH_take (i := 52) (oi := { dst := some 124, op := Op.move (Operand.tmp 25), type := 5, pos := "law.go:32", after := #[{ on := 50, ground := Ground.guard }], guard := some (50, false) }) (v := undef) rfl (by kernel_rfl) (by kernel_rfl) (by kernel_rfl) (fun _ _ _ h => h) (Or.inr ⟨by rfl, rfl⟩) hH ?r52tf
                  try simp only [Act.put, List.setIfInBounds_toArray, List.set_cons_zero, List.set_cons_succ]
                  refine wpAnyH_take (i := 53) (oi := { dst := some 125, op := Op.lookup 35 (Operand.tmp 123) (Operand.tmp 124) false, type := 4, pos := "law.go:32", after := #[{ on := 51, ground := Ground.data }, { on := 52, ground := Ground.data }, { on := 50, ground := Ground.guard }], guard := some (50, false) }) (v := undef) rfl (by kernel_rfl) (by kernel_rfl) (by kernel_rfl) (fun _ _ _ h => h) (Or.inr ⟨by rfl, rfl⟩) hH ?r53tf
                  try simp only [Act.put, List.setIfInBounds_toArray, List.set_cons_zero, List.set_cons_succ]
                  refine wpAnyH_take (i := 54) (oi := { dst := some 126, op := Op.pick (Operand.tmp 122) (Operand.const (Value.bool true)) (Operand.tmp 125), type := 4, pos := "law.go:32", after := #[{ on := 50, ground := Ground.data }, { on := 53, ground := Ground.data }, { on := 40, ground := Ground.guard }], guard := some (40, false) }) (v := ?v54tf) rfl (by kernel_rfl) (by kernel_rfl) (by kernel_rfl) (fun _ _ _ h => h) (Or.inl ⟨by rfl, ?hy54tf⟩) hH ?r54tf
                  case hy54tf => (intro W hSw; (try dsimp only at hSw); go_simp; try (with_reducible rfl))
                  try simp only [Act.put, List.setIfInBounds_toArray, List.set_cons_zero, List.set_cons_succ]
                  refine wpAnyH_take (i := 55) (oi := { dst := some 127, op := Op.binOp BinOp.neq 4 (Operand.tmp 118) (Operand.tmp 126) 4, type := 4, pos := "law.go:32", after := #[{ on := 46, ground := Ground.data }, { on := 54, ground := Ground.data }, { on := 40, ground := Ground.guard }], guard := some (40, false) }) (v := ?v55tf) rfl (by kernel_rfl) (by kernel_rfl) (by kernel_rfl) (fun _ _ _ h => h) (Or.inl ⟨by rfl, ?hy55tf⟩) hH ?r55tf
                  case hy55tf => (intro W hSw; (try dsimp only at hSw); go_simp; try (with_reducible rfl))
                  try simp only [Act.put, List.setIfInBounds_toArray, List.set_cons_zero, List.set_cons_succ]
                  refine wpAnyH_take (i := 56) (oi := { dst := some 128, op := Op.pick (Operand.tmp 112) (Operand.const (Value.bool true)) (Operand.tmp 127), type := 4, pos := "law.go:32", after := #[{ on := 40, ground := Ground.data }, { on := 55, ground := Ground.data }], guard := none }) (v := ?v56tf) rfl (by kernel_rfl) (by kernel_rfl) (by kernel_rfl) (fun _ _ _ h => h) (Or.inl ⟨by rfl, ?hy56tf⟩) hH ?r56tf
                  case hy56tf => (intro W hSw; (try dsimp only at hSw); go_simp; try (with_reducible rfl))
                  try simp only [Act.put, List.setIfInBounds_toArray, List.set_cons_zero, List.set_cons_succ]
                  refine wpAnyH_done (by kernel_rfl) ?_ _
                  refine NoPanic.normal ?_
                  go_wp2_with fail
                  go_meet
                  case rel => exact ⟨rfl, Q10⟩
            case rest =>
              obtain ⟨rfl, hK⟩ := hcut
              rename World => w8
              clear HK MK HQK hw8
              obtain ⟨c0, c1, c2, c3⟩ := (HE7.out.kp hK).1.cells
              have HK : Hid (Kp w7 w8) := hK
              clear hK
              have hw8 : IntKind.u8.wrap (k : Int) = (k : Int) := by rw [IntKind.wrap_u8']; omega
              cases hp : p k
              · have HCN : Hid (cnt p (k + 1) = cnt p k) := by show _ = _; rw [cnt_succ, hp]; rfl
                go_wp2_with fail
                refine (refhas_any p k _ hlt).mono ?_
                rintro e w9 ⟨rfl, k9⟩
                rw [hp]
                have HK9 : Hid (Kp w7 w9) := HK.out.trans k9
                clear k9
                go_wp2_with fail
                exact ⟨⟨k + 1, by omega, by go_num, by rw [HCN.out], HK9.out⟩, by simp [intOf]; omega⟩
              · have HCN : Hid (cnt p (k + 1) = cnt p k + 1) := by show _ = _; rw [cnt_succ, hp]; rfl
                have HNT : Hid (cnt p k < L ∧ (lst p 256).getD (cnt p k) 0 = k) := by
                  have := lst_nth p k 256 hlt hp
                  rw [HL.out] at this
                  exact this
                obtain ⟨rfl, hgb⟩ := HG.out (by have := HNT.out.1; omega)
                obtain ⟨ck, hck⟩ : ∃ c, cnt p k = c := ⟨_, rfl⟩
                go_wp2_with fail
                refine (refhas_any p k _ hlt).mono ?_
                rintro e w9 ⟨rfl, k9⟩
                rw [hp]
                have hcl : w9.cell? ⟨gb, ck, none⟩ = some (.int .u8 (k : Int)) := by
                  rw [(HK.out.trans k9).cell (p := ⟨gb, ck, none⟩) hgb, HBC.out ck (by rw [← hck]; exact HNT.out.1), ← hck, HNT.out.2]
                have hc1 : ck < L := by rw [← hck]; exact HNT.out.1
                have hc2 : (ck : Int) < (L : Int) := by omega
                have HK9 : Hid (Kp w7 w9) := HK.out.trans k9
                have HCK : Hid (cnt p k = ck) := hck
                clear k9 hck c0 c1 c2 c3
                go_wp2_with fail
                exact ⟨⟨k + 1, by omega, by go_num, by rw [HCN.out, HCK.out]; go_num, HK9.out⟩, by simp [intOf]; omega⟩
          · obtain rfl : k = 256 := by omega
            have HC256 : Hid (cnt p 256 = L) := by show _ = _; rw [← lst_length]; exact HL.out
            rw [HC256.out]
            obtain ⟨c0, c1, c2, c3⟩ := (HE7.out.kp hK).1.cells
            have HK : Hid (Kp w7 wr) := hK
            clear hK
            have EQ := eq_self (cOf s)
            by_cases h1 : L = 1
            · subst h1
              obtain ⟨rfl, hgb⟩ := HG.out (by omega)
              obtain ⟨x, hx⟩ : ∃ x, lst p 256 = [x] := List.length_eq_one_iff.1 HL.out
              have HX1 : Hid (lst p 256 = [x]) := hx
              clear hx
              go_wp2_with fail
              refine (only_yes p x HX1.out _).mono ?_
              rintro e w9 ⟨rfl, k9⟩
              have HK9 : Hid (Kp w7 w9) := HK.out.trans k9
              clear k9 c0 c1 c2 c3
              obtain ⟨c0, c1, c2, c3⟩ := (HE7.out.kp HK9.out).1.cells
              go_wp2_with fail
              refine (count_any p _).mono ?_
              rintro e w10 ⟨rfl, k10⟩
              rw [HC256.out]
              have HK10 : Hid (Kp w7 w10) := HK9.out.trans k10
              clear k10 c0 c1 c2 c3
              have hcl : w10.cell? ⟨gb, 0, none⟩ = some (.int .u8 (x : Int)) := by
                rw [HK10.out.cell (p := ⟨gb, 0, none⟩) hgb, HBC.out 0 (by omega), HX1.out]; rfl
              obtain ⟨d0, d1, d2, d3⟩ := (HE7.out.kp HK10.out).2.2.2.1.cells
              obtain ⟨e0, e1, e2, e3⟩ := (HE7.out.kp HK10.out).2.2.2.2.1.cells
              go_wp2_with fail
              have EV10 := HE7.out.kp HK10.out
              refine (intact_any xs h20 w0.heap.size g cp _ EV10.2.2.2.2.2.1 (Nat.lt_of_lt_of_le EV10.2.2.2.2.2.2.2.1.2.2.2.2.2.2.1 EV10.2.2.2.2.2.2.2.1.2.2.2.2.2.2.2.1) EV10.2.2.2.2.2.2.1).mono ?_
              rintro e w11 ⟨rfl, k11⟩
              have KF : Hid (Kp w w11) := EV10.2.2.2.2.2.2.2.2.trans k11
              clear EV10 k11
              go_wp2_with fail
              refine (runs_any _).mono ?_
              rintro e w12 ⟨rfl, k12⟩
              have KG : Hid (Kp w w12) := KF.out.trans k12
              clear k12
              go_wp2_with fail
              go_ret
              exact ⟨rfl, KG.out⟩
            · have HN1 : Hid (cnt p 256 ≠ 1) := by show _ ≠ _; rw [HC256.out]; exact h1
              have h1' : ((L : Int) == 1) = false := by simp; omega
              go_wp2_with fail
              refine (only_no p HN1.out _).mono ?_
              rintro e w9 ⟨rfl, k9⟩
              have HK9 : Hid (Kp w7 w9) := HK.out.trans k9
              clear k9 c0 c1 c2 c3
              obtain ⟨c0, c1, c2, c3⟩ := (HE7.out.kp HK9.out).1.cells
              go_wp2_with fail
              refine (count_any p _).mono ?_
              rintro e w10 ⟨rfl, k10⟩
              rw [HC256.out]
              have HK10 : Hid (Kp w7 w10) := HK9.out.trans k10
              clear k10 c0 c1 c2 c3
              obtain ⟨d0, d1, d2, d3⟩ := (HE7.out.kp HK10.out).2.2.2.1.cells
              obtain ⟨e0, e1, e2, e3⟩ := (HE7.out.kp HK10.out).2.2.2.2.1.cells
              go_wp2_with fail
              have EV10 := HE7.out.kp HK10.out
              refine (intact_any xs h20 w0.heap.size g cp _ EV10.2.2.2.2.2.1 (Nat.lt_of_lt_of_le EV10.2.2.2.2.2.2.2.1.2.2.2.2.2.2.1 EV10.2.2.2.2.2.2.2.1.2.2.2.2.2.2.2.1) EV10.2.2.2.2.2.2.1).mono ?_
              rintro e w11 ⟨rfl, k11⟩
              have KF : Hid (Kp w w11) := EV10.2.2.2.2.2.2.2.2.trans k11
              clear EV10 k11
              go_wp2_with fail
              refine (runs_any _).mono ?_
              rintro e w12 ⟨rfl, k12⟩
              have KG : Hid (Kp w w12) := KF.out.trans k12
              clear k12
              go_wp2_with fail
              go_ret
              exact ⟨rfl, KG.out⟩
end Go.Proofs.Ytfijmepkbflahaa
