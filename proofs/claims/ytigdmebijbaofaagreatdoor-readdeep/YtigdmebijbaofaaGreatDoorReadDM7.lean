/-
  Texts of this claim: Cm1, Cm2, Cm4.
-/
import Derived.Test.YtigdmebijbaofaaGreatDoorReadDM4
import Derived.Test.YtigdmebijbaofaaGreatDoorReadDM6
import Derived.Lib.ConvBytes
import Derived.Test.YtigdmebijbaofaaGreatDoorReadDM3
import Derived.Shelf.Small.Strs
import Derived.Shelf.Strings.BuilderF
import Derived.Lib.FrozenHead2
import Derived.Test.YtigdmebijbaofaaGreatDoorReadDM2
/-! ### Cm1 -/
namespace Go.Proofs.YtigdmebijbaofaaGreatDoor
set_option maxHeartbeats 2000000
set_option maxRecDepth 100000
open Go.RowKit
theorem labelByte_any (n : Nat) (w : World) : Calls Tryz.prog 74 #[.int .u8 (n : Int)] w fun e w' => e = .returned (.bool (lab1 n)) ∧ w' = w := by
 have E : Hid (lab1 n = lab1 n) := rfl
 go_enter Tryz.func74, Tryz.ntmps74
 unfold lab1
 by_cases h1 : 97 ≤ n
 ·
  have g1 : (97 : Int) ≤ (n : Int) := by omega
  by_cases h2 : n ≤ 122
  ·
   have g2 : (n : Int) ≤ 122 := by omega
   go_wp2
   go_ret
   exact ⟨by simp, rfl⟩
  ·
   have g2 : ¬ (n : Int) ≤ 122 := by omega
   have g3 : (65 : Int) ≤ (n : Int) := by omega
   have g4 : ¬ (n : Int) ≤ 90 := by omega
   have g5 : (48 : Int) ≤ (n : Int) := by omega
   have g6 : ¬ (n : Int) ≤ 57 := by omega
   have g7 : ((n : Int) == 95) = false := by simp; omega
   go_wp2
   go_ret
   exact ⟨by simp; omega, rfl⟩
 ·
  have g1 : ¬ (97 : Int) ≤ (n : Int) := by omega
  by_cases h2 : 65 ≤ n
  ·
   have g2 : (65 : Int) ≤ (n : Int) := by omega
   by_cases h3 : n ≤ 90
   ·
    have g3 : (n : Int) ≤ 90 := by omega
    go_wp2
    go_ret
    exact ⟨by simp, rfl⟩
   ·
    have g3 : ¬ (n : Int) ≤ 90 := by omega
    have g5 : (48 : Int) ≤ (n : Int) := by omega
    have g6 : ¬ (n : Int) ≤ 57 := by omega
    by_cases h4 : n = 95
    ·
     subst h4
     go_wp2
     go_ret
     exact ⟨by simp, rfl⟩
    ·
     have g7 : ((n : Int) == 95) = false := by simp; omega
     go_wp2
     go_ret
     exact ⟨by simp; omega, rfl⟩
  ·
   have g2 : ¬ (65 : Int) ≤ (n : Int) := by omega
   have g7 : ((n : Int) == 95) = false := by simp; omega
   by_cases h3 : 48 ≤ n
   ·
    have g3 : (48 : Int) ≤ (n : Int) := by omega
    by_cases h4 : n ≤ 57
    ·
     have g4 : (n : Int) ≤ 57 := by omega
     go_wp2
     go_ret
     exact ⟨by simp, rfl⟩
    ·
     have g4 : ¬ (n : Int) ≤ 57 := by omega
     go_wp2
     go_ret
     exact ⟨by simp; omega, rfl⟩
   ·
    have g3 : ¬ (48 : Int) ≤ (n : Int) := by omega
    go_wp2
    go_ret
    exact ⟨by simp; omega, rfl⟩
theorem kind_any (op : Nat) (w : World) : Calls Tryz.prog 95 #[.int .u8 (op : Int)] w fun e w' => e = .returned (.int .i64 ((kindN op : Nat) : Int)) ∧ w' = w := by
 go_enter Tryz.func95, Tryz.ntmps95
 by_cases h0 : op = 123
 ·
  subst h0
  go_wp2
  go_ret
  exact ⟨by simp [kindN], rfl⟩
 have g0 : ((op : Int) == 123) = false := by simp; omega
 by_cases h1 : op = 125
 ·
  subst h1
  go_wp2
  go_ret
  exact ⟨by simp [kindN], rfl⟩
 have g1 : ((op : Int) == 125) = false := by simp; omega
 by_cases h2 : op = 61
 ·
  subst h2
  go_wp2
  go_ret
  exact ⟨by simp [kindN], rfl⟩
 have g2 : ((op : Int) == 61) = false := by simp; omega
 by_cases h3 : op = 100
 ·
  subst h3
  go_wp2
  go_ret
  exact ⟨by simp [kindN], rfl⟩
 have g3 : ((op : Int) == 100) = false := by simp; omega
 by_cases h4 : op = 68
 ·
  subst h4
  go_wp2
  go_ret
  exact ⟨by simp [kindN], rfl⟩
 have g4 : ((op : Int) == 68) = false := by simp; omega
 by_cases h5 : op = 103
 ·
  subst h5
  go_wp2
  go_ret
  exact ⟨by simp [kindN], rfl⟩
 have g5 : ((op : Int) == 103) = false := by simp; omega
 by_cases h6 : op = 71
 ·
  subst h6
  go_wp2
  go_ret
  exact ⟨by simp [kindN], rfl⟩
 have g6 : ((op : Int) == 71) = false := by simp; omega
 by_cases h7 : op = 104
 ·
  subst h7
  go_wp2
  go_ret
  exact ⟨by simp [kindN], rfl⟩
 have g7 : ((op : Int) == 104) = false := by simp; omega
 by_cases h8 : op = 72
 ·
  subst h8
  go_wp2
  go_ret
  exact ⟨by simp [kindN], rfl⟩
 have g8 : ((op : Int) == 72) = false := by simp; omega
 by_cases h9 : op = 110
 ·
  subst h9
  go_wp2
  go_ret
  exact ⟨by simp [kindN], rfl⟩
 have g9 : ((op : Int) == 110) = false := by simp; omega
 by_cases h10 : op = 78
 ·
  subst h10
  go_wp2
  go_ret
  exact ⟨by simp [kindN], rfl⟩
 have g10 : ((op : Int) == 78) = false := by simp; omega
 by_cases h11 : op = 112
 ·
  subst h11
  go_wp2
  go_ret
  exact ⟨by simp [kindN], rfl⟩
 have g11 : ((op : Int) == 112) = false := by simp; omega
 by_cases h12 : op = 80
 ·
  subst h12
  go_wp2
  go_ret
  exact ⟨by simp [kindN], rfl⟩
 have g12 : ((op : Int) == 80) = false := by simp; omega
 by_cases h13 : op = 113
 ·
  subst h13
  go_wp2
  go_ret
  exact ⟨by simp [kindN], rfl⟩
 have g13 : ((op : Int) == 113) = false := by simp; omega
 by_cases h14 : op = 120
 ·
  subst h14
  go_wp2
  go_ret
  exact ⟨by simp [kindN], rfl⟩
 have g14 : ((op : Int) == 120) = false := by simp; omega
 by_cases h15 : op = 97
 ·
  subst h15
  go_wp2
  go_ret
  exact ⟨by simp [kindN], rfl⟩
 have g15 : ((op : Int) == 97) = false := by simp; omega
 by_cases h16 : op = 105
 ·
  subst h16
  go_wp2
  go_ret
  exact ⟨by simp [kindN], rfl⟩
 have g16 : ((op : Int) == 105) = false := by simp; omega
 by_cases h17 : op = 99
 ·
  subst h17
  go_wp2
  go_ret
  exact ⟨by simp [kindN], rfl⟩
 have g17 : ((op : Int) == 99) = false := by simp; omega
 by_cases h18 : op = 98
 ·
  subst h18
  go_wp2
  go_ret
  exact ⟨by simp [kindN], rfl⟩
 have g18 : ((op : Int) == 98) = false := by simp; omega
 by_cases h19 : op = 116
 ·
  subst h19
  go_wp2
  go_ret
  exact ⟨by simp [kindN], rfl⟩
 have g19 : ((op : Int) == 116) = false := by simp; omega
 by_cases h20 : op = 58
 ·
  subst h20
  go_wp2
  go_ret
  exact ⟨by simp [kindN], rfl⟩
 have g20 : ((op : Int) == 58) = false := by simp; omega
 by_cases h21 : op = 119
 ·
  subst h21
  go_wp2
  go_ret
  exact ⟨by simp [kindN], rfl⟩
 have g21 : ((op : Int) == 119) = false := by simp; omega
 by_cases h22 : op = 115
 ·
  subst h22
  go_wp2
  go_ret
  exact ⟨by simp [kindN], rfl⟩
 have g22 : ((op : Int) == 115) = false := by simp; omega
 by_cases h23 : op = 121
 ·
  subst h23
  go_wp2
  go_ret
  exact ⟨by simp [kindN], rfl⟩
 have g23 : ((op : Int) == 121) = false := by simp; omega
 go_wp2
 go_ret
 exact ⟨by simp [kindN, h0, h1, h2, h3, h4, h5, h6, h7, h8, h9, h10, h11, h12, h13, h14, h15, h16, h17, h18, h19, h20, h21, h22, h23], rfl⟩
theorem addrs_any (op : Nat) (w : World) : Calls Tryz.prog 101 #[.int .u8 (op : Int)] w fun e w' => e = .returned (.int .i64 ((addrsN op : Nat) : Int)) ∧ w' = w := by
 go_enter Tryz.func101, Tryz.ntmps101
 by_cases h0 : op = 125
 ·
  subst h0
  go_wp2
  go_ret
  exact ⟨by simp [addrsN], rfl⟩
 have g0 : ((op : Int) == 125) = false := by simp; omega
 by_cases h1 : op = 58
 ·
  subst h1
  go_wp2
  go_ret
  exact ⟨by simp [addrsN], rfl⟩
 have g1 : ((op : Int) == 58) = false := by simp; omega
 by_cases h2 : op = 113
 ·
  subst h2
  go_wp2
  go_ret
  exact ⟨by simp [addrsN], rfl⟩
 have g2 : ((op : Int) == 113) = false := by simp; omega
 by_cases h3 : op = 97
 ·
  subst h3
  go_wp2
  go_ret
  exact ⟨by simp [addrsN], rfl⟩
 have g3 : ((op : Int) == 97) = false := by simp; omega
 by_cases h4 : op = 105
 ·
  subst h4
  go_wp2
  go_ret
  exact ⟨by simp [addrsN], rfl⟩
 have g4 : ((op : Int) == 105) = false := by simp; omega
 by_cases h5 : op = 61
 ·
  subst h5
  go_wp2
  go_ret
  exact ⟨by simp [addrsN], rfl⟩
 have g5 : ((op : Int) == 61) = false := by simp; omega
 go_wp2
 go_ret
 exact ⟨by simp [addrsN, h0, h1, h2, h3, h4, h5], rfl⟩
theorem conv_str (w : World) (s : ByteArray) : ∃ C w', (convert 9 59 (.string s)).run Tryz.prog w = .ok (.slice (some ⟨w.heap.size, 0, none⟩) s.size C) w' ∧ s.size ≤ C ∧ Kp w w' ∧ w'.heap.size = w.heap.size + 1 ∧ ∀ j, j < s.size → w'.cell? ⟨w.heap.size, j, none⟩ = some (.int .u8 (ch s j : Nat)) := by
 refine ⟨_, _, Lib.run_convert_string_bytes w 9 59 5 s Tryz.underlying9 Tryz.underlying59 Tryz.underlying5, ?_, ?_, Lib.bytesWorld_size w 5 s, fun j hj => ?_⟩
 ·
  exact grownCap_ge w s.size 0 5
 ·
  exact ⟨rfl, rfl, rfl, by rw [Lib.bytesWorld_size]; omega, fun k hk => Lib.bytesWorld_at_old w 5 s k hk⟩
 ·
  rw [Lib.bytesWorld_cell w 5 s j hj]
  unfold ch
  simp [List.getD]
theorem ch_all (s : ByteArray) (f : Nat → Bool) : s.data.toList.all (fun b => f b.toNat) = true ↔ ∀ j, j < s.size → f (ch s j) = true := by
 rw [List.all_eq_true]
 constructor
 ·
  intro h j hj
  have hj' : j < s.data.size := hj
  have := h s.data[j] (by simp)
  unfold ch
  rw [Array.getElem?_eq_getElem hj']
  exact this
 ·
  intro h x hx
  obtain ⟨j, hj, rfl⟩ := List.getElem_of_mem hx
  have := h j (by simpa using hj)
  unfold ch at this
  rw [Array.getElem?_eq_getElem (by simpa using hj)] at this
  simpa using this
theorem labB_all (s : ByteArray) (h1 : 1 ≤ s.size) (h2 : s.size ≤ 8) (h : ∀ j, j < s.size → lab1 (ch s j) = true) : labB s = true := by
 unfold labB
 rw [(ch_all s lab1).2 h]
 simp [h1, h2]
theorem labB_not (s : ByteArray) (j : Nat) (hj : j < s.size) (h : lab1 (ch s j) = false) : labB s = false := by
 have : s.data.toList.all (fun b => lab1 b.toNat) = false := by
  rw [Bool.eq_false_iff]
  intro hc
  rw [(ch_all s lab1).1 hc j hj] at h
  exact absurd h (by simp)
 unfold labB
 rw [this]
 simp
theorem label_any (s : ByteArray) (w : World) (hs : s.size ≤ 1000000) : Calls Tryz.prog 29 #[.string s] w fun e w' => e = .returned (.bool (labB s)) ∧ Kp w w' := by
 obtain ⟨B, hB⟩ : ∃ B, labB s = B := ⟨_, rfl⟩
 rw [hB]
 have HB := hid hB
 clear hB
 have gs : (0 : Int) ≤ (s.size : Int) := by omega
 go_enter Tryz.func29, Tryz.ntmps29
 by_cases h1 : s.size < 1
 ·
  have g1 : (s.size : Int) < 1 := by omega
  have E : Hid (B = false) := by show _ = _; rw [← HB.out]; unfold labB; rw [show decide (1 ≤ s.size) = false from decide_eq_false (by omega)]; rfl
  go_wp2
  go_ret
  exact ⟨by rw [E.out]; rfl, Kp.refl _⟩
 have g1 : ¬ (s.size : Int) < 1 := by omega
 by_cases h2 : 8 < s.size
 ·
  have g2 : (s.size : Int) > 8 := by omega
  have E : Hid (B = false) := by show _ = _; rw [← HB.out]; unfold labB; rw [show decide (s.size ≤ 8) = false from decide_eq_false (by omega), Bool.and_false]; rfl
  go_wp2
  go_ret
  exact ⟨by rw [E.out]; rfl, Kp.refl _⟩
 have g2 : ¬ (s.size : Int) > 8 := by omega
 obtain ⟨C, W0, kc, hC, k0, -, hb⟩ := conv_str w s
 have HC := hid hb
 have K0 := hid k0
 clear hb k0
 go_wp2_with fail
 go_loopg [16] s.size (fun gg v wr => ∃ q : Nat, q + gg = s.size ∧ v = .int .i64 (q : Int) ∧ (∀ j, j < q → lab1 (ch s j) = true) ∧ wr = W0)
 case atStart => exact ⟨0, by omega, rfl, fun j hj => absurd hj (by omega), rfl⟩
 case round =>
  obtain ⟨q, hq, rfl, hl, rfl⟩ := hrel
  have HL := hid hl
  clear hl kc
  by_cases hlt : q < s.size
  ·
   have gkw : IntKind.i64.wrap ((q : Int) + 1) = (q : Int) + 1 := by rw [IntKind.wrap_i64]; omega
   have ga : (q : Int) < (s.size : Int) := by omega
   have g0 : (0 : Int) ≤ (q : Int) := by omega
   have cb := HC.out q hlt
   obtain ⟨n, hn⟩ : ∃ n : Nat, ch s q = n := ⟨_, rfl⟩
   rw [hn] at cb
   have HN := hid hn
   clear hn
   go_wp2_with fail
   refine (labelByte_any n _).mono ?_
   rintro e w' ⟨rfl, rfl⟩
   cases hl1 : lab1 n
   ·
    have E : Hid (B = false) := by show _ = _; rw [← HB.out]; exact labB_not s q hlt (by rw [HN.out]; exact hl1)
    go_wp2_with fail
    go_ret
    exact ⟨by rw [E.out]; rfl, K0.out⟩
   ·
    have HL1 := hid hl1
    clear hl1
    go_wp2_with fail
    go_roundg (gk - 1)
    case measure => omega
    case rel => exact ⟨q + 1, by omega, by go_num, fun j hj => by
      by_cases hj2 : j = q
      ·
       rw [hj2, HN.out]; exact HL1.out
      ·
       exact HL.out j (by omega), rfl⟩
  ·
   have ga : ¬ (q : Int) < (s.size : Int) := by omega
   have E : Hid (B = true) := by show _ = _; rw [← HB.out]; exact labB_all s (by omega) (by omega) (fun j hj => HL.out j (by omega))
   go_wp2_with fail
   go_ret
   exact ⟨by rw [E.out]; rfl, K0.out⟩
theorem size0 (s : ByteArray) (h : s.size = 0) : s = ⟨#[]⟩ := by
 cases s with
 | mk d => congr; exact Array.eq_empty_of_size_eq_zero h
theorem ne0 (s : ByteArray) (h : s.size ≠ 0) : s.toList.isEmpty = false := by rw [str_nil]; exact decide_eq_false h
theorem labelOrNone_any (s : ByteArray) (w : World) (hs : s.size ≤ 1000000) : Calls Tryz.prog 102 #[.string s] w fun e w' => e = .returned (.bool (labO s)) ∧ Kp w w' := by
 by_cases h : s.size = 0
 ·
  obtain rfl := size0 s h
  go_enter Tryz.func102, Tryz.ntmps102
  go_wp2
  go_ret
  exact ⟨rfl, Kp.refl _⟩
 ·
  obtain ⟨B, hB⟩ : ∃ B, labB s = B := ⟨_, rfl⟩
  have E : Hid (labO s = B) := by show _ = _; unfold labO; rw [show decide (s.size = 0) = false from by simp [h], hB]; rfl
  have LA : Hid (∀ w, Calls Tryz.prog 29 #[.string s] w fun e w' => e = .returned (.bool B) ∧ Kp w w') := fun w => by rw [← hB]; exact label_any s w hs
  have ne := ne0 s h
  rw [E.out]
  clear hB E
  go_enter Tryz.func102, Tryz.ntmps102
  go_wp2_with fail
  refine (LA.out _).mono ?_
  rintro e w1 ⟨rfl, k1⟩
  have K1 := hid k1
  clear k1
  go_wp2_with fail
  go_ret
  exact ⟨rfl, K1.out⟩
theorem tspecial_any (n : Nat) (w : World) : Calls Tryz.prog 210 #[.int .u8 (n : Int)] w fun e w' => e = .returned (.bool (decide (n = 38) || decide (n = 47) || decide (n = 92))) ∧ w' = w := by
 go_enter Tryz.func210, Tryz.ntmps210
 by_cases h1 : n = 38
 ·
  subst h1
  go_wp2
  go_ret
  exact ⟨by simp, rfl⟩
 have g1 : ((n : Int) == 38) = false := by simp; omega
 by_cases h2 : n = 47
 ·
  subst h2
  go_wp2
  go_ret
  exact ⟨by simp, rfl⟩
 have g2 : ((n : Int) == 47) = false := by simp; omega
 by_cases h3 : n = 92
 ·
  subst h3
  go_wp2
  go_ret
  exact ⟨by simp, rfl⟩
 have g3 : ((n : Int) == 92) = false := by simp; omega
 go_wp2
 go_ret
 exact ⟨by simp [h1, h2, h3], rfl⟩
theorem pieceRight_any (p : Pc) (G : Int) (w : World) : Calls Tryz.prog 177 #[.agg #[.int .i64 p.g, .string p.s], .int .i64 G] w fun e w' => e = .returned (.bool (pcR p G)) ∧ Kp w w' := by
 obtain ⟨g, s⟩ := p
 obtain ⟨B, hB⟩ : ∃ B, pcR ⟨g, s⟩ G = B := ⟨_, rfl⟩
 rw [hB]
 have HB : Hid (pcR ⟨g, s⟩ G = B) := hB
 clear hB
 show Calls Tryz.prog 177 #[.agg #[.int .i64 g, .string s], .int .i64 G] w fun e w' => e = .returned (.bool B) ∧ Kp w w'
 go_enter Tryz.func177, Tryz.ntmps177
 by_cases h : g = -1
 ·
  subst h
  by_cases h1 : 1 ≤ s.size
  ·
   have g1 : (1 : Int) ≤ (s.size : Int) := by omega
   by_cases h2 : s.size ≤ 400
   ·
    have g2 : (s.size : Int) ≤ 400 := by omega
    have E : Hid (B = true) := by show _ = _; rw [← HB.out]; unfold pcR; simp; omega
    go_wp2_with fail
    go_ret
    exact ⟨by rw [E.out]; rfl, (Kp.refl _).alloc _⟩
   ·
    have g2 : ¬ (s.size : Int) ≤ 400 := by omega
    have E : Hid (B = false) := by show _ = _; rw [← HB.out]; unfold pcR; simp; omega
    go_wp2_with fail
    go_ret
    exact ⟨by rw [E.out]; rfl, (Kp.refl _).alloc _⟩
  ·
   have g1 : ¬ (1 : Int) ≤ (s.size : Int) := by omega
   have E : Hid (B = false) := by show _ = _; rw [← HB.out]; unfold pcR; simp; omega
   go_wp2_with fail
   go_ret
   exact ⟨by rw [E.out]; rfl, (Kp.refl _).alloc _⟩
 ·
  have gn : (g == -1) = false := by simp [h]
  by_cases h1 : 0 ≤ g
  ·
   by_cases h2 : g ≤ G
   ·
    by_cases h3 : s.size = 0
    ·
     obtain rfl := size0 s h3
     have E : Hid (B = true) := by show _ = _; rw [← HB.out]; unfold pcR; rw [if_neg h]; simp [h1, h2]; rfl
     go_wp2_with fail
     go_ret
     exact ⟨by rw [E.out]; rfl, (Kp.refl _).alloc _⟩
    ·
     have ne := ne0 s h3
     have E : Hid (B = false) := by show _ = _; rw [← HB.out]; unfold pcR; rw [if_neg h]; rw [decide_eq_false (p := s.size = 0) h3, Bool.and_false]
     go_wp2_with fail
     go_ret
     exact ⟨by rw [E.out]; rfl, (Kp.refl _).alloc _⟩
   ·
    have E : Hid (B = false) := by show _ = _; rw [← HB.out]; unfold pcR; rw [if_neg h]; rw [decide_eq_false (p := g ≤ G) h2, Bool.and_false, Bool.false_and]
    go_wp2_with fail
    go_ret
    exact ⟨by rw [E.out]; rfl, (Kp.refl _).alloc _⟩
  ·
   have E : Hid (B = false) := by show _ = _; rw [← HB.out]; unfold pcR; rw [if_neg h]; rw [decide_eq_false (p := 0 ≤ g) h1, Bool.false_and, Bool.false_and]
   go_wp2_with fail
   go_ret
   exact ⟨by rw [E.out]; rfl, (Kp.refl _).alloc _⟩
open Go.Shelf in
def Tryz.lays137_ren : Go.Shelf.Ren := ⟨fun | 137 => 141 | 217 => 178 | 266 => 211 | n => n, fun | 3 => 3 | 5 => 5 | 9 => 9 | n => n, fun | n => n⟩
theorem Tryz.lays137 : Go.Proofs.Lays.n137 Tryz.prog Tryz.lays137_ren := {
 mixed := by kernel_rfl
 f137 := Tryz.func141.trans (congrArg some (by kernel_rfl))
 f217 := Tryz.func178.trans (congrArg some (by kernel_rfl))
 f266 := Tryz.func211.trans (congrArg some (by kernel_rfl))
 t3 := Tryz.underlying3
 a3 := Tryz.isAgg3
 z3 := Tryz.sizeOf3
 v3 := Tryz.zeroValue3
 t5 := Tryz.underlying5
 a5 := Tryz.isAgg5
 z5 := Tryz.sizeOf5
 v5 := Tryz.zeroValue5
 t9 := Tryz.underlying9
 a9 := Tryz.isAgg9
 z9 := Tryz.sizeOf9
 v9 := Tryz.zeroValue9 }
theorem indexByte_any (s : ByteArray) (c : Int) (w : World) : Calls Tryz.prog 141 #[.string s, .int .u8 c] w fun e w' => e = .returned (.int .i64 (Lib.indexByte s.data.toList c.toNat.toUInt8)) ∧ w' = w := Any.strings_IndexByte Tryz.lays137 s c w
structure Bd (R b : Nat) (l : List Value) (w : World) : Prop where
 ex : ∃ p v, (p = .pointer none ∨ p = .pointer (some ⟨b, 0, none⟩)) ∧ w.heap[b]? = some (.cells #[p, v] 128 (0, 0)) ∧ w.ownsRowF R 5 1 v l.length l ∧ v.ownBlock ≠ some b
structure Kb (R b : Nat) (w w' : World) : Prop where
 os : w'.os = w.os
 tape : w'.tape = w.tape
 output : w'.output = w.output
 size : w.heap.size ≤ w'.heap.size
 block : ∀ k, k < R → k ≠ b → w'.heap[k]? = w.heap[k]?
theorem Kb.refl (R b : Nat) (w : World) : Kb R b w w := ⟨rfl, rfl, rfl, Nat.le_refl _, fun _ _ _ => rfl⟩
theorem Kb.trans {R b : Nat} {w w' w'' : World} (h : Kb R b w w') (k : Kb R b w' w'') : Kb R b w w'' :=
 ⟨k.os.trans h.os, k.tape.trans h.tape, k.output.trans h.output, Nat.le_trans h.size k.size, fun j hj hn => (k.block j hj hn).trans (h.block j hj hn)⟩
theorem Kb.below {R b : Nat} {w w' : World} (h : Kb R b w w') (B : Nat) (h1 : B ≤ R) (h2 : B ≤ b) : Below B w w' := ⟨h.os, h.tape, h.output, h.size, fun k hk => h.block k (by omega) (by omega)⟩
theorem Kp.kb {R b : Nat} {w w' : World} (h : Kp w w') (hR : R ≤ w.heap.size) : Kb R b w w' := ⟨h.os, h.tape, h.output, h.size, fun k hk _ => h.block k (by omega)⟩
theorem Bd.kp {R b : Nat} {l : List Value} {w w' : World} (h : Bd R b l w) (k : Kp w w') : Bd R b l w' := by
 obtain ⟨p, v, h1, h2, h3, h4⟩ := h.ex
 exact ⟨p, v, h1, (k.block b (Array.getElem?_eq_some_iff.1 h2).1).trans h2, h3.kept (row := none) ⟨k.os, k.tape, k.output, k.size, fun j hj _ => k.block j hj⟩ (by cases hv : v.ownBlock <;> simp), h4⟩
theorem Bd.new (w : World) (R : Nat) (C : Array Value) (hC : w.heap[R]? = some (.cells C 128 (0, 0))) (e : C = #[.pointer none, .slice none 0 0]) (S : Nat) : Bd S R [] w := by
 subst e
 exact ⟨_, _, .inl rfl, hC, ⟨rfl, .inl ⟨rfl, rfl⟩⟩, by simp [Value.ownBlock]⟩
theorem Bd.is {R b : Nat} {l : List Value} {w : World} (h : Bd R b l w) (B : Nat) (h1 : B ≤ R) (h2 : B ≤ b) : Lib.IsBuilderF 128 5 B b l w := by
 obtain ⟨p, v, hp, hb, hv, hn⟩ := h.ex
 have hv' : w.ownsRowF B 5 1 v l.length l := by
  refine ⟨hv.1, ?_⟩
  rcases hv.2 with h0 | ⟨g, cap, cur, fz, e, hg, rest⟩
  ·
   exact .inl h0
  ·
   exact .inr ⟨g, cap, cur, fz, e, Nat.le_trans h1 hg, rest⟩
 rcases hp with rfl | rfl
 ·
  exact .inl ⟨h2, v, hb, hv', hn⟩
 ·
  exact .inr ⟨h2, v, hb, hv', hn⟩
theorem owns_ne {w : World} {R : Nat} {v : Value} {n : Nat} {xs : List Value} {b : Nat} {cs : Array Value} {fr : Nat × Nat} (hown : w.ownsRowF R 5 1 v n xs) (hb : w.heap[b]? = some (.cells cs 128 fr)) : v.ownBlock ≠ some b :=
 Lib.ownBlock_neF hown hb (by decide)
theorem copyCheck_any (R b : Nat) (l : List Value) (w : World) (h : Bd R b l w) :
  Calls Tryz.prog 123 #[.pointer (some ⟨b, 0, none⟩)] w fun e w' => e = .returned (.tuple #[]) ∧ (∃ v, w'.heap[b]? = some (.cells #[.pointer (some ⟨b, 0, none⟩), v] 128 (0, 0)) ∧ w'.ownsRowF R 5 1 v l.length l ∧ v.ownBlock ≠ some b) ∧ Kb R b w w' := by
 obtain ⟨p, v, hp, hb, hv, hn⟩ := h.ex
 rcases hp with rfl | rfl
 ·
  refine (Any.Builder_copyCheck_fresh { Tryz.lays156 with } Tryz.Builder_Extra_156.toX72 b w (by rw [Lib.cell_of_heap hb]; rfl) (by simp [World.shape?, hb]; rfl) (Lib.frozen_of_heap hb 0)).mono ?_
  rintro e w' ⟨rfl, rfl⟩
  refine ⟨rfl, ⟨v, by simp [World.setCell, Array.getElem?_modify, hb], hv.kept (row := some b) ⟨rfl, rfl, rfl, by simp [World.setCell], fun k _ hk => Below.heap_setCell _ _ _ _ (fun e => hk (by simp [e]))⟩ (Or.inr hn), hn⟩, ⟨rfl, rfl, rfl, by simp [World.setCell], fun k _ hk => Below.heap_setCell _ _ _ _ hk⟩⟩
 ·
  refine (Any.Builder_copyCheck_used { Tryz.lays156 with } Tryz.Builder_Extra_156.toX72 b w (by rw [Lib.cell_of_heap hb]; rfl)).mono ?_
  rintro e w' ⟨rfl, rfl⟩
  exact ⟨rfl, ⟨v, hb, hv, hn⟩, Kb.refl _ _ _⟩
theorem writeByte_any (R b : Nat) (l : List Value) (c : Int) (w : World) (h : Bd R b l w) (hlen : l.length + 1 ≤ 1000000000) (hR : R ≤ w.heap.size) (hbR : b < R) :
  Calls Tryz.prog 85 #[.pointer (some ⟨b, 0, none⟩), .int .u8 c] w fun e w' => e = .returned .nilIface ∧ Bd R b (l ++ [.int .u8 c]) w' ∧ Kb R b w w' := by
 obtain ⟨i0, hi, hz0, hz1, hz2⟩ := info5
 go_enter Tryz.func85, Tryz.ntmps85
 go_wp2_with fail
 refine (copyCheck_any R b l _ h).mono ?_
 rintro e w1 ⟨rfl, ⟨v, hbk, hown, hne⟩, hk⟩
 have HK := hid hk
 have hsz := hk.size
 clear hk
 have c0 : w1.cell? ⟨b, 0, none⟩ = some (.pointer (some ⟨b, 0, none⟩)) := by rw [Lib.cell_of_heap hbk]; rfl
 have c1 : w1.cell? ⟨b, 1, none⟩ = some v := by rw [Lib.cell_of_heap hbk]; rfl
 go_wp2_with (at_builtin; refine wpList_append_ownF _ rfl _ _ 59 rfl R 5 i0 (.int .u8 0) 1 1 Tryz.underlying59 hi hz0 hz1 hz2 rfl (by decide) _ _ _ rfl (hown.alloc _) ⟨w1.heap.size, 0, none⟩ 1 1 [.int .u8 c] rfl rfl ?c1 ?c2 ?c3 ?c4 ?c5 ?_)
 case c1 =>
  intro j u hj
  match j, hj with
  | 0, hj => simp at hj; subst hj; simp [Addr.add]
 case c2 => intro u hu; simp at hu; subst hu; rfl
 case c3 => unfold maxLen; omega
 case c4 => omega
 case c5 => simp; omega
 intro v' w2 hown' hgrow _
 have hlt : b < w1.heap.size := by omega
 have hb2 : w2.heap[b]? = some (.cells #[.pointer (some ⟨b, 0, none⟩), v] 128 (0, 0)) := by
  rw [hgrow.block b (by simp; omega) (fun e => hne e.symm), Lib.alloc_old w1 _ b hlt]
  exact hbk
 have hs2 := hgrow.size
 simp at hs2
 have kb2 : Kb R b w1 w2 := ⟨hgrow.os.trans rfl, hgrow.tape.trans rfl, hgrow.output.trans rfl, by omega, fun k hk hkb => by
  rw [hgrow.block k (by simp; omega) (fun e => by have := (hown.lt k e.symm).1; omega), Lib.alloc_old w1 _ k (by omega)]⟩
 have KB2 := hid kb2
 have HO := hid hown'
 have HB2 := hid hb2
 have d0 : w2.cell? ⟨b, 0, none⟩ = some (.pointer (some ⟨b, 0, none⟩)) := by rw [Lib.cell_of_heap hb2]; rfl
 have d1 : w2.cell? ⟨b, 1, none⟩ = some v := by rw [Lib.cell_of_heap hb2]; rfl
 have f1 : w2.frozen? ⟨b, 1, none⟩ = false := Lib.frozen_of_heap hb2 1
 obtain ⟨g, cap, rfl⟩ : ∃ g cap, v' = .slice (some ⟨g, 0, none⟩) (l.length + 1) cap := by
  rcases hown'.2 with ⟨_, h0⟩ | ⟨g, cap, cur, fz, hv, _⟩
  ·
   omega
  ·
   exact ⟨g, cap, hv⟩
 clear kb2 hown' hgrow hs2
 go_wp2
 go_ret
 have hnb : (Value.slice (some ⟨g, 0, none⟩) (l.length + 1) cap).ownBlock ≠ some b := owns_ne HO.out HB2.out
 refine ⟨rfl, ⟨_, _, .inr rfl, by simp [World.setCell, Array.getElem?_modify, HB2.out], ?_, hnb⟩, HK.out.trans (KB2.out.trans ⟨rfl, rfl, rfl, by simp [World.setCell], fun k _ hk => Below.heap_setCell _ _ _ _ hk⟩)⟩
 have := HO.out.kept (row := some b) (w' := w2.setCell ⟨b, 1, none⟩ (.slice (some ⟨g, 0, none⟩) (l.length + 1) cap)) ⟨rfl, rfl, rfl, by simp [World.setCell], fun k _ hk => Below.heap_setCell _ _ _ _ (fun e => hk (by simp [e]))⟩ (Or.inr hnb)
 simpa using this
theorem writeString_any (R b : Nat) (l : List Value) (s : ByteArray) (w : World) (h : Bd R b l w) (hlen : l.length + s.size ≤ 1000000000) (hR : R ≤ w.heap.size) (hbR : b < R) :
  Calls Tryz.prog 84 #[.pointer (some ⟨b, 0, none⟩), .string s] w fun e w' => e = .returned (.tuple #[.int .i64 s.size, .nilIface]) ∧ Bd R b (l ++ Lib.strCells s) w' ∧ Kb R b w w' := by
 obtain ⟨i0, hi, hz0, hz1, hz2⟩ := info5
 go_enter Tryz.func84, Tryz.ntmps84
 go_wp2_with fail
 refine (copyCheck_any R b l _ h).mono ?_
 rintro e w1 ⟨rfl, ⟨v, hbk, hown, hne⟩, hk⟩
 have HK := hid hk
 have hsz := hk.size
 clear hk
 have c0 : w1.cell? ⟨b, 0, none⟩ = some (.pointer (some ⟨b, 0, none⟩)) := by rw [Lib.cell_of_heap hbk]; rfl
 have c1 : w1.cell? ⟨b, 1, none⟩ = some v := by rw [Lib.cell_of_heap hbk]; rfl
 go_wp2_with (at_builtin; refine Lib.wpList_append_own_stringF _ rfl _ _ 59 9 rfl R 5 i0 Tryz.underlying59 Tryz.underlying9 hi hz0 hz1 hz2 _ _ _ rfl hown s rfl ?c3 ?c4 ?c5 ?_)
 case c3 => unfold maxLen; omega
 case c4 => omega
 case c5 => omega
 intro v' w2 hown' hgrow _
 have hlt : b < w1.heap.size := by omega
 have hb2 : w2.heap[b]? = some (.cells #[.pointer (some ⟨b, 0, none⟩), v] 128 (0, 0)) := by
  rw [hgrow.block b hlt (fun e => hne e.symm)]
  exact hbk
 have hs2 := hgrow.size
 have kb2 : Kb R b w1 w2 := ⟨hgrow.os, hgrow.tape, hgrow.output, hs2, fun k hk hkb => hgrow.block k (by omega) (fun e => by have := (hown.lt k e.symm).1; omega)⟩
 have KB2 := hid kb2
 have HO := hid hown'
 have HB2 := hid hb2
 have d0 : w2.cell? ⟨b, 0, none⟩ = some (.pointer (some ⟨b, 0, none⟩)) := by rw [Lib.cell_of_heap hb2]; rfl
 have d1 : w2.cell? ⟨b, 1, none⟩ = some v := by rw [Lib.cell_of_heap hb2]; rfl
 have f1 : w2.frozen? ⟨b, 1, none⟩ = false := Lib.frozen_of_heap hb2 1
 obtain ⟨ao, n', cap, rfl⟩ : ∃ ao n' cap, v' = .slice ao n' cap := by
  rcases hown'.2 with ⟨hv, _⟩ | ⟨g, cap, cur, fz, hv, _⟩
  ·
   exact ⟨_, _, _, hv⟩
  ·
   exact ⟨_, _, _, hv⟩
 clear kb2 hown' hgrow hs2
 go_wp2
 go_ret2
 have hnb : (Value.slice ao n' cap).ownBlock ≠ some b := owns_ne HO.out HB2.out
 refine ⟨rfl, ⟨_, _, .inr rfl, by simp [World.setCell, Array.getElem?_modify, HB2.out], ?_, hnb⟩, HK.out.trans (KB2.out.trans ⟨rfl, rfl, rfl, by simp [World.setCell], fun k _ hk => Below.heap_setCell _ _ _ _ hk⟩)⟩
 have := HO.out.kept (row := some b) (w' := w2.setCell ⟨b, 1, none⟩ (.slice ao n' cap)) ⟨rfl, rfl, rfl, by simp [World.setCell], fun k _ hk => Below.heap_setCell _ _ _ _ (fun e => hk (by simp [e]))⟩ (Or.inr hnb)
 simpa [Lib.strCells_length] using this
theorem builderString_any (R b : Nat) (l : List UInt8) (w : World) (B : Nat) (h : Bd R b (Lib.byteCells l) w) (h1 : B ≤ R) (h2 : B ≤ b) (hB : B ≤ w.heap.size) :
  Calls Tryz.prog 86 #[.pointer (some ⟨b, 0, none⟩)] w fun e w' => e = .returned (.string (bs l)) ∧ Below B w w' := by
 refine (Any.Builder_String_any_f { Tryz.lays156 with } Tryz.Builder_Extra_156 B b l w (h.is B h1 h2) hB).mono ?_
 rintro e w' ⟨rfl, h⟩
 exact ⟨rfl, h.2⟩
end Go.Proofs.YtigdmebijbaofaaGreatDoor
