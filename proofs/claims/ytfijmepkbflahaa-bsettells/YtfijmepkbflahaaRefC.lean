/-
  What the reference's class tells of a name and a byte.
-/
import Derived.Test.YtfijmepkbflahaaNamed
import Derived.Deep.DeepCutAuto
namespace Go.Proofs.Ytfijmepkbflahaa
open Go.RowKit Go.Maps

/-- The class of that name; none, if there is none. -/
def cOf (s : ByteArray) : Nat → Bool := fun b => (List.range 12).any fun j => (nm j).data.toList == s.data.toList && cq j b

theorem cOf_nth (j : Nat) (hj : j < 12) (b : Nat) : cOf (nm j) b = cq j b := by
  unfold cOf
  cases h : cq j b
  · rw [List.any_eq_false]
    intro i hi
    rw [List.mem_range] at hi
    by_cases he : (nm i).data.toList = (nm j).data.toList
    · rw [nm_inj j hj i hi he, h]; simp
    · rw [beq_eq_false_iff_ne.2 he]; simp
  · rw [List.any_eq_true]
    exact ⟨j, by simpa using hj, by simp [h]⟩

theorem cOf_other (s : ByteArray) (h : isN s = false) (b : Nat) : cOf s b = false := by
  unfold cOf
  rw [List.any_eq_false]
  intro i hi
  rw [List.mem_range] at hi
  have : ¬ (nm i).data.toList = s.data.toList := by
    intro he
    have : isN s = true := by unfold isN; rw [isNk_iff]; exact ⟨i, hi, he⟩
    rw [h] at this; cases this
  rw [beq_eq_false_iff_ne.2 this]; simp

theorem rng_int (a c b : Nat) : rng a c b = (decide ((a : Int) ≤ (b : Int)) && decide ((b : Int) ≤ (c : Int))) := by
  unfold rng
  simp

theorem vb {a c : Bool} (h : a = c) : Value.bool a = .bool c := by rw [h]

theorem iff_alpha (b : Nat) : cq 0 b = true ↔ ((65 ≤ (b : Int) ∧ (b : Int) ≤ 90) ∨ (97 ≤ (b : Int) ∧ (b : Int) ≤ 122)) := by
  show cAlpha b = true ↔ _
  simp [cAlpha, orB, rng]
  try omega

theorem iff_digit (b : Nat) : cq 1 b = true ↔ (48 ≤ (b : Int) ∧ (b : Int) ≤ 57) := by
  show cDigit b = true ↔ _
  simp [cDigit, rng]
  try omega

theorem iff_alnum (b : Nat) : cq 2 b = true ↔ (((65 ≤ (b : Int) ∧ (b : Int) ≤ 90) ∨ (97 ≤ (b : Int) ∧ (b : Int) ≤ 122)) ∨ (48 ≤ (b : Int) ∧ (b : Int) ≤ 57)) := by
  show cAlnum b = true ↔ _
  simp [cAlnum, cAlpha, cDigit, orB, rng]
  try omega

theorem iff_upper (b : Nat) : cq 3 b = true ↔ (65 ≤ (b : Int) ∧ (b : Int) ≤ 90) := by
  show cUpper b = true ↔ _
  simp [cUpper, rng]
  try omega

theorem iff_lower (b : Nat) : cq 4 b = true ↔ (97 ≤ (b : Int) ∧ (b : Int) ≤ 122) := by
  show cLower b = true ↔ _
  simp [cLower, rng]
  try omega

theorem iff_space (b : Nat) : cq 5 b = true ↔ ((b : Int) = 32 ∨ (9 ≤ (b : Int) ∧ (b : Int) ≤ 13)) := by
  show cSpace b = true ↔ _
  simp [cSpace, orB, addB, rng]
  try omega

theorem iff_blank (b : Nat) : cq 6 b = true ↔ ((b : Int) = 32 ∨ (b : Int) = 9) := by
  show cBlank b = true ↔ _
  simp [cBlank, addB]
  try omega

theorem iff_punct (b : Nat) : cq 7 b = true ↔ ((33 ≤ (b : Int) ∧ (b : Int) ≤ 126) ∧ ¬ (((65 ≤ (b : Int) ∧ (b : Int) ≤ 90) ∨ (97 ≤ (b : Int) ∧ (b : Int) ≤ 122)) ∨ (48 ≤ (b : Int) ∧ (b : Int) ≤ 57))) := by
  show cPunct b = true ↔ _
  simp [cPunct, less, cGraph, cAlnum, cAlpha, cDigit, orB, notB, rng]
  try omega

theorem iff_print (b : Nat) : cq 8 b = true ↔ ((b : Int) = 32 ∨ (33 ≤ (b : Int) ∧ (b : Int) ≤ 126)) := by
  show cPrint b = true ↔ _
  simp [cPrint, cGraph, orB, addB, rng]
  try omega

theorem iff_graph (b : Nat) : cq 9 b = true ↔ (33 ≤ (b : Int) ∧ (b : Int) ≤ 126) := by
  show cGraph b = true ↔ _
  simp [cGraph, rng]
  try omega

theorem iff_cntrl (b : Nat) : cq 10 b = true ↔ ((b : Int) ≤ 31 ∨ (b : Int) = 127) := by
  show cCntrl b = true ↔ _
  simp [cCntrl, orB, addB, rng]
  try omega

theorem iff_xdigit (b : Nat) : cq 11 b = true ↔ ((48 ≤ (b : Int) ∧ (b : Int) ≤ 57) ∨ (65 ≤ (b : Int) ∧ (b : Int) ≤ 70) ∨ (97 ≤ (b : Int) ∧ (b : Int) ≤ 102)) := by
  show cXdigit b = true ↔ _
  simp [cXdigit, cDigit, orB, rng]
  try omega

set_option maxRecDepth 100000 in
set_option maxHeartbeats 8000000 in
theorem refc (s : ByteArray) (b : Nat) (hb : b < 256) (w : World) :
    Calls Try.prog 28 #[.string s, .int .u8 (b : Nat)] w fun e w' => e = .returned (.bool (cOf s b)) ∧ w' = w := by
  have R1 : Hid (rng 65 90 b = (decide ((65 : Int) ≤ (b : Int)) && decide ((b : Int) ≤ 90))) := rng_int 65 90 b
  have R2 : Hid (rng 97 122 b = (decide ((97 : Int) ≤ (b : Int)) && decide ((b : Int) ≤ 122))) := rng_int 97 122 b
  have R3 : Hid (rng 48 57 b = (decide ((48 : Int) ≤ (b : Int)) && decide ((b : Int) ≤ 57))) := rng_int 48 57 b
  have R4 : Hid (rng 33 126 b = (decide ((33 : Int) ≤ (b : Int)) && decide ((b : Int) ≤ 126))) := rng_int 33 126 b
  go_enter Try.func28, Try.ntmps28
  go_upto_region 1 with fail
  go_cut [5, 6, 7] (fun u l d wc => u = .bool (rng 65 90 b) ∧ l = .bool (rng 97 122 b) ∧ d = .bool (rng 48 57 b) ∧ w = wc)
  case first =>
    go_wp2_with fail
    all_goals
      go_meet
      case rel =>
        refine ⟨vb ?_, vb ?_, vb ?_, rfl⟩ <;> (first | rw [R1.out] | rw [R2.out] | rw [R3.out]) <;> (rw [Bool.eq_iff_iff]; simp; omega)
  case rest =>
    obtain ⟨rfl, rfl, rfl, rfl⟩ := hcut
    go_upto_region 2 with fail
    go_cut [8] (fun g wc => g = .bool (rng 33 126 b) ∧ w = wc)
    case first =>
      go_wp2_with fail
      all_goals
        go_meet
        case rel =>
          refine ⟨vb ?_, rfl⟩ <;> (rw [R4.out, Bool.eq_iff_iff]; simp; omega)
    case rest =>
      obtain ⟨rfl, rfl⟩ := hcut
      obtain ⟨u, hu⟩ : ∃ u, rng 65 90 b = u := ⟨_, rfl⟩
      obtain ⟨l, hl⟩ : ∃ u, rng 97 122 b = u := ⟨_, rfl⟩
      obtain ⟨d, hd⟩ : ∃ u, rng 48 57 b = u := ⟨_, rfl⟩
      obtain ⟨g, hg⟩ : ∃ u, rng 33 126 b = u := ⟨_, rfl⟩
      rw [hu, hl, hd, hg]
      rw [R1.out] at hu
      rw [R2.out] at hl
      rw [R3.out] at hd
      rw [R4.out] at hg
      clear R1 R2 R3 R4
      cases hn : isN s
      · have hno : ¬ named s := fun h => by rw [(isN_iff s).2 h] at hn; cases hn
        have HN : Hid (cOf s b = false) := cOf_other s hn b
        unfold named at hno
        simp only [not_or] at hno
        obtain ⟨h0, h1, h2, h3, h4, h5, h6, h7, h8, h9, h10, h11⟩ := hno
        have q0 : (s.toList == [97, 108, 112, 104, 97]) = false := by simpa using h0
        have q1 : (s.toList == [100, 105, 103, 105, 116]) = false := by simpa using h1
        have q2 : (s.toList == [97, 108, 110, 117, 109]) = false := by simpa using h2
        have q3 : (s.toList == [117, 112, 112, 101, 114]) = false := by simpa using h3
        have q4 : (s.toList == [108, 111, 119, 101, 114]) = false := by simpa using h4
        have q5 : (s.toList == [115, 112, 97, 99, 101]) = false := by simpa using h5
        have q6 : (s.toList == [98, 108, 97, 110, 107]) = false := by simpa using h6
        have q7 : (s.toList == [112, 117, 110, 99, 116]) = false := by simpa using h7
        have q8 : (s.toList == [112, 114, 105, 110, 116]) = false := by simpa using h8
        have q9 : (s.toList == [103, 114, 97, 112, 104]) = false := by simpa using h9
        have q10 : (s.toList == [99, 110, 116, 114, 108]) = false := by simpa using h10
        have q11 : (s.toList == [120, 100, 105, 103, 105, 116]) = false := by simpa using h11
        clear h0 h1 h2 h3 h4 h5 h6 h7 h8 h9 h10 h11 hn
        clear hu hl hd hg
        go_wp2
        go_ret
        exact ⟨ret_bool HN.out.symm, rfl⟩
      · have hj := hn
        unfold isN at hj
        rw [isNk_iff] at hj
        obtain ⟨j, hj, hjs⟩ := hj
        obtain rfl : s = nm j := str_ext hjs.symm
        clear hjs hn
        have hu' : u = true ↔ 65 ≤ (b : Int) ∧ (b : Int) ≤ 90 := by rw [← hu]; simp
        have hl' : l = true ↔ 97 ≤ (b : Int) ∧ (b : Int) ≤ 122 := by rw [← hl]; simp
        have hd' : d = true ↔ 48 ≤ (b : Int) ∧ (b : Int) ≤ 57 := by rw [← hd]; simp
        have hg' : g = true ↔ 33 ≤ (b : Int) ∧ (b : Int) ≤ 126 := by rw [← hg]; simp
        clear hu hl hd hg
        have h12 : j = 0 ∨ j = 1 ∨ j = 2 ∨ j = 3 ∨ j = 4 ∨ j = 5 ∨ j = 6 ∨ j = 7 ∨ j = 8 ∨ j = 9 ∨ j = 10 ∨ j = 11 := by omega
        rcases h12 with rfl | rfl | rfl | rfl | rfl | rfl | rfl | rfl | rfl | rfl | rfl | rfl
        · have E : Hid (cOf (nm 0) b = true ↔ ((65 ≤ (b : Int) ∧ (b : Int) ≤ 90) ∨ (97 ≤ (b : Int) ∧ (b : Int) ≤ 122))) := by
            show _ ↔ _
            rw [cOf_nth 0 hj]; exact iff_alpha b
          have HU : Hid ((u = true ↔ 65 ≤ (b : Int) ∧ (b : Int) ≤ 90) ∧ (l = true ↔ 97 ≤ (b : Int) ∧ (b : Int) ≤ 122) ∧ (d = true ↔ 48 ≤ (b : Int) ∧ (b : Int) ≤ 57) ∧ (g = true ↔ 33 ≤ (b : Int) ∧ (b : Int) ≤ 126)) := ⟨hu', hl', hd', hg'⟩
          clear hu' hl' hd' hg'
          unfold nm
          go_wp2
          all_goals
            go_ret
            refine ⟨ret_bool ?_, rfl⟩
            obtain ⟨h1, h2, h3, h4⟩ := HU.out
            rw [Bool.eq_iff_iff]
            refine Iff.trans ?_ E.out.symm
            first | (simp_all <;> omega) | (cases d <;> simp_all <;> omega) | (cases d <;> simp_all)
        · have E : Hid (cOf (nm 1) b = true ↔ (48 ≤ (b : Int) ∧ (b : Int) ≤ 57)) := by
            show _ ↔ _
            rw [cOf_nth 1 hj]; exact iff_digit b
          have HU : Hid ((u = true ↔ 65 ≤ (b : Int) ∧ (b : Int) ≤ 90) ∧ (l = true ↔ 97 ≤ (b : Int) ∧ (b : Int) ≤ 122) ∧ (d = true ↔ 48 ≤ (b : Int) ∧ (b : Int) ≤ 57) ∧ (g = true ↔ 33 ≤ (b : Int) ∧ (b : Int) ≤ 126)) := ⟨hu', hl', hd', hg'⟩
          clear hu' hl' hd' hg'
          unfold nm
          go_wp2
          all_goals
            go_ret
            refine ⟨ret_bool ?_, rfl⟩
            obtain ⟨h1, h2, h3, h4⟩ := HU.out
            rw [Bool.eq_iff_iff]
            refine Iff.trans ?_ E.out.symm
            first | (simp_all <;> omega) | (cases d <;> simp_all <;> omega) | (cases d <;> simp_all)
        · have E : Hid (cOf (nm 2) b = true ↔ (((65 ≤ (b : Int) ∧ (b : Int) ≤ 90) ∨ (97 ≤ (b : Int) ∧ (b : Int) ≤ 122)) ∨ (48 ≤ (b : Int) ∧ (b : Int) ≤ 57))) := by
            show _ ↔ _
            rw [cOf_nth 2 hj]; exact iff_alnum b
          have HU : Hid ((u = true ↔ 65 ≤ (b : Int) ∧ (b : Int) ≤ 90) ∧ (l = true ↔ 97 ≤ (b : Int) ∧ (b : Int) ≤ 122) ∧ (d = true ↔ 48 ≤ (b : Int) ∧ (b : Int) ≤ 57) ∧ (g = true ↔ 33 ≤ (b : Int) ∧ (b : Int) ≤ 126)) := ⟨hu', hl', hd', hg'⟩
          clear hu' hl' hd' hg'
          unfold nm
          go_wp2
          all_goals
            go_ret
            refine ⟨ret_bool ?_, rfl⟩
            obtain ⟨h1, h2, h3, h4⟩ := HU.out
            rw [Bool.eq_iff_iff]
            refine Iff.trans ?_ E.out.symm
            first | (simp_all <;> omega) | (cases d <;> simp_all <;> omega) | (cases d <;> simp_all)
        · have E : Hid (cOf (nm 3) b = true ↔ (65 ≤ (b : Int) ∧ (b : Int) ≤ 90)) := by
            show _ ↔ _
            rw [cOf_nth 3 hj]; exact iff_upper b
          have HU : Hid ((u = true ↔ 65 ≤ (b : Int) ∧ (b : Int) ≤ 90) ∧ (l = true ↔ 97 ≤ (b : Int) ∧ (b : Int) ≤ 122) ∧ (d = true ↔ 48 ≤ (b : Int) ∧ (b : Int) ≤ 57) ∧ (g = true ↔ 33 ≤ (b : Int) ∧ (b : Int) ≤ 126)) := ⟨hu', hl', hd', hg'⟩
          clear hu' hl' hd' hg'
          unfold nm
          go_wp2
          all_goals
            go_ret
            refine ⟨ret_bool ?_, rfl⟩
            obtain ⟨h1, h2, h3, h4⟩ := HU.out
            rw [Bool.eq_iff_iff]
            refine Iff.trans ?_ E.out.symm
            first | (simp_all <;> omega) | (cases d <;> simp_all <;> omega) | (cases d <;> simp_all)
        · have E : Hid (cOf (nm 4) b = true ↔ (97 ≤ (b : Int) ∧ (b : Int) ≤ 122)) := by
            show _ ↔ _
            rw [cOf_nth 4 hj]; exact iff_lower b
          have HU : Hid ((u = true ↔ 65 ≤ (b : Int) ∧ (b : Int) ≤ 90) ∧ (l = true ↔ 97 ≤ (b : Int) ∧ (b : Int) ≤ 122) ∧ (d = true ↔ 48 ≤ (b : Int) ∧ (b : Int) ≤ 57) ∧ (g = true ↔ 33 ≤ (b : Int) ∧ (b : Int) ≤ 126)) := ⟨hu', hl', hd', hg'⟩
          clear hu' hl' hd' hg'
          unfold nm
          go_wp2
          all_goals
            go_ret
            refine ⟨ret_bool ?_, rfl⟩
            obtain ⟨h1, h2, h3, h4⟩ := HU.out
            rw [Bool.eq_iff_iff]
            refine Iff.trans ?_ E.out.symm
            first | (simp_all <;> omega) | (cases d <;> simp_all <;> omega) | (cases d <;> simp_all)
        · have E : Hid (cOf (nm 5) b = true ↔ ((b : Int) = 32 ∨ (9 ≤ (b : Int) ∧ (b : Int) ≤ 13))) := by
            show _ ↔ _
            rw [cOf_nth 5 hj]; exact iff_space b
          have HU : Hid ((u = true ↔ 65 ≤ (b : Int) ∧ (b : Int) ≤ 90) ∧ (l = true ↔ 97 ≤ (b : Int) ∧ (b : Int) ≤ 122) ∧ (d = true ↔ 48 ≤ (b : Int) ∧ (b : Int) ≤ 57) ∧ (g = true ↔ 33 ≤ (b : Int) ∧ (b : Int) ≤ 126)) := ⟨hu', hl', hd', hg'⟩
          clear hu' hl' hd' hg'
          unfold nm
          go_wp2
          all_goals
            go_ret
            refine ⟨ret_bool ?_, rfl⟩
            obtain ⟨h1, h2, h3, h4⟩ := HU.out
            rw [Bool.eq_iff_iff]
            refine Iff.trans ?_ E.out.symm
            first | (simp_all <;> omega) | (cases d <;> simp_all <;> omega) | (cases d <;> simp_all)
        · have E : Hid (cOf (nm 6) b = true ↔ ((b : Int) = 32 ∨ (b : Int) = 9)) := by
            show _ ↔ _
            rw [cOf_nth 6 hj]; exact iff_blank b
          have HU : Hid ((u = true ↔ 65 ≤ (b : Int) ∧ (b : Int) ≤ 90) ∧ (l = true ↔ 97 ≤ (b : Int) ∧ (b : Int) ≤ 122) ∧ (d = true ↔ 48 ≤ (b : Int) ∧ (b : Int) ≤ 57) ∧ (g = true ↔ 33 ≤ (b : Int) ∧ (b : Int) ≤ 126)) := ⟨hu', hl', hd', hg'⟩
          clear hu' hl' hd' hg'
          unfold nm
          go_wp2
          all_goals
            go_ret
            refine ⟨ret_bool ?_, rfl⟩
            obtain ⟨h1, h2, h3, h4⟩ := HU.out
            rw [Bool.eq_iff_iff]
            refine Iff.trans ?_ E.out.symm
            first | (simp_all <;> omega) | (cases d <;> simp_all <;> omega) | (cases d <;> simp_all)
        · have E : Hid (cOf (nm 7) b = true ↔ ((33 ≤ (b : Int) ∧ (b : Int) ≤ 126) ∧ ¬ (((65 ≤ (b : Int) ∧ (b : Int) ≤ 90) ∨ (97 ≤ (b : Int) ∧ (b : Int) ≤ 122)) ∨ (48 ≤ (b : Int) ∧ (b : Int) ≤ 57)))) := by
            show _ ↔ _
            rw [cOf_nth 7 hj]; exact iff_punct b
          have HU : Hid ((u = true ↔ 65 ≤ (b : Int) ∧ (b : Int) ≤ 90) ∧ (l = true ↔ 97 ≤ (b : Int) ∧ (b : Int) ≤ 122) ∧ (d = true ↔ 48 ≤ (b : Int) ∧ (b : Int) ≤ 57) ∧ (g = true ↔ 33 ≤ (b : Int) ∧ (b : Int) ≤ 126)) := ⟨hu', hl', hd', hg'⟩
          clear hu' hl' hd' hg'
          unfold nm
          go_wp2
          all_goals
            go_ret
            refine ⟨ret_bool ?_, rfl⟩
            obtain ⟨h1, h2, h3, h4⟩ := HU.out
            rw [Bool.eq_iff_iff]
            refine Iff.trans ?_ E.out.symm
            first | (simp_all <;> omega) | (cases d <;> simp_all <;> omega) | (cases d <;> simp_all)
        · have E : Hid (cOf (nm 8) b = true ↔ ((b : Int) = 32 ∨ (33 ≤ (b : Int) ∧ (b : Int) ≤ 126))) := by
            show _ ↔ _
            rw [cOf_nth 8 hj]; exact iff_print b
          have HU : Hid ((u = true ↔ 65 ≤ (b : Int) ∧ (b : Int) ≤ 90) ∧ (l = true ↔ 97 ≤ (b : Int) ∧ (b : Int) ≤ 122) ∧ (d = true ↔ 48 ≤ (b : Int) ∧ (b : Int) ≤ 57) ∧ (g = true ↔ 33 ≤ (b : Int) ∧ (b : Int) ≤ 126)) := ⟨hu', hl', hd', hg'⟩
          clear hu' hl' hd' hg'
          unfold nm
          go_wp2
          all_goals
            go_ret
            refine ⟨ret_bool ?_, rfl⟩
            obtain ⟨h1, h2, h3, h4⟩ := HU.out
            rw [Bool.eq_iff_iff]
            refine Iff.trans ?_ E.out.symm
            first | (simp_all <;> omega) | (cases d <;> simp_all <;> omega) | (cases d <;> simp_all)
        · have E : Hid (cOf (nm 9) b = true ↔ (33 ≤ (b : Int) ∧ (b : Int) ≤ 126)) := by
            show _ ↔ _
            rw [cOf_nth 9 hj]; exact iff_graph b
          have HU : Hid ((u = true ↔ 65 ≤ (b : Int) ∧ (b : Int) ≤ 90) ∧ (l = true ↔ 97 ≤ (b : Int) ∧ (b : Int) ≤ 122) ∧ (d = true ↔ 48 ≤ (b : Int) ∧ (b : Int) ≤ 57) ∧ (g = true ↔ 33 ≤ (b : Int) ∧ (b : Int) ≤ 126)) := ⟨hu', hl', hd', hg'⟩
          clear hu' hl' hd' hg'
          unfold nm
          go_wp2
          all_goals
            go_ret
            refine ⟨ret_bool ?_, rfl⟩
            obtain ⟨h1, h2, h3, h4⟩ := HU.out
            rw [Bool.eq_iff_iff]
            refine Iff.trans ?_ E.out.symm
            first | (simp_all <;> omega) | (cases d <;> simp_all <;> omega) | (cases d <;> simp_all)
        · have E : Hid (cOf (nm 10) b = true ↔ ((b : Int) ≤ 31 ∨ (b : Int) = 127)) := by
            show _ ↔ _
            rw [cOf_nth 10 hj]; exact iff_cntrl b
          have HU : Hid ((u = true ↔ 65 ≤ (b : Int) ∧ (b : Int) ≤ 90) ∧ (l = true ↔ 97 ≤ (b : Int) ∧ (b : Int) ≤ 122) ∧ (d = true ↔ 48 ≤ (b : Int) ∧ (b : Int) ≤ 57) ∧ (g = true ↔ 33 ≤ (b : Int) ∧ (b : Int) ≤ 126)) := ⟨hu', hl', hd', hg'⟩
          clear hu' hl' hd' hg'
          unfold nm
          go_wp2
          all_goals
            go_ret
            refine ⟨ret_bool ?_, rfl⟩
            obtain ⟨h1, h2, h3, h4⟩ := HU.out
            rw [Bool.eq_iff_iff]
            refine Iff.trans ?_ E.out.symm
            first | (simp_all <;> omega) | (cases d <;> simp_all <;> omega) | (cases d <;> simp_all)
        · have E : Hid (cOf (nm 11) b = true ↔ ((48 ≤ (b : Int) ∧ (b : Int) ≤ 57) ∨ (65 ≤ (b : Int) ∧ (b : Int) ≤ 70) ∨ (97 ≤ (b : Int) ∧ (b : Int) ≤ 102))) := by
            show _ ↔ _
            rw [cOf_nth 11 hj]; exact iff_xdigit b
          have HU : Hid ((u = true ↔ 65 ≤ (b : Int) ∧ (b : Int) ≤ 90) ∧ (l = true ↔ 97 ≤ (b : Int) ∧ (b : Int) ≤ 122) ∧ (d = true ↔ 48 ≤ (b : Int) ∧ (b : Int) ≤ 57) ∧ (g = true ↔ 33 ≤ (b : Int) ∧ (b : Int) ≤ 126)) := ⟨hu', hl', hd', hg'⟩
          clear hu' hl' hd' hg'
          unfold nm
          go_wp2
          all_goals
            go_ret
            refine ⟨ret_bool ?_, rfl⟩
            obtain ⟨h1, h2, h3, h4⟩ := HU.out
            rw [Bool.eq_iff_iff]
            refine Iff.trans ?_ E.out.symm
            first | (simp_all <;> omega) | (cases d <;> simp_all <;> omega) | (cases d <;> simp_all)
end Go.Proofs.Ytfijmepkbflahaa
